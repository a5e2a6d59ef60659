import PyProof.Rows.All
import Wide.All
import OpenK.AllK
import Wide.FinOn
import HandS.IntHex
import HandS.FStr
import HandS.StrMore
import KE.KxField
import PyProof.Rows.StrPadFill
import HandS.Iter
import HandS.Walk
import PyProof.Draws
import PyProof.EnumMake
import PyProof.TupleIter
import KE.KDictList
import HandS.Base
import HandS.Call
import HandS.List
import HandS.Dict
import HandS.More
import HandS.Comp
import HandS.DictComp
import HandS.Exc
import HandS.ExcSuper
import KE.KExcPX
import KE.KExcSuper
import HandS.Nested
import HandS.ExcInit
import HandS.ForMost
import HandS.IsInst
import HandS.WideBits
import HandS.Codes
import KE.SortKeyHeap
import HandS.SortKw
import HandS.Flow
import HandS.Star
import HandS.Property
import HandS.MakeKw
import PyProof.DictUpdate
import PyProof.DictDisplay
import KE.DataMinKey
import PyProof.ZipIter
import HandS.Zip0
import KE.KEqDict
import PyProof.P3Eq
import PyProof.ReprBulk
import PyProof.InstNe
import PyProof.InstSpecial
import PyProof.ReprNest
import PyProof.ReprReads
import PyProof.ReprDict
import HandS.DictTup
import KE.SortData
import HandS.ListItems
import HandS.Lambda
import HandS.ExcField
import HandS.ExcIs
import KE.KExcIs
import HandS.EndTab
import KE.KNestM
import HandS.WordsDict
import HandS.Style
import HandS.Small
import HandS.Text
import HandS.FStrTup
import PyProof.ReprLen
import HandS.SetKeys
import HandS.Deep
import PySem.Challenge.RW_coverways_k37_whole_bits_turned_and_tabl
set_option Elab.async false
set_option linter.all false
set_option maxRecDepth 100000
set_option maxHeartbeats 2000000
namespace L2
open PySem PySem.Spec PyProof.Rows
/-- s.ljust(n, c), a sign c -/
def rLj2 : V → List V → Hp → VK → Prop := fun x xs H Q => ∃ (a : Str) (i : Int) (f : Str), x = .str a ∧ xs = [.int i, .str f] ∧ PadOk i = true ∧ f.length = 1 ∧ Q (.str (Txt.ljustF a i (f.cps.getD 0 0))) H
theorem mt_ljust2 {X : Cx} : MtR X "str.ljust" rLj2 := by
  intro pins s σ H x xs v us Q I rx rs h
  obtain ⟨a, i, f, rfl, rfl, hp, hf, h⟩ := h
  obtain ⟨t, rfl⟩ := rx
  obtain ⟨u1, u2, rfl, r1, r2⟩ := vals2 rs
  obtain ⟨t1, rfl⟩ := r1
  obtain ⟨t2, rfl⟩ := r2
  exact ljust_fill hp hf fun t' k => ⟨.str (Txt.ljustF a i (f.cps.getD 0 0)), H, I.tok k, ⟨t', rfl⟩, h⟩
end L2
namespace PySem
open Sem (wp)
open AutoSeq1 (wpAny_loadPart')
namespace E1
theorem made_t (l : Addr) (xs : Array Value) (n : Nat) (dd : Option Addr) (sl : Array (Option Value)) :
    Meets (Builtin.«enumerate.__new__» ⟨[.type "enumerate", .ref l], []⟩) (fun _ R s => s.heap.get? l = some { cls := .type "tuple", dict := dd, data := .seq xs n, slots := sl } ∧
      R (.ok (.ret (.ref (s.heap.push { cls := .type "tuple_iterator", data := .fields #[.ref l, .int 0 0] }).objs.size)))
        { s with heap := (s.heap.push { cls := .type "tuple_iterator", data := .fields #[.ref l, .int 0 0] }).push { cls := .type "enumerate", data := .fields #[.none, .bool false, .ref s.heap.objs.size, rawInt 0, .none, .none] } }) :=
  .of_wp fun prog w A R s h => by
    obtain ⟨hp, g, d, tk, os⟩ := s
    obtain ⟨h1, h⟩ := h
    have hsub := sub_enumerate
    have hT : Heap.IsTuple (Shared.heap ⟨hp, g, d, tk, os⟩) l xs := ⟨_, h1, rfl, n, rfl⟩
    wp_walk using wpAny_loadPart' h1
    refine wpAny_stack_any fun st => wpAny_pure ?_
    split
    · rename_i c _ _ _ _ _
      cases (c == Value.type "enumerate")
      · wp_walk using wpAny_loadPart' h1, wpAny_pyIter_tuple hT
        exact ⟨_, rfl, h⟩
      · wp_walk using wpAny_loadPart' h1, wpAny_pyIter_tuple hT
        exact ⟨_, rfl, h⟩
    · wp_walk using wpAny_loadPart' h1, wpAny_pyIter_tuple hT
      exact ⟨_, rfl, h⟩
section
variable {prog : Program} {w : World} {A : Around} {E : Value → Shared → Prop} {s : Shared}
theorem next_t {it t : Addr} {i : Nat} {xs : Array Value} {x : Value} {Q : Value → Shared → Prop} (g : s.heap.IsTupleIter it t i) (k : s.heap.IsTuple t xs) (hx : xs[i]? = some x)
    (q : ∀ h', h'.IsTupleIter it t (i + 1) → Heap.SameBut it s.heap h' → Q x { s with heap := h' }) : wpAny (model prog w) A (Builtin.SmallTypes.nextOf (.ref it)) Q E s := by
  obtain ⟨o, e1, e2, e3⟩ := id g
  obtain ⟨u, k1, _, m, k2⟩ := k
  unfold Builtin.SmallTypes.nextOf
  refine wpAny_bind (wpAny_callSpecial?_slot (name := Str.ofString "__next__") g.typeIs F.slot_tuple_iterator_next (wpAny_call_entry F.slot_tuple_iterator_next g.typeIs
    F.entry_tuple_iterator_next ?_ (F.args_tuple_iterator_next_1 _)))
  show wpAny _ _ (field (.ref it) 0 >>= _) _ _ s; refine wpAny_bind (wpAny_field e1 e3 (x := .ref t) rfl ?_)
  show wpAny _ _ (ite ((Value.ref t == Value.none) = true) _ _) _ _ s
  rw [show (Value.ref t == Value.none) = false from rfl, if_neg Bool.false_ne_true]
  show wpAny _ _ (field (.ref it) 1 >>= _) _ _ s; refine wpAny_bind (wpAny_field e1 e3 (x := .int i 0) rfl ?_)
  show wpAny _ _ (seqItems? (.ref t) >>= _) _ _ s; refine wpAny_bind (wpAny_seqItems k1 k2 ?_)
  simp only [Int.toNat_natCast, hx]
  refine wpAny_bind (wpAny_setField e1 e3 (by simp) (wpAny_pure ⟨x, rfl, wpAny_pure (q _ ?_ (Heap.SameBut.update ..))⟩))
  exact ⟨_, Heap.get?_update_self _ e1 (Obj.isFreed_of_fields (Obj.data_mapFields e3 _)), (Obj.cls_mapFields ..).trans e2, by rw [Obj.data_mapFields e3]; simp [rawInt]⟩
theorem stop_t {it t : Addr} {i : Nat} {xs : Array Value} {Q : Value → Shared → Prop} (hh : A.handled = none) (g : s.heap.IsTupleIter it t i) (k : s.heap.IsTuple t xs) (hx : xs[i]? = none)
    (q : ∀ h' e, Heap.ExtBut it s.heap h' → (∃ o, h'.get? e = some o ∧ o.cls = .type "StopIteration") → E (.ref e) { s with heap := h' }) : wpAny (model prog w) A (Builtin.SmallTypes.nextOf (.ref it)) Q E s := by
  obtain ⟨o, e1, e2, e3⟩ := id g
  obtain ⟨u, k1, _, m, k2⟩ := k
  unfold Builtin.SmallTypes.nextOf
  refine wpAny_bind (wpAny_callSpecial?_slot (name := Str.ofString "__next__") g.typeIs F.slot_tuple_iterator_next (wpAny_call_entry F.slot_tuple_iterator_next g.typeIs
    F.entry_tuple_iterator_next ?_ (F.args_tuple_iterator_next_1 _)))
  show wpAny _ _ (field (.ref it) 0 >>= _) _ _ s; refine wpAny_bind (wpAny_field e1 e3 (x := .ref t) rfl ?_)
  show wpAny _ _ (ite ((Value.ref t == Value.none) = true) _ _) _ _ s
  rw [show (Value.ref t == Value.none) = false from rfl, if_neg Bool.false_ne_true]
  show wpAny _ _ (field (.ref it) 1 >>= _) _ _ s; refine wpAny_bind (wpAny_field e1 e3 (x := .int i 0) rfl ?_)
  show wpAny _ _ (seqItems? (.ref t) >>= _) _ _ s; refine wpAny_bind (wpAny_seqItems k1 k2 ?_)
  simp only [Int.toNat_natCast, hx]
  refine wpAny_bind (wpAny_rule (wpAny_bind (wpAny_setField e1 e3 (by simp) ?_)))
  show wpAny _ _ (newExc (.type "StopIteration") [] >>= _) _ _ _; refine wpAny_bind ?_
  simp only [newExc, newTuple]
  refine wpAny_bind (wpAny_newObj_type ?_ (by size_fits)); refine wpAny_bind (m := firstArgMember _ _) (wpAny_of_eq (a := Value.none) (by first | rfl | (simp only [firstArgMember]; rfl)) ?_)
  refine wpAny_newObj_type ?_ (by size_fits); simp only [raiseNew]; refine wpAny_bind (wpAny_handled ?_)
  first | rw [show A.in1.handled = none from hh] | rw [hh]
  refine wpAny_bind (wpAny_pure (wpAny_throw ?_)); exact q _ _ (((Heap.SameBut.update ..).extBut.push _).push _) ⟨_, Heap.get?_push_size _ rfl, rfl⟩
theorem tup_at {h h' : Heap} {t : Addr} {xs : Array Value} (k : h.IsTuple t xs) (e : ∀ o, h.get? t = some o → h'.get? t = some o) : h'.IsTuple t xs :=
  let ⟨o, a, r⟩ := k; ⟨o, e o a, r⟩
theorem draws_t (hh : A.handled = none) (it t : Addr) (hne : t ≠ it) (xs : Array Value) :
    Draws prog w A it [it, t] xs.size (fun i v => xs[i]? = some v) (fun i h => h.IsTupleIter it t i ∧ h.IsTuple t xs) where
  live := fun _ _ st => let ⟨o, ho, _⟩ := st.1; ⟨o, ho⟩
  frame := fun _ _ _ st hk => ⟨st.1.at fun o e => hk it (by simp) o e, tup_at st.2 fun o e => hk t (by simp) o e⟩
  item := fun i s Q E hi st hQ => by
    refine next_t st.1 st.2 (x := xs[i]) (by simp [hi]) fun h' a b => ?_
    exact hQ _ h' s.toks (by simp [hi]) ⟨a, st.2.extBut b.extBut hne⟩ b
  done := fun s Q E st hE => stop_t hh st.1 st.2 (by simp) hE
theorem call_t {t : Addr} {xs : Array Value} {Q : Value → Shared → Prop} (k : s.heap.IsTuple t xs)
    (h : ∀ h', IsEnum h' (s.heap.objs.size + 1) s.heap.objs.size 0 .none → h'.IsTupleIter s.heap.objs.size t 0 → h'.objs.size = s.heap.objs.size + 2 →
      (∀ b o, s.heap.get? b = some o → h'.get? b = some o) → Q (.ref (s.heap.objs.size + 1)) { s with heap := h' }) : wpAny (model prog w) A (call (.type "enumerate") [.ref t]) Q E s := by
  obtain ⟨⟨c, dd, dt, sl⟩, e1, e2, n, e3⟩ := k
  obtain rfl : c = .type "tuple" := e2
  obtain rfl : dt = .seq xs n := e3
  refine callType_new F.called_enumerate (by decide) (F.typeCall_enumerate_1 _) (F.newCall_enumerate_1 _) (fun obj => F.args_object_init_2 obj _)
    F.entry_enumerate_new (made_t t xs n dd sl) ⟨e1, ?_⟩
  have z1 : (s.heap.push { cls := .type "tuple_iterator", data := .fields #[.ref t, .int 0 0] }).objs.size = s.heap.objs.size + 1 := Heap.size_push ..
  show _ ∧ _
  rw [z1]
  have z2 := Heap.get?_push_size (s.heap.push { cls := .type "tuple_iterator", data := .fields #[.ref t, .int 0 0] }) (o := { cls := .type "enumerate", data := .fields #[.none, .bool false, .ref s.heap.objs.size, rawInt 0, .none, .none] }) rfl
  rw [z1] at z2
  exact ⟨⟨_, z2, rfl⟩, h _ z2 ⟨_, Heap.get?_push_of_some _ (Heap.get?_push_size _ rfl), rfl, rfl⟩ (by rw [Heap.size_push, z1]) fun b o y => Heap.get?_push_of_some _ (Heap.get?_push_of_some _ y)⟩
end
end E1
end PySem
namespace L2
open PySem PySem.Spec PyProof.Rows
/-- the tuple at a, its items in new pairs behind their numbers -/
def IteT (K : PySem.W.Frag) (a : Addr) : It :=
  ⟨fun i H => ∃ (xs : List V) (x : V), SqT K H a xs ∧ xs[i]? = some x, fun i H v H' => ∃ T x, v = .ref T ∧ H T = none ∧ H' = upd H T (.tup [.int (i : Nat), x]) ∧ ∀ xs, SqT K H a xs → xs[i]? = some x,
    fun i H => ∃ xs : List V, SqT K H a xs ∧ xs.length ≤ i⟩
theorem turn_enumT {P : Program} {w : World} {K : PySem.W.Frag} {elts : List Expr} {kk : Nat} {tpos : Pos} (a e it : Addr) (hai : a ≠ it) (hae : a ≠ e) :
    Turn P w K (.Tuple elts kk tpos) (IteT K a) [e, it] e (fun i h => (∃ old, IsEnum h e it ((i : Nat) : Int) old) ∧ h.IsTupleIter it a i ∧ e ≠ it) where
  mem := by simp
  obj := fun i h st b hb => by
    obtain ⟨⟨old, q1⟩, ⟨o, q2, _, q3⟩, _⟩ := st
    rcases (show b = e ∨ b = it by simpa using hb) with z | z
    · rw [z]; exact ⟨_, q1, fun v q => nomatch q⟩
    · rw [z]; exact ⟨o, q2, fun v q => by rw [q3] at q; cases q⟩
  keep := fun i h h' st k => let ⟨⟨old, q1⟩, q2, q3⟩ := st; ⟨⟨old, k e (by simp) _ q1⟩, q2.at fun o q => k it (by simp) o q, q3⟩
  item := by
    intro X hP hw hK hc i pins s σ H E I hf st hg
    subst hP hw hK
    obtain ⟨⟨old, q1⟩, q2, q3⟩ := st
    obtain ⟨xs, x, hq, hx⟩ := hg
    obtain ⟨its, rv, p, hz⟩ := I.tuple hq
    obtain ⟨u, hu, ru⟩ := rv.get hx
    have p' : s.heap.IsTuple a its.toArray := p
    have l1 : e < s.heap.objs.size := Heap.lt_size q1
    have l2 : it < s.heap.objs.size := by obtain ⟨_, q, _⟩ := q2; exact Heap.lt_size q
    have hlt : i < its.toArray.size := by
      have := (List.getElem?_eq_some_iff.mp hu).1
      simpa using this
    refine wpAny_pyNext_enum_itemD (E1.draws_t (A := X.A.in1) (I.ok.hd hc) it a hai its.toArray) q1 ⟨q2, p'⟩ hlt q3 (by simp [q3, Ne.symm hae]) fun y h' tk hy ho st' hT hsz hk => ?_
    obtain rfl : y = u := by
      have e1 : its.toArray[i]? = some u := by simpa using hu
      exact Option.some.inj (hy.symm.trans e1)
    refine ⟨_, rfl, wpAny_letOwnedTupleGo_enum (s := { s with heap := h', toks := tk + 1 }) ho fun h'' he' sb => ?_⟩
    have hT2 : h''.get? s.heap.objs.size = some { cls := .type "tuple", data := .seq #[.int i tk, y] } := (sb.2 _ (Nat.ne_of_gt l1)).trans hT
    have new : ObjOk X.prog X.w (upd H s.heap.objs.size (.tup [.int (i : Nat), x])) h'' s.heap.objs.size (.tup [.int (i : Nat), x]) :=
      ⟨by show 2 ≤ sizeLine; decide, [.int i tk, y], .cons ⟨_, rfl⟩ (.cons ru .nil), ⟨_, hT2, rfl, _, rfl⟩⟩
    have I1 : Inv X pins σ (upd H s.heap.objs.size (.tup [.int (i : Nat), x])) { s with heap := h'', toks := tk + 1 } :=
      I.turnedNew (ch := [e, it]) (fun b ob hb q => (sb.2 b (fun z => hb (by simp [z]))).trans (hk b ob (fun z => hb (by simp [z])) (fun z => hb (by simp [z])) q)) hf (Nat.le_refl _) new
    refine ⟨.ref s.heap.objs.size, _, I1, rfl, ⟨_, x, rfl, I.hok.fresh (Nat.le_refl _), rfl, fun ys hy => by rw [I.tuple_inj hy hq]; exact hx⟩, ⟨⟨y, ?_⟩, st'.1.at fun o q => (sb.2 it (Ne.symm q3)).trans q, q3⟩, fun b hb => ?_⟩
    · rw [show ((i + 1 : Nat) : Int) = (i : Int) + 1 by omega]
      exact he'
    · have hb' : b < s.heap.objs.size := by
        rcases (show b = e ∨ b = it by simpa using hb) with z | z
        · rw [z]; exact l1
        · rw [z]; exact l2
      rw [upd_ne (Nat.ne_of_lt hb')]
      exact (hf b hb).1
  done := by
    intro X hP hw hK hc i pins s σ H E I hf st hg
    subst hP hw hK
    obtain ⟨⟨old, q1⟩, q2, q3⟩ := st
    obtain ⟨xs, hq, hx⟩ := hg
    obtain ⟨its, rv, p, hz⟩ := I.tuple hq
    have p' : s.heap.IsTuple a its.toArray := p
    obtain ⟨f0, f1, f2, f3, f4, f5⟩ := hf it (by simp)
    have hl := rv.length
    have hT : s.TypeIs (.ref e) "enumerate" := ⟨_, q1, rfl⟩
    unfold pyNext; refine wpAny_bind (wpAny_attempt (wpAny_callSpecial?_slot (name := Str.ofString "__next__") hT F.slot_enumerate_next (wpAny_call_entry F.slot_enumerate_next hT F.entry_enumerate_next ?_ (F.args_enumerate_next_1 _))))
    show wpAny _ _ (field (.ref e) 2 >>= _) _ _ _; refine wpAny_bind (wpAny_field q1 rfl (x := .ref it) rfl ?_)
    refine wpAny_bind (E1.stop_t (A := X.A.in1) (I.ok.hd hc) q2 p' (by simp; omega) fun h' y eb hy => ?_)
    obtain ⟨o, o1, o2⟩ := hy
    refine wpAny_bind (wpAny_isInstance (T := "StopIteration") (b := true) ⟨o, o1, o2⟩ isSubtype_stop ?_)
    exact wpAny_pure ⟨rfl, I.turned (t' := s.toks) (fun b o hb q => eb b o hb q) f0 f1 f3 f4 f5⟩
  self := fun A i s Q E st h => let ⟨⟨_, he⟩, _⟩ := st; wpAny_pyIter_enum he h
def iEnumA (K : PySem.W.Frag) (ta : TA) : TI := fun σ H R => ta σ H fun vs H1 => ∃ a xs, vs = [.ref a] ∧ ((SqL K H1 a xs ∧ R (Ite K a) H1) ∨ (SqT K H1 a xs ∧ R (IteT K a) H1))
theorem pi_enumA {X : Cx} {e : Expr} {ta : TA} {p pos tpos : Pos} {elts : List Expr} {kk : Nat} (hg : Gl X "enumerate") (hm : X.mg "enumerate" = none) (ha : PA X [e] ta) (hs : starEach [e] X.env = [(false, eval e X.env)] := by rfl) :
    PI X (.Tuple elts kk tpos) (.Call (.Name "enumerate" p) [e] [] pos) (iEnumA X.K ta) := by
  refine ⟨fun pins s σ H R I h => ?_⟩
  refine Call_ (ld_blt I hg hm boot_enumerate (PyProof.Rows.callWith_type1 (thn (ha.run pos pins s σ H _ I h) fun us s1 ⟨vs, H1, I1, r1, q1⟩ => ?_) hs rfl))
  obtain ⟨a, xs, rfl, q1⟩ := q1
  cases r1 with
  | cons r rr =>
    cases rr
    cases r
    rcases q1 with ⟨hq, q⟩ | ⟨hq, q⟩
    · obtain ⟨its, rv, p', hz⟩ := I1.list hq
      refine call_enumerate_list p'.isList fun h' q1 q2 hsz hk => wpAny_pyIter_enum q1 ?_
      have I2 : Inv X pins σ H1 { s1 with heap := h' } := I1.kept (t' := s1.toks) hk
      refine ⟨s1.heap.objs.size + 1, [s1.heap.objs.size + 1, s1.heap.objs.size], _, _, H1, rfl, I2, turn_enum a (s1.heap.objs.size + 1) s1.heap.objs.size, ⟨⟨.none, q1⟩, q2, Nat.succ_ne_self _⟩, fun b hb => ?_, q⟩
      have hle : s1.heap.objs.size ≤ b := by
        rcases (show b = s1.heap.objs.size + 1 ∨ b = s1.heap.objs.size by simpa using hb) with z | z <;> (rw [z]; first | exact Nat.le_add_right _ _ | exact Nat.le_refl _)
      exact I1.fpOk hle (I1.hok.fresh hle)
    · obtain ⟨its, rv, p', hz⟩ := I1.tuple hq
      have p2 : s1.heap.IsTuple a its.toArray := p'
      have l0 : a < s1.heap.objs.size := by obtain ⟨o, e1, _⟩ := p2; exact Heap.lt_size e1
      refine E1.call_t p2 fun h' q1 q2 hsz hk => wpAny_pyIter_enum q1 ?_
      have I2 : Inv X pins σ H1 { s1 with heap := h' } := I1.kept (t' := s1.toks) hk
      refine ⟨s1.heap.objs.size + 1, [s1.heap.objs.size + 1, s1.heap.objs.size], _, _, H1, rfl, I2, turn_enumT a (s1.heap.objs.size + 1) s1.heap.objs.size (Nat.ne_of_lt l0) (Nat.ne_of_lt (Nat.lt_succ_of_lt l0)), ⟨⟨.none, q1⟩, q2, Nat.succ_ne_self _⟩, fun b hb => ?_, q⟩
      have hle : s1.heap.objs.size ≤ b := by
        rcases (show b = s1.heap.objs.size + 1 ∨ b = s1.heap.objs.size by simpa using hb) with z | z <;> (rw [z]; first | exact Nat.le_add_right _ _ | exact Nat.le_refl _)
      exact I1.fpOk hle (I1.hok.fresh hle)
theorem walk_enumT {K : PySem.W.Frag} {a : Addr} {xs : List V} : L2.Walk (IteT K a) xs.length (fun H => SqT K H a xs) (YPair (fun i => some (.int (i : Nat))) (fun i => xs[i]?)) := by
  refine ⟨fun i _ hi q => ⟨xs, xs[i], q, by simp [hi]⟩, fun _ q => ⟨xs, q, Nat.le_refl _⟩, fun i H v H' _ q y => ?_⟩
  obtain ⟨T, x, h1, h2, h3, h4⟩ := y
  exact ⟨T, .int (i : Nat), x, h1, h2, h3, rfl, h4 xs q⟩
end L2
namespace L2
open PySem PySem.Spec PyProof.Rows
section
variable {X : Cx}
/-- name = {..} on one line, the name a local -/
theorem ps_setDc {i : Nat} {y : Str} {py : Pos} {kx vx tg iter : Expr} {ifs : List Expr} {scope : Scope} {own : List (Str × Nat)} {pos spos : Pos} {wi : TI} {g : TG} {tt : TT} {tk tv : TE} (hc : X.calm = true) (hN : X.N.Nodup) (hy : X.N[i]? = some y) (hyl : X.env.scope.names.lookup y = some .local)
    (hsw : swapsWith (.DictComp kx vx [⟨tg, iter, ifs, 0⟩] scope pos) (some (.Name y py)) spos.line X.env = pure true) (hi : PI X tg iter wi) (ok : BlkOk X.N X.env.scope scope own)
    (hg : ∀ (s : Shared) (H : Hp) (C : Addr) (cl : List (Str × Addr)) (fp : List Addr), PG (X.blk s H scope (compEnvC scope cl C X.env) fp) tg g) (ht : ∀ (s : Shared) (H : Hp) (C : Addr) (cl : List (Str × Addr)) (fp : List Addr), PTs (X.blk s H scope (compEnvC scope cl C X.env) fp) ifs tt)
    (hk : ∀ (s : Shared) (H : Hp) (C : Addr) (cl : List (Str × Addr)) (fp : List Addr), PE (X.blk s H scope (compEnvC scope cl C X.env) fp) kx tk) (he : ∀ (s : Shared) (H : Hp) (C : Addr) (cl : List (Str × Addr)) (fp : List Addr), PE (X.blk s H scope (compEnvC scope cl C X.env) fp) vx tv)
    (hs : ∀ x, foldedSetIterable iter X.env x = pure x := by intro _; rfl) : PS X (.Assign [.Name y py] (.DictComp kx vx [⟨tg, iter, ifs, 0⟩] scope pos) spos) (tAsg (tDc wi g tt tk tv (own.map (·.2))) (gName i)) := by
  refine ⟨fun pins s σ H D I h => ?_⟩
  rw [exec_Assign_Name_used _ _ _ _ hsw]; refine wpAny_bind (wpAny_standAt (wpAny_bind ?_))
  show wpAny _ X.A (do let _ ← comprehension (.DictComp kx vx [⟨tg, iter, ifs, 0⟩] scope pos) scope X.env (firstIterPos [⟨tg, iter, ifs, 0⟩] pos) newDict false (eval iter X.env) (some (assign (.Name y py) X.env))) _ _ s
  have h : tDc wi g tt tk tv (own.map (·.2)) σ H (fun x H1 => gName i x σ H1 D.nx) := h
  refine wpAny_bind (thn (dc_core (Qf := fun _ s' => SP X pins D .next s') hc hN I hi ok hg ht hk he hs h fun L C s' m H' I' q hn f => ?_) fun _ s' hq => wpAny_pure (wpAny_pure hq))
  show wpAny _ _ (assign (.Name y py) X.env (.ref L)) _ _ _
  refine wpAny_assign_Name (store_ok2 (v := V.ref L) I' hN hy (.inl hyl) rfl (fun s2 I2 ⟨a, sb, ha⟩ => ?_) (.inr hyl))
  obtain ⟨f0, f1, f2, f3, f4, f5⟩ := f
  have haC : C ≠ a := ha.elim (fun z => z ▸ f1) fun z e => f4 y a z e.symm
  exact ⟨m, hn.sameBut sb haC, fun h3 sb3 => ⟨_, H', I2.turned (t' := s2.toks) (fun b o hb e => (sb3.2 b hb).trans e) f0 f1 f3 f4 f5, q⟩⟩
theorem sw_trueD {kx vx : Expr} {gs : List Comprehension} {scope : Scope} {pos py : Pos} {y : Str} {l : Nat} {env : Env} (hk : env.scope.kind = .function) (hy : env.scope.names.lookup y = some .local) (hl : (py.line == pos.line) = true)
    (ha : (scope.names.any fun (n, k) => n == y && (k == .local || k == .cell)) = false) : swapsWith (.DictComp kx vx gs scope pos) (some (.Name y py)) l env = pure true := by
  have k1 : env.kindOf y = some .local := hy
  have k2 : env.blockKind = .function := by unfold Env.blockKind; rw [hk]; rfl
  unfold swapsWith
  simp only [k1, k2, ha, Expr.pos, hl]
  rfl
end
end L2
namespace PySem
end PySem
namespace Cov
open PySem PySem.Spec PyProof.Rows L2
open PySem PySem.Spec PyProof.Rows L2
structure RoomG (k : Nat) (A : Around) : Prop where
  r : Room k A
  g : A.guards = some []
theorem RoomG.mono {j k : Nat} {A : Around} (x : RoomG k A) (h : j ≤ k) : RoomG j A := ⟨x.r.mono h, x.g⟩
theorem RoomG.deeper {k : Nat} {A : Around} (x : RoomG (k + 1) A) (e : Env) : RoomG k (A.deeper e) := ⟨x.r.deeper e, x.g⟩
theorem RoomG.u {k : Nat} {A : Around} (x : RoomG k A) : A.units + 60 < cLine := Nat.lt_trans (by omega) x.r.units
theorem RoomG.u1 {k : Nat} {A : Around} (x : RoomG k A) : A.units + 1 < cLine := by have := x.u; omega
theorem RoomG.u64 {k : Nat} {A : Around} (x : RoomG k A) : A.units + 64 < cLine := x.r.units
structure FnG (P : Program) (w : World) (K : PySem.W.Frag) (mg : Str → Option Value) (base : Heap) (CX : CXT) (k : Nat) (f : Addr) (fd : FuncData) (ps : List Str) (sp : Sp) : Prop where
  len : ∀ vs H Q E, sp vs H Q E → vs.length = ps.length
  run : ∀ (A : Around) (outer : List Env) (s : Shared) (H : Hp) (args : Args) (us : List Value) (vs : List V) (Q : VK) (E : XK),
    RoomG k A → Env0 P w K mg base A outer s H → BindsTo s fd args (ps.zip us) → Vals vs us → sp vs H Q E → codeAny (model P w) A (.call (.ref f) args) (CR CX outer P w H s Q E) s
theorem FnG.of {P : Program} {w : World} {K : PySem.W.Frag} {mg : Str → Option Value} {base : Heap} {CX : CXT} {k : Nat} {f : Addr} {fd : FuncData} {ps : List Str} {sp : Sp} (F : FnOk P w K mg base CX k f fd ps sp) : FnG P w K mg base CX k f fd ps sp :=
  ⟨F.len, fun A outer s H args us vs Q E hr => F.run A outer s H args us vs Q E hr.r⟩
/-- a def by its name: st its statement, ps its parameters -/
structure Nm (P : Program) (w : World) (K : PySem.W.Frag) (mg : Str → Option Value) (base : Heap) (CX : CXT) (k : Nat) (x : Str) (st : Stmt) (ps : List Str) (sp : Sp) : Prop where
  ex : ∃ (f : Addr) (fd : FuncData), Fun K x x st f fd ∧ mg x = some (.ref f) ∧ FnG P w K mg base CX k f fd ps sp
section
variable {P : Program} {w : World} {K : PySem.W.Frag} {mg : Str → Option Value} {base : Heap} {CX : CXT}
/-- THE RULE for a def -/
theorem nm_of {x : Str} {st : Stmt} {f : Addr} {fd : FuncData} {N ps : List Str} {k : Nat} {sp : Sp} (F : Fun K x x st f fd) (hm : mg x = some (.ref f)) (S : FnScope N ps (defScope st)) (len : ∀ vs H Q E, sp vs H Q E → vs.length = ps.length)
    (hb : ∀ (cdv : Value) (A : Around) (outer : List Env) (s : Shared) (H : Hp) (vs : List V) (Q : VK) (E : XK), RoomG k (A.deeper (envOfC x (defScope st) s.heap.objs.size f cdv)) → sp vs H Q E →
      ∃ t, PSs (cxOf CX P w K mg base N x (defScope st) f cdv A outer s H E) (defBody st) t ∧ t { nx := fun _ H' => Q .non H', rt := Q } (start N vs) H) : Nm P w K mg base CX (k + 1) x st ps sp := by
  refine ⟨f, fd, F, hm, len, ?_⟩
  obtain ⟨oc, od, kV, doc, pm, an, cdv, ct, osl, rfl, lk, hcd⟩ := F.ex
  intro A outer s H args us vs Q E hr e0 bt rv hs
  have hl := len _ _ _ _ hs
  have kin : K.In s.heap := e0.mod.kin.keeps fun b o e => (e0.bs b o e).1
  have nol : s.heap.NoLimit := e0.mod.nolimit.keeps fun b o e => (e0.bs b o e).1
  refine codeAny_call_function hr.r.depth (kin _ _ lk) rfl S.co S.gen rfl (PySem.W.codeRec_of kin hcd) (bt _ _ _ _ ?_)
  refine wpAny_newFunctionEnv_cells S.kind (fun ⟨n, v⟩ hy => ?_) fun env he s1 x1 => ?_
  · cases S.par n (List.of_mem_zip hy).1 with
    | inl q => exact .inl q
    | inr q => exact .inr ⟨q, PySem.W.cellsFrom_some _ _ _ (.inl q)⟩
  · subst he
    refine ⟨nol.keeps x1.toInCall.keep, codeAny_func ?_⟩
    obtain ⟨t, ht, hq⟩ := hb cdv A outer s H vs Q E (hr.deeper _) hs
    have I : Inv (cxOf CX P w K mg base N x (defScope st) f cdv A outer s H E) [] (start N vs) H s1 := inv_start S hr.r.hd e0 hl rv x1
    refine wpAny_mono (ht.run [] s1 (start N vs) H _ I hq) (fun fl s' z => ?_) fun e s' z => z
    cases fl with
    | ret u => obtain ⟨v, σ', H', J, r2, q⟩ := z; exact ⟨v, H', J.os, J.bare, J.base, J.hok, r2, q⟩
    | next => obtain ⟨σ', H', J, q⟩ := z; exact ⟨.non, H', J.os, J.bare, J.base, J.hok, rfl, q⟩
    | brk => obtain ⟨_, _, _, q⟩ := z; exact q.elim
    | cont => obtain ⟨_, _, _, q⟩ := z; exact q.elim
end
section
variable {X : Cx} {CX : CXT} {k j : Nat} {f : Addr} {fd : FuncData} {st : Stmt} {ps ks : List Str} {sp : Sp} {E : XK} {x : Str} {p pos : Pos} {e : Expr} {es : List Expr} {kws : List Keyword} {t tk : TA}
theorem run_g {pins : List (Addr × Obj)} {σ : L2.St} {H : Hp} {s : Shared} {Q : VK} {us ws : List Value} {kw : List (Str × Value)} {vs : List V} (F : FnG X.prog X.w X.K X.mg X.base CX k f fd ps sp) (hr : RoomG k X.A)
    (hb : BindsTo s fd ⟨us, kw⟩ (ps.zip ws)) (hx : Passes CX X E) (I : Inv X pins σ H s) (r : Vals vs ws) (h : sp vs H Q E) : wpAny (model X.prog X.w) X.A (call (.ref f) us kw) (EP X pins σ Q) X.xe s := by
  refine wpAny_call (codeAny_mono (F.run X.A X.stack s H ⟨us, kw⟩ ws vs Q E hr I.env0 hb r h) fun y s' z => ?_)
  match y, z with
  | .error e, z => exact hx pins σ H s e s' I z
  | .ok (.ret u), z => exact I.after z
  | .ok .next, z => exact z.elim
  | .ok .brk, z => exact z.elim
  | .ok .cont, z => exact z.elim
def tG (sp : Sp) (E : XK) (t : TA) : TE := fun σ H Q => t σ H fun vs H1 => sp vs H1 Q E
/-- plain positional binding -/
def BndP (x : Str) (st : Stmt) (ps : List Str) : Prop :=
  ∀ (kV doc pm cdv ct : Value) (an : Option Addr) (us : List Value), us.length = ps.length → bindArgs (PySem.W.fnOf x x (defArgs st) (defBody st) (defScope st) .none kV doc pm an cdv ct) ⟨us, []⟩ = pure (ps.zip us)
/-- x(e, ..) -/
theorem pe_g (c : Nm X.prog X.w X.K X.mg X.base CX k x st ps sp) (hr : RoomG j X.A) (hk : k ≤ j) (hx : Passes CX X E) (b : BndP x st ps) (hg : Gl X x) (ha : PA X (e :: es) t)
    (hdb : (x == ("__debug__" : Str)) = false := by decide) (he : starEach (e :: es) X.env = (false, eval e X.env) :: starEach es X.env := by rfl) (hpl : (backTo pos (starEach es X.env)).any (·.1) = false := by rfl) :
    PE X (.Call (.Name x p) (e :: es) [] pos) (tG sp E t) := by
  obtain ⟨f, fd, F, hm, G⟩ := c.ex
  have kp := F.kp
  obtain ⟨oc, od, kV, doc, pm, an, cdv, ct, osl, rfl, lk, hcd⟩ := F.ex
  refine ⟨fun pins s σ H Q I h => wpAny_Call_Name_kw (ld_glob I hg hm (PySem.W.callWith_K (h₀ := X.base) I.ok.mod.kin kp (thn (ha.run pos pins s σ H _ I h) fun us s1 ⟨vs, H1, I1, r, q⟩ => ⟨I1.kIn, ?_⟩) he hpl) hdb)⟩
  have q' : sp vs H1 Q E := q
  have h0 := r.length
  have h1 := G.len _ _ _ _ q'
  exact run_g (kw := []) G (hr.mono hk) (.of_eq (b kV doc pm cdv ct an us (by omega))) hx I1 r q'
end
theorem roomTop {k : Nat} (h : k ≤ 60 := by decide) : RoomG k callerA := ⟨⟨rfl, by show 1 + claimMargin + 3 * k + 5 < recursionLimit; have : claimMargin + 200 < recursionLimit := (by decide); omega, by show 4 + 16 * k + 200 < cLine; have : 2000 < cLine := (by decide); omega⟩, rfl⟩
open PySem PySem.Spec PyProof.Rows L2
section
variable {X : Cx} {K : PySem.W.Frag}
theorem ix_seqK (e : X.K = K) : IxR X (rIx K) := by subst e; exact ix_seq
theorem call_lenK (e : X.K = K) : CallR X (.builtin "len") (fun xs H Q => ∃ x n, xs = [x] ∧ LenV K x H n ∧ Q (.int n) H) := by subst e; exact call_len
theorem call_isiK' (e : X.K = K) : CallR X (.builtin "isinstance") (rIsi K) := by subst e; exact call_isi
theorem op_inK (e : X.K = K) : OpR X (compareOp .In) (rIn K false) := by subst e; exact op_in_seq
theorem op_notInK (e : X.K = K) : OpR X (compareOp .NotIn) (rIn K true) := by subst e; exact op_notIn_seq
theorem call_allK (e : X.K = K) (hc : X.calm = true) : CallR X (.builtin "all") (rAll K) := by subst e; exact cr_all hc
theorem op_eqDK (e : X.K = K) (hu : X.A.units + 64 < cLine) : OpR X (compareOp .Eq) (rEqD K) := by subst e; exact op_eqD hu
theorem op_neDK (e : X.K = K) (hu : X.A.units + 64 < cLine) : OpR X (compareOp .NotEq) (rNeD K) := by subst e; exact op_neD hu
theorem pi_listK {tg l : Expr} {tl : TE} (e : X.K = K) (hl : PE X l tl) : PI X tg l (iList K tl) := by subst e; exact pi_list hl
/-- a built-in class by its name, a constant of the text -/
theorem pe_ty {x : Str} {pos : Pos} (n : String) (hg : Gl X x) (hm : X.mg x = none) (hv : bootBuiltins x = some (.type n)) (hn : x ≠ "__name__" := by decide) (hd : (x == ("__debug__" : Str)) = false := by decide) : PE X (.Name x pos) (tC (.ty n)) :=
  pe_bltn hg hm hv rfl hn hd
theorem pe_cst {x : Str} {pos : Pos} {v : V} (hg : Gl X x) (h : ∃ u, X.mg x = some u ∧ RelV v u) (hd : (x == ("__debug__" : Str)) = false := by decide) : PE X (.Name x pos) (tC v) :=
  let ⟨_, hm, r⟩ := h
  pe_glob hg hm r hd
end
open PySem PySem.Spec PyProof.Rows L2
def tLt (a b : Str) : Bool := decide (a.cps.toList < b.cps.toList)
theorem tLt_irr (a : Str) : tLt a a = false := PyProof.Rows.strKind.irrefl _
theorem tLt_tr {a b c : Str} (h1 : tLt a b = true) (h2 : tLt b c = true) : tLt a c = true := PyProof.Rows.strKind.trans _ _ _ h1 h2
theorem tLt_tot {a b : Str} (h1 : tLt a b = false) (h2 : tLt b a = false) : a = b := by
  have e : a.cps.toList = b.cps.toList := PyProof.Rows.strKind.total _ _ h1 h2
  obtain ⟨⟨a⟩⟩ := a
  obtain ⟨⟨b⟩⟩ := b
  cases e
  rfl
/-- rising -/
abbrev TS (ys : List Str) : Prop := ys.Pairwise fun a b => tLt b a = false
theorem tLe_tr {a b c : Str} (h1 : tLt b a = false) (h2 : tLt c b = false) : tLt c a = false := by
  cases e : tLt c a with
  | false => rfl
  | true => rcases PyProof.Rows.strKind.negTrans _ b.cps.toList _ e with z | z
            · exact absurd (show tLt c b = true from z) (by rw [h2]; decide)
            · exact absurd (show tLt b a = true from z) (by rw [h1]; decide)
theorem ts_uniq {xs ys : List Str} (h : xs.Perm ys) (h1 : TS xs) (h2 : TS ys) : xs = ys :=
  h.eq_of_pairwise (le := fun a b => tLt b a = false) (fun a b _ _ h1 h2 => tLt_tot h2 h1) h1 h2
theorem dle_str (a b : Str) : PySem.W.dataLe false (fun x : Str => PyData.str x) a b = !tLt b a := by
  show (!(PyProof.Rows.lexLt PyProof.Rows.itemOrd [.inr b.cps.toList] [.inr a.cps.toList])) = _
  have e : PyProof.Rows.lexLt PyProof.Rows.itemOrd [.inr b.cps.toList] [.inr a.cps.toList] = tLt b a := by
    rw [PyProof.Rows.lex_cons]
    show (tLt b a || (!tLt a b && false)) = _
    rw [Bool.and_false, Bool.or_false]
  rw [e]
/-- the texts in order -/
def tsort (xs : List Str) : List Str := xs.mergeSort (PySem.W.dataLe false fun x : Str => PyData.str x)
theorem tsort_perm (xs : List Str) : (tsort xs).Perm xs := List.mergeSort_perm _ _
theorem tsort_ts (xs : List Str) : TS (tsort xs) := by
  have h := List.pairwise_mergeSort (le := PySem.W.dataLe false fun x : Str => PyData.str x) (fun a b c h1 h2 => by
    rw [dle_str] at *
    have h1' : tLt b a = false := by simpa using h1
    have h2' : tLt c b = false := by simpa using h2
    rw [tLe_tr h1' h2']
    rfl) (fun a b => by
    rw [dle_str, dle_str]
    cases e : tLt b a with
    | false => rfl
    | true =>
      cases e2 : tLt a b with
      | false => rfl
      | true => exact absurd (tLt_tr e e2) (by rw [tLt_irr]; decide)) xs
  refine h.imp fun {a b} z => ?_
  rw [dle_str] at z
  simpa using z
theorem tsort_uniq {xs ys : List Str} (h : ys.Perm xs) (h1 : TS ys) : ys = tsort xs := ts_uniq (h.trans (tsort_perm xs).symm) h1 (tsort_ts xs)
theorem t_key (a : Addr) : Builtin.«list.sort» ⟨[.ref a], [(Str.ofString "key", .type "str")]⟩ = ksk_tree a (.type "str") false := rfl
theorem ea_strs : ∀ {vs : List Value} {xs : List Str}, StrsAre vs xs → PySem.W.EachIs (fun v x => ∃ t, v = Value.str x t) vs xs
  | _, _, .nil => .nil
  | _, _, .cons x t h => .cons ⟨t, rfl⟩ (ea_strs h)
theorem strs_ea : ∀ {vs : List Value} {xs : List Str}, PySem.W.EachIs (fun v x => ∃ t, v = Value.str x t) vs xs → StrsAre vs xs
  | _, _, .nil => .nil
  | _, _, .cons ⟨t, e⟩ h => by cases e; exact .cons _ t (strs_ea h)
theorem strs_alike (xs : List Str) : PySem.W.AllAlike (xs.map fun x => PyData.str x) := fun d hd d' hd' => by
  obtain ⟨_, _, rfl⟩ := List.mem_map.mp hd
  obtain ⟨_, _, rfl⟩ := List.mem_map.mp hd'
  first | rfl | (unfold PySem.W.alike; rfl)
theorem strs_sortable (xs : List Str) : PySem.W.Sortable (xs.map fun x => PyData.str x) := .inr fun d hd => by
  obtain ⟨_, _, rfl⟩ := List.mem_map.mp hd
  exact ⟨(fun z => by cases z), (fun _ z => by cases z)⟩
theorem str_depth (x : Str) : (PyData.str x).depth ≤ 1 := by first | decide | (unfold PyData.depth; decide) | simp [PyData.depth]
theorem str_turn {prog : Program} {w : World} {A : Around} {s : Shared} (v : Value) (x : Str) (e : ∃ t, v = Value.str x t) (h : Heap) (tk : Nat) :
    wpAny (model prog w) A (call (.type "str") [v]) (PySem.W.KeyPure (.str x) { s with heap := h, toks := tk }) (fun _ _ => False) { s with heap := h, toks := tk } := by
  obtain ⟨t, rfl⟩ := e
  exact PySem.P.str_of_str ⟨h, tk, rfl, fun _ _ z => z, .str x t⟩
section
variable {X : Cx}
def rSortK (K : PySem.W.Frag) : List V → List V → Hp → VK → Prop := fun vs zs H Q => ∃ (a : Addr) (xs : List Str), vs = [V.ref a] ∧ zs = [.ty "str"] ∧ SqL K H a (xs.map V.str) ∧ ∀ p, H p = none → Q (.ref p) (upd H p (.lst ((tsort xs).map V.str)))
theorem sortK_out {pins : List (Addr × Obj)} {s : Shared} {σ : L2.St} {H : Hp} {Q : VK} {xs : List Str} {p : Addr} {out : List Value} {c : Nat} {h' : Heap} {tk : Nat} (I : L2.Inv X pins σ H s) (hz : xs.length ≤ sizeLine) (hp : s.heap.objs.size ≤ p)
    (q : ∀ (p : Addr), H p = none → Q (V.ref p) (upd H p (HO.lst ((tsort xs).map V.str)))) (k : ∀ (b : Addr) (o : Obj), s.heap.get? b = some o → h'.get? b = some o) (e : h'.get? p = some (seqObj "list" out.toArray c))
    (ea : PySem.W.EachIs (fun v x => ∃ t, v = Value.str x t) out (tsort xs)) : EP X pins σ Q (Value.ref p) { s with heap := h', toks := tk } := by
  have hlen : ((tsort xs).map V.str).length ≤ sizeLine := by rw [List.length_map, (tsort_perm xs).length_eq]; exact hz
  exact ⟨.ref p, upd H p (.lst ((tsort xs).map V.str)), I.laid (t' := tk) k hp ⟨hlen, out, c, vals_of_strs (strs_ea ea), e⟩, rfl, q _ (I.hok.fresh hp)⟩
theorem cr_sortK (hu : X.A.units + 60 < cLine) : CallRK X (.builtin "sorted") [Str.ofString "key"] (rSortK X.K) := by
  intro pins s σ H vs zs us ws Q I r rz h
  obtain ⟨a, xs, rfl, rfl, hs, q⟩ := h
  obtain rfl := Vals.ref1 r
  obtain ⟨w1, rfl, e1⟩ := vals1 rz
  obtain rfl : w1 = Value.type "str" := e1
  obtain ⟨its, rv, hl, hz⟩ := I.list hs
  rw [List.length_map] at hz
  exact PySem.W.sorted_key_data (fun x : Str => PyData.str x) hl.isList (ea_strs rv.strs) (strs_alike xs) (strs_sortable xs) hz (fun x _ => by have := str_depth x; omega) (PyProof.Rows.ksk_s1 _ _) (fun _ => PyProof.Rows.ksk_l1 _ _) t_key
    (fun v x e _ h tk _ => str_turn v x e h tk) fun out c h' tk k _ e _ ea => sortK_out I hz (Nat.le_succ _) q k e ea
/-- .. of a dict whose keys are texts -/
def rSortKD : List V → List V → Hp → VK → Prop := fun vs zs H Q => ∃ (a : Addr) (kvs : List (Key × V)) (xs : List Str), vs = [V.ref a] ∧ zs = [.ty "str"] ∧ Rd H a (.dK kvs) ∧ kvs.map (·.1) = xs.map Sum.inr ∧ ∀ p, H p = none → Q (.ref p) (upd H p (.lst ((tsort xs).map V.str)))
theorem cr_sortKD (hu : X.A.units + 60 < cLine) (hcalm : X.calm = true) : CallRK X (.builtin "sorted") [Str.ofString "key"] rSortKD := by
  intro pins s σ H vs zs us ws Q I r rz h
  obtain ⟨a, kvs, ks, rfl, rfl, hd, hks, q⟩ := h
  obtain rfl := Vals.ref1 r
  obtain ⟨w1, rfl, e1⟩ := vals1 rz
  obtain rfl : w1 = Value.type "str" := e1
  obtain ⟨z, lo, vs, rel, dd⟩ := dk_rd I.hok hd
  obtain ⟨ep, hat⟩ := dd.dictAt
  have hkeys : vs.map (·.1) = ks.map Sum.inr := rel.keys.symm.trans hks
  have hl : vs.length = ks.length := by
    have e := congrArg List.length hkeys
    rw [List.length_map, List.length_map] at e
    exact e
  have hl2 : kvs.length = ks.length := by
    have e := congrArg List.length hks
    rw [List.length_map, List.length_map] at e
    exact e
  have h16 : vs.length ≤ sizeLine := by rw [hl, ← hl2]; exact z
  refine PyProof.Rows.call_function_entry_kw PyProof.Rows.kind_sorted PyProof.Rows.plain_sorted PyProof.Rows.entry_sorted (PyProof.Rows.ksk_s1 _ _) ?_
  unfold Builtin.«sorted»
  refine wpAny_bind (m := checkCount "sorted" 1 1 _) (wpAny_pure ?_)
  refine wpAny_bind (PySem.W.kdu_collect (A := X.A.in1) (PySem.W.kdl_dict (knd := mixKind X.prog X.w) (kvs := vs) (ep := ep) lo) (I.ok.hd hcalm) hat h16 fun h' tk acc hk hacc => ?_)
  have hal : acc.toList.length = ks.length := by rw [Array.length_toList, hacc.1, hl]
  have hS : StrsAre acc.toList ks := strs_at hal fun j v e => by
    obtain ⟨k, x, e1, e2⟩ := hacc.2 j v (by rw [← Array.getElem?_toList]; exact e)
    have e3 : (vs.map (·.1))[j]? = some k := by rw [List.getElem?_map, e1]; all_goals rfl
    rw [hkeys, List.getElem?_map] at e3
    cases e4 : ks[j]? with
    | none => rw [e4] at e3; cases e3
    | some y =>
      rw [e4] at e3
      have e5 : Sum.inr y = k := Option.some.inj e3
      subst e5
      obtain ⟨t, ev⟩ := Value.isStrOf_shape (x := y) (v := v) e2
      exact ⟨y, t, rfl, ev⟩
  have I1 : Inv X pins σ H { s with heap := h', toks := tk } := I.kept hk
  have hzk : ks.length ≤ sizeLine := by rw [← hl]; exact h16
  refine wpAny_bind (wpAny_newList ?_ (by rw [hal]; exact hzk))
  have hoL : (h'.push (seqObj "list" acc.toList.toArray 0)).get? h'.objs.size = some (seqObj "list" acc.toList.toArray 0) := Heap.get?_push_size _ rfl
  show wpAny _ _ _ _ _ { s with heap := h'.push (seqObj "list" acc.toList.toArray 0), toks := tk }
  have ea := ea_strs hS
  have up : ∀ {g : Heap}, PySem.W.KeepsBut h'.objs.size (h'.push (seqObj "list" acc.toList.toArray 0)) g → ∀ b o, h'.get? b = some o → g.get? b = some o := fun {g} kp b o e =>
    kp b o (Nat.ne_of_lt (Heap.lt_size e)) (Heap.get?_push_of_some _ e)
  refine wpAny_bind (wpAny_holding (wpAny_call_entry_kw PyProof.Rows.slot_list_sort ⟨_, hoL, rfl⟩ PyProof.Rows.entry_list_sort ?_ (PyProof.Rows.ksk_l1 _ _)))
  show wpAny _ _ (Builtin.«list.sort» ⟨[.ref h'.objs.size], [(Str.ofString "key", .type "str")]⟩) _ _ _
  rw [t_key]
  refine PySem.W.keyH_tree (s := { s with heap := h'.push (seqObj "list" acc.toList.toArray 0), toks := tk }) (kz := ks.map fun x => PyData.str x) hoL (by rw [List.length_map, hal]) (by rw [hal]; exact hzk) (strs_alike ks) (strs_sortable ks) (fun d hd => ?_)
    (PySem.W.keyH_turns (k := fun x : Str => PyData.str x) ea fun v x e _ h tk _ => str_turn v x e h tk) fun h2 tk2 out c kp e ko => ⟨_, rfl, wpAny_pure ⟨_, rfl, ?_⟩⟩
  · obtain ⟨x, _, rfl⟩ := List.mem_map.mp hd
    have := str_depth x
    show X.A.units + 1 + 1 + _ < _
    omega
  · have h3 : EP X pins σ Q (Value.ref h'.objs.size) { ({ s with heap := h', toks := tk } : Shared) with heap := h2, toks := tk2 } := sortK_out I1 hzk (Nat.le_refl _) q (up kp) e (PySem.W.keyedOut_each (fun x : Str => PyData.str x) ko ea)
    exact h3
end
open PySem PySem.Spec PyProof.Rows L2
/-- the texts, shorter ones first, else as they stood -/
def lsort (xs : List Str) : List Str := xs.mergeSort (PySem.W.dataLe false fun x : Str => PyData.int x.length)
theorem lsort_perm (xs : List Str) : (lsort xs).Perm xs := List.mergeSort_perm _ _
theorem lsort_ord (xs : List Str) : (lsort xs).Pairwise fun a b => a.length ≤ b.length := by
  unfold lsort
  rw [PySem.W.dataLe_int fun x : Str => (x.length : Int)]
  have h := List.pairwise_mergeSort (le := fun a b : Str => decide ((a.length : Int) ≤ b.length)) (fun a b c h1 h2 => by
    have := of_decide_eq_true h1
    have := of_decide_eq_true h2
    exact decide_eq_true (by omega)) (fun a b => by
    by_cases q : (a.length : Int) ≤ b.length
    · rw [decide_eq_true q]; rfl
    · rw [decide_eq_true (p := (b.length : Int) ≤ a.length) (by omega), Bool.or_true]) xs
  exact h.imp fun {a b} z => by have := of_decide_eq_true z; omega
theorem lens_alike (xs : List Str) : PySem.W.AllAlike (xs.map fun x => PyData.int x.length) := fun d hd d' hd' => by
  obtain ⟨_, _, rfl⟩ := List.mem_map.mp hd
  obtain ⟨_, _, rfl⟩ := List.mem_map.mp hd'
  first | rfl | (unfold PySem.W.alike; rfl)
theorem lens_sortable (xs : List Str) : PySem.W.Sortable (xs.map fun x => PyData.int x.length) := .inr fun d hd => by
  obtain ⟨_, _, rfl⟩ := List.mem_map.mp hd
  exact ⟨(fun z => by cases z), (fun _ z => by cases z)⟩
theorem int_depth (i : Int) : (PyData.int i).depth ≤ 1 := by simp [PyData.depth]
theorem len_turn {prog : Program} {w : World} {A : Around} {s : Shared} (v : Value) (x : Str) (e : ∃ t, v = Value.str x t) (hl : x.length ≤ sizeLine) (h : Heap) (tk : Nat) :
    wpAny (model prog w) A (call (.builtin "len") [v]) (PySem.W.KeyPure (.int x.length) { s with heap := h, toks := tk }) (fun _ _ => False) { s with heap := h, toks := tk } := by
  obtain ⟨t, rfl⟩ := e
  have h1 := line63
  have h2 : sizeLine = 16777216 := sizeLine_eq
  exact len_str (by omega) ⟨h, _, rfl, fun _ _ z => z, .int _ _⟩
theorem lkey (a : Addr) : Builtin.«list.sort» ⟨[.ref a], [(Str.ofString "key", .builtin "len")]⟩ = ksk_tree a (.builtin "len") false := ksk_t4 _ _
section
variable {X : Cx}
def rSortLD : V → Hp → VK → Prop := fun v H Q => ∃ (a : Addr) (kvs : List (Key × V)) (xs : List Str), v = V.ref a ∧ Rd H a (.dK kvs) ∧ kvs.map (·.1) = xs.map Sum.inr ∧ (∀ x ∈ xs, x.length ≤ sizeLine) ∧ ∀ p, H p = none → Q (.ref p) (upd H p (.lst ((lsort xs).map V.str)))
theorem sortL_out {pins : List (Addr × Obj)} {s : Shared} {σ : L2.St} {H : Hp} {Q : VK} {xs : List Str} {p : Addr} {out : List Value} {c : Nat} {h' : Heap} {tk : Nat} (I : L2.Inv X pins σ H s) (hz : xs.length ≤ sizeLine) (hp : s.heap.objs.size ≤ p)
    (q : ∀ (p : Addr), H p = none → Q (V.ref p) (upd H p (HO.lst ((lsort xs).map V.str)))) (k : ∀ (b : Addr) (o : Obj), s.heap.get? b = some o → h'.get? b = some o) (e : h'.get? p = some (seqObj "list" out.toArray c))
    (ea : PySem.W.EachIs (fun v x => ∃ t, v = Value.str x t) out (lsort xs)) : EP X pins σ Q (Value.ref p) { s with heap := h', toks := tk } := by
  have hlen : ((lsort xs).map V.str).length ≤ sizeLine := by rw [List.length_map, (lsort_perm xs).length_eq]; exact hz
  exact ⟨.ref p, upd H p (.lst ((lsort xs).map V.str)), I.laid (t' := tk) k hp ⟨hlen, out, c, vals_of_strs (strs_ea ea), e⟩, rfl, q _ (I.hok.fresh hp)⟩
theorem sortLD (hu : X.A.units + 60 < cLine) (hcalm : X.calm = true) {pins : List (Addr × Obj)} {s : Shared} {σ : L2.St} {H : Hp} {Q : VK} {x : V} {u : Value} (I : L2.Inv X pins σ H s) (r : RelV x u) (h : rSortLD x H Q) :
    wpAny (model X.prog X.w) X.A (call (.builtin "sorted") [u] [(Str.ofString "key", .builtin "len")]) (EP X pins σ Q) X.xe s := by
  obtain ⟨a, kvs, ks, rfl, hd, hks, hxl, q⟩ := h
  obtain rfl : u = Value.ref a := r
  obtain ⟨z, lo, vs, rel, dd⟩ := dk_rd I.hok hd
  obtain ⟨ep, hat⟩ := dd.dictAt
  have hkeys : vs.map (·.1) = ks.map Sum.inr := rel.keys.symm.trans hks
  have hl : vs.length = ks.length := by
    have e := congrArg List.length hkeys
    rw [List.length_map, List.length_map] at e
    exact e
  have hl2 : kvs.length = ks.length := by
    have e := congrArg List.length hks
    rw [List.length_map, List.length_map] at e
    exact e
  have h16 : vs.length ≤ sizeLine := by rw [hl, ← hl2]; exact z
  refine PyProof.Rows.call_function_entry_kw PyProof.Rows.kind_sorted PyProof.Rows.plain_sorted PyProof.Rows.entry_sorted (PyProof.Rows.ksk_s1 _ _) ?_
  unfold Builtin.«sorted»
  refine wpAny_bind (m := checkCount "sorted" 1 1 _) (wpAny_pure ?_)
  refine wpAny_bind (PySem.W.kdu_collect (A := X.A.in1) (PySem.W.kdl_dict (knd := mixKind X.prog X.w) (kvs := vs) (ep := ep) lo) (I.ok.hd hcalm) hat h16 fun h' tk acc hk hacc => ?_)
  have hal : acc.toList.length = ks.length := by rw [Array.length_toList, hacc.1, hl]
  have hS : StrsAre acc.toList ks := strs_at hal fun j v e => by
    obtain ⟨k, x, e1, e2⟩ := hacc.2 j v (by rw [← Array.getElem?_toList]; exact e)
    have e3 : (vs.map (·.1))[j]? = some k := by rw [List.getElem?_map, e1]; all_goals rfl
    rw [hkeys, List.getElem?_map] at e3
    cases e4 : ks[j]? with
    | none => rw [e4] at e3; cases e3
    | some y =>
      rw [e4] at e3
      have e5 : Sum.inr y = k := Option.some.inj e3
      subst e5
      obtain ⟨t, ev⟩ := Value.isStrOf_shape (x := y) (v := v) e2
      exact ⟨y, t, rfl, ev⟩
  have I1 : Inv X pins σ H { s with heap := h', toks := tk } := I.kept hk
  have hzk : ks.length ≤ sizeLine := by rw [← hl]; exact h16
  refine wpAny_bind (wpAny_newList ?_ (by rw [hal]; exact hzk))
  have hoL : (h'.push (seqObj "list" acc.toList.toArray 0)).get? h'.objs.size = some (seqObj "list" acc.toList.toArray 0) := Heap.get?_push_size _ rfl
  show wpAny _ _ _ _ _ { s with heap := h'.push (seqObj "list" acc.toList.toArray 0), toks := tk }
  have ea := ea_strs hS
  have up : ∀ {g : Heap}, PySem.W.KeepsBut h'.objs.size (h'.push (seqObj "list" acc.toList.toArray 0)) g → ∀ b o, h'.get? b = some o → g.get? b = some o := fun {g} kp b o e =>
    kp b o (Nat.ne_of_lt (Heap.lt_size e)) (Heap.get?_push_of_some _ e)
  refine wpAny_bind (wpAny_holding (wpAny_call_entry_kw PyProof.Rows.slot_list_sort ⟨_, hoL, rfl⟩ PyProof.Rows.entry_list_sort ?_ (PyProof.Rows.ksk_l1 _ _)))
  show wpAny _ _ (Builtin.«list.sort» ⟨[.ref h'.objs.size], [(Str.ofString "key", .builtin "len")]⟩) _ _ _
  rw [lkey]
  refine PySem.W.keyH_tree (s := { s with heap := h'.push (seqObj "list" acc.toList.toArray 0), toks := tk }) (kz := ks.map fun x => PyData.int x.length) hoL (by rw [List.length_map, hal]) (by rw [hal]; exact hzk) (lens_alike ks) (lens_sortable ks) (fun d hd => ?_)
    (PySem.W.keyH_turns (k := fun x : Str => PyData.int x.length) ea fun v x e hx h tk _ => len_turn v x e (hxl x hx) h tk) fun h2 tk2 out c kp e ko => ⟨_, rfl, wpAny_pure ⟨_, rfl, ?_⟩⟩
  · obtain ⟨x, _, rfl⟩ := List.mem_map.mp hd
    have := int_depth x.length
    show X.A.units + 1 + 1 + _ < _
    omega
  · have h3 : EP X pins σ Q (Value.ref h'.objs.size) { ({ s with heap := h', toks := tk } : Shared) with heap := h2, toks := tk2 } := sortL_out I1 hzk (Nat.le_refl _) q (up kp) e (PySem.W.keyedOut_each (fun x : Str => PyData.int x.length) ko ea)
    exact h3
def tSortLen (te : TE) : TE := fun σ H Q => te σ H fun v H1 => rSortLD v H1 Q
theorem pe_sortLen {e : Expr} {te : TE} {p p2 kp pos : Pos} (hg : Gl X "sorted") (hm : X.mg "sorted" = none) (hg2 : Gl X "len") (hm2 : X.mg "len" = none) (hu : X.A.units + 60 < cLine) (hcalm : X.calm = true) (ha : PE X e te)
    (hs : starEach [e] X.env = (false, eval e X.env) :: starEach [] X.env := by rfl) (he : backTo pos (starEach [e] X.env) = (false, eval e X.env) :: backTo pos (starEach [] X.env) := by rfl) (hpl : (backTo pos (starEach [e] X.env)).any (·.1) = false := by rfl) :
    PE X (.Call (.Name "sorted" p) [e] [⟨some "key", .Name "len" p2, kp⟩] pos) (tSortLen te) := by
  refine ⟨fun pins s σ H Q I h => ?_⟩
  refine wpAny_Call_Name_kw (ld_blt I hg hm (by decide +kernel : bootBuiltins "sorted" = some (.builtin "sorted")) ?_ (by decide) (by decide))
  refine PyProof.Rows.callWith_kw (thn ((pa_cons ha pa_nil hs).run pos pins s σ H (fun vs H1 => match vs with | [v] => rSortLD v H1 Q | _ => False) I h) fun us s1 ⟨vs, H1, I1, r1, q1⟩ => ?_) he hpl rfl rfl
  obtain ⟨v, rfl⟩ : ∃ v, vs = [v] := by
    match vs, q1 with
    | [v], _ => exact ⟨v, rfl⟩
  obtain ⟨u, rfl, ru⟩ := vals1 r1
  show wpAny _ _ (evalAll [(do let v ← eval (.Name "len" p2) X.env; standAt pos; pure v)]) _ _ s1
  refine wpAny_evalAll_cons (wpAny_bind (ld_blt I1 hg2 hm2 PySem.boot_len (wpAny_bind (wpAny_standAt (wpAny_pure (wpAny_evalAll_nil ?_)))) (by decide) (by decide)))
  exact sortLD hu hcalm I1 ru q1
end
open PySem PySem.Spec PyProof.Rows L2
theorem RoomG.in1 {k : Nat} {A : Around} (x : RoomG (k + 1) A) : RoomG k A.in1 := ⟨x.r.in1, x.g⟩
theorem RoomG.make {k : Nat} {A : Around} (x : RoomG (k + 1) A) (C : Addr) (us : List Value) (kw : List (Str × Value)) : RoomG k (A.under (.builtin "type.__call__" ⟨.ref C :: us, kw⟩)) :=
  ⟨x.r.make C us kw, by
    show pushGuards (Code.guards (.builtin "type.__call__" ⟨.ref C :: us, kw⟩)) A.guards = _
    rw [x.g]
    have e : Code.isGuard (.builtin "type.__call__" ⟨.ref C :: us, kw⟩) = false := by first | rfl | decide | (unfold Code.isGuard; decide)
    unfold Code.guards
    rw [e]
    rfl⟩
section
variable {P : Program} {w : World} {K : PySem.W.Frag} {mg : Str → Option Value} {base : Heap} {CX : CXT}
theorem fnG_core {f : Addr} {x q : Str} {args : Arguments} {body : List Stmt} {scope : Scope} {oc : Value} {od : Option Addr} {dV kV doc pm cdv ct : Value} {an : Option Addr} {osl : Array (Option Value)} {N ps : List Str} {k : Nat} {sp : Sp}
    (lk : K.lookup f = some ⟨oc, od, .func (PySem.W.fnOf x q args body scope dV kV doc pm an cdv ct), osl⟩) (hcd : PySem.W.codeIn K cdv q = true) (S : FnScope N ps scope) (len : ∀ vs H Q E, sp vs H Q E → vs.length = ps.length)
    (hb : ∀ (A : Around) (outer : List Env) (s : Shared) (H : Hp) (vs : List V) (Q : VK) (E : XK), RoomG k (A.deeper (envOfC q scope s.heap.objs.size f cdv)) → sp vs H Q E →
      ∃ t, PSs (cxOf CX P w K mg base N q scope f cdv A outer s H E) body t ∧ t { nx := fun _ H' => Q .non H', rt := Q } (start N vs) H) : FnG P w K mg base CX (k + 1) f (PySem.W.fnOf x q args body scope dV kV doc pm an cdv ct) ps sp := by
  refine ⟨len, ?_⟩
  intro A outer s H args us vs Q E hr e0 bt rv hs
  have hl := len _ _ _ _ hs
  have kin : K.In s.heap := e0.mod.kin.keeps fun b o e => (e0.bs b o e).1
  have nol : s.heap.NoLimit := e0.mod.nolimit.keeps fun b o e => (e0.bs b o e).1
  refine codeAny_call_function hr.r.depth (kin _ _ lk) rfl S.co S.gen rfl (PySem.W.codeRec_of kin hcd) (bt _ _ _ _ ?_)
  refine wpAny_newFunctionEnv_cells S.kind (fun ⟨n, v⟩ hy => ?_) fun env he s1 x1 => ?_
  · cases S.par n (List.of_mem_zip hy).1 with
    | inl q => exact .inl q
    | inr q => exact .inr ⟨q, PySem.W.cellsFrom_some _ _ _ (.inl q)⟩
  · subst he
    refine ⟨nol.keeps x1.toInCall.keep, codeAny_func ?_⟩
    obtain ⟨t, ht, hq⟩ := hb A outer s H vs Q E (hr.deeper _) hs
    have I : Inv (cxOf CX P w K mg base N q scope f cdv A outer s H E) [] (start N vs) H s1 := inv_start S hr.r.hd e0 hl rv x1
    refine wpAny_mono (ht.run [] s1 (start N vs) H _ I hq) (fun fl s' z => ?_) fun e s' z => z
    cases fl with
    | ret u => obtain ⟨v, σ', H', J, r2, q⟩ := z; exact ⟨v, H', J.os, J.bare, J.base, J.hok, r2, q⟩
    | next => obtain ⟨σ', H', J, q⟩ := z; exact ⟨.non, H', J.os, J.bare, J.base, J.hok, rfl, q⟩
    | brk => obtain ⟨_, _, _, q⟩ := z; exact q.elim
    | cont => obtain ⟨_, _, _, q⟩ := z; exact q.elim
/-- a method m of the class at C, of the class's own body: q its qualified name, st its statement -/
structure Mth (P : Program) (w : World) (K : PySem.W.Frag) (mg : Str → Option Value) (base : Heap) (CX : CXT) (k : Nat) (C : Addr) (m q : Str) (st : Stmt) (ps : List Str) (sp : Sp) : Prop where
  ex : ∃ (f : Addr) (fd : FuncData), Fun K m q st f fd ∧ Meth K C m f ∧ PySem.W.fnIn K f = true ∧ FnG P w K mg base CX k f fd ps sp
/-- THE RULE for a method -/
theorem mth_of {m q : Str} {st : Stmt} {C f : Addr} {fd : FuncData} {N ps : List Str} {k : Nat} {sp : Sp} (F : Fun K m q st f fd) (hm : Meth K C m f) (S : FnScope N ps (defScope st)) (len : ∀ vs H Q E, sp vs H Q E → vs.length = ps.length)
    (hb : ∀ (cdv : Value) (A : Around) (outer : List Env) (s : Shared) (H : Hp) (vs : List V) (Q : VK) (E : XK), RoomG k (A.deeper (envOfC q (defScope st) s.heap.objs.size f cdv)) → sp vs H Q E →
      ∃ t, PSs (cxOf CX P w K mg base N q (defScope st) f cdv A outer s H E) (defBody st) t ∧ t { nx := fun _ H' => Q .non H', rt := Q } (start N vs) H) : Mth P w K mg base CX (k + 1) C m q st ps sp := by
  refine ⟨f, fd, F, hm, ?_, ?_⟩
  · obtain ⟨oc, od, kV, doc, pm, an, cdv, ct, osl, rfl, lk, hcd⟩ := F.ex
    unfold PySem.W.fnIn
    rw [lk]
  · obtain ⟨oc, od, kV, doc, pm, an, cdv, ct, osl, rfl, lk, hcd⟩ := F.ex
    exact fnG_core lk hcd S len fun A outer s H vs Q E hr h => hb cdv A outer s H vs Q E hr h
theorem mth_of0 {m q : Str} {st : Stmt} {C f : Addr} {fd : FuncData} {N ps : List Str} {k : Nat} {sp : Sp} (F : Fun K m q st f fd) (hm : Meth K C m f) (S : FnScope N ps (defScope st)) (len : ∀ vs H Q E, sp vs H Q E → vs.length = ps.length)
    (hb : ∀ (cdv : Value) (A : Around) (outer : List Env) (s : Shared) (H : Hp) (vs : List V) (Q : VK) (E : XK), RoomG k (A.deeper (envOfC q (defScope st) s.heap.objs.size f cdv)) → sp vs H Q E →
      ∃ t, PSs (cxOf CX P w K mg base N q (defScope st) f cdv A outer s H E).nox (defBody st) t ∧ t { nx := fun _ H' => Q .non H', rt := Q } (start N vs) H) : Mth P w K mg base CX (k + 1) C m q st ps sp :=
  mth_of F hm S len fun cdv A outer s H vs Q E hr h => let ⟨t, h1, h2⟩ := hb cdv A outer s H vs Q E hr h; ⟨t, h1.nox, h2⟩
end
def BndMP (m q : Str) (st : Stmt) (ps : List Str) : Prop :=
  ∀ (kV doc pm cdv ct : Value) (an : Option Addr) (us : List Value), us.length = ps.length → bindArgs (PySem.W.fnOf m q (defArgs st) (defBody st) (defScope st) .none kV doc pm an cdv ct) ⟨us, []⟩ = pure (ps.zip us)
section
variable {X : Cx} {CX : CXT} {k j : Nat} {C : Addr} {m q : Str} {st : Stmt} {ps ks : List Str} {sp : Sp} {E : XK} {p pos apos : Pos} {o e : Expr} {es : List Expr} {kws : List Keyword} {to : TE} {t tk : TA}
/-- the instance that a value is -/
def IsIns (H : Hp) (C : Addr) (x : V) (m : Str) : Prop := ∃ a dx fs, x = .ref a ∧ H a = some (.ins C dx fs) ∧ fs.lookup m = none
def tM (C : Addr) (m : Str) (sp : Sp) (E : XK) (to : TE) (t : TA) : TE := fun σ H Q => to σ H fun x H1 => IsIns H1 C x m ∧ t σ H1 fun vs H2 => sp (x :: vs) H2 Q E
/-- o.m(e, ..) -/
theorem pe_m {pl : Sem Bool} (c : Mth X.prog X.w X.K X.mg X.base CX k C m q st ps sp) (hc : Cls X.K C) (hr : RoomG j X.A) (hk : k ≤ j) (hx : Passes CX X E) (b : BndMP m q st ps) (he : PE X o to) (ha : PA X (e :: es) t)
    (hst : starEach (e :: es) X.env = (false, eval e X.env) :: starEach es X.env := by rfl) (hpl : (backTo pos (starEach es X.env)).any (·.1) = false := by rfl)
    (ht : eval (.Call (.Attribute o m apos) (e :: es) [] pos) X.env = (do
      let ov ← eval o X.env
      standAt apos.atName
      let (f, first) ← holding [ov] (getMethod ov m pl)
      callWith pos f first (backTo pos (starEach (e :: es) X.env)) (backToKw pos (keywordEach [] X.env))) := by rfl) :
    PE X (.Call (.Attribute o m apos) (e :: es) [] pos) (tM C m sp E to t) := by
  obtain ⟨f, fd, F, hm, _, G⟩ := c.ex
  obtain ⟨oc, od, kV, doc, pm, an, cdv, ct, osl, rfl, lk, hcd⟩ := F.ex
  refine ⟨fun pins s σ H Q I h => PySem.W.methodCall_KW (pl := pl) (thn (he.run pins s σ H _ I h) fun u s1 ⟨x, H1, I1, rx, ⟨a, dx, fs, ex, ea, l⟩, q⟩ => ?_) ht⟩
  subst ex
  obtain rfl : u = Value.ref a := rx
  refine getmeth_ok I1 ea hc hm l ?_
  refine PySem.W.callWith_K (first := [.ref a]) (h₀ := X.base) I.ok.mod.kin hm.kp (thn (ha.run pos pins s1 σ H1 _ I1 q) fun us s2 ⟨vs, H2, I2, r, q2⟩ => ⟨I2.kIn, ?_⟩) hst hpl
  have h0 := r.length
  have h1 := G.len _ _ _ _ q2
  rw [List.length_cons] at h1
  exact run_g (us := .ref a :: us) (kw := []) (vs := .ref a :: vs) G (hr.mono hk) (.of_eq (b kV doc pm cdv ct an (.ref a :: us) (by rw [List.length_cons]; omega))) hx I2 (.cons rfl r) q2
/-- o.m() -/
theorem pe_m0 {pl : Sem Bool} (c : Mth X.prog X.w X.K X.mg X.base CX k C m q st ps sp) (hc : Cls X.K C) (hr : RoomG j X.A) (hk : k ≤ j) (hx : Passes CX X E) (b : BndMP m q st ps) (he : PE X o to)
    (ht : eval (.Call (.Attribute o m apos) [] [] pos) X.env = (do
      let ov ← eval o X.env
      standAt apos.atName
      let (f, first) ← holding [ov] (getMethod ov m pl)
      callWith pos f first (backTo pos (starEach [] X.env)) (backToKw pos (keywordEach [] X.env))) := by rfl) :
    PE X (.Call (.Attribute o m apos) [] [] pos) (tM C m sp E to tNil) := by
  obtain ⟨f, fd, F, hm, _, G⟩ := c.ex
  obtain ⟨oc, od, kV, doc, pm, an, cdv, ct, osl, rfl, lk, hcd⟩ := F.ex
  refine ⟨fun pins s σ H Q I h => PySem.W.methodCall_KW (pl := pl) (thn (he.run pins s σ H _ I h) fun u s1 ⟨x, H1, I1, rx, ⟨a, dx, fs, ex, ea, l⟩, q⟩ => ?_) ht⟩
  subst ex
  obtain rfl : u = Value.ref a := rx
  refine getmeth_ok I1 ea hc hm l ?_
  have h1 := G.len _ _ _ _ q
  exact PySem.W.callWith_K0 (first := [.ref a]) I1.kIn hm.kp (run_g (us := [.ref a]) (kw := []) (vs := [.ref a]) G (hr.mono hk) (.of_eq (b kV doc pm cdv ct an [.ref a] h1)) hx I1 (.cons rfl .nil) q)
end
open PySem PySem.Spec PySem.Calls PyProof.Rows L2
/-- a property p of the class at C, its getter by its own body -/
structure Prp (P : Program) (w : World) (K : PySem.W.Frag) (mg : Str → Option Value) (base : Heap) (CX : CXT) (k : Nat) (C : Addr) (m q : Str) (st : Stmt) (ps : List Str) (sp : Sp) : Prop where
  ex : ∃ (p f : Addr) (fd : FuncData), Fun K m q st f fd ∧ PropOf K C m p f ∧ FnG P w K mg base CX k f fd ps sp
section
variable {P : Program} {w : World} {K : PySem.W.Frag} {mg : Str → Option Value} {base : Heap} {CX : CXT}
theorem prp_of {m q : Str} {st : Stmt} {C p f : Addr} {fd : FuncData} {N ps : List Str} {k : Nat} {sp : Sp} (F : Fun K m q st f fd) (hp : PropOf K C m p f) (S : FnScope N ps (defScope st)) (len : ∀ vs H Q E, sp vs H Q E → vs.length = ps.length)
    (hb : ∀ (cdv : Value) (A : Around) (outer : List Env) (s : Shared) (H : Hp) (vs : List V) (Q : VK) (E : XK), RoomG k (A.deeper (envOfC q (defScope st) s.heap.objs.size f cdv)) → sp vs H Q E →
      ∃ t, PSs (cxOf CX P w K mg base N q (defScope st) f cdv A outer s H E) (defBody st) t ∧ t { nx := fun _ H' => Q .non H', rt := Q } (start N vs) H) : Prp P w K mg base CX (k + 1) C m q st ps sp := by
  refine ⟨p, f, fd, F, hp, ?_⟩
  obtain ⟨oc, od, kV, doc, pm, an, cdv, ct, osl, rfl, lk, hcd⟩ := F.ex
  exact fnG_core lk hcd S len fun A outer s H vs Q E hr h => hb cdv A outer s H vs Q E hr h
end
section
variable {X : Cx} {CX : CXT} {k j : Nat} {C : Addr} {m q : Str} {st : Stmt} {ps ks : List Str} {sp : Sp} {E : XK} {p pos apos : Pos} {o e fe : Expr} {es : List Expr} {kws : List Keyword} {to tf : TE} {t tk : TA}
def tP (C : Addr) (sp : Sp) (E : XK) (to : TE) : TE := fun σ H Q => to σ H fun x H1 => ∃ a dx fs, x = .ref a ∧ H1 a = some (.ins C dx fs) ∧ sp [.ref a] H1 Q E
/-- o.p -/
theorem pe_p (c : Prp X.prog X.w X.K X.mg X.base CX k C m q st ps sp) (hc : Cls X.K C) (hr : RoomG j X.A) (hk : k + 1 ≤ j) (hx : Passes CX X.nox E) (b : BndMP m q st ps) (he : PE X o to)
    (hab : attributeBase o m X.env (eval o X.env) = eval o X.env := by rfl) : PE X (.Attribute o m pos) (tP C sp E to) := by
  obtain ⟨p, f, fd, F, hp, G⟩ := c.ex
  obtain ⟨oc, od, kV, doc, pm, an, cdv, ct, osl, rfl, lk, hcd⟩ := F.ex
  refine ⟨fun pins s σ H Q I h => attr_of hab (thn (he.run pins s σ H _ I h) fun u s1 ⟨x, H1, I1, rx, a, dx, fs, ex, ea, q⟩ => ?_)⟩
  subst ex
  obtain rfl : u = Value.ref a := rx
  obtain ⟨mA, O, _, _, _, _⟩ := ins_get I1.hok ea
  obtain ⟨od', J, _⟩ := O.look
  obtain ⟨rest, hrec⟩ := hp.rec_
  have I2 := I1.tok (s1.toks + 1)
  have hcl : (PySem.W.clsIn X.K C).isSome = true := by
    obtain ⟨cd, hc, _⟩ := PySem.W.any_some hc.hd
    rw [hc]
    rfl
  have h1 := G.len _ _ _ _ q
  refine PySem.W.get_bind I1.kIn J (PySem.W.plainGet_of (hc.get m)).1 (PySem.W.findObj_data hcl hp.at_ hp.get hp.tak) (PySem.W.plainGet_of (hc.get m)).2 (wpAny_call (PySem.W.prop_get (s := { s1 with toks := s1.toks + 1 }) I1.kIn hrec ?_))
  refine codeAny_mono (G.run X.A.in1 X.stack { s1 with toks := s1.toks + 1 } H1 ⟨[.ref a], []⟩ [.ref a] [.ref a] Q E (hr.mono hk).in1 I2.env0.in1 (.of_eq (b kV doc pm cdv ct an [.ref a] h1)) (.cons rfl .nil) q) fun y s' z => ?_
  match y, z with
  | .error er, z => exact False.elim (hx pins σ H1 { s1 with toks := s1.toks + 1 } er s' (I2.wish _) z)
  | .ok (.ret u), z =>
    obtain ⟨v, H', I3, rv, q3⟩ := I2.after z
    show wpAny _ _ (handedOut u) _ _ _
    rw [PySem.W.handedOut_of (handed_of rv)]
    exact wpAny_pure ⟨v, H', I3, rv, q3⟩
  | .ok .next, z => exact z.elim
  | .ok .brk, z => exact z.elim
  | .ok .cont, z => exact z.elim
def tO (C : Addr) (sp : Sp) (E : XK) (tf : TE) (t : TA) : TE := fun σ H Q => tf σ H fun y H1 => ∃ a, y = V.ref a ∧ t σ H1 fun vs H2 => (∃ dx fs, H2 a = some (.ins C dx fs)) ∧ sp (.ref a :: vs) H2 Q E
theorem pe_o (c : Mth X.prog X.w X.K X.mg X.base CX k C "__call__" q st ps sp) (hr : RoomG j X.A) (hk : k ≤ j) (hx : Passes CX X E) (b : BndMP "__call__" q st ps) (hf : PE X fe tf) (ha : PA X (e :: es) t)
    (ht : eval (.Call fe (e :: es) [] pos) X.env = (do callWith pos (← eval fe X.env) [] (backTo pos (starEach (e :: es) X.env)) (backToKw pos (keywordEach [] X.env))) := by rfl)
    (he : starEach (e :: es) X.env = (false, eval e X.env) :: starEach es X.env := by rfl) (hpl : (backTo pos (starEach es X.env)).any (·.1) = false := by rfl) : PE X (.Call fe (e :: es) [] pos) (tO C sp E tf t) := by
  obtain ⟨f, fd, F, hm, hfi, G⟩ := c.ex
  obtain ⟨oc, od, kV, doc, pm, an, cdv, ct, osl, rfl, lk, hcd⟩ := F.ex
  refine ⟨fun pins s σ H Q I h => Call_ (thn (hf.run pins s σ H _ I h) fun u s1 ⟨y, H1, I1, ry, a, ey, q⟩ => ?_) ht⟩
  subst ey
  obtain rfl : u = Value.ref a := ry
  refine StX.callO_with (thn (ha.run pos pins s1 σ H1 _ I1 q) fun us s2 ⟨vs, H2, I2, r, ⟨dx, fs, hi⟩, q2⟩ => ?_) he hpl
  obtain ⟨ox, od, J, hd⟩ := StX.insC_at I2 (.inr ⟨dx, fs, hi⟩)
  refine ⟨⟨C, ox, od, J, hd⟩, wpAny_call (PySem.W.kco_code I2.kIn J hd hm.at_ hm.fn hfi ?_)⟩
  have h0 := r.length
  have h1 := G.len _ _ _ _ q2
  rw [List.length_cons] at h1
  refine codeAny_mono (G.run X.A X.stack s2 H2 ⟨.ref a :: us, []⟩ (.ref a :: us) (.ref a :: vs) Q E (hr.mono hk) I2.env0 (.of_eq (b kV doc pm cdv ct an (.ref a :: us) (by rw [List.length_cons]; omega))) (.cons rfl r) q2) fun y s' z => ?_
  match y, z with
  | .error e, z => exact hx pins σ H2 s2 e s' I2 z
  | .ok (.ret u), z => exact I2.after z
  | .ok .next, z => exact z.elim
  | .ok .brk, z => exact z.elim
  | .ok .cont, z => exact z.elim
end
open PySem PySem.Spec PySem.Calls PyProof.Rows L2
theorem rv_ref (a : Addr) : RelV (.ref a) (.ref a) := rfl
/-- a value of the layer is never NotImplemented -/
theorem cb_of {X : Cx} {pins : List (Addr × Obj)} {σ : L2.St} {Q : VK} {u : Value} {s : Shared} (h : EP X pins σ Q u s) : PySem.W.CmpBack (EP X pins σ Q) u s := by
  unfold PySem.W.CmpBack
  split
  · obtain ⟨v, H', _, r, _⟩ := h
    cases v <;> first | (obtain ⟨_, e⟩ := r; cases e) | cases r
  · exact h
section
variable {prog : Program} {w : World} {A : Around} {E : Value → Shared → Prop} {s : Shared} {K : PySem.W.Frag} {x C f : Addr} {ox : Obj} {od : Option Obj}
/-- o op b by a comparison's own method -/
theorem cmpO {op : CmpOp} {b tb : Value} {Q : Value → Shared → Prop} (hu : A.units < cLine) (X : K.In s.heap) (I : PySem.W.InstAt s.heap x ox C od) (hb : PySem.W.Looks (model prog w) s.heap (typeOf b) tb) (hn : PySem.W.notFirst K C tb = true)
    (hs : PySem.W.findIn K (.ref C) (cmpInfo op).2.1 = some (some (.ref f))) (hf : PySem.W.isFn K (.ref f) = true)
    (h : wpAny (model prog w) A (call (.ref f) [.ref x, b]) (PySem.W.CmpBack Q) E s) : wpAny (model prog w) A (richCompare op (.ref x) b) Q E s := by
  have one : wpAny (model prog w) A (tryCompare (.ref x) (cmpInfo op).2.1 b) (fun r s' => ∃ v, r = some v ∧ Q v s') E s := by
    unfold tryCompare
    refine wpAny_bind (PySem.W.ifBound_K X I hs hf (wpAny_mono h (fun v s' hv => ?_) fun _ _ e => e))
    cases v <;> first | exact hv.elim | exact wpAny_pure ⟨_, rfl, hv⟩
  unfold richCompare
  simp only [oneThing_ref]
  refine wpAny_holding (wpAny_bind (wpAny_cRoomFor hu ?_))
  refine wpAny_bind (I.type.here (wpAny_bind (hb.here ?_)))
  split
  · rename_i q
    have e : PySem.W.subIn K tb (.ref C) = some false := by
      rcases Bool.or_eq_true_iff.mp hn with e | e
      · rw [beq_iff_eq.mp e] at q; simp at q
      · exact beq_iff_eq.mp e
    refine wpAny_bind ((PySem.W.looks_subIn X e).here ?_)
    simp only [Bool.false_eq_true, if_false]
    refine wpAny_bind (wpAny_mono one (fun r s' z => ?_) fun _ _ e => e)
    obtain ⟨v, rfl, hq⟩ := z
    exact wpAny_pure hq
  · refine wpAny_bind (wpAny_pure ?_)
    simp only [Bool.false_eq_true, if_false]
    refine wpAny_bind (wpAny_mono one (fun r s' z => ?_) fun _ _ e => e)
    obtain ⟨v, rfl, hq⟩ := z
    exact wpAny_pure hq
end
section
variable {X : Cx} {CX : CXT} {k j : Nat} {C : Addr} {m q : Str} {st : Stmt} {ps : List Str} {sp : Sp} {E : XK}
/-- a call of the method with these values -/
theorem run_mth (c : Mth X.prog X.w X.K X.mg X.base CX k C m q st ps sp) (hr : RoomG j X.A) (hk : k ≤ j) (hx : Passes CX X E) (b : BndMP m q st ps) :
    ∃ f, Meth X.K C m f ∧ ∀ {pins : List (Addr × Obj)} {σ : L2.St} {H : Hp} {s : Shared} {us : List Value} {vs : List V} {Q : VK}, Inv X pins σ H s → Vals vs us → sp vs H Q E → wpAny (model X.prog X.w) X.A (call (.ref f) us) (EP X pins σ Q) X.xe s := by
  obtain ⟨f, fd, F, hm, hfi, G⟩ := c.ex
  obtain ⟨oc, od, kV, doc, pm, an, cdv, ct, osl, rfl, lk, hcd⟩ := F.ex
  refine ⟨f, hm, fun I r h => run_g (kw := []) G (hr.mono hk) (.of_eq (b kV doc pm cdv ct an _ ?_)) hx I r h⟩
  have h0 := r.length
  have h1 := G.len _ _ _ _ h
  omega
theorem ins_at {pins : List (Addr × Obj)} {σ : L2.St} {H : Hp} {s : Shared} {a dx : Addr} {fs : List (Str × V)} (I : Inv X pins σ H s) (e : H a = some (.ins C dx fs)) : ∃ od, PySem.W.InstAt s.heap a (PySem.W.instObj C dx) C od := by
  obtain ⟨mA, O, _⟩ := ins_get I.hok e
  obtain ⟨od, J, _⟩ := O.look
  exact ⟨_, J⟩
def IsI (H : Hp) (C : Addr) (x : V) : Prop := ∃ a dx fs, x = .ref a ∧ H a = some (.ins C dx fs)
def rBinS (C : Addr) (sp : Sp) (E : XK) : R2 := fun x y H Q => IsI H C x ∧ IsI H C y ∧ sp [x, y] H Q E
/-- a comparison of two of C by its own method -/
theorem op_cmpS {op : CmpOp} (c : Mth X.prog X.w X.K X.mg X.base CX k C (cmpInfo op).2.1 q st ps sp) (hr : RoomG j X.A) (hk : k ≤ j) (hx : Passes CX X E) (b : BndMP (cmpInfo op).2.1 q st ps) (he : compareOp op = richCompare op) : OpR X (compareOp op) (rBinS C sp E) := by
  intro pins s σ H x y v u Q I rx ry h
  obtain ⟨⟨a, dx, fs, rfl, ea⟩, ⟨a', dx', fs', rfl, ea'⟩, q⟩ := h
  obtain rfl : v = Value.ref a := rx
  obtain rfl : u = Value.ref a' := ry
  obtain ⟨f, hm, run⟩ := run_mth c hr hk hx b
  obtain ⟨od, J⟩ := ins_at I ea
  obtain ⟨od', J'⟩ := ins_at I ea'
  rw [he]
  have hn : PySem.W.notFirst X.K C (.ref C) = true := by
    unfold PySem.W.notFirst
    rw [beq_self_eq_true, Bool.true_or]
  exact cmpO hr.r.units0 I.kIn J J'.type hn hm.at_ hm.fn (wpAny_mono (run I (.cons (rv_ref a) (.cons (rv_ref a') .nil)) q) (fun _ _ z => cb_of z) fun _ _ z => z)
end
open PySem PySem.Spec PySem.Calls PyProof.Rows L2
/-- how arguments come to the parameters, defaults among them -/
def BndI (P : Program) (w : World) (K : PySem.W.Frag) (mg : Str → Option Value) (base : Heap) (CX : CXT) (k : Nat) (x : Str) (C : Addr) (ps : List Str) (sp : Sp) (n : Nat) (ks : List Str) (gV : List V → List V → List V) : Prop :=
  ∃ (f : Addr) (fd : FuncData) (g : List Value → List Value → List Value), Mk K C f ∧ mg x = some (.ref C) ∧ FnG P w K mg base CX k f fd ps sp ∧ KBn K fd ps (n + 1) ks g gV
section
variable {X : Cx} {CX : CXT} {k j n : Nat} {C : Addr} {ps ks : List Str} {sp : Sp} {E : XK} {x : Str} {p pos : Pos} {e : Expr} {es : List Expr} {kws : List Keyword} {t tk : TA} {gV : List V → List V → List V}
theorem run_mk {pins : List (Addr × Obj)} {σ : L2.St} {H : Hp} {s : Shared} {Q : VK} {us ws : List Value} {vs zs : List V} {f : Addr} {fd : FuncData} {g : List Value → List Value → List Value} (M : Mk X.K C f) (F : FnG X.prog X.w X.K X.mg X.base CX k f fd ps sp) (hr : RoomG (k + 1) X.A)
    (hb : KBn X.K fd ps (n + 1) ks g gV) (hx : Passes CX X E) (I : Inv X pins σ H s) (r : Vals vs us) (rz : Vals zs ws) (l1 : vs.length = n) (l2 : zs.length = ks.length)
    (h : ∀ x dx, H x = none → H dx = none → dx ≠ x → sp (gV (.ref x :: vs) zs) (upd (upd H dx (.own x)) x (.ins C dx [])) (fun v H2 => v = .non ∧ Q (.ref x) H2) E) :
    wpAny (model X.prog X.w) X.A (call (.ref C) us (ks.zip ws)) (EP X pins σ Q) X.xe s := by
  have hq := h (s.heap.objs.size + 1) s.heap.objs.size (I.hok.fresh (Nat.le_succ _)) (I.hok.fresh (Nat.le_refl _)) (Nat.ne_of_lt (Nat.lt_succ_self _))
  have I2 := Inv.made (C := C) I
  have r1 : Vals (V.ref (s.heap.objs.size + 1) :: vs) (Value.ref (s.heap.objs.size + 1) :: us) := .cons rfl r
  have r2 := hb.rel r1 rz
  have e1 : (Value.ref (s.heap.objs.size + 1) :: us).length = n + 1 := r1.length.symm.trans (congrArg Nat.succ l1)
  have e2 : ws.length = ks.length := rz.length.symm.trans l2
  refine wpAny_call (make_map (f := f) I.kIn M.makes M.init (beq_iff_eq.mp M.fn) (codeAny_mono (F.run _ X.stack _ _ ⟨Value.ref (s.heap.objs.size + 1) :: us, ks.zip ws⟩ (g (Value.ref (s.heap.objs.size + 1) :: us) ws) _ _ E (hr.make C us (ks.zip ws))
    (I2.env0.make C us (ks.zip ws)) (hb.to _ (Value.ref (s.heap.objs.size + 1) :: us) ws I2.kIn e1 e2) r2 hq) fun r s' hq' => ?_))
  cases r with
  | error e => exact hx pins σ _ _ e s' I2 hq'
  | ok fl =>
    cases fl with
    | ret u =>
      obtain ⟨v, H', I3, rv, ev, q3⟩ := I2.after hq'
      subst ev
      exact ⟨rv, ⟨V.ref (s.heap.objs.size + 1), H', I3, rfl, q3⟩⟩
    | next => exact False.elim hq'
    | brk => exact False.elim hq'
    | cont => exact False.elim hq'
def tMk (C : Addr) (n m : Nat) (sp : Sp) (gV : List V → List V → List V) (E : XK) (t tk : TA) : TE := fun σ H Q => t σ H fun vs H1 => tk σ H1 fun zs H2 => vs.length = n ∧ zs.length = m ∧
  ∀ x dx, H2 x = none → H2 dx = none → dx ≠ x → sp (gV (.ref x :: vs) zs) (upd (upd H2 dx (.own x)) x (.ins C dx [])) (fun v H3 => v = .non ∧ Q (.ref x) H3) E
/-- C(e, .., k = e, ..) -/
theorem pe_mk (c : BndI X.prog X.w X.K X.mg X.base CX k x C ps sp n ks gV) (hr : RoomG j X.A) (hk : k + 1 ≤ j) (hx : Passes CX X E) (hg : Gl X x)
    (ha : PA X (e :: es) t) (hkw : PK X kws tk) (hall : (backToKw pos (keywordEach kws X.env)).all (·.1.isSome) = true := by rfl) (hks : (backToKw pos (keywordEach kws X.env)).filterMap (·.1) = ks := by rfl)
    (hdb : (x == ("__debug__" : Str)) = false := by decide) (he : starEach (e :: es) X.env = (false, eval e X.env) :: starEach es X.env := by rfl)
    (hpl : ((backTo pos (starEach (e :: es) X.env)).any (·.1) || (backToKw pos (keywordEach kws X.env)).any (·.1.isNone)) = false := by rfl) :
    PE X (.Call (.Name x p) (e :: es) kws pos) (tMk C n ks.length sp gV E t tk) := by
  obtain ⟨f, fd, g, M, hm, F, hb⟩ := c
  refine ⟨fun pins s σ H Q I h => wpAny_Call_Name_kw (ld_glob I hg hm ?_ hdb)⟩
  refine PySem.W.callWith_KW (h₀ := X.base) I.ok.mod.kin M.kp hall (thn (ha.run pos pins s σ H _ I h) fun us s1 ⟨vs, H1, I1, r, q⟩ => ?_) hpl he
  refine thn (hkw.run pos pins s1 σ H1 _ I1 q) fun ws s2 ⟨zs, H2, I2, rz, l1, l2, q2⟩ => ⟨I2.kIn, ?_⟩
  rw [hks]
  exact run_mk M F (hr.mono hk) hb hx I2 r rz l1 l2 q2
end
open PySem PySem.Spec PySem.Calls PyProof.Rows L2
section
variable {prog : Program} {w : World} {K : Type} [DecidableEq K] {knd : KeyKind prog w K} {A : Around} {E : Value → Shared → Prop} {s : Shared}
theorem dictPut_pairs {d : Addr} {kvs : List (K × Value)} {k : K} {key v : Value} {Q : Unit → Shared → Prop} (hkey : knd.is k key = true) (hm : s.heap.DictOf knd d kvs)
    (hQ : ∀ h', h'.DictOf knd d (stored kvs k v) → Heap.SameBut d s.heap h' → Q () { s with heap := h' })
    (hsz : kvs.length ≤ sizeLine) : wpAny (model prog w) A (dictPut d (knd.hash k) key v) Q E s := by
  obtain ⟨o, es, ep, ho, hc, hd, hk, hp, hn⟩ := hm
  have hes : es.size ≤ sizeLine := by have e1 := hp.length; have e2 : es.toList.length = es.size := by simp
                                      omega
  unfold dictPut
  refine wpAny_bind (wpAny_dictFind_of hkey ho hd hk ?_)
  have hidx : (es.findIdx? fun e => knd.is k e.key) = kvs.findIdx? fun kv => decide (kv.1 = k) := by
    rw [← hp.findIdx k]; obtain ⟨l⟩ := es; simp
  cases hi : es.findIdx? fun e => knd.is k e.key with
  | some i =>
    refine wpAny_updateDict ho hd (hQ _ ⟨_, _, ep, Heap.get?_update_self _ ho (Obj.isFreed_of_dict (Obj.data_mapDict hd _)),
      hc.mapDict _, Obj.data_mapDict hd _, hk.modify _ _, ?_, ?_⟩ (Heap.SameBut.update ..))
    · rw [stored, if_pos (any_of_findIdx_some (hidx ▸ hi))]
      have hl : (es.toList.findIdx? fun e => knd.is k e.key) = some i := by rw [← hi]; obtain ⟨l⟩ := es; simp
      have := hp.modify hn hl v
      obtain ⟨l⟩ := es
      simpa using this
    · rw [stored, if_pos (any_of_findIdx_some (hidx ▸ hi)), keys_map_store]; exact hn
  | none =>
    have hnot : k ∉ kvs.map (·.1) := not_mem_of_findIdx_none (hidx ▸ hi)
    have hany : ¬ (kvs.any fun kv => decide (kv.1 = k)) = true := by
      rw [List.any_eq_true]; rintro ⟨kv, hkv, he⟩
      exact hnot (List.mem_map.mpr ⟨kv, hkv, of_decide_eq_true he⟩)
    refine wpAny_updateDictKeys (hz := hes) ho hd (hQ _ ⟨_, _, ep + 1, Heap.get?_update_self _ ho (Obj.isFreed_of_dict (Obj.data_mapDictKeys hd _)),
      hc.mapDictKeys _, Obj.data_mapDictKeys hd _, hk.push hkey _, ?_, ?_⟩ (Heap.SameBut.update ..))
    · rw [stored, if_neg hany]
      have := hp.append hkey (knd.hash k) v
      obtain ⟨l⟩ := es
      simpa using this
    · rw [stored, if_neg hany, List.map_append, List.nodup_append]
      refine ⟨hn, by simp, ?_⟩
      intro a ha b hb
      simp only [List.map_cons, List.map_nil, List.mem_singleton] at hb
      subst hb
      exact fun e => hnot (e ▸ ha)
/-- the keys of the dict are told by value -/
theorem merge_map {d o : Addr} {kvs more : List (K × Value)} {Q : Unit → Shared → Prop} (hdo : d ≠ o) (hoS : (o == sysModules) = false) (hd : s.heap.DictOf knd d kvs) (ho : s.heap.DictOf knd o more)
    (href : ∀ (k : K) (v : Value), knd.is k v = true → ∀ a, v ≠ .ref a)
    (hQ : ∀ h', h'.DictOf knd d (merged kvs more) → h'.DictOf knd o more → Heap.SameBut d s.heap h' → Q () { s with heap := h' })
    (hsz : kvs.length + more.length ≤ sizeLine) : wpAny (model prog w) A (mergeMapping d (.ref o) false) Q E s := by
  obtain ⟨od, esd, epd, hod, hcd, hdd, hkd, hpd, hnd⟩ := id hd
  obtain ⟨oo, eso, epo, hoo, hco, hdo', hko, hpo, hno⟩ := id ho
  have hlen : more.length = eso.size := by rw [← hpo.length]; simp
  unfold mergeMapping
  refine wpAny_bind (wpAny_isInstance ho.typeIs isSubtype_dict_dict ?_)
  rw [if_pos rfl]
  refine wpAny_bind (wpAny_specialOf ho.typeIs F.slot_dict_iter.lookup ?_)
  rw [show (some (Value.builtin "dict.__iter__") == some (Value.builtin "dict.__iter__")) = true from rfl]
  refine wpAny_bind (wpAny_pure ?_)
  dsimp only
  rw [if_neg (show ¬ (o == sysModules) = true by rw [hoS]; exact Bool.false_ne_true)]
  refine wpAny_bind (wpAny_dictEntries hod hdd ?_)
  have loop : ∀ s1 : Shared, s1 = s → wpAny (model prog w) A (do
      let l ← dictEntries o
      let epoch ← dictEpoch o
      forIn (List.range l.size) PUnit.unit fun i (_ : PUnit) => (do
          let l' ← dictEntries o
          match l'[i]? with
            | some e => do
              holding [e.key, e.val] (dictPut d e.hash e.key e.val)
              let ep' ← dictEpoch o
              if (ep' != epoch) = true then do
                  (unsupported "dict.changed-during-merge" : Sem PUnit)
                  pure (ForInStep.yield PUnit.unit)
                else pure (ForInStep.yield PUnit.unit)
            | _ => do
              (unsupported "dict.changed-during-merge" : Sem PUnit)
              pure (ForInStep.yield PUnit.unit) : Sem (ForInStep PUnit))
      pure ()) Q E s1 := by
    intro s1 e1
    subst e1
    refine wpAny_bind (wpAny_dictEntries hoo hdo' ?_)
    refine wpAny_bind (wpAny_dictEpoch hoo hdo' ?_)
    refine wpAny_bind ?_
    rw [List.range_eq_range']
    refine wpAny_forIn_list _
      (fun rest _ s' => ∃ h' i, s' = { s1 with heap := h' } ∧ rest = List.range' i (eso.size - i) ∧ i ≤ eso.size ∧ h'.DictOf knd d (merged kvs (more.take i)) ∧ h'.get? o = some oo ∧ Heap.SameBut d s1.heap h')
      _ ?_ ?_ _ _ ⟨s1.heap, 0, rfl, by simp, Nat.zero_le _, by simpa [merged] using hd, hoo, Heap.SameBut.refl _ _⟩
    · rintro x rest b s' ⟨h', i, rfl, hr, hi, hd', hoo', hs'⟩
      have hlt : i < eso.size := by
        rcases Nat.lt_or_ge i eso.size with h | h
        · exact h
        · rw [Nat.sub_eq_zero_of_le h] at hr; simp at hr
      obtain ⟨rfl, hrest⟩ : x = i ∧ rest = List.range' (i + 1) (eso.size - (i + 1)) := by
        have e : eso.size - i = (eso.size - (i + 1)) + 1 := by omega
        rw [e, List.range'_succ] at hr
        injection hr with h1 h2
        exact ⟨h1, h2⟩
      refine wpAny_bind (wpAny_dictEntries hoo' hdo' ?_)
      rw [Array.getElem?_eq_getElem hlt]
      obtain ⟨kv, hkv⟩ : ∃ kv, more[x]? = some kv := ⟨more[x]'(by rw [hlen]; exact hlt), List.getElem?_eq_getElem _⟩
      obtain ⟨k, v⟩ := kv
      obtain ⟨hkey, hval⟩ := hpo.get? (e := eso[x]) (by simp [hlt]) hkv
      obtain ⟨k', hkey', hhash⟩ := hko eso[x] (Array.getElem_mem hlt)
      obtain rfl : k' = k := knd.inj _ _ _ hkey' hkey
      show wpAny _ _ (holding [eso[x].key, eso[x].val] (dictPut d eso[x].hash eso[x].key eso[x].val) >>= _) _ _ _
      rw [hhash, hval]
      have hmx : (merged kvs (more.take x)).length ≤ sizeLine := by
        have e1 := merged_length_le kvs (more.take x)
        have e2 : (more.take x).length ≤ more.length := by rw [List.length_take]; omega
        omega
      refine wpAny_bind (wpAny_holding (dictPut_pairs (hsz := hmx) hkey hd' fun h'' hd'' hs'' => ?_))
      have hoo'' : h''.get? o = some oo := (hs''.2 o (Ne.symm hdo)).trans hoo'
      refine wpAny_bind (wpAny_dictEpoch hoo'' hdo' ?_)
      rw [if_neg (by simp)]
      exact wpAny_pure ⟨h'', x + 1, rfl, hrest, hlt, by rw [merged_take_succ kvs more x (k', v) hkv]; exact hd'', hoo'', hs'.trans hs''⟩
    · rintro b s' ⟨h', i, rfl, hr, hi, hd', hoo', hs'⟩
      have hin : i = eso.size := by
        rcases Nat.lt_or_ge i eso.size with h | h
        · have e : eso.size - i = (eso.size - (i + 1)) + 1 := by omega
          rw [e, List.range'_succ] at hr; exact nomatch hr
        · exact Nat.le_antisymm hi h
      refine wpAny_pure (hQ h' ?_ ⟨oo, eso, epo, hoo', hco, hdo', hko, hpo, hno⟩ hs')
      rw [hin, ← hlen, List.take_length] at hd'; exact hd'
  split
  · refine wpAny_bind (wpAny_dictEntries hoo hdo' ?_)
    have hloop : (forIn eso PUnit.unit fun e (_ : PUnit) => (match e.key with
          | Value.ref a => do
            let lk ← specialOf e.key (Str.ofString "__eq__")
            if (lk != some (Value.builtin "object.__eq__")) = true then
                if (Array.filter (fun x => x.hash == e.hash) eso).size > 1 then do
                  (unsupported "dict.merge-into-an-empty-dict:keys-of-equal-hash" : Sem PUnit)
                  pure (ForInStep.yield PUnit.unit)
                else pure (ForInStep.yield PUnit.unit)
              else pure (ForInStep.yield PUnit.unit)
          | x => pure (ForInStep.yield PUnit.unit) : Sem (ForInStep PUnit))) = pure PUnit.unit := by
      rw [← Array.forIn_toList]
      refine forIn_yield_id _ fun e he c => ?_
      obtain ⟨k, hkey, _⟩ := hko e (Array.mem_toList_iff.mp he)
      have hn := href k e.key hkey
      split
      · rename_i a q
        exact absurd q (hn a)
      · rfl
    refine wpAny_bind (wpAny_of_eq hloop ?_)
    exact loop s rfl
  · exact loop s rfl
end
open PySem PySem.Spec PySem.Calls PyProof.Rows L2
section
variable {prog : Program} {w : World} {A : Around} {s : Shared} {K : Type} [DecidableEq K] {knd : KeyKind prog w K}
theorem wp_onR {M : Model} {α : Type} {t : Sem α} {h : Value → Sem Unit} {Q : α → Shared → Prop} {E : Value → Shared → Prop} (ht : wpAny M A t Q (fun _ _ => False) s) : wpAny M A (t.onRaise h) Q E s :=
  wpAny_onRaise (wpAny_mono ht (fun _ _ z => z) fun _ _ z => z.elim)
theorem wp_tryC {M : Model} {α : Type} {t : Sem α} {h : Value → Sem α} {Q : α → Shared → Prop} {E : Value → Shared → Prop} (ht : wpAny M A t Q (fun _ _ => False) s) : wpAny M A (t.tryCatch h) Q E s :=
  wpAny_tryCatch (wpAny_mono ht (fun _ _ z => z) fun _ _ z => z.elim)
/-- the dict at o into the one at d -/
def Mrg1 (knd : KeyKind prog w K) (d : Addr) (s : Shared) (o : Addr) (Q : Shared → Prop) : Prop :=
  ∃ kvs more, d ≠ o ∧ (o == sysModules) = false ∧ s.heap.DictOf knd d kvs ∧ s.heap.DictOf knd o more ∧ kvs.length + more.length ≤ sizeLine ∧ ∀ h', h'.DictOf knd d (merged kvs more) → Heap.SameBut d s.heap h' → Q { s with heap := h' }
theorem mrg1_run {d o : Addr} {Q : Shared → Prop} {E : Value → Shared → Prop} (href : ∀ (k : K) (v : Value), knd.is k v = true → ∀ a, v ≠ .ref a) (h : Mrg1 knd d s o Q) : wpAny (model prog w) A (mergeMapping d (.ref o) false) (fun _ => Q) E s := by
  obtain ⟨kvs, more, h1, h2, h3, h4, h5, h6⟩ := h
  exact merge_map h1 h2 h3 h4 href (fun h' a _ c => h6 h' a c) h5
theorem disp_star2 {m m2 : Sem Value} {E : Value → Shared → Prop} {Q : Value → Shared → Prop} (href : ∀ (k : K) (v : Value), knd.is k v = true → ∀ a, v ≠ .ref a)
    (hx : wpAny (model prog w) A m (fun x s1 => ∃ o, x = .ref o ∧ Mrg1 knd s.heap.objs.size s1 o fun s2 => wpAny (model prog w) A m2 (fun y s3 => ∃ b, y = .ref b ∧ Mrg1 knd s.heap.objs.size s3 b fun s4 => Q (.ref s.heap.objs.size) s4) E s2) E
      { s with heap := s.heap.push { cls := .type "dict", data := .dict #[] } }) : wpAny (model prog w) A (dictDisplay [(none, m), (none, m2)]) Q E s := by
  unfold dictDisplay
  dsimp only
  simp only [List.forIn_cons, List.forIn_nil, List.isEmpty_nil, if_true, pure_bind]
  refine wpAny_bind (wpAny_bind (wpAny_bind (wpAny_alloc ?_)))
  refine wpAny_bind (wpAny_holding (wpAny_mono hx (fun x s1 z => ?_) fun _ _ z => z))
  obtain ⟨o, rfl, z⟩ := z
  refine wpAny_bind (wp_onR (wp_tryC (wp_onR (wpAny_holding (wpAny_mono (mrg1_run href z) (fun _ s2 z2 => ?_) fun _ _ z => z)))))
  refine wpAny_pure ?_
  simp only [List.isEmpty_nil, if_true, pure_bind]
  refine wpAny_bind (wpAny_bind (wpAny_holding (wpAny_mono z2 (fun y s3 z3 => ?_) fun _ _ z => z)))
  obtain ⟨b, rfl, z3⟩ := z3
  refine wpAny_bind (wp_onR (wp_tryC (wp_onR (wpAny_holding (wpAny_mono (mrg1_run href z3) (fun _ s4 z4 => ?_) fun _ _ z => z)))))
  refine wpAny_pure ?_
  exact wpAny_pure (wpAny_pure z4)
end
theorem szl1 : 1 ≤ sizeLine := by rw [sizeLine_eq]; decide
theorem mix_href {P : Program} {w : World} (k : Key) (v : Value) (h : (mixKind P w).is k v = true) (a : Addr) : v ≠ .ref a := by
  rcases keyIs_shape (k := k) (v := v) h with ⟨i, t, _, e⟩ | ⟨i, t, _, e⟩ <;> (rw [e]; intro z; cases z)
section
variable {X : Cx} {pins : List (Addr × Obj)} {σ : L2.St} {H : Hp} {s : Shared}
/-- one merging -/
theorem mrg_lay {d o : Addr} {kvs more : List (Key × V)} {Q : Shared → Prop} (I : Inv X pins σ H s) (hd : H d = some (.dK kvs)) (ho : Rd H o (.dK more)) (hne : d ≠ o) (hz : kvs.length + more.length ≤ sizeLine)
    (hq : ∀ s', Inv X pins σ (upd H d (.dK (mergeK kvs more))) s' → Q s') : Mrg1 (mixKind X.prog X.w) d s o Q := by
  obtain ⟨z1, l1, vs1, r1, d1⟩ := dk_of I.hok hd
  obtain ⟨z2, l2, vs2, r2, d2⟩ := dk_rd I.hok ho
  refine ⟨vs1, vs2, hne, l2, d1, d2, by rw [← r1.length, ← r2.length]; exact hz, fun h' dd hs => hq _ ?_⟩
  have he : ∃ q, h'.get? d = some q := let ⟨q, _, _, hq, _⟩ := dd; ⟨q, hq⟩
  exact d_write I (by rw [hd]; exact True.intro) hs he (dk_new (Nat.le_trans (length_mergeK more kvs) hz) l1 (r2.merge r1) dd)
end
section
variable {X : Cx} {pos : Pos} {e1 e2 k v : Expr} {t1 t2 tk tv : TE}
def tStar2 (t1 t2 : TE) : TE := fun σ H Q => ∀ d, H d = none → t1 σ (upd H d (.dK [])) fun x H1 => ∃ a more, x = .ref a ∧ d ≠ a ∧ H1 d = some (.dK []) ∧ Rd H1 a (.dK more) ∧
  t2 σ (upd H1 d (.dK (mergeK [] more))) fun y H2 => ∃ b kvs more2, y = .ref b ∧ d ≠ b ∧ H2 d = some (.dK kvs) ∧ Rd H2 b (.dK more2) ∧ kvs.length + more2.length ≤ sizeLine ∧ Q (.ref d) (upd H2 d (.dK (mergeK kvs more2)))
theorem pe_star2 (h1 : PE X e1 t1) (h2 : PE X e2 t2) : PE X (.Dict [none, none] [e1, e2] pos) (tStar2 t1 t2) := by
  refine ⟨fun pins s σ H Q I q => ?_⟩
  rw [arm_eval_Dict]
  refine wpAny_bind (wpAny_standAt ?_)
  show wpAny _ _ (dictDisplay [(none, do let x ← eval e1 X.env; standAt pos; pure x), (none, do let x ← eval e2 X.env; standAt pos; pure x)]) _ _ _
  have hn := I.hok.fresh (Nat.le_refl s.heap.objs.size)
  have I1 := I.laid (a := s.heap.objs.size) (o := .dK []) (h' := s.heap.push { cls := .type "dict", data := .dict #[] }) (t' := s.toks) (fun _ _ q => Heap.get?_push_of_some _ q) (Nat.le_refl _) (dk_empty s.heap I.big)
  refine disp_star2 (knd := mixKind X.prog X.w) mix_href (wpAny_bind (thn (h1.run pins _ σ _ _ I1 (q _ hn)) fun u s1 ⟨x, H1, I2, rx, a, more, ex, hne, hd, hr, q2⟩ => wpAny_bind (wpAny_standAt (wpAny_pure ?_))))
  subst ex
  obtain rfl : u = Value.ref a := rx
  have hz0 : more.length ≤ sizeLine := (dk_rd I2.hok hr).1
  refine ⟨a, rfl, mrg_lay I2 hd hr hne (by rw [List.length_nil, Nat.zero_add]; exact hz0) fun s2 I3 => ?_⟩
  refine wpAny_bind (thn (h2.run pins _ σ _ _ I3 q2) fun u2 s3 ⟨y, H2, I4, ry, b, kvs, more2, ey, hne2, hd2, hr2, hz2, q3⟩ => wpAny_bind (wpAny_standAt (wpAny_pure ?_)))
  subst ey
  obtain rfl : u2 = Value.ref b := ry
  exact ⟨b, rfl, mrg_lay I4 hd2 hr2 hne2 hz2 fun s6 I7 => ⟨.ref s.heap.objs.size, _, I7, rfl, q3⟩⟩
end
open PySem PySem.Spec PyProof.Rows
open L2 hiding pass0
open PySem PySem.Spec PySem.Calls PyProof.Rows
open L2 hiding pass0
def iSeqA (K : PySem.W.Frag) (tl : TE) : TI := fun σ H R => tl σ H fun x H1 => ∃ a xs, x = .ref a ∧ ((SqL K H1 a xs ∧ R (Itl K a) H1) ∨ (SqT K H1 a xs ∧ R (Itt K a) H1))
theorem pi_seqA {X : Cx} {tg l : Expr} {tl : TE} (hl : PE X l tl) : PI X tg l (iSeqA X.K tl) := by
  refine ⟨fun pn s σ H R I h => ?_⟩
  refine thn (hl.run pn s σ H _ I h) fun v s1 ⟨x, H1, I1, rx, a, xs, ex, q1⟩ => ?_
  subst ex
  cases rx
  rcases q1 with ⟨hq, q⟩ | ⟨hq, q⟩
  · obtain ⟨its, rv, hp, hz⟩ := I1.list hq
    refine wpAny_pyIter_list hp.isList ?_
    exact ⟨s1.heap.objs.size, [s1.heap.objs.size], _, _, H1, rfl, I1.kept (t' := s1.toks) fun b o e => Heap.get?_push_of_some _ e, turn_list a _, ⟨_, Heap.get?_push_size _ rfl, rfl, rfl⟩, fun b hb => (List.mem_singleton.mp hb) ▸ I1.fpOk (Nat.le_refl _) (I1.hok.fresh (Nat.le_refl _)), q⟩
  · obtain ⟨its, rv, hp, hz⟩ := I1.tuple hq
    refine wpAny_pyIter_tuple (show s1.heap.IsTuple a its.toArray from hp) ?_
    exact ⟨s1.heap.objs.size, [s1.heap.objs.size], _, _, H1, rfl, I1.kept (t' := s1.toks) fun b o e => Heap.get?_push_of_some _ e, turn_tuple a _, ⟨_, Heap.get?_push_size _ rfl, rfl, rfl⟩, fun b hb => (List.mem_singleton.mp hb) ▸ I1.fpOk (Nat.le_refl _) (I1.hok.fresh (Nat.le_refl _)), q⟩
theorem pi_seqAK {X : Cx} {K : PySem.W.Frag} {tg l : Expr} {tl : TE} (e : X.K = K) (hl : PE X l tl) : PI X tg l (iSeqA K tl) := by subst e; exact pi_seqA hl
def BndF (P : Program) (w : World) (K : PySem.W.Frag) (mg : Str → Option Value) (base : Heap) (CX : CXT) (k : Nat) (x : Str) (ps : List Str) (sp : Sp) (n : Nat) (ks : List Str) (gV : List V → List V → List V) : Prop :=
  ∃ (f : Addr) (fd : FuncData) (g : List Value → List Value → List Value), PySem.W.keepIn K (.ref f) = true ∧ mg x = some (.ref f) ∧ FnG P w K mg base CX k f fd ps sp ∧ KBn K fd ps n ks g gV
section
variable {X : Cx} {CX : CXT} {k j n : Nat} {ps ks : List Str} {sp : Sp} {E : XK} {x : Str} {p pos : Pos} {e : Expr} {es : List Expr} {kws : List Keyword} {t tk : TA} {gV : List V → List V → List V}
theorem run_f {pn : List (Addr × Obj)} {σ : L2.St} {H : Hp} {s : Shared} {Q : VK} {us ws : List Value} {vs zs : List V} {f : Addr} {fd : FuncData} {g : List Value → List Value → List Value} (F : FnG X.prog X.w X.K X.mg X.base CX k f fd ps sp) (hr : RoomG k X.A)
    (hb : KBn X.K fd ps n ks g gV) (hx : Passes CX X E) (I : Inv X pn σ H s) (r : Vals vs us) (rz : Vals zs ws) (l1 : vs.length = n) (l2 : zs.length = ks.length) (h : sp (gV vs zs) H Q E) :
    wpAny (model X.prog X.w) X.A (call (.ref f) us (ks.zip ws)) (EP X pn σ Q) X.xe s := by
  have b := hb.to s us ws I.kIn (r.length.symm.trans l1) (rz.length.symm.trans l2)
  refine wpAny_call (codeAny_mono (F.run X.A X.stack s H ⟨us, ks.zip ws⟩ (g us ws) (gV vs zs) Q E hr I.env0 b (hb.rel r rz) h) fun y s' z => ?_)
  match y, z with
  | .error er, z => exact hx pn σ H s er s' I z
  | .ok (.ret u), z => exact I.after z
  | .ok .next, z => exact z.elim
  | .ok .brk, z => exact z.elim
  | .ok .cont, z => exact z.elim
def tF (n m : Nat) (sp : Sp) (gV : List V → List V → List V) (E : XK) (t tk : TA) : TE := fun σ H Q => t σ H fun vs H1 => tk σ H1 fun zs H2 => vs.length = n ∧ zs.length = m ∧ sp (gV vs zs) H2 Q E
/-- x(e, .., k = e, ..) -/
theorem pe_f (c : BndF X.prog X.w X.K X.mg X.base CX k x ps sp n ks gV) (hr : RoomG j X.A) (hk : k ≤ j) (hx : Passes CX X E) (hg : Gl X x) (ha : PA X (e :: es) t) (hkw : PK X kws tk)
    (hall : (backToKw pos (keywordEach kws X.env)).all (·.1.isSome) = true := by rfl) (hks : (backToKw pos (keywordEach kws X.env)).filterMap (·.1) = ks := by rfl)
    (hdb : (x == ("__debug__" : Str)) = false := by decide) (he : starEach (e :: es) X.env = (false, eval e X.env) :: starEach es X.env := by rfl)
    (hpl : ((backTo pos (starEach (e :: es) X.env)).any (·.1) || (backToKw pos (keywordEach kws X.env)).any (·.1.isNone)) = false := by rfl) :
    PE X (.Call (.Name x p) (e :: es) kws pos) (tF n ks.length sp gV E t tk) := by
  obtain ⟨f, fd, g, kp, hm, F, hb⟩ := c
  refine ⟨fun pn s σ H Q I h => wpAny_Call_Name_kw (ld_glob I hg hm ?_ hdb)⟩
  refine PySem.W.callWith_KW (h₀ := X.base) I.ok.mod.kin kp hall (thn (ha.run pos pn s σ H _ I h) fun us s1 ⟨vs, H1, I1, r, q⟩ => ?_) hpl he
  refine thn (hkw.run pos pn s1 σ H1 _ I1 q) fun ws s2 ⟨zs, H2, I2, rz, l1, l2, q2⟩ => ⟨I2.kIn, ?_⟩
  rw [hks]
  exact run_f F (hr.mono hk) hb hx I2 r rz l1 l2 q2
end
/-- a def whose last parameter has a default: all given -/
theorem bndf_of {P : Program} {w : World} {K : PySem.W.Frag} {mg : Str → Option Value} {base : Heap} {CX : CXT} {k n : Nat} {x q : Str} {params : Arguments} {body : List Stmt} {scope : Scope} {dvs : List V} {f : Addr} {fd : FuncData} {ps ks : List Str} {sp : Sp}
    (F : FunD K x q params body scope dvs [] f fd) (kp : PySem.W.keepIn K (.ref f) = true) (hm : mg x = some (.ref f)) (G : FnG P w K mg base CX k f fd ps sp) (g : {α : Type} → List α → List α → List α → List α) (hd : dvs ≠ [])
    (hrel : ∀ {vs ds zs : List V} {us its ws : List Value}, Vals vs us → Vals ds its → Vals zs ws → Vals (g vs ds zs) (g us its ws))
    (h : ∀ (T : Addr) (kV doc pm : Value) (an : Option Addr) (cdv ct : Value) (us its ws : List Value), us.length = n → its.length = dvs.length → ws.length = ks.length →
      ∃ k, bindArgs (PySem.W.fnOf x q params body scope (.ref T) kV doc pm an cdv ct) ⟨us, ks.zip ws⟩ = seqItems? (.ref T) >>= k ∧ k (some its.toArray) = pure (ps.zip (g us its ws))) :
    BndF P w K mg base CX k x ps sp n ks (fun vs zs => g vs dvs zs) := by
  obtain ⟨its, hb⟩ := F.kbindsD (ps := ps) n ks g hd hrel h
  exact ⟨f, fd, _, kp, hm, G, hb⟩
open PySem PySem.Spec PyProof.Rows
/-- an iterator over a text of small signs -/
abbrev SIt (h : Heap) (it : Addr) (x : Str) (t : Tok) (i : Nat) : Prop := h.IsStrIter it "str_ascii_iterator" x t i
theorem SIt.ext {h h' : Heap} {it b : Addr} {x : Str} {t : Tok} {i : Nat} (a : SIt h it x t i) (e : Heap.ExtBut b h h') (n : it ≠ b) : SIt h' it x t i :=
  let ⟨o, ho, r⟩ := a; ⟨o, e it o n ho, r⟩
section
variable {prog : Program} {w : World} {A : Around} {E : Value → Shared → Prop} {s : Shared}
theorem nextOf_s_item {it : Addr} {x : Str} {t : Tok} {i c : Nat} {Q : Value → Shared → Prop} (hit : SIt s.heap it x t i) (hx : x.cps[i]? = some c)
    (hQ : ∀ h', SIt h' it x t (i + 1) → Heap.SameBut it s.heap h' → Q (.str ⟨#[c]⟩ s.toks) { s with heap := h', toks := s.toks + 1 }) :
    wpAny (model prog w) A (Builtin.SmallTypes.nextOf (.ref it)) Q E s := by
  obtain ⟨o, ho, hc, hd⟩ := id hit
  unfold Builtin.SmallTypes.nextOf
  refine wpAny_bind (wpAny_callSpecial?_slot (name := Str.ofString "__next__") hit.typeIs F.slot_str_ascii_iterator_next (wpAny_call_entry F.slot_str_ascii_iterator_next hit.typeIs F.entry_str_ascii_iterator_next ?_ (F.args_str_ascii_iterator_next_1 _)))
  show wpAny _ _ (field (.ref it) 0 >>= _) _ _ s; refine wpAny_bind (wpAny_field ho hd (x := .str x t) rfl ?_)
  show wpAny _ _ (field (.ref it) 1 >>= _) _ _ s; refine wpAny_bind (wpAny_field ho hd (x := .int i 0) rfl ?_)
  simp only [Int.toNat_natCast, hx]
  refine wpAny_bind (wpAny_setField ho hd (by simp) (wpAny_bind (wpAny_mkStr (wpAny_pure ⟨_, rfl, wpAny_pure (hQ _ ⟨_, Heap.get?_update_self _ ho (Obj.isFreed_of_fields (Obj.data_mapFields hd _)), (Obj.cls_mapFields ..).trans hc, by rw [Obj.data_mapFields hd]; simp [rawInt]⟩ (Heap.SameBut.update ..))⟩) (by show 1 ≤ sizeLine; decide))))
theorem nextOf_s_end {it : Addr} {x : Str} {t : Tok} {i : Nat} {Q : Value → Shared → Prop} (hh : A.handled = none) (hit : SIt s.heap it x t i) (hx : x.cps[i]? = none)
    (hE : ∀ h' e, Heap.ExtBut it s.heap h' → (∃ o, h'.get? e = some o ∧ o.cls = .type "StopIteration") → E (.ref e) { s with heap := h' }) :
    wpAny (model prog w) A (Builtin.SmallTypes.nextOf (.ref it)) Q E s := by
  obtain ⟨o, ho, hc, hd⟩ := id hit
  unfold Builtin.SmallTypes.nextOf
  refine wpAny_bind (wpAny_callSpecial?_slot (name := Str.ofString "__next__") hit.typeIs F.slot_str_ascii_iterator_next (wpAny_call_entry F.slot_str_ascii_iterator_next hit.typeIs F.entry_str_ascii_iterator_next ?_ (F.args_str_ascii_iterator_next_1 _)))
  show wpAny _ _ (field (.ref it) 0 >>= _) _ _ s; refine wpAny_bind (wpAny_field ho hd (x := .str x t) rfl ?_)
  show wpAny _ _ (field (.ref it) 1 >>= _) _ _ s; refine wpAny_bind (wpAny_field ho hd (x := .int i 0) rfl ?_)
  simp only [Int.toNat_natCast, hx]
  refine wpAny_bind (wpAny_rule (wpAny_bind (wpAny_setField ho hd (by simp) (wpAny_bind (wpAny_letGo ?_)))))
  show wpAny _ _ (newExc (.type "StopIteration") [] >>= _) _ _ _; refine wpAny_bind ?_
  simp only [newExc, newTuple]
  refine wpAny_bind (wpAny_newObj_type ?_ (by size_fits)); refine wpAny_bind (m := firstArgMember _ _) (wpAny_of_eq (a := Value.none) (by first | rfl | (simp only [firstArgMember]; rfl)) ?_)
  refine wpAny_newObj_type ?_ (by size_fits); simp only [raiseNew]; refine wpAny_bind (wpAny_handled ?_)
  first | rw [show A.in1.handled = none from hh] | rw [hh]
  refine wpAny_bind (wpAny_pure (wpAny_throw ?_)); exact hE _ _ (((Heap.SameBut.update ..).extBut.push _).push _) ⟨_, Heap.get?_push_size _ rfl, rfl⟩
theorem zipS_next_item {z TI TO i1 i2 l1 l2 : Addr} {k1 k2 c1 c2 : Nat} {x y : Str} {t1 t2 : Tok} {a b : Value} {Q : Value → Shared → Prop} (D : ZipApart z TI TO i1 i2 l1 l2)
    (hz : IsZip s.heap z TI TO .none) (hTI : IsPair s.heap TI (.ref i1) (.ref i2)) (hTO : IsPair s.heap TO a b) (h1 : SIt s.heap i1 x t1 k1) (h2 : SIt s.heap i2 y t2 k2) (hx : x.cps[k1]? = some c1) (hy : y.cps[k2]? = some c2)
    (hQ : ∀ h' u v t, IsZip h' z TI TO (rawInt s.heap.objs.size) → IsPair h' TO (.str ⟨#[c1]⟩ u) (.str ⟨#[c2]⟩ v) → SIt h' i1 x t1 (k1 + 1) → SIt h' i2 y t2 (k2 + 1) → IsPair h' s.heap.objs.size (.str ⟨#[c1]⟩ u) (.str ⟨#[c2]⟩ v) →
      (∀ c o, c ≠ z → c ≠ TO → c ≠ i1 → c ≠ i2 → s.heap.get? c = some o → h'.get? c = some o) → Q (.ref s.heap.objs.size) { s with heap := h', toks := t }) :
    wpAny (model prog w) A (Builtin.«zip.__next__» ⟨[.ref z], []⟩) (fun fin s' => ∃ v, fin = .done (.ret v) ∧ Q v s') E s := by
  show wpAny _ _ (field (.ref z) 2 >>= _) _ _ _; refine wpAny_bind (wpAny_field hz rfl (x := .bool false) rfl ?_)
  show wpAny _ _ (field (.ref z) 3 >>= _) _ _ _; refine wpAny_bind (wpAny_field hz rfl (x := .ref TI) rfl ?_)
  refine wpAny_bind (wpAny_seqItems hTI rfl ?_); show wpAny _ _ (Builtin.SmallTypes.ownedTupleIsFree (.ref z) >>= _) _ _ _; refine wpAny_bind ?_
  unfold Builtin.SmallTypes.ownedTupleIsFree; refine wpAny_bind (wpAny_field hz rfl (x := .none) rfl (wpAny_pure ?_))
  simp only [if_true]; refine wpAny_bind (wpAny_rule ?_); refine wpAny_bind (wpAny_field hz rfl (x := .ref TO) rfl ?_)
  refine wpAny_bind (wpAny_setField_rec hz (by simp) fun h₁ hz₁ hs₁ => ?_); replace hz₁ : IsZip h₁ z TI TO .ellipsis := hz₁
  refine wpAny_bind ?_; simp only [List.zipIdx_cons, List.zipIdx_nil, List.forIn_cons, List.forIn_nil]
  refine wpAny_bind (wpAny_bind (wpAny_onRaise ?_)); show wpAny _ _ (Builtin.SmallTypes.nextOf (.ref i1) >>= _) _ _ _
  refine wpAny_bind (nextOf_s_item (h1.ext hs₁.extBut D.i1z) hx fun h₂ h1₂ hs₂ => wpAny_pure ?_)
  have hTO₂ : IsPair h₂ TO a b := hs₂.extBut _ _ D.TOi1 (hs₁.extBut _ _ D.TOz hTO); refine wpAny_bind (wpAny_seqItems hTO₂ rfl ?_)
  refine wpAny_bind (wpAny_updateSeq_pair hTO₂ fun h₃ hTO₃ hs₃ => ?_); replace hTO₃ : IsPair h₃ TO (.str ⟨#[c1]⟩ s.toks) b := hTO₃
  refine wpAny_bind (wpAny_letGo (wpAny_pure ?_)); refine wpAny_bind (wpAny_bind (wpAny_onRaise ?_)); show wpAny _ _ (Builtin.SmallTypes.nextOf (.ref i2) >>= _) _ _ _
  refine wpAny_bind (nextOf_s_item (((h2.ext hs₁.extBut D.i2z).ext hs₂.extBut D.i12.symm).ext hs₃.extBut D.TOi2.symm) hy fun h₄ h2₄ hs₄ => wpAny_pure ?_)
  have hTO₄ : IsPair h₄ TO (.str ⟨#[c1]⟩ s.toks) b := hs₄.extBut _ _ D.TOi2 hTO₃; refine wpAny_bind (wpAny_seqItems hTO₄ rfl ?_)
  refine wpAny_bind (wpAny_updateSeq_pair hTO₄ fun h₅ hTO₅ hs₅ => ?_); replace hTO₅ : IsPair h₅ TO (.str ⟨#[c1]⟩ s.toks) (.str ⟨#[c2]⟩ (s.toks + 1)) := hTO₅
  refine wpAny_bind (wpAny_letGo (wpAny_pure (wpAny_pure ?_))); refine wpAny_bind (wpAny_seqItems hTO₅ rfl ?_); refine wpAny_bind (wpAny_newTuple ?_)
  have hsz : h₅.objs.size = s.heap.objs.size := by rw [hs₅.1, hs₄.1, hs₃.1, hs₂.1]; exact hs₁.1
  have hz₅ : IsZip h₅ z TI TO .ellipsis := hs₅.extBut _ _ D.TOz.symm (hs₄.extBut _ _ D.i2z.symm (hs₃.extBut _ _ D.TOz.symm (hs₂.extBut _ _ D.i1z.symm hz₁)))
  have hk₅ : ∀ c o, c ≠ z → c ≠ TO → c ≠ i1 → c ≠ i2 → s.heap.get? c = some o → h₅.get? c = some o := fun c o n1 n2 n3 n4 e => hs₅.extBut _ _ n2 (hs₄.extBut _ _ n4 (hs₃.extBut _ _ n2 (hs₂.extBut _ _ n3 (hs₁.extBut _ _ n1 e))))
  have h1₅ : SIt h₅ i1 x t1 (k1 + 1) := ((h1₂.ext hs₃.extBut D.TOi1.symm).ext hs₄.extBut D.i12).ext hs₅.extBut D.TOi1.symm
  have h2₅ : SIt h₅ i2 y t2 (k2 + 1) := h2₄.ext hs₅.extBut D.TOi2.symm
  have hzlt : z < h₅.objs.size := Heap.lt_size hz₅
  show wpAny _ _ (Builtin.SmallTypes.ownedTupleHandOut (.ref z) (.ref h₅.objs.size) >>= _) _ _ _; refine wpAny_bind ?_; unfold Builtin.SmallTypes.ownedTupleHandOut
  have hz₆ : IsZip (h₅.push { cls := .type "tuple", data := .seq #[.str ⟨#[c1]⟩ s.toks, .str ⟨#[c2]⟩ (s.toks + 1)] }) z TI TO .ellipsis := Heap.get?_push_of_some _ hz₅
  refine wpAny_bind (wpAny_setField_rec hz₆ (by simp) fun h₇ hz₇ hs₇ => ?_); replace hz₇ : IsZip h₇ z TI TO (rawInt h₅.objs.size) := hz₇
  refine wpAny_setField_rec hz₇ (by simp) fun h₈ hz₈ hs₈ => ?_; replace hz₈ : IsZip h₈ z TI TO (rawInt h₅.objs.size) := hz₈
  have up : ∀ c o, c ≠ z → h₅.get? c = some o → h₈.get? c = some o := fun c o n e => hs₈.extBut _ _ n (hs₇.extBut _ _ n (Heap.get?_push_of_some _ e))
  have hT₈ : IsPair h₈ h₅.objs.size (.str ⟨#[c1]⟩ s.toks) (.str ⟨#[c2]⟩ (s.toks + 1)) := hs₈.extBut _ _ (Nat.ne_of_gt hzlt) (hs₇.extBut _ _ (Nat.ne_of_gt hzlt) (Heap.get?_push_size _ rfl))
  rw [hsz] at hz₈ hT₈
  refine wpAny_pure ⟨_, rfl, ?_⟩; show Q (.ref h₅.objs.size) _; rw [hsz]
  exact hQ h₈ _ _ _ hz₈ (up _ _ D.TOz hTO₅) (let ⟨o, e, r⟩ := h1₅; ⟨o, up _ o D.i1z e, r⟩) (let ⟨o, e, r⟩ := h2₅; ⟨o, up _ o D.i2z e, r⟩) hT₈ fun c o n1 n2 n3 n4 e => up c o n1 (hk₅ c o n1 n2 n3 n4 e)
theorem zipS_next_end {z TI TO i1 i2 l1 l2 : Addr} {k1 k2 : Nat} {x y : Str} {t1 t2 : Tok} {a b : Value} {Q : Fin → Shared → Prop} (hh : A.handled = none) (D : ZipApart z TI TO i1 i2 l1 l2)
    (hz : IsZip s.heap z TI TO .none) (hTI : IsPair s.heap TI (.ref i1) (.ref i2)) (hTO : IsPair s.heap TO a b) (h1 : SIt s.heap i1 x t1 k1) (h2 : SIt s.heap i2 y t2 k2) (hend : x.cps[k1]? = none ∨ y.cps[k2]? = none)
    (hE : ∀ h' t e, (∀ c o, c ≠ z → c ≠ TO → c ≠ i1 → c ≠ i2 → s.heap.get? c = some o → h'.get? c = some o) → (∃ o, h'.get? e = some o ∧ o.cls = .type "StopIteration") → E (.ref e) { s with heap := h', toks := t }) :
    wpAny (model prog w) A (Builtin.«zip.__next__» ⟨[.ref z], []⟩) Q E s := by
  show wpAny _ _ (field (.ref z) 2 >>= _) _ _ _; refine wpAny_bind (wpAny_field hz rfl (x := .bool false) rfl ?_)
  show wpAny _ _ (field (.ref z) 3 >>= _) _ _ _; refine wpAny_bind (wpAny_field hz rfl (x := .ref TI) rfl ?_)
  refine wpAny_bind (wpAny_seqItems hTI rfl ?_); show wpAny _ _ (Builtin.SmallTypes.ownedTupleIsFree (.ref z) >>= _) _ _ _; refine wpAny_bind ?_
  unfold Builtin.SmallTypes.ownedTupleIsFree; refine wpAny_bind (wpAny_field hz rfl (x := .none) rfl (wpAny_pure ?_))
  simp only [if_true]; refine wpAny_bind (wpAny_rule ?_); refine wpAny_bind (wpAny_field hz rfl (x := .ref TO) rfl ?_)
  refine wpAny_bind (wpAny_setField_rec hz (by simp) fun h₁ hz₁ hs₁ => ?_); replace hz₁ : IsZip h₁ z TI TO .ellipsis := hz₁
  refine wpAny_bind ?_; simp only [List.zipIdx_cons, List.zipIdx_nil, List.forIn_cons, List.forIn_nil]
  refine wpAny_bind (wpAny_bind (wpAny_onRaise ?_)); show wpAny _ _ (Builtin.SmallTypes.nextOf (.ref i1) >>= _) _ _ _
  cases hx : x.cps[k1]? with
  | none =>
    refine wpAny_bind (nextOf_s_end hh (h1.ext hs₁.extBut D.i1z) hx fun h₂ e hs₂ he => ?_); obtain ⟨oe, hoe, hce⟩ := he
    have hz₂ : IsZip h₂ z TI TO .ellipsis := hs₂ _ _ D.i1z.symm hz₁
    have hez : e ≠ z := fun q => by subst q; rw [hz₂] at hoe; cases hoe; simp at hce
    refine wpAny_setField_rec hz₂ (by simp) fun h₃ _ hs₃ => hE h₃ _ e (fun c o n1 _ n3 _ q => hs₃.extBut _ _ n1 (hs₂ _ _ n3 (hs₁.extBut _ _ n1 q))) ⟨oe, hs₃.extBut _ _ hez hoe, hce⟩
  | some c =>
    have hy : y.cps[k2]? = none := by rcases hend with h | h; (rw [hx] at h; cases h); exact h
    refine wpAny_bind (nextOf_s_item (h1.ext hs₁.extBut D.i1z) hx fun h₂ h1₂ hs₂ => wpAny_pure ?_)
    have hTO₂ : IsPair h₂ TO a b := hs₂.extBut _ _ D.TOi1 (hs₁.extBut _ _ D.TOz hTO); refine wpAny_bind (wpAny_seqItems hTO₂ rfl ?_)
    refine wpAny_bind (wpAny_updateSeq_pair hTO₂ fun h₃ hTO₃ hs₃ => ?_); refine wpAny_bind (wpAny_letGo (wpAny_pure ?_)); refine wpAny_bind (wpAny_bind (wpAny_onRaise ?_))
    show wpAny _ _ (Builtin.SmallTypes.nextOf (.ref i2) >>= _) _ _ _
    refine wpAny_bind (nextOf_s_end hh (((h2.ext hs₁.extBut D.i2z).ext hs₂.extBut D.i12.symm).ext hs₃.extBut D.TOi2.symm) hy fun h₄ e hs₄ he => ?_); obtain ⟨oe, hoe, hce⟩ := he
    have hz₄ : IsZip h₄ z TI TO .ellipsis := hs₄ _ _ D.i2z.symm (hs₃.extBut _ _ D.TOz.symm (hs₂.extBut _ _ D.i1z.symm hz₁))
    have hez : e ≠ z := fun q => by subst q; rw [hz₄] at hoe; cases hoe; simp at hce
    refine wpAny_setField_rec hz₄ (by simp) fun h₅ _ hs₅ => hE h₅ _ e (fun c o n1 n2 n3 n4 q => hs₅.extBut _ _ n1 (hs₄ _ _ n4 (hs₃.extBut _ _ n2 (hs₂.extBut _ _ n3 (hs₁.extBut _ _ n1 q))))) ⟨oe, hs₅.extBut _ _ hez hoe, hce⟩
theorem pyNext_zipS_item {z TI TO i1 i2 l1 l2 : Addr} {k1 k2 c1 c2 : Nat} {x y : Str} {t1 t2 : Tok} {a b : Value} {Q : Option Value → Shared → Prop} (D : ZipApart z TI TO i1 i2 l1 l2)
    (hz : IsZip s.heap z TI TO .none) (hTI : IsPair s.heap TI (.ref i1) (.ref i2)) (hTO : IsPair s.heap TO a b) (h1 : SIt s.heap i1 x t1 k1) (h2 : SIt s.heap i2 y t2 k2) (hx : x.cps[k1]? = some c1) (hy : y.cps[k2]? = some c2)
    (hQ : ∀ h' u v t, IsZip h' z TI TO (rawInt s.heap.objs.size) → IsPair h' TO (.str ⟨#[c1]⟩ u) (.str ⟨#[c2]⟩ v) → SIt h' i1 x t1 (k1 + 1) → SIt h' i2 y t2 (k2 + 1) → IsPair h' s.heap.objs.size (.str ⟨#[c1]⟩ u) (.str ⟨#[c2]⟩ v) →
      (∀ c o, c ≠ z → c ≠ TO → c ≠ i1 → c ≠ i2 → s.heap.get? c = some o → h'.get? c = some o) → Q (some (.ref s.heap.objs.size)) { s with heap := h', toks := t }) :
    wpAny (model prog w) A (pyNext (.ref z)) Q E s := by
  have hT : s.TypeIs (.ref z) "zip" := ⟨_, hz, rfl⟩
  unfold pyNext
  exact wpAny_bind (wpAny_attempt (wpAny_callSpecial?_slot (name := Str.ofString "__next__") hT F.slot_zip_next (wpAny_call_entry F.slot_zip_next hT F.entry_zip_next
      (zipS_next_item D hz hTI hTO h1 h2 hx hy fun h' u v t a1 a2 a3 a4 a5 a7 => wpAny_pure (hQ h' u v t a1 a2 a3 a4 a5 a7)) (F.args_zip_next_1 _))))
theorem pyNext_zipS_end {z TI TO i1 i2 l1 l2 : Addr} {k1 k2 : Nat} {x y : Str} {t1 t2 : Tok} {a b : Value} {Q : Option Value → Shared → Prop} (hh : A.handled = none) (D : ZipApart z TI TO i1 i2 l1 l2)
    (hz : IsZip s.heap z TI TO .none) (hTI : IsPair s.heap TI (.ref i1) (.ref i2)) (hTO : IsPair s.heap TO a b) (h1 : SIt s.heap i1 x t1 k1) (h2 : SIt s.heap i2 y t2 k2) (hend : x.cps[k1]? = none ∨ y.cps[k2]? = none)
    (hQ : ∀ h' t, (∀ c o, c ≠ z → c ≠ TO → c ≠ i1 → c ≠ i2 → s.heap.get? c = some o → h'.get? c = some o) → Q none { s with heap := h', toks := t }) : wpAny (model prog w) A (pyNext (.ref z)) Q E s := by
  have hT : s.TypeIs (.ref z) "zip" := ⟨_, hz, rfl⟩
  unfold pyNext
  refine wpAny_bind (wpAny_attempt (wpAny_callSpecial?_slot (name := Str.ofString "__next__") hT F.slot_zip_next (wpAny_call_entry F.slot_zip_next hT F.entry_zip_next
    (zipS_next_end hh D hz hTI hTO h1 h2 hend fun h' t e hk he => ?_) (F.args_zip_next_1 _))))
  obtain ⟨o, ho, hc⟩ := he
  exact wpAny_bind (wpAny_isInstance (T := "StopIteration") (b := true) ⟨o, ho, hc⟩ isSubtype_stop (wpAny_pure (hQ _ _ hk)))
end
abbrev zsH1 (h : Heap) (x : Str) (t : Tok) : Heap := h.push { cls := .type "str_ascii_iterator", data := .fields #[.str x t, .int 0 0] }
abbrev zsH2 (h : Heap) (x y : Str) (t u : Tok) : Heap := (zsH1 h x t).push { cls := .type "str_ascii_iterator", data := .fields #[.str y u, .int 0 0] }
abbrev zsH3 (h : Heap) (x y : Str) (t u : Tok) : Heap := (zsH2 h x y t u).push { cls := .type "tuple", data := .seq #[.ref h.objs.size, .ref (zsH1 h x t).objs.size] }
abbrev zsH4 (h : Heap) (x y : Str) (t u : Tok) : Heap := (zsH3 h x y t u).push { cls := .type "tuple", data := .seq #[.none, .none] }
abbrev zsH5 (h : Heap) (x y : Str) (t u : Tok) : Heap := (zsH4 h x y t u).push { cls := .type "zip", data := .fields #[.none, .bool false, .bool false, .ref (zsH2 h x y t u).objs.size, .ref (zsH3 h x y t u).objs.size] }
theorem meets_zipS (x y : Str) (t u : Tok) (hx : x.cps.all (· < 128) = true) (hy : y.cps.all (· < 128) = true) :
    Meets (Builtin.«zip.__new__» ⟨[.type "zip", .str x t, .str y u], []⟩) (fun _ R s => R (.ok (.ret (.ref (zsH4 s.heap x y t u).objs.size))) { s with heap := zsH5 s.heap x y t u }) :=
  .of_wp fun prog w A R s h => by
    obtain ⟨hp, g, d, tk, os⟩ := s
    have hsub := sub_zip
    wp_walk using wpAny_pyIter_ascii hx, wpAny_pyIter_ascii hy
    exact ⟨_, rfl, h⟩
section
variable {prog : Program} {w : World} {A : Around} {E : Value → Shared → Prop} {s : Shared}
theorem call_zipS {x y : Str} {t u : Tok} {Q : Value → Shared → Prop} (hx : x.cps.all (· < 128) = true) (hy : y.cps.all (· < 128) = true)
    (h : ∀ h', IsZip h' (s.heap.objs.size + 4) (s.heap.objs.size + 2) (s.heap.objs.size + 3) .none → IsPair h' (s.heap.objs.size + 2) (.ref s.heap.objs.size) (.ref (s.heap.objs.size + 1)) →
      IsPair h' (s.heap.objs.size + 3) .none .none → SIt h' s.heap.objs.size x t 0 → SIt h' (s.heap.objs.size + 1) y u 0 → h'.objs.size = s.heap.objs.size + 5 →
      (∀ c o, s.heap.get? c = some o → h'.get? c = some o) → Q (.ref (s.heap.objs.size + 4)) { s with heap := h' }) :
    wpAny (model prog w) A (call (.type "zip") [.str x t, .str y u]) Q E s := by
  refine callType_new F.called_zip (by decide) (F.typeCall_zip_2 _ _) (F.newCall_zip_2 _ _) (fun obj => F.args_object_init_3 obj _ _) F.entry_zip_new (meets_zipS x y t u hx hy) ?_
  have z1 : (zsH1 s.heap x t).objs.size = s.heap.objs.size + 1 := Heap.size_push ..
  have z2 : (zsH2 s.heap x y t u).objs.size = s.heap.objs.size + 2 := by rw [Heap.size_push, z1]
  have z3 : (zsH3 s.heap x y t u).objs.size = s.heap.objs.size + 3 := by rw [Heap.size_push, z2]
  have z4 : (zsH4 s.heap x y t u).objs.size = s.heap.objs.size + 4 := by rw [Heap.size_push, z3]
  have z5 : (zsH5 s.heap x y t u).objs.size = s.heap.objs.size + 5 := by rw [Heap.size_push, z4]
  have g5 : (zsH5 s.heap x y t u).get? (zsH4 s.heap x y t u).objs.size = some _ := Heap.get?_push_size _ rfl
  have g4 : (zsH5 s.heap x y t u).get? (zsH3 s.heap x y t u).objs.size = some _ := Heap.get?_push_of_some _ (Heap.get?_push_size _ rfl)
  have g3 : (zsH5 s.heap x y t u).get? (zsH2 s.heap x y t u).objs.size = some _ := Heap.get?_push_of_some _ (Heap.get?_push_of_some _ (Heap.get?_push_size _ rfl))
  have g2 : (zsH5 s.heap x y t u).get? (zsH1 s.heap x t).objs.size = some _ := Heap.get?_push_of_some _ (Heap.get?_push_of_some _ (Heap.get?_push_of_some _ (Heap.get?_push_size _ rfl)))
  have g1 : (zsH5 s.heap x y t u).get? s.heap.objs.size = some _ := Heap.get?_push_of_some _ (Heap.get?_push_of_some _ (Heap.get?_push_of_some _ (Heap.get?_push_of_some _ (Heap.get?_push_size _ rfl))))
  show _ ∧ _
  rw [z2, z3, z4] at g5
  rw [z1, z2] at g3
  rw [z3] at g4
  rw [z1] at g2
  rw [z4]
  exact ⟨⟨_, g5, rfl⟩, h _ g5 g3 g4 ⟨_, g1, rfl, rfl⟩ ⟨_, g2, rfl, rfl⟩ z5 fun c o q => Heap.get?_push_of_some _ (Heap.get?_push_of_some _ (Heap.get?_push_of_some _ (Heap.get?_push_of_some _ (Heap.get?_push_of_some _ q))))⟩
end
open PySem PySem.Spec PyProof.Rows
open L2
def ItzS (x y : Str) : It :=
  ⟨fun i _ => i < x.cps.size ∧ i < y.cps.size, fun i H v H' => ∃ T c d, v = .ref T ∧ H T = none ∧ H' = upd H T (.tup [.str ⟨#[c]⟩, .str ⟨#[d]⟩]) ∧ x.cps[i]? = some c ∧ y.cps[i]? = some d, fun i _ => x.cps.size ≤ i ∨ y.cps.size ≤ i⟩
theorem apartS (I : Nat) : ZipApart (I + 4) (I + 2) (I + 3) I (I + 1) (I + 2) (I + 2) := by constructor <;> (show ¬ ((_ : Nat) = _); omega)
theorem turn_zipS {P : Program} {w : World} {K : PySem.W.Frag} {elts : List Expr} {kk : Nat} {tpos : Pos} {x y : Str} {t1 t2 : Tok} {a b z TI TO i1 i2 : Addr} (D : ZipApart z TI TO i1 i2 a b) :
    Turn P w K (.Tuple elts kk tpos) (ItzS x y) [z, TI, TO, i1, i2] z (fun i h => IsZip h z TI TO .none ∧ IsPair h TI (.ref i1) (.ref i2) ∧ (∃ x y, IsPair h TO x y) ∧ SIt h i1 x t1 i ∧ SIt h i2 y t2 i) where
  mem := by simp
  obj := fun i h st c hc => by
    obtain ⟨hz, hTI, ⟨u, v, hTO⟩, ⟨o1, e1, _, d1⟩, ⟨o2, e2, _, d2⟩⟩ := st
    have e' : c = z ∨ c = TI ∨ c = TO ∨ c = i1 ∨ c = i2 := by simpa using hc
    rcases e' with q | q | q | q | q <;> rw [q]
    · exact ⟨_, hz, fun v q => nomatch q⟩
    · exact ⟨_, hTI, fun v q => nomatch q⟩
    · exact ⟨_, hTO, fun v q => nomatch q⟩
    · exact ⟨o1, e1, fun v q => by rw [d1] at q; cases q⟩
    · exact ⟨o2, e2, fun v q => by rw [d2] at q; cases q⟩
  keep := fun i h h' st k => by
    obtain ⟨hz, hTI, ⟨u, v, hTO⟩, ⟨o1, e1, r1⟩, ⟨o2, e2, r2⟩⟩ := st
    exact ⟨k z (by simp) _ hz, k TI (by simp) _ hTI, ⟨u, v, k TO (by simp) _ hTO⟩, ⟨o1, k i1 (by simp) _ e1, r1⟩, ⟨o2, k i2 (by simp) _ e2, r2⟩⟩
  item := by
    intro X hP hw hK hc i pins s σ H E I hf st hg
    subst hP hw hK
    obtain ⟨hz, hTI, ⟨x0, y0, hTO⟩, h1, h2⟩ := st
    obtain ⟨lx, ly⟩ := hg
    have hx : x.cps[i]? = some x.cps[i] := Array.getElem?_eq_getElem lx
    have hy : y.cps[i]? = some y.cps[i] := Array.getElem?_eq_getElem ly
    have hzl : z < s.heap.objs.size := Heap.lt_size hz
    refine pyNext_zipS_item D hz hTI hTO h1 h2 hx hy fun h' u v t z' TO' h1' h2' hT hk => ?_
    refine ⟨_, rfl, wpAny_letOwnedTupleGo_zip (s := { s with heap := h', toks := t }) z' fun h'' z'' sb => ?_⟩
    have hT2 : h''.get? s.heap.objs.size = some { cls := .type "tuple", data := .seq #[.str ⟨#[x.cps[i]]⟩ u, .str ⟨#[y.cps[i]]⟩ v] } := (sb.2 _ (Nat.ne_of_gt hzl)).trans hT
    have new : ObjOk X.prog X.w (upd H s.heap.objs.size (.tup [.str ⟨#[x.cps[i]]⟩, .str ⟨#[y.cps[i]]⟩])) h'' s.heap.objs.size (.tup [.str ⟨#[x.cps[i]]⟩, .str ⟨#[y.cps[i]]⟩]) :=
      ⟨by show 2 ≤ sizeLine; decide, [.str ⟨#[x.cps[i]]⟩ u, .str ⟨#[y.cps[i]]⟩ v], .cons ⟨_, rfl⟩ (.cons ⟨_, rfl⟩ .nil), ⟨_, hT2, rfl, _, rfl⟩⟩
    have I1 : Inv X pins σ (upd H s.heap.objs.size (.tup [.str ⟨#[x.cps[i]]⟩, .str ⟨#[y.cps[i]]⟩])) { s with heap := h'', toks := t } :=
      I.turnedNew (t' := t) (ch := [z, TI, TO, i1, i2]) (fun c o hb q => (sb.2 c (fun q' => hb (by simp [q']))).trans (hk c o (fun q' => hb (by simp [q'])) (fun q' => hb (by simp [q'])) (fun q' => hb (by simp [q'])) (fun q' => hb (by simp [q'])) q)) hf (Nat.le_refl _) new
    refine ⟨.ref s.heap.objs.size, _, I1, rfl, ⟨_, _, _, rfl, I.hok.fresh (Nat.le_refl _), rfl, hx, hy⟩, ⟨z'', ?_, ⟨_, _, (sb.2 _ D.TOz).trans TO'⟩, ?_, ?_⟩, fun c hcm => ?_⟩
    · exact (sb.2 _ D.TIz).trans (hk _ _ D.TIz D.TITO D.TIi1 D.TIi2 hTI)
    · exact let ⟨o, e, r⟩ := h1'; ⟨o, (sb.2 _ D.i1z).trans e, r⟩
    · exact let ⟨o, e, r⟩ := h2'; ⟨o, (sb.2 _ D.i2z).trans e, r⟩
    · have hlt : c < s.heap.objs.size := by
        have e' : c = z ∨ c = TI ∨ c = TO ∨ c = i1 ∨ c = i2 := by simpa using hcm
        rcases e' with q | q | q | q | q <;> rw [q]
        · exact hzl
        · exact Heap.lt_size hTI
        · exact Heap.lt_size hTO
        · obtain ⟨_, e1, _⟩ := h1; exact Heap.lt_size e1
        · obtain ⟨_, e2, _⟩ := h2; exact Heap.lt_size e2
      rw [upd_ne (Nat.ne_of_lt hlt)]
      exact (hf c hcm).1
  done := by
    intro X hP hw hK hc i pins s σ H E I hf st hg
    subst hP hw hK
    obtain ⟨hz, hTI, ⟨x0, y0, hTO⟩, h1, h2⟩ := st
    have he : x.cps[i]? = none ∨ y.cps[i]? = none := hg.elim (fun q => .inl (Array.getElem?_eq_none q)) fun q => .inr (Array.getElem?_eq_none q)
    exact pyNext_zipS_end (I.ok.hd hc) D hz hTI hTO h1 h2 he fun h' t hk => ⟨rfl, I.turnedL (t' := t) (ch := [z, TI, TO, i1, i2]) (fun c o hb q =>
      hk c o (fun q' => hb (by simp [q'])) (fun q' => hb (by simp [q'])) (fun q' => hb (by simp [q'])) (fun q' => hb (by simp [q'])) q) hf⟩
  self := fun A i s Q E st h => wpAny_pyIter_zip st.1 h
def SmallS (x : Str) : Prop := x.cps.all (· < 128) = true
def iZipS (ta : TA) : TI := fun σ H R => ta σ H fun vs H1 => ∃ x y, vs = [.str x, .str y] ∧ SmallS x ∧ SmallS y ∧ R (ItzS x y) H1
theorem pi_zipS {X : Cx} {e e2 : Expr} {ta : TA} {p pos tpos : Pos} {elts : List Expr} {kk : Nat} (hg : Gl X "zip") (hm : X.mg "zip" = none) (ha : PA X [e, e2] ta)
    (hs : starEach [e, e2] X.env = (false, eval e X.env) :: starEach [e2] X.env := by rfl) (hpl : (backTo pos (starEach [e2] X.env)).any (·.1) = false := by rfl) :
    PI X (.Tuple elts kk tpos) (.Call (.Name "zip" p) [e, e2] [] pos) (iZipS ta) := by
  refine ⟨fun pins s σ H R I h => ?_⟩
  refine Call_ (ld_blt I hg hm PyProof.Rows.boot_zip (PyProof.Rows.callWith_type1 (thn (ha.run pos pins s σ H _ I h) fun us s1 ⟨vs, H1, I1, r1, q1⟩ => ?_) hs hpl))
  obtain ⟨x, y, ex, hx, hy, q⟩ := q1
  subst ex
  cases r1 with
  | cons r rr =>
    cases rr with
    | cons r' rr =>
      cases rr
      obtain ⟨t, rfl⟩ := r
      obtain ⟨t', rfl⟩ := r'
      refine call_zipS hx hy fun h' hz hTI hTO h1 h2 hsz hk => wpAny_pyIter_zip hz ?_
      have I2 : Inv X pins σ H1 { s1 with heap := h' } := I1.kept (t' := s1.toks) hk
      refine ⟨s1.heap.objs.size + 4, [s1.heap.objs.size + 4, s1.heap.objs.size + 2, s1.heap.objs.size + 3, s1.heap.objs.size, s1.heap.objs.size + 1], _, _, H1, rfl, I2, turn_zipS (apartS s1.heap.objs.size), ⟨hz, hTI, ⟨_, _, hTO⟩, h1, h2⟩, fun c hcm => ?_, q⟩
      have e' : c = s1.heap.objs.size + 4 ∨ c = s1.heap.objs.size + 2 ∨ c = s1.heap.objs.size + 3 ∨ c = s1.heap.objs.size ∨ c = s1.heap.objs.size + 1 := by simpa using hcm
      have hle : s1.heap.objs.size ≤ c := by
        rcases e' with q | q | q | q | q <;> rw [q] <;> first | exact Nat.le_add_right _ _ | exact Nat.le_refl _
      exact I1.fpOk hle (I1.hok.fresh hle)
theorem walk_zipS {x y : Str} : L2.Walk (ItzS x y) (min x.length y.length) (fun _ => True) (fun i H v H' => ∃ T c d, v = .ref T ∧ H T = none ∧ H' = upd H T (.tup [.str ⟨#[c]⟩, .str ⟨#[d]⟩]) ∧ x.cps.toList[i]? = some c ∧ y.cps.toList[i]? = some d) := by
  refine ⟨fun i _ hi _ => ?_, fun _ _ => ?_, fun i H v H' hi _ y => ?_⟩
  · show i < x.length ∧ i < y.length
    omega
  · show x.length ≤ _ ∨ y.length ≤ _
    omega
  · obtain ⟨T, c, d, e1, e2, e3, e4, e5⟩ := y
    exact ⟨T, c, d, e1, e2, e3, by simpa using e4, by simpa using e5⟩
namespace M
def BL (l : List Nat) : Prop := ∀ c ∈ l, c = 48 ∨ c = 49
theorem BL.hd {c : Nat} {l : List Nat} (h : BL (c :: l)) : c = 48 ∨ c = 49 := h c (List.mem_cons_self ..)
theorem BL.app {x y : List Nat} (h : BL x) (k : BL y) : BL (x ++ y) := fun d hd => (List.mem_append.mp hd).elim (h d) (k d)
theorem BL.l {x y : List Nat} (h : BL (x ++ y)) : BL x := fun d hd => h d (List.mem_append_left _ hd)
theorem BL.r {x y : List Nat} (h : BL (x ++ y)) : BL y := fun d hd => h d (List.mem_append_right _ hd)
def size (w : Nat) (t : List Nat) : Nat := 2 ^ (w - t.length)
end M
namespace M
/-- the longest of the beginnings of a up to k signs that is among ts -/
def lgN (ts : List (List Nat)) (a : List Nat) : Nat → List Nat
  | 0 => []
  | k + 1 => if a.take (k + 1) ∈ ts then a.take (k + 1) else lgN ts a k
def lg (ts : List (List Nat)) (a : List Nat) : List Nat := lgN ts a a.length
/-- p is the longest one of ts with which a begins -/
structure IsLg (ts : List (List Nat)) (a p : List Nat) : Prop where
  mem : p ∈ ts
  pre : p <+: a
  top : ∀ q ∈ ts, q <+: a → q.length ≤ p.length
theorem lgN_is {ts : List (List Nat)} {a : List Nat} (h0 : [] ∈ ts) : ∀ k, k ≤ a.length → (∀ q ∈ ts, q <+: a → q.length ≤ k) → IsLg ts a (lgN ts a k)
  | 0, _, h => ⟨h0, List.nil_prefix, h⟩
  | k + 1, hk, h => by
    unfold lgN
    split
    · rename_i hm
      exact ⟨hm, List.take_prefix _ _, fun q hq hp => by rw [List.length_take]; have := h q hq hp; omega⟩
    · rename_i hm
      refine lgN_is h0 k (by omega) fun q hq hp => ?_
      have l := h q hq hp
      by_cases e : q.length = k + 1
      · refine absurd ?_ hm
        rw [← e, ← List.prefix_iff_eq_take.mp hp]
        exact hq
      · omega
theorem lg_is {ts : List (List Nat)} {a : List Nat} (h0 : [] ∈ ts) : IsLg ts a (lg ts a) := lgN_is h0 a.length (Nat.le_refl _) fun q _ hp => hp.length_le
/-- whose cell a stretch lies in, itself left out -/
def par (ts : List (List Nat)) (t : List Nat) : List Nat := lg ts t.dropLast
end M
open PySem PySem.Spec PyProof.Rows L2
def allEq (ks ls : List (Key × V)) : Bool := ks.all fun p => match valV ls p.1 with
  | some v => eqV p.2 v
  | none => false
theorem hits_any {A : Around} {s : Shared} {ls : List (Key × V)} {vb : List (Key × Value)} (rb : KV ls vb) (fl : ∀ p ∈ ls, flatV p.2 = true) {ks : List (Key × V)} {va : List (Key × Value)} (ra : KV ks va) :
    (∀ p ∈ ks, flatV p.2 = true) → PySem.W.KeqHits A s vb va (allEq ks ls) := by
  unfold KV at ra
  induction ra with
  | nil => intro _; exact .nil
  | @cons p q ps qs h t ih =>
    intro hp
    obtain ⟨h1, h2⟩ := h
    obtain ⟨k, v⟩ := q
    have h1' : p.1 = k := h1
    have hv := rb.val p.1
    have ih' := ih fun p' hm => hp p' (List.mem_cons_of_mem _ hm)
    have e : allEq (p :: ps) ls = ((match valV ls p.1 with | some v => eqV p.2 v | none => false) && allEq ps ls) := rfl
    rw [e]
    cases hl : valV ls p.1 with
    | none =>
      rw [hl, h1'] at hv
      have hn : valueAt vb k = none := by
        cases hx : valueAt vb k with
        | none => rfl
        | some y => rw [hx] at hv; cases hv
      exact .miss hn
    | some x =>
      have rr : RelO (some x) (valueAt vb p.1) := by rw [← hl]; exact hv
      obtain ⟨y, hy, ry⟩ := rr.some_of
      rw [h1'] at hy
      have fx : flatV x = true := by
        have hm : ∃ p' ∈ ls, p'.2 = x := by
          unfold valV at hl
          cases hf : ls.find? (fun kv => decide (kv.1 = p.1)) with
          | none => rw [hf] at hl; cases hl
          | some p' =>
            rw [hf] at hl
            exact ⟨p', List.mem_of_find?_eq_some hf, Option.some.inj hl⟩
        obtain ⟨p', hp', rfl⟩ := hm
        exact fl p' hp'
      exact .hit hy (eqAt_V h2 ry (hp p List.mem_cons_self) fx) ih'
section
variable {X : Cx}
def rEqDT : R2 := fun x y H Q => ∃ a b ks ls, x = .ref a ∧ y = .ref b ∧ H a = some (.dK ks) ∧ H b = some (.dK ls) ∧ (∀ p ∈ ks, flatV p.2 = true) ∧ (∀ p ∈ ls, flatV p.2 = true) ∧ Q (.bl (ks.length == ls.length && allEq ks ls)) H
theorem op_eq_dictT (hu : X.A.units < cLine) : OpR X (compareOp .Eq) rEqDT := by
  intro pins s σ H x y v u Q I rx ry h
  obtain ⟨a, b, ks, ls, rfl, rfl, ea, eb, fa, fb, q⟩ := h
  obtain rfl : v = Value.ref a := rx
  obtain rfl : u = Value.ref b := ry
  obtain ⟨_, ya, va, ra, da⟩ := (show ObjOk X.prog X.w H s.heap a (.dK ks) from I.hok a _ ea)
  obtain ⟨_, yb, vb, rb, db⟩ := (show ObjOk X.prog X.w H s.heap b (.dK ls) from I.hok b _ eb)
  have l1 : ks.length = va.length := ra.length
  have l2 : ls.length = vb.length := rb.length
  exact PySem.W.keq_eq (knd := mixKind X.prog X.w) (r := allEq ks ls) ya yb da db hu (fun _ => hits_any rb fb ra fa) (fin_bl I q (by rw [l1, l2]))
end
open PySem PySem.Spec PySem.Calls PyProof.Rows
open L2 hiding pass0
section
variable {X : Cx} {pn : List (Addr × Obj)} {σ : L2.St} {H : Hp} {s : Shared}
theorem star_dk {a : Addr} {kvs : List (Key × V)} {E : Value → Shared → Prop} {Q : List Value → Shared → Prop} (hcalm : X.calm = true) (I : Inv X pn σ H s) (h : Rd H a (.dK kvs))
    (hQ : ∀ us s', Inv X pn σ H s' → Vals (kvs.map fun kv => kV kv.1) us → Q us s') : PySem.W.StarOf (model X.prog X.w) X.A E (.ref a) Q s := by
  obtain ⟨z, lo, ws, rel, dd⟩ := dk_rd I.hok h
  obtain ⟨ep, hat⟩ := dd.dictAt
  have hT : s.TypeIs (.ref a) "dict" := by
    obtain ⟨o, _, e1, e2, _⟩ := hat
    exact ⟨o, e1, e2.1⟩
  have ek : (kvs.map fun kv => kV kv.1) = ws.map fun p => kV p.1 := by
    have e := congrArg (List.map kV) rel.keys
    rwa [List.map_map, List.map_map] at e
  unfold PySem.W.StarOf notIterableAtAll
  refine wpAny_bind (wpAny_specialOf hT PySem.F.slot_dict_iter.lookup (wpAny_pure ⟨rfl, ?_⟩))
  refine PySem.W.kdu_collect (PySem.W.kdl_dict (knd := mixKind X.prog X.w) (kvs := ws) (ep := ep) lo) (I.ok.hd hcalm) hat (by rw [← rel.length]; exact z) fun h' tk acc hk hacc => ?_
  refine hQ _ _ (I.kept hk) ?_
  rw [ek]
  exact keys_at (by rw [Array.length_toList]; exact hacc.1) fun j v e => hacc.2 j v (by rw [← Array.getElem?_toList]; exact e)
end
def tStarD (te : TE) (t : TA) : TA := fun σ H Q => te σ H fun x H1 => ∃ a kvs, x = V.ref a ∧ Rd H1 a (.dK kvs) ∧ t σ H1 fun ys H2 => Q ((kvs.map fun kv => kV kv.1) ++ ys) H2
section
variable {X : Cx} {e : Expr} {es : List Expr} {te : TE} {t : TA} {p : Pos}
theorem pa_starD (hcalm : X.calm = true) (he : PE X e te) (hr : PA X es t) (hs : starEach (.Starred e p :: es) X.env = (true, eval e X.env) :: starEach es X.env := by rfl) : PA X (.Starred e p :: es) (tStarD te t) := by
  refine ⟨fun pos pn s σ H Q I h => ?_⟩
  refine PySem.W.items_star (thn (he.run pn s σ H _ I h) fun v s1 ⟨y, H1, I1, ry, a, kvs, ey, hx, q⟩ => ?_) hs
  subst ey
  obtain rfl : v = Value.ref a := ry
  refine star_dk hcalm I1 hx fun us s2 I2 rv => ?_
  exact thn (hr.run pos pn s2 σ H1 _ I2 q) fun ws s3 ⟨vs, H3, I3, r3, q3⟩ => ⟨_, H3, I3, rv.append r3, q3⟩
end
namespace M
/-- one of them is its beginning -/
def frB (fs : List (List Nat)) (z : List Nat) : Bool := fs.any fun f => decide (f <+: z)
end M
open PySem PySem.Spec PyProof.Rows L2
/-- of bulk at most N, depth at most D -/
structure Fit (N D : Nat) (d : PyData) : Prop where
  lay : d.canLay0 = true
  sh : d.showable = true
  dp : d.depth ≤ D
  ls : d.leavesShort 13 = true
  bk : d.bulk ≤ N
theorem Fit.mono {N D N' D' : Nat} {d : PyData} (h : Fit N D d) (hN : N ≤ N') (hD : D ≤ D') : Fit N' D' d := ⟨h.lay, h.sh, Nat.le_trans h.dp hD, h.ls, Nat.le_trans h.bk hN⟩
theorem Fit.non {N D : Nat} : Fit N D .none := ⟨rfl, rfl, Nat.zero_le _, rfl, Nat.zero_le _⟩
theorem Fit.bool {N D : Nat} (b : Bool) : Fit N D (.bool b) := ⟨rfl, rfl, Nat.zero_le _, rfl, Nat.zero_le _⟩
theorem Fit.str {N D : Nat} {z : Str} (h : ∀ c ∈ z.cps.toList, c < 128) (l : z.length ≤ N) : Fit N D (.str z) := by
  refine ⟨?_, rfl, Nat.zero_le _, ?_, l⟩
  · show (z.cps.all fun c => decide (c < 0x110000)) = true
    refine Array.all_eq_true_iff_forall_mem.mpr fun c hc => decide_eq_true ?_
    have := h c (by simpa using hc)
    omega
  · show (z.cps.toList.all fun c => decide (c < 16 ^ 8)) = true
    exact List.all_eq_true.mpr fun c hc => decide_eq_true (by have := h c hc; have : (128 : Nat) ≤ 16 ^ 8 := by decide
                                                              omega)
theorem Fit.int {N D : Nat} {i : Int} (h : ((PyData.shown (.int i)).length ≤ 13 ∧ i.natAbs < 2 ^ 1000)) : Fit N D (.int i) := by
  refine ⟨rfl, ?_, Nat.zero_le _, decide_eq_true h.1, Nat.zero_le _⟩
  refine decide_eq_true ?_
  rcases Nat.eq_zero_or_pos i.natAbs with e | e
  · rw [e]; decide
  · have := (Nat.log2_lt (by omega)).mpr h.2
    omega
theorem fit_all {N D : Nat} : ∀ {ds : List PyData}, (∀ d ∈ ds, Fit N D d) → PyData.canLayAll0 ds = true ∧ PyData.showableAll ds = true ∧ PyData.depthAll ds ≤ D ∧ PyData.leavesShortAll 13 ds = true ∧ PyData.bulkAll ds ≤ (N + 1) * ds.length
  | [], _ => ⟨by simp only [PyData.canLayAll0], by simp only [PyData.showableAll], by simp only [PyData.depthAll]; omega, by simp only [PyData.leavesShortAll], by simp only [PyData.bulkAll]; omega⟩
  | d :: ds, h => by
    have h1 := h d (List.mem_cons_self ..)
    obtain ⟨a1, a2, a3, a4, a5⟩ := fit_all (ds := ds) fun x hx => h x (List.mem_cons_of_mem _ hx)
    have b3 := h1.dp
    have b5 := h1.bk
    refine ⟨?_, ?_, ?_, ?_, ?_⟩
    · simp only [PyData.canLayAll0, h1.lay, a1, Bool.and_self]
    · simp only [PyData.showableAll, h1.sh, a2, Bool.and_self]
    · simp only [PyData.depthAll]; omega
    · simp only [PyData.leavesShortAll, h1.ls, a4, Bool.and_self]
    · simp only [PyData.bulkAll, List.length_cons]
      rw [Nat.mul_add]
      omega
theorem Fit.list {N D : Nat} {ds : List PyData} (h : ∀ d ∈ ds, Fit N D d) : Fit ((N + 1) * ds.length) (D + 1) (.list ds) := by
  obtain ⟨a1, a2, a3, a4, a5⟩ := fit_all h
  exact ⟨by simpa only [PyData.canLay0] using a1, by simpa only [PyData.showable] using a2, by simp only [PyData.depth]; omega, by simpa only [PyData.leavesShort] using a4, by simpa only [PyData.bulk] using a5⟩
theorem Fit.tuple {N D : Nat} {ds : List PyData} (h : ∀ d ∈ ds, Fit N D d) : Fit ((N + 1) * ds.length) (D + 1) (.tuple ds) := by
  obtain ⟨a1, a2, a3, a4, a5⟩ := fit_all h
  exact ⟨by simpa only [PyData.canLay0] using a1, by simpa only [PyData.showable] using a2, by simp only [PyData.depth]; omega, by simpa only [PyData.leavesShort] using a4, by simpa only [PyData.bulk] using a5⟩
theorem Fit.shp {d : PyData} {N D : Nat} (h : Fit N D d) (hD : D ≤ 50) : SeqAt.shaped d = true := by
  show (d.canLay0 && decide (d.depth ≤ 64)) = true
  rw [h.lay, decide_eq_true (by have := h.dp; omega)]
  rfl
theorem Fit.eqv {d : PyData} {N D : Nat} (h : Fit N D d) : PyData.eqv d d = true := SeqAt.eqv_refl d h.lay
open PySem PySem.Spec PyProof.Rows L2
section
variable {X : Cx}
def rNeDT : R2 := fun x y H Q => ∃ a b ks ls, x = .ref a ∧ y = .ref b ∧ H a = some (.dK ks) ∧ H b = some (.dK ls) ∧ (∀ p ∈ ks, flatV p.2 = true) ∧ (∀ p ∈ ls, flatV p.2 = true) ∧ Q (.bl (!(ks.length == ls.length && allEq ks ls))) H
theorem op_ne_dictT (hu : X.A.units < cLine) : OpR X (compareOp .NotEq) rNeDT := by
  intro pins s σ H x y v u Q I rx ry h
  obtain ⟨a, b, ks, ls, rfl, rfl, ea, eb, fa, fb, q⟩ := h
  obtain rfl : v = Value.ref a := rx
  obtain rfl : u = Value.ref b := ry
  obtain ⟨_, ya, va, ra, da⟩ := (show ObjOk X.prog X.w H s.heap a (.dK ks) from I.hok a _ ea)
  obtain ⟨_, yb, vb, rb, db⟩ := (show ObjOk X.prog X.w H s.heap b (.dK ls) from I.hok b _ eb)
  have l1 : ks.length = va.length := ra.length
  have l2 : ls.length = vb.length := rb.length
  exact PySem.W.keq_ne (knd := mixKind X.prog X.w) (r := allEq ks ls) ya yb da db hu (fun _ => hits_any rb fb ra fa) (fin_bl I q (by rw [l1, l2]))
end
open PySem PySem.Spec PySem.Calls PyProof.Rows
open L2 hiding pass0
section
variable {X : Cx} {K : PySem.W.Frag} {o e : Expr} {es : List Expr} {to : TE} {t : TA} {name : Str} {apos cpos : Pos} {T id : String} {r : V → List V → Hp → VK → Prop}
theorem pe_bmK (eK : X.K = K) (pa : PlainAttrs T) (slot : Slot T name id) (hty : typeOf (.builtin id) = pure (.type "method_descriptor")) (hm : MtR X id r) (ho : PE X o to) (ha : PA X (e :: es) t)
    (hbase : attributeBase o name X.env (eval o X.env) = eval o X.env := by rfl)
    (hfew : ((backTo cpos (starEach (e :: es) X.env)).all (fun x => !x.1) && (backToKw cpos (keywordEach [] X.env)).all (fun x => x.1.isSome)
      && decide ((e :: es).length + ([] : List Keyword).length + (if ([] : List Keyword).isEmpty then 0 else 1) < 30)) = true := by rfl)
    (hline : (apos.endLine == cpos.line) = true := by rfl) (hs : starEach (e :: es) X.env = (false, eval e X.env) :: starEach es X.env := by rfl) (hplain : (backTo cpos (starEach es X.env)).any (·.1) = false := by rfl) :
    PE X (.Call (.Attribute o name apos) (e :: es) [] cpos) (tBM K T r to t) := by
  subst eK
  exact pe_bm pa slot hty hm ho ha hbase hfew hline hs hplain
end
theorem fnG_core0 {P : Program} {w : World} {K : PySem.W.Frag} {mg : Str → Option Value} {base : Heap} {CX : CXT} {f : Addr} {x q : Str} {args : Arguments} {body : List Stmt} {scope : Scope} {oc : Value} {od : Option Addr} {dV kV doc pm cdv ct : Value} {an : Option Addr} {osl : Array (Option Value)} {N ps : List Str} {k : Nat} {sp : Sp}
    (lk : K.lookup f = some ⟨oc, od, .func (PySem.W.fnOf x q args body scope dV kV doc pm an cdv ct), osl⟩) (hcd : PySem.W.codeIn K cdv q = true) (S : FnScope N ps scope) (len : ∀ vs H Q E, sp vs H Q E → vs.length = ps.length)
    (hb : ∀ (A : Around) (outer : List Env) (s : Shared) (H : Hp) (vs : List V) (Q : VK) (E : XK), RoomG k (A.deeper (envOfC q scope s.heap.objs.size f cdv)) → sp vs H Q E →
      ∃ t, PSs (cxOf CX P w K mg base N q scope f cdv A outer s H E).nox body t ∧ t { nx := fun _ H' => Q .non H', rt := Q } (start N vs) H) : FnG P w K mg base CX (k + 1) f (PySem.W.fnOf x q args body scope dV kV doc pm an cdv ct) ps sp := fnG_core lk hcd S len fun A outer s H vs Q E hr h => let ⟨t, h1, h2⟩ := hb A outer s H vs Q E hr h; ⟨t, h1.nox, h2⟩
open PySem PySem.Spec PySem.Calls PyProof.Rows
open L2 hiding pass0
open PySem PySem.Spec PySem.Calls PyProof.Rows
open L2 hiding pass0
open PySem PySem.Spec PySem.Calls PyProof.Rows
open L2 hiding pass0
/-- room, and nothing but lists at as is being shown -/
structure RoomC (k : Nat) (A : Around) (L : Addr) : Prop where
  r : Room k A
  g : ∃ g, A.guards = some g ∧ ∀ b, b ≠ L → Clear g b
/-- as FnG, while the list at L is being shown -/
structure FnC (P : Program) (w : World) (K : PySem.W.Frag) (mg : Str → Option Value) (base : Heap) (CX : CXT) (k : Nat) (L : Addr) (f : Addr) (fd : FuncData) (ps : List Str) (sp : Sp) : Prop where
  len : ∀ vs H Q E, sp vs H Q E → vs.length = ps.length
  run : ∀ (A : Around) (outer : List Env) (s : Shared) (H : Hp) (args : Args) (us : List Value) (vs : List V) (Q : VK) (E : XK),
    RoomC k A L → Env0 P w K mg base A outer s H → BindsTo s fd args (ps.zip us) → Vals vs us → sp vs H Q E → codeAny (model P w) A (.call (.ref f) args) (CR CX outer P w H s Q E) s
theorem RoomC.mono {j k : Nat} {A : Around} {L : Addr} (x : RoomC k A L) (h : j ≤ k) : RoomC j A L := ⟨x.r.mono h, x.g⟩
theorem RoomC.deeper {k : Nat} {A : Around} {L : Addr} (x : RoomC (k + 1) A L) (e : Env) : RoomC k (A.deeper e) L := ⟨x.r.deeper e, x.g⟩
theorem RoomC.ofG {k : Nat} {A : Around} (x : RoomG k A) (L : Addr) : RoomC k A L := ⟨x.r, [], x.g, fun b _ => Clear.nil b⟩
section
variable {P : Program} {w : World} {K : PySem.W.Frag} {mg : Str → Option Value} {base : Heap} {CX : CXT}
theorem FnC.toG {k : Nat} {L f : Addr} {fd : FuncData} {ps : List Str} {sp : Sp} (F : FnC P w K mg base CX k L f fd ps sp) : FnG P w K mg base CX k f fd ps sp :=
  ⟨F.len, fun A outer s H args us vs Q E hr => F.run A outer s H args us vs Q E (.ofG hr L)⟩
end
/-- a method m of the class at C, while the list at L is being shown -/
structure MthC (P : Program) (w : World) (K : PySem.W.Frag) (mg : Str → Option Value) (base : Heap) (CX : CXT) (k : Nat) (C L : Addr) (m q : Str) (st : Stmt) (ps : List Str) (sp : Sp) : Prop where
  ex : ∃ (f : Addr) (fd : FuncData), Fun K m q st f fd ∧ Meth K C m f ∧ PySem.W.fnIn K f = true ∧ FnC P w K mg base CX k L f fd ps sp
theorem MthC.to {P : Program} {w : World} {K : PySem.W.Frag} {mg : Str → Option Value} {base : Heap} {CX : CXT} {k : Nat} {C L : Addr} {m q : Str} {st : Stmt} {ps : List Str} {sp : Sp} (c : MthC P w K mg base CX k C L m q st ps sp) : Mth P w K mg base CX k C m q st ps sp := by
  obtain ⟨f, fd, F, hm, hf, G⟩ := c.ex
  exact ⟨f, fd, F, hm, hf, G.toG⟩
open PySem PySem.Spec PyProof.Rows L2
open PySem PySem.Spec PyProof.Rows L2
theorem fit_kv {N D : Nat} : ∀ {ds : List (PyData × PyData)}, (∀ p ∈ ds, Fit N D p.1 ∧ Fit N D p.2) → PyData.showableKv ds = true ∧ PyData.depthKv ds ≤ D ∧ PyData.leavesShortKv 13 ds = true ∧ PyData.bulkKv ds ≤ (2 * N + 2) * ds.length
  | [], _ => ⟨by simp only [PyData.showableKv], by simp only [PyData.depthKv]; omega, by simp only [PyData.leavesShortKv], by simp only [PyData.bulkKv]; omega⟩
  | (a, b) :: ds, h => by
    obtain ⟨h1, h2⟩ := h (a, b) (List.mem_cons_self ..)
    obtain ⟨a2, a3, a4, a5⟩ := fit_kv (ds := ds) fun x hx => h x (List.mem_cons_of_mem _ hx)
    have b3 := h1.dp
    have b5 := h1.bk
    have c3 := h2.dp
    have c5 := h2.bk
    simp only at b3 b5 c3 c5
    refine ⟨?_, ?_, ?_, ?_⟩
    · simp only [PyData.showableKv, h1.sh, h2.sh, a2, Bool.and_self]
    · simp only [PyData.depthKv]; omega
    · simp only [PyData.leavesShortKv, h1.ls, h2.ls, a4, Bool.and_self]
    · simp only [PyData.bulkKv, List.length_cons]
      rw [Nat.mul_add]
      omega
open PySem PySem.Spec PyProof.Rows L2
/-- a set of goals (none: all of them), a need -/
abbrev SNd := Option (List Str) × Nat
def shr (x y : List Str) : List Str := x.filter fun g => decide (g ∈ y)
def both2 (a b : SNd) : SNd := match a.1, b.1 with
  | none, _ => (b.1, a.2 + b.2)
  | some x, none => (some x, a.2 + b.2)
  | some x, some y => if shr x y = [] then (some (tsort (x ++ y)), a.2 + b.2 + 1) else (some (shr x y), a.2 + b.2)
def SNk (lab : List Nat → Option Str) : Nat → List Nat → SNd
  | 0, t => ((lab t).map fun g => [g], 0)
  | k + 1, t => both2 (SNk lab k (t ++ [48])) (SNk lab k (t ++ [49]))
def inS (s : SNd) (g : Str) : Bool := match s.1 with
  | none => true
  | some x => decide (g ∈ x)
def cst (s : SNd) (g : Str) : Nat := s.2 + if inS s g = true then 0 else 1
theorem both_nl (i : Nat) (b : SNd) : both2 (none, i) b = (b.1, i + b.2) := rfl
theorem both_nr (a : SNd) (j : Nat) : both2 a (none, j) = (a.1, a.2 + j) := by
  obtain ⟨a, i⟩ := a
  cases a <;> rfl
theorem both_ss (x y : List Str) (i j : Nat) : both2 (some x, i) (some y, j) = if shr x y = [] then (some (tsort (x ++ y)), i + j + 1) else (some (shr x y), i + j) := rfl
theorem cst_none (i : Nat) (g : Str) : cst (none, i) g = i := rfl
theorem cst_some (x : List Str) (i : Nat) (g : Str) : cst (some x, i) g = i + if g ∈ x then 0 else 1 := by
  unfold cst inS
  by_cases q : g ∈ x
  · simp [q]
  · simp [q]
theorem cst_low (s : SNd) (g h : Str) : cst s g ≤ cst s h + 1 := by
  unfold cst
  split <;> split <;> omega
theorem cst_need (s : SNd) (g : Str) : s.2 ≤ cst s g := Nat.le_add_right _ _
theorem mem_shr {x y : List Str} {g : Str} : g ∈ shr x y ↔ g ∈ x ∧ g ∈ y := by
  unfold shr
  rw [List.mem_filter, decide_eq_true_iff]
theorem shr_nil {x y : List Str} (h : shr x y = []) (g : Str) : ¬ (g ∈ x ∧ g ∈ y) := fun q => by
  have := mem_shr.mpr q
  rw [h] at this
  cases this
theorem mem_tsort {x : List Str} {g : Str} : g ∈ tsort x ↔ g ∈ x := (tsort_perm x).mem_iff
theorem cst_both (a b : SNd) (g : Str) : cst (both2 a b) g ≤ cst a g + cst b g := by
  obtain ⟨a, i⟩ := a
  obtain ⟨b, j⟩ := b
  cases a with
  | none =>
    rw [both_nl]
    cases b with
    | none => rw [cst_none, cst_none, cst_none]; exact Nat.le_refl _
    | some y => rw [cst_none, cst_some, cst_some]; omega
  | some x =>
    cases b with
    | none => rw [both_nr, cst_none, cst_some, cst_some]; show i + j + _ ≤ _; omega
    | some y =>
      rw [both_ss, cst_some, cst_some]
      by_cases q : shr x y = []
      · rw [if_pos q, cst_some]
        have := shr_nil q g
        by_cases h1 : g ∈ x
        · have h2 : g ∉ y := fun h => this ⟨h1, h⟩
          rw [if_pos (mem_tsort.mpr (List.mem_append_left _ h1)), if_pos h1, if_neg h2]
          omega
        · by_cases h2 : g ∈ y
          · rw [if_pos (mem_tsort.mpr (List.mem_append_right _ h2)), if_neg h1, if_pos h2]
            omega
          · rw [if_neg h1, if_neg h2]
            split <;> omega
      · rw [if_neg q, cst_some]
        by_cases h : g ∈ shr x y
        · rw [if_pos h]
          omega
        · rw [if_neg h]
          have : ¬ (g ∈ x ∧ g ∈ y) := fun q => h (mem_shr.mpr q)
          by_cases h1 : g ∈ x
          · rw [if_neg fun h2 => this ⟨h1, h2⟩]; omega
          · rw [if_neg h1]; omega
theorem both_cst (a b : SNd) (g : Str) : cst a g + cst b g ≤ cst (both2 a b) g ∨ ∃ h, cst a h + cst b h + 1 ≤ cst (both2 a b) g := by
  obtain ⟨a, i⟩ := a
  obtain ⟨b, j⟩ := b
  cases a with
  | none =>
    refine .inl ?_
    rw [both_nl]
    cases b with
    | none => rw [cst_none, cst_none, cst_none]; exact Nat.le_refl _
    | some y => rw [cst_none, cst_some, cst_some]; omega
  | some x =>
    cases b with
    | none => refine .inl ?_; rw [both_nr, cst_none, cst_some, cst_some]; show _ ≤ i + j + _; omega
    | some y =>
      rw [both_ss]
      by_cases q : shr x y = []
      · refine .inl ?_
        rw [if_pos q, cst_some, cst_some, cst_some]
        by_cases h1 : g ∈ x
        · rw [if_pos h1]; split <;> split <;> omega
        · by_cases h2 : g ∈ y
          · rw [if_neg h1, if_pos h2]; split <;> omega
          · have : g ∉ tsort (x ++ y) := fun h => by
              rcases List.mem_append.mp (mem_tsort.mp h) with h | h
              · exact h1 h
              · exact h2 h
            rw [if_neg h1, if_neg h2, if_neg this]
            omega
      · rw [if_neg q]
        by_cases h : g ∈ shr x y
        · refine .inl ?_
          rw [cst_some, cst_some, cst_some, if_pos h, if_pos (mem_shr.mp h).1, if_pos (mem_shr.mp h).2]
          omega
        · refine .inr ?_
          obtain ⟨z, hz⟩ := List.exists_mem_of_ne_nil _ q
          refine ⟨z, ?_⟩
          rw [cst_some, cst_some, cst_some, if_neg h, if_pos (mem_shr.mp hz).1, if_pos (mem_shr.mp hz).2]
          omega
theorem SNk_congr {lab lab' : List Nat → Option Str} : ∀ {k : Nat} {t : List Nat}, (∀ y, M.BL y → y.length = k → lab (t ++ y) = lab' (t ++ y)) → SNk lab k t = SNk lab' k t
  | 0, t, h => by
    have := h [] (fun c hc => by cases hc) rfl
    rw [List.append_nil] at this
    unfold SNk
    rw [this]
  | k + 1, t, h => by
    unfold SNk
    have st : ∀ b : Nat, b = 48 ∨ b = 49 → SNk lab k (t ++ [b]) = SNk lab' k (t ++ [b]) := fun b hb => SNk_congr fun y hy ly => by
      rw [List.append_assoc]
      refine h ([b] ++ y) (fun c hc => ?_) (by rw [List.length_append, ly]; show 1 + k = _; omega)
      rcases List.mem_append.mp hc with q | q
      · rw [List.mem_singleton] at q
        rw [q]; exact hb
      · exact hy c q
    rw [st 48 (.inl rfl), st 49 (.inr rfl)]
theorem SNk_even {lab : List Nat → Option Str} {o : Option Str} : ∀ {k : Nat} {t : List Nat}, (∀ y, M.BL y → y.length = k → lab (t ++ y) = o) → SNk lab k t = (o.map fun g => [g], 0)
  | 0, t, h => by
    have := h [] (fun c hc => by cases hc) rfl
    rw [List.append_nil] at this
    unfold SNk
    rw [this]
  | k + 1, t, h => by
    unfold SNk
    have st : ∀ b : Nat, b = 48 ∨ b = 49 → SNk lab k (t ++ [b]) = (o.map fun g => [g], 0) := fun b hb => SNk_even fun y hy ly => by
      rw [List.append_assoc]
      refine h ([b] ++ y) (fun c hc => ?_) (by rw [List.length_append, ly]; show 1 + k = _; omega)
      rcases List.mem_append.mp hc with q | q
      · rw [List.mem_singleton] at q
        rw [q]; exact hb
      · exact hy c q
    rw [st 48 (.inl rfl), st 49 (.inr rfl)]
    cases o with
    | none => rfl
    | some g =>
      show both2 (some [g], 0) (some [g], 0) = _
      rw [both_ss]
      have e : shr [g] [g] = [g] := by unfold shr; simp
      rw [e, if_neg (by simp)]
      rfl
/-- freed addresses want no more -/
theorem SNk_free {lab lab' : List Nat → Option Str} : ∀ {k : Nat} {t : List Nat}, (∀ y, M.BL y → y.length = k → lab' (t ++ y) = lab (t ++ y) ∨ lab' (t ++ y) = none) → ∀ g, cst (SNk lab' k t) g ≤ cst (SNk lab k t) g
  | 0, t, h, g => by
    have := h [] (fun c hc => by cases hc) rfl
    rw [List.append_nil] at this
    unfold SNk
    rcases this with e | e
    · rw [e]; exact Nat.le_refl _
    · rw [e]; exact Nat.zero_le _
  | k + 1, t, h, g => by
    have st : ∀ b : Nat, b = 48 ∨ b = 49 → ∀ g, cst (SNk lab' k (t ++ [b])) g ≤ cst (SNk lab k (t ++ [b])) g := fun b hb => SNk_free fun y hy ly => by
      rw [List.append_assoc]
      refine h ([b] ++ y) (fun c hc => ?_) (by rw [List.length_append, ly]; show 1 + k = _; omega)
      rcases List.mem_append.mp hc with q | q
      · rw [List.mem_singleton] at q
        rw [q]; exact hb
      · exact hy c q
    unfold SNk
    rcases both_cst (SNk lab k (t ++ [48])) (SNk lab k (t ++ [49])) g with q | ⟨z, q⟩
    · have := cst_both (SNk lab' k (t ++ [48])) (SNk lab' k (t ++ [49])) g
      have := st 48 (.inl rfl) g
      have := st 49 (.inr rfl) g
      omega
    · have := cst_both (SNk lab' k (t ++ [48])) (SNk lab' k (t ++ [49])) z
      have := cst_low (both2 (SNk lab' k (t ++ [48])) (SNk lab' k (t ++ [49]))) g z
      have := st 48 (.inl rfl) z
      have := st 49 (.inr rfl) z
      omega
/-- rows below a stretch, and what they lead to, want at least so many -/
theorem SNk_rows {lab : List Nat → Option Str} {G : List Nat → Str} {ks : List (List Nat)} : ∀ {k : Nat} {t : List Nat}, (∀ y, M.BL y → y.length = k → lab (t ++ y) = some (G (t ++ y)) ∨ lab (t ++ y) = none) →
    (∀ y b, M.BL (y ++ [b]) → y.length < k → t ++ y ++ [b] ∉ ks → G (t ++ y ++ [b]) = G (t ++ y)) →
    cst (SNk lab k t) (G t) ≤ ks.countP fun s => decide (t <+: s) && !decide (s = t)
  | 0, t, h, _ => by
    have := h [] (fun c hc => by cases hc) rfl
    rw [List.append_nil] at this
    unfold SNk
    rcases this with e | e
    · rw [e]
      show cst (some [G t], 0) (G t) ≤ _
      rw [cst_some, if_pos (List.mem_singleton.mpr rfl)]
      exact Nat.zero_le _
    · rw [e]; exact Nat.zero_le _
  | k + 1, t, h, hg => by
    have st : ∀ b : Nat, b = 48 ∨ b = 49 → cst (SNk lab k (t ++ [b])) (G t) ≤ ks.countP fun s => decide (t ++ [b] <+: s) := fun b hb => by
      have hbl : M.BL [b] := fun c hc => by rw [List.mem_singleton] at hc; rw [hc]; exact hb
      have ih := SNk_rows (lab := lab) (G := G) (ks := ks) (k := k) (t := t ++ [b]) (fun y hy ly => by
        rw [List.append_assoc]
        exact h ([b] ++ y) (hbl.app hy) (by rw [List.length_append, ly]; show 1 + k = _; omega)) (fun y c hy ly hn => by
        have := hg ([b] ++ y) c (by rw [List.append_assoc]; exact hbl.app hy) (by rw [List.length_append]; show 1 + _ < _; omega) (by rw [← List.append_assoc]; exact hn)
        rw [← List.append_assoc] at this
        exact this)
      by_cases q : t ++ [b] ∈ ks
      · have e : ks.countP (fun s => decide (t ++ [b] <+: s) && !decide (s = t ++ [b])) + 1 ≤ ks.countP (fun s => decide (t ++ [b] <+: s)) := by
          have h1 : 0 < ks.countP (fun s => decide (s = t ++ [b])) := List.countP_pos_iff.mpr ⟨_, q, decide_eq_true rfl⟩
          rw [List.countP_eq_length_filter] at h1
          rw [List.countP_eq_length_filter, List.countP_eq_length_filter]
          have : ∀ l : List (List Nat), (l.filter fun s => decide (t ++ [b] <+: s)).length = (l.filter fun s => decide (t ++ [b] <+: s) && !decide (s = t ++ [b])).length + (l.filter fun s => decide (s = t ++ [b])).length := fun l => by
            induction l with
            | nil => rfl
            | cons s l ih =>
              by_cases c : s = t ++ [b]
              · subst c
                simp [ih]
                omega
              · by_cases c2 : t ++ [b] <+: s <;> simp [c, c2, ih] <;> omega
          have := this ks
          omega
        have := cst_low (SNk lab k (t ++ [b])) (G t) (G (t ++ [b]))
        omega
      · have e1 : G (t ++ [b]) = G t := by
          have := hg [] b (by simpa using hbl) (Nat.succ_pos _) (by rw [List.append_nil]; exact q)
          rw [List.append_nil] at this
          exact this
        rw [← e1]
        refine Nat.le_trans ih (List.countP_mono_left fun s _ h => ?_)
        exact ((Bool.and_eq_true _ _).mp h).1
    have e : ks.countP (fun s => decide (t ++ [48] <+: s)) + ks.countP (fun s => decide (t ++ [49] <+: s)) ≤ ks.countP fun s => decide (t <+: s) && !decide (s = t) := by
      have : ∀ l : List (List Nat), l.countP (fun s => decide (t ++ [48] <+: s)) + l.countP (fun s => decide (t ++ [49] <+: s)) ≤ l.countP fun s => decide (t <+: s) && !decide (s = t) := fun l => by
        induction l with
        | nil => exact Nat.le_refl _
        | cons s l ih =>
          rw [List.countP_cons, List.countP_cons, List.countP_cons]
          have ne : ∀ b : Nat, t ++ [b] <+: s → (decide (t <+: s) && !decide (s = t)) = true := fun b hb => by
            have h1 : t <+: s := (List.prefix_append t [b]).trans hb
            have h2 : s ≠ t := fun e => by
              have := hb.length_le
              rw [e, List.length_append] at this
              have : t.length + 1 ≤ t.length := this
              omega
            rw [decide_eq_true h1, decide_eq_false h2]
            rfl
          by_cases a0 : t ++ [48] <+: s
          · have a1 : ¬ t ++ [49] <+: s := fun a1 => by
              obtain ⟨y, ey⟩ := a0
              obtain ⟨z, ez⟩ := a1
              rw [← ez, List.append_assoc, List.append_assoc] at ey
              have := List.append_cancel_left ey
              cases this
            rw [if_pos (decide_eq_true a0), if_neg (by simpa using a1), if_pos (ne 48 a0)]
            omega
          · by_cases a1 : t ++ [49] <+: s
            · rw [if_neg (by simpa using a0), if_pos (decide_eq_true a1), if_pos (ne 49 a1)]
              omega
            · rw [if_neg (by simpa using a0), if_neg (by simpa using a1)]
              omega
      exact this ks
    have h0 := st 48 (.inl rfl)
    have h1 := st 49 (.inr rfl)
    have := cst_both (SNk lab k (t ++ [48])) (SNk lab k (t ++ [49])) (G t)
    unfold SNk
    omega
/-- what may stand in a set -/
theorem SNk_sub {lab : List Nat → Option Str} {GS : List Str} : ∀ {k : Nat} {t : List Nat}, (∀ y g, M.BL y → y.length = k → lab (t ++ y) = some g → g ∈ GS) → ∀ x, (SNk lab k t).1 = some x → x.Nodup ∧ x ≠ [] ∧ ∀ g ∈ x, g ∈ GS
  | 0, t, h, x, e => by
    unfold SNk at e
    have h0 := h []
    rw [List.append_nil] at h0
    cases hl : lab t with
    | none => rw [hl] at e; cases e
    | some g =>
      rw [hl] at e
      cases e
      refine ⟨by simp, by simp, fun z hz => ?_⟩
      rw [List.mem_singleton] at hz
      rw [hz]
      exact h0 g (fun c hc => by cases hc) rfl hl
  | k + 1, t, h, x, e => by
    have st : ∀ b : Nat, b = 48 ∨ b = 49 → ∀ x, (SNk lab k (t ++ [b])).1 = some x → x.Nodup ∧ x ≠ [] ∧ ∀ g ∈ x, g ∈ GS := fun b hb => SNk_sub fun y g hy ly => by
      rw [List.append_assoc]
      refine h ([b] ++ y) g (fun c hc => ?_) (by rw [List.length_append, ly]; show 1 + k = _; omega)
      rcases List.mem_append.mp hc with q | q
      · rw [List.mem_singleton] at q
        rw [q]; exact hb
      · exact hy c q
    unfold SNk at e
    have s0 := st 48 (.inl rfl)
    have s1 := st 49 (.inr rfl)
    generalize SNk lab k (t ++ [48]) = a at e s0
    generalize SNk lab k (t ++ [49]) = b at e s1
    obtain ⟨a, i⟩ := a
    obtain ⟨b, j⟩ := b
    cases a with
    | none => rw [both_nl] at e; exact s1 x e
    | some x0 =>
      cases b with
      | none => rw [both_nr] at e; exact s0 x e
      | some y0 =>
        obtain ⟨n0, ne0, m0⟩ := s0 x0 rfl
        obtain ⟨n1, ne1, m1⟩ := s1 y0 rfl
        rw [both_ss] at e
        by_cases q : shr x0 y0 = []
        · rw [if_pos q] at e
          cases e
          refine ⟨(tsort_perm _).nodup_iff.mpr (List.nodup_append.mpr ⟨n0, n1, fun a ha b hb e => shr_nil q a ⟨ha, e ▸ hb⟩⟩), fun e => ?_, fun g hg => ?_⟩
          · have := (tsort_perm (x0 ++ y0)).length_eq
            rw [e, List.length_append] at this
            have h2 : x0.length ≠ 0 := fun z => ne0 (List.eq_nil_of_length_eq_zero z)
            have h3 : ([] : List Str).length = 0 := rfl
            omega
          · rcases List.mem_append.mp (mem_tsort.mp hg) with h | h
            · exact m0 g h
            · exact m1 g h
        · rw [if_neg q] at e
          cases e
          exact ⟨List.filter_sublist.nodup n0, q, fun g hg => m0 g (mem_shr.mp hg).1⟩
theorem SNk_need {lab : List Nat → Option Str} : ∀ {k : Nat} {t : List Nat}, (SNk lab k t).2 + 1 ≤ 2 ^ k
  | 0, t => Nat.le_refl _
  | k + 1, t => by
    have h0 := SNk_need (lab := lab) (k := k) (t := t ++ [48])
    have h1 := SNk_need (lab := lab) (k := k) (t := t ++ [49])
    have hb : ∀ a b : SNd, (both2 a b).2 ≤ a.2 + b.2 + 1 := fun a b => by
      obtain ⟨a, i⟩ := a
      obtain ⟨b, j⟩ := b
      cases a with
      | none => exact Nat.le_succ _
      | some x =>
        cases b with
        | none => exact Nat.le_succ _
        | some y =>
          rw [both_ss]
          split
          · exact Nat.le_refl _
          · exact Nat.le_succ _
    have := hb (SNk lab k (t ++ [48])) (SNk lab k (t ++ [49]))
    unfold SNk
    rw [Nat.pow_succ]
    omega
open PySem PySem.Spec PySem.Calls PyProof.Rows L2
section
variable {prog : Program} {w : World} {A : Around} {s : Shared} {K : Type} [DecidableEq K] {knd : KeyKind prog w K}
theorem disp_starK {m k v : Sem Value} {E : Value → Shared → Prop} {Q : Value → Shared → Prop} (href : ∀ (k : K) (v : Value), knd.is k v = true → ∀ a, v ≠ .ref a)
    (hx : wpAny (model prog w) A (subDict [(k, v)]) (fun d s2 => wpAny (model prog w) A m (fun x s3 => ∃ o, x = .ref o ∧ Mrg1 knd d s3 o fun s4 => Q (.ref d) s4) E s2) E s) : wpAny (model prog w) A (dictDisplay [(some k, v), (none, m)]) Q E s := by
  unfold dictDisplay
  dsimp only
  simp only [List.forIn_cons, List.forIn_nil, List.isEmpty_nil, if_true, pure_bind]
  refine wpAny_bind (wpAny_bind ?_)
  rw [if_neg (by show ¬ (1 == 17) = true; decide)]
  refine wpAny_pure ?_
  refine wpAny_bind (wpAny_bind ?_)
  rw [if_neg (by show ¬ (false = true); decide)]
  refine wpAny_bind ?_
  refine wpAny_mono hx (fun d s2 z => ?_) fun _ _ z => z
  refine wpAny_pure ?_
  refine wpAny_bind (wpAny_holding (wpAny_mono z (fun x s3 z2 => ?_) fun _ _ z => z))
  obtain ⟨o, rfl, z2⟩ := z2
  refine wpAny_bind (wp_onR (wp_tryC (wp_onR (wpAny_holding (wpAny_mono (mrg1_run href z2) (fun _ s4 z4 => ?_) fun _ _ z => z)))))
  refine wpAny_pure ?_
  refine wpAny_pure ?_
  refine wpAny_bind ?_
  rw [if_pos (by show true = true; rfl)]
  refine wpAny_pure ?_
  exact wpAny_pure z4
end
section
variable {X : Cx} {pos : Pos} {e1 k v : Expr} {t1 tk tv : TE}
def tStarK (tk tv t1 : TE) : TE := fun σ H Q => ∀ d, H d = none → tPairs [(tk, tv)] σ (upd H d (.dK [])) fun ps H2 => ∃ (key : Key) (y : V), ps = [(kV key, y)] ∧ H2 d = some (.dK []) ∧
  t1 σ (upd H2 d (.dK [(key, y)])) fun x H3 => ∃ a kvs more, x = .ref a ∧ d ≠ a ∧ H3 d = some (.dK kvs) ∧ Rd H3 a (.dK more) ∧ kvs.length + more.length ≤ sizeLine ∧ Q (.ref d) (upd H3 d (.dK (mergeK kvs more)))
theorem pe_starK (hk : PE X k tk) (hv : PE X v tv) (h1 : PE X e1 t1) : PE X (.Dict [some k, none] [v, e1] pos) (tStarK tk tv t1) := by
  refine ⟨fun pins s σ H Q I q => ?_⟩
  rw [arm_eval_Dict]
  refine wpAny_bind (wpAny_standAt ?_)
  show wpAny _ _ (dictDisplay [(some (eval k X.env), do let x ← eval v X.env; standAt pos; pure x), (none, do let x ← eval e1 X.env; standAt pos; pure x)]) _ _ _
  have hn := I.hok.fresh (Nat.le_refl s.heap.objs.size)
  have I1 := I.laid (a := s.heap.objs.size) (o := .dK []) (h' := s.heap.push { cls := .type "dict", data := .dict #[] }) (t' := s.toks) (fun _ _ q => Heap.get?_push_of_some _ q) (Nat.le_refl _) (dk_empty s.heap I.big)
  refine disp_starK (knd := mixKind X.prog X.w) mix_href ?_
  refine wpAny_subDict (knd := mixKind X.prog X.w) (Nat.le_of_ble_eq_true rfl) (thn ((pps_cons hk hv pps_nil).run pins _ σ _ _ I1 (q _ hn)) fun ws s4 ⟨ps, H4, I5, rel, key, y, ep, lb, q5⟩ => ?_)
  subst ep
  obtain ⟨rs, c, rk⟩ := carries_of (P := X.prog) (w := X.w) (kvs := [(key, y)]) rel
  obtain ⟨z, hb, vs0, r0, dd⟩ := dk_of I5.hok lb
  cases r0
  refine ⟨rs, c, dd, fun h' dd' hs => ?_⟩
  have he : ∃ q, h'.get? s.heap.objs.size = some q := let ⟨q, _, _, hq, _⟩ := dd'; ⟨q, hq⟩
  have I6 : Inv X pins σ (upd H4 s.heap.objs.size (.dK [(key, y)])) { s4 with heap := h', toks := s4.toks + ws.length } := d_write I5 (by rw [lb]; exact True.intro) hs he (dk_new (kvs := mergeK [] [(key, y)]) szl1 hb (rk.merge .nil) dd')
  refine wpAny_bind (thn (h1.run pins _ σ _ _ I6 q5) fun u s6 ⟨x, H3, I7, rx, a, kvs, more, ex, hne, hd, hr, hz, q6⟩ => wpAny_bind (wpAny_standAt (wpAny_pure ?_)))
  subst ex
  obtain rfl : u = Value.ref a := rx
  exact ⟨a, rfl, mrg_lay I7 hd hr hne hz fun s8 I8 => ⟨.ref s.heap.objs.size, _, I8, rfl, q6⟩⟩
end
open PySem PySem.Spec PySem.Calls PyProof.Rows L2
def tFrz (te : TE) : TE := fun σ H Q => te σ H fun x H1 => ∃ d u, x = .ref d ∧ H1 d = some u ∧ Mut (some u) ∧ ∀ od, Q (.ref d) (upd H1 d (.frz od u))
theorem pe_frz {X : Cx} {e : Expr} {te : TE} (h : PE X e te) : PE X e (tFrz te) := by
  refine ⟨fun pins s σ H Q I hw => ?_⟩
  refine thn (h.run pins s σ _ _ I hw) fun v s1 ⟨x, H1, I1, r, d, u, ex, hd, mu, q⟩ => ?_
  subst ex
  obtain ⟨od, I2⟩ := I1.lock hd mu
  exact ⟨.ref d, _, I2, r, q od⟩
open PySem PySem.Spec PyProof.Rows L2
/-- small data, dicts too -/
structure FitR (N D : Nat) (d : PyData) : Prop where
  sh : d.showable = true
  dp : d.depth ≤ D
  ls : d.leavesShort 13 = true
  bk : d.bulk ≤ N
theorem Fit.r {N D : Nat} {d : PyData} (h : Fit N D d) : FitR N D d := ⟨h.sh, h.dp, h.ls, h.bk⟩
theorem FitR.mono {N D N' D' : Nat} {d : PyData} (h : FitR N D d) (hN : N ≤ N') (hD : D ≤ D') : FitR N' D' d := ⟨h.sh, Nat.le_trans h.dp hD, h.ls, Nat.le_trans h.bk hN⟩
theorem FitR.dict {N D : Nat} {ds : List (PyData × PyData)} (h : ∀ p ∈ ds, Fit N D p.1 ∧ Fit N D p.2) : FitR ((2 * N + 2) * ds.length) (D + 1) (.dict ds) := by
  obtain ⟨k1, k2, k3, k4⟩ := fit_kv h
  exact ⟨by simpa only [PyData.showable] using k1, by simp only [PyData.depth]; omega, by simpa only [PyData.leavesShort] using k3, by simpa only [PyData.bulk] using k4⟩
theorem fitR_all {N D : Nat} : ∀ {ds : List PyData}, (∀ d ∈ ds, FitR N D d) → PyData.showableAll ds = true ∧ PyData.depthAll ds ≤ D ∧ PyData.leavesShortAll 13 ds = true ∧ PyData.bulkAll ds ≤ (N + 1) * ds.length
  | [], _ => ⟨by simp only [PyData.showableAll], by simp only [PyData.depthAll]; omega, by simp only [PyData.leavesShortAll], by simp only [PyData.bulkAll]; omega⟩
  | d :: ds, h => by
    have h1 := h d (List.mem_cons_self ..)
    obtain ⟨a2, a3, a4, a5⟩ := fitR_all (ds := ds) fun x hx => h x (List.mem_cons_of_mem _ hx)
    have b3 := h1.dp
    have b5 := h1.bk
    refine ⟨?_, ?_, ?_, ?_⟩
    · simp only [PyData.showableAll, h1.sh, a2, Bool.and_self]
    · simp only [PyData.depthAll]; omega
    · simp only [PyData.leavesShortAll, h1.ls, a4, Bool.and_self]
    · simp only [PyData.bulkAll, List.length_cons]
      rw [Nat.mul_add]
      omega
theorem FitR.list {N D : Nat} {ds : List PyData} (h : ∀ d ∈ ds, FitR N D d) : FitR ((N + 1) * ds.length) (D + 1) (.list ds) := by
  obtain ⟨a2, a3, a4, a5⟩ := fitR_all h
  exact ⟨by simpa only [PyData.showable] using a2, by simp only [PyData.depth]; omega, by simpa only [PyData.leavesShort] using a4, by simpa only [PyData.bulk] using a5⟩
theorem FitR.ok {d : PyData} {N D : Nat} (h : FitR N D d) (hN : N ≤ 1048576) (hD : D ≤ 50) : PyData.showable d = true ∧ PyData.depth d ≤ 50 ∧ d.shown.length ≤ sizeLine :=
  ⟨h.sh, Nat.le_trans h.dp hD, PyData.shown_fits_bulk (by decide) (by decide) h.ls (Nat.le_trans h.bk (Nat.le_trans hN (by decide)))⟩
open PySem PySem.Spec PyProof.Rows L2
structure FitB (B N D : Nat) (d : PyData) : Prop where
  sh : d.showable = true
  dp : d.depth ≤ D
  ls : d.leavesShort B = true
  bk : d.bulk ≤ N
theorem FitB.str {B N D : Nat} {z : Str} (h : ∀ c ∈ z.cps.toList, c < 128) (l : z.length ≤ N) : FitB B N D (.str z) := by
  refine ⟨rfl, Nat.zero_le _, ?_, l⟩
  show (z.cps.toList.all fun c => decide (c < 16 ^ 8)) = true
  exact List.all_eq_true.mpr fun c hc => decide_eq_true (by
    have := h c hc
    have : (128 : Nat) ≤ 16 ^ 8 := by decide
    omega)
theorem FitB.int {B N D k : Nat} {i : Int} (hk : 0 < k) (hB : k + 1 ≤ B) (h : i.natAbs < 10 ^ k) (h2 : i.natAbs < 2 ^ 1900) : FitB B N D (.int i) := by
  refine ⟨?_, Nat.zero_le _, ?_, Nat.zero_le _⟩
  · refine decide_eq_true ?_
    rcases Nat.eq_zero_or_pos i.natAbs with e | e
    · rw [e]; decide
    · have := (Nat.log2_lt (by omega)).mpr h2
      omega
  · refine decide_eq_true ?_
    have e := int_text_length_le10 hk h
    show (Str.ofString (toString i)).length ≤ B
    rw [PySem.ofString_length]
    omega
theorem FitB.non {B N D : Nat} : FitB B N D .none := ⟨rfl, Nat.zero_le _, rfl, Nat.zero_le _⟩
theorem FitB.bool {B N D : Nat} (b : Bool) : FitB B N D (.bool b) := ⟨rfl, Nat.zero_le _, rfl, Nat.zero_le _⟩
theorem FitB.mono {B N D N' D' : Nat} {d : PyData} (h : FitB B N D d) (hN : N ≤ N') (hD : D ≤ D') : FitB B N' D' d := ⟨h.sh, Nat.le_trans h.dp hD, h.ls, Nat.le_trans h.bk hN⟩
theorem fitB_kv {B N D : Nat} : ∀ {ds : List (PyData × PyData)}, (∀ p ∈ ds, FitB B N D p.1 ∧ FitB B N D p.2) → PyData.showableKv ds = true ∧ PyData.depthKv ds ≤ D ∧ PyData.leavesShortKv B ds = true ∧ PyData.bulkKv ds ≤ (2 * N + 2) * ds.length
  | [], _ => ⟨by simp only [PyData.showableKv], by simp only [PyData.depthKv]; omega, by simp only [PyData.leavesShortKv], by simp only [PyData.bulkKv]; omega⟩
  | (a, b) :: ds, h => by
    obtain ⟨h1, h2⟩ := h (a, b) (List.mem_cons_self ..)
    obtain ⟨a2, a3, a4, a5⟩ := fitB_kv (ds := ds) fun x hx => h x (List.mem_cons_of_mem _ hx)
    have b3 := h1.dp
    have b5 := h1.bk
    have c3 := h2.dp
    have c5 := h2.bk
    simp only at b3 b5 c3 c5
    refine ⟨?_, ?_, ?_, ?_⟩
    · simp only [PyData.showableKv, h1.sh, h2.sh, a2, Bool.and_self]
    · simp only [PyData.depthKv]; omega
    · simp only [PyData.leavesShortKv, h1.ls, h2.ls, a4, Bool.and_self]
    · simp only [PyData.bulkKv, List.length_cons]
      rw [Nat.mul_add]
      omega
theorem fitB_all {B N D : Nat} : ∀ {ds : List PyData}, (∀ d ∈ ds, FitB B N D d) → PyData.showableAll ds = true ∧ PyData.depthAll ds ≤ D ∧ PyData.leavesShortAll B ds = true ∧ PyData.bulkAll ds ≤ (N + 1) * ds.length
  | [], _ => ⟨by simp only [PyData.showableAll], by simp only [PyData.depthAll]; omega, by simp only [PyData.leavesShortAll], by simp only [PyData.bulkAll]; omega⟩
  | d :: ds, h => by
    have h1 := h d (List.mem_cons_self ..)
    obtain ⟨a2, a3, a4, a5⟩ := fitB_all (ds := ds) fun x hx => h x (List.mem_cons_of_mem _ hx)
    have b3 := h1.dp
    have b5 := h1.bk
    refine ⟨?_, ?_, ?_, ?_⟩
    · simp only [PyData.showableAll, h1.sh, a2, Bool.and_self]
    · simp only [PyData.depthAll]; omega
    · simp only [PyData.leavesShortAll, h1.ls, a4, Bool.and_self]
    · simp only [PyData.bulkAll, List.length_cons]
      rw [Nat.mul_add]
      omega
theorem FitB.dict {B N D : Nat} {ds : List (PyData × PyData)} (h : ∀ p ∈ ds, FitB B N D p.1 ∧ FitB B N D p.2) : FitB B ((2 * N + 2) * ds.length) (D + 1) (.dict ds) := by
  obtain ⟨k1, k2, k3, k4⟩ := fitB_kv h
  exact ⟨by simpa only [PyData.showable] using k1, by simp only [PyData.depth]; omega, by simpa only [PyData.leavesShort] using k3, by simpa only [PyData.bulk] using k4⟩
theorem FitB.list {B N D : Nat} {ds : List PyData} (h : ∀ d ∈ ds, FitB B N D d) : FitB B ((N + 1) * ds.length) (D + 1) (.list ds) := by
  obtain ⟨a2, a3, a4, a5⟩ := fitB_all h
  exact ⟨by simpa only [PyData.showable] using a2, by simp only [PyData.depth]; omega, by simpa only [PyData.leavesShort] using a4, by simpa only [PyData.bulk] using a5⟩
theorem FitB.tuple {B N D : Nat} {ds : List PyData} (h : ∀ d ∈ ds, FitB B N D d) : FitB B ((N + 1) * ds.length) (D + 1) (.tuple ds) := by
  obtain ⟨a2, a3, a4, a5⟩ := fitB_all h
  exact ⟨by simpa only [PyData.showable] using a2, by simp only [PyData.depth]; omega, by simpa only [PyData.leavesShort] using a4, by simpa only [PyData.bulk] using a5⟩
theorem FitB.ok {B N D : Nat} {d : PyData} (h : FitB B N D d) (hB : 8 ≤ B) (hN : (B + 2) * N + B ≤ 1000000) (hD : D ≤ 50) : PyData.showable d = true ∧ PyData.depth d ≤ 50 ∧ d.shown.length ≤ sizeLine := by
  refine ⟨h.sh, Nat.le_trans h.dp hD, ?_⟩
  have e := PyData.shown_le_bulk B hB d h.ls
  have e2 : (B + 2) * d.bulk ≤ (B + 2) * N := Nat.mul_le_mul_left _ h.bk
  rw [sizeLine_eq]
  omega
open PySem PySem.Spec PyProof.Rows LamX
open L2 hiding pass0
/-- the lambda, called with a text: the heap stands -/
theorem lam_str {X : Cx} {pins : List (Addr × Obj)} {σ : L2.St} {H : Hp} {s : Shared} (I : Inv X pins σ H s) {f c' : Addr} {qual y : Str} {params : Arguments} {scope : Scope} {pm ctv : Value} {p1 p2 p3 : Pos} (S : FnScope [y] [y] scope) (hr : RoomG 2 X.A)
    (hf : s.heap.get? f = some (PySem.W.kla_obj "<lambda>" qual params (.Call (.Name "str" p1) [.Name y p2] [] p3) scope [] pm c' ctv)) (hc : H c' = some (CodeO c' qual))
    (hbind : ∀ u : Value, bindArgs (PySem.W.kla_fn "<lambda>" qual params (.Call (.Name "str" p1) [.Name y p2] [] p3) scope [] pm (.ref c') ctv) ⟨[u], []⟩ = pure [(y, u)])
    (hy : scope.names.lookup y = some .local) (hstr : X.mg "str" = none) (hgl : scope.names.lookup ("str" : Str) = some .globalImplicit) (hd1 : (y == ("__debug__" : Str)) = false) {x : Str} {t : Tok} (h : Heap) (tk : Nat) (kp : ∀ b o, s.heap.get? b = some o → h.get? b = some o) :
    wpAny (model X.prog X.w) X.A.in1.in1 (call (.ref f) [.str x t]) (PySem.W.KeyPure (.str x) { s with heap := h, toks := tk }) (fun _ _ => False) { s with heap := h, toks := tk } := by
  have I1 : Inv X pins σ H { s with heap := h, toks := tk } := I.kept kp
  have e0 := I1.env0.in1.in1
  have at1 := kp _ _ hf
  have r2 : Room 1 X.A.in1.in1 := ⟨hr.r.hd, by have := hr.r.dp; show X.A.depth + _ + 5 < _; omega, by have := hr.r.un; show X.A.units + 1 + 1 + _ + 200 < _; omega⟩
  obtain ⟨⟨oc, vs, tq, k1, k2, k3⟩, _, _⟩ := e0.hok c' _ hc
  have lim : h.NoLimit := e0.mod.nolimit.keeps fun b o e => (e0.bs b o e).1
  refine wpAny_call ?_
  refine PySem.W.kla_callFunE r2.depth at1 rfl S.co S.gen rfl ⟨c', oc, vs, tq, rfl, k1, k2, k3⟩ ?_
  rw [hbind]
  refine wpAny_pure (wpAny_newFunctionEnv_cells S.kind (fun z hz => ?_) fun env he s1 xc => ?_)
  · rw [List.mem_singleton] at hz
    subst hz
    exact .inl hy
  obtain rfl : env = envOfC qual scope h.objs.size f (.ref c') := he
  have I2 : Inv (cxOf C8.CX0 X.prog X.w X.K X.mg X.base [y] qual scope f (.ref c') X.A.in1.in1 X.stack { s with heap := h, toks := tk } H C8.E0) [] (L2.start [y] [.str x]) H s1 := inv_start (ps := [y]) (us := [.str x t]) (vs := [.str x]) S r2.hd e0 rfl (.cons ⟨t, rfl⟩ .nil) xc
  refine ⟨lim.keeps xc.toInCall.keep, PySem.W.kla_codeExpr ?_⟩
  refine wpAny_Call_Name_kw (ld_blt (pins := []) I2 hgl hstr (by decide +kernel : bootBuiltins "str" = some (.type "str")) ?_ (by decide) (by decide))
  refine PyProof.Rows.callWith_type1 ?_
  have hm := bindL_get (kindOf := (envOfC qual scope h.objs.size f (.ref c')).kindOf) (P := [y]) (vs := [Value.str x t]) (i := 0) (m := fun _ => none) (by simp) rfl rfl hy
  obtain ⟨h1, tk1, rfl, hk⟩ := xc.done
  have fin : PySem.W.KeyPure (.str x) { s with heap := h, toks := tk } (.str x t) { s with heap := h1, toks := tk1 } := ⟨h1, tk1, rfl, hk, .str x t⟩
  refine Calls.spliced_cons (wpAny_Name (wpAny_loadName_local (env := envOfC qual scope h.objs.size f (.ref c')) S.kind hy xc.toInCall.ns hm (Calls.spliced_nil ?_)) hd1)
  exact PySem.P.str_of_str fin
/-- as a call's key -/
def rSortLam (TT : List (Addr × Str)) : V → Hp → VK → Prop := fun v H Q => Tabs TT H ∧ ∃ (a : Addr) (xs : List Str), v = V.ref a ∧ H a = some (.lst (xs.map V.str)) ∧ ∀ H1, ExtN H H1 → Tabs TT H1 → ∀ p, H1 p = none → Q (.ref p) (upd H1 p (.lst ((tsort xs).map V.str)))
def tSortLam (TT : List (Addr × Str)) (te : TE) : TE := fun σ H Q => te σ H fun v H1 => rSortLam TT v H1 Q
theorem pe_sortLam {X : Cx} {TT : List (Addr × Str)} {c P : Addr} {y : Str} {params : Arguments} {scope : Scope} {p1 p2 p3 lpos p kp pos : Pos} {e : Expr} {te : TE} (TB : TabB X.base X.mg c P) (hcode : X.env.code = .ref c) (hmT : (P, X.env.qual ++ "<lambda>") ∈ TT) (hu : ∀ q ∈ TT, q.1 = P → q.2 = X.env.qual ++ "<lambda>") (S : FnScope [y] [y] scope) (hr : RoomG 2 X.A)
    (hdef : defaultsOf params X.env = ([], [])) (hbind : ∀ (q : Str) (pm cv ctv : Value) (u : Value), bindArgs (PySem.W.kla_fn "<lambda>" q params (.Call (.Name "str" p1) [.Name y p2] [] p3) scope [] pm cv ctv) ⟨[u], []⟩ = pure [(y, u)])
    (hcl : cloFrom X.env.cells scope.names [] = []) (hy : scope.names.lookup y = some .local) (hstr : X.mg "str" = none) (hgl : scope.names.lookup ("str" : Str) = some .globalImplicit) (hd1 : (y == ("__debug__" : Str)) = false)
    (hg : Gl X "sorted") (hm : X.mg "sorted" = none) (ha : PE X e te)
    (hs : starEach [e] X.env = (false, eval e X.env) :: starEach [] X.env := by rfl) (he : backTo pos (starEach [e] X.env) = (false, eval e X.env) :: backTo pos (starEach [] X.env) := by rfl) (hpl : (backTo pos (starEach [e] X.env)).any (·.1) = false := by rfl) :
    PE X (.Call (.Name "sorted" p) [e] [⟨some "key", .Lambda params (.Call (.Name "str" p1) [.Name y p2] [] p3) scope lpos, kp⟩] pos) (tSortLam TT te) := by
  refine ⟨fun pins s σ H Q I h => ?_⟩
  refine wpAny_Call_Name_kw (ld_blt I hg hm (by decide +kernel : bootBuiltins "sorted" = some (.builtin "sorted")) ?_ (by decide) (by decide))
  refine PyProof.Rows.callWith_kw (thn ((pa_cons ha pa_nil hs).run pos pins s σ H (fun vs H1 => match vs with | [v] => rSortLam TT v H1 Q | _ => False) I h) fun us s1 ⟨vs, H1, I1, r1, q1⟩ => ?_) he hpl rfl rfl
  obtain ⟨v, rfl⟩ : ∃ v, vs = [v] := by
    match vs, q1 with
    | [v], _ => exact ⟨v, rfl⟩
  obtain ⟨u, rfl, ru⟩ := vals1 r1
  obtain ⟨hT, a, xs, rfl, ea, q⟩ := (show rSortLam TT v H1 Q from q1)
  obtain rfl : u = Value.ref a := ru
  show wpAny _ _ (evalAll [(do let v ← eval (.Lambda params (.Call (.Name "str" p1) [.Name y p2] [] p3) scope lpos) X.env; standAt pos; pure v)]) _ _ s1
  refine wpAny_evalAll_cons (wpAny_bind (lam_make2 I1 TB hcode hmT hu hT hdef (fun y hy e => absurd e (S.nofree y hy)) fun f c' pm1 ctv H2 s2 I2 eN T2 e1 e2 e3 e4 => wpAny_bind (wpAny_standAt (wpAny_pure (wpAny_evalAll_nil ?_)))))
  rw [hcl] at e1
  have ea2 : H2 a = some (.lst (xs.map V.str)) := eN _ _ ea (fun _ z => by cases z)
  obtain ⟨its, rv, hl, hz⟩ := I2.list (SqL.of ea2)
  rw [List.length_map] at hz
  show wpAny _ _ (call (.builtin "sorted") [.ref a] [(Str.ofString "key", .ref f)]) _ _ s2
  exact PySem.W.sorted_key_data (fun x : Str => PyData.str x) hl.isList (ea_strs rv.strs) (strs_alike xs) (strs_sortable xs) hz (fun x _ => by have := str_depth x; have := hr.u; omega) (PyProof.Rows.ksk_s1 _ _) (fun _ => PyProof.Rows.ksk_l1 _ _) (fun _ => PyProof.Rows.ksk_t1 _ _)
    (fun v x ⟨t, ev⟩ _ h tk kp => by subst ev; exact lam_str I2 S hr e1 e4 (hbind _ _ _ _) hy hstr hgl hd1 h tk kp) fun out c h' tk k _ e _ ea => sortK_out I2 hz (Nat.le_succ _) (fun p np => q H2 eN T2 p np) k e ea
open PySem PySem.Spec PyProof.Rows
open L2 hiding pass0
open PySem PySem.Spec PyProof.Rows LamX
open L2 hiding pass0
open PySem PySem.Spec PyProof.Rows LamX
open L2 hiding pass0
section
variable {P : Program} {w : World} {K : PySem.W.Frag} {mg : Str → Option Value} {base : Heap} {CX : CXT}
theorem nm_ofL {x : Str} {st : Stmt} {f : Addr} {cdv kV doc pm ct oc : Value} {an od : Option Addr} {osl : Array (Option Value)} {N ps : List Str} {k : Nat} {sp : Sp} (lk : K.lookup f = some ⟨oc, od, .func (PySem.W.fnOf x x (defArgs st) (defBody st) (defScope st) .none kV doc pm an cdv ct), osl⟩)
    (hcd : PySem.W.codeIn K cdv x = true) (hk : PySem.W.keepIn K (.ref f) = true) (hm : mg x = some (.ref f)) (S : FnScope N ps (defScope st)) (len : ∀ vs H Q E, sp vs H Q E → vs.length = ps.length)
    (hb : ∀ (A : Around) (outer : List Env) (s : Shared) (H : Hp) (vs : List V) (Q : VK) (E : XK), RoomG k (A.deeper (envOfC x (defScope st) s.heap.objs.size f cdv)) → sp vs H Q E →
      ∃ t, PSs (cxOf CX P w K mg base N x (defScope st) f cdv A outer s H E) (defBody st) t ∧ t { nx := fun _ H' => Q .non H', rt := Q } (start N vs) H) : Nm P w K mg base CX (k + 1) x st ps sp := by
  refine ⟨f, _, fun_mk (st := st) lk hcd hk, hm, len, ?_⟩
  intro A outer s H args us vs Q E hr e0 bt rv hs
  have hl := len _ _ _ _ hs
  have kin : K.In s.heap := e0.mod.kin.keeps fun b o e => (e0.bs b o e).1
  have lim : s.heap.NoLimit := e0.mod.nolimit.keeps fun b o e => (e0.bs b o e).1
  refine codeAny_call_function hr.r.depth (kin _ _ lk) rfl S.co S.gen rfl (PySem.W.codeRec_of kin hcd) (bt _ _ _ _ ?_)
  refine wpAny_newFunctionEnv_cells S.kind (fun ⟨n, v⟩ hy => (S.par n (List.of_mem_zip hy).1).elim .inl fun q => .inr ⟨q, PySem.W.cellsFrom_some _ _ _ (.inl q)⟩) fun env he s1 x1 => ?_
  subst he
  refine ⟨lim.keeps x1.toInCall.keep, codeAny_func ?_⟩
  obtain ⟨t, ht, hq⟩ := hb A outer s H vs Q E (hr.deeper _) hs
  have I : Inv (cxOf CX P w K mg base N x (defScope st) f cdv A outer s H E) [] (start N vs) H s1 := inv_start S hr.r.hd e0 hl rv x1
  refine wpAny_mono (ht.run [] s1 _ H _ I hq) (fun fl s2 z => ?_) fun e s2 z => z
  match fl, z with
  | .ret u, ⟨v, σ', H', J, r2, q⟩ => exact ⟨v, H', J.os, J.bare, J.base, J.hok, r2, q⟩
  | .next, ⟨σ', H', J, q⟩ => exact ⟨.non, H', J.os, J.bare, J.base, J.hok, rfl, q⟩
  | .brk, ⟨_, _, _, q⟩ => exact q.elim
  | .cont, ⟨_, _, _, q⟩ => exact q.elim
end
open PySem PySem.Spec PyProof.Rows L2 LamX
theorem law_gT {P : Program} {w : World} {K : PySem.W.Frag} {mg mb : Str → Option Value} {CX : CXT} {k : Nat} {a fa : Addr} {cs : List (Addr × Addr)} {fd : FuncData} {x : Str} {sp : Sp} {s₁ : Shared} {vs : List Value} {ns : List Int}
    (KX : K.In s₁.heap) (hG : s₁.heap.Ns mainGlobals mg) (hB : s₁.heap.Ns builtinsNs mb) (hBB : ∀ x : Str, x ≠ "__name__" → mb x = bootBuiltins x) (hL : s₁.heap.NoLimit) (hgen : s₁.gens = #[])
    (hbm : ∃ (bm : Addr) (ob : Obj), mg "__builtins__" = some (.ref bm) ∧ bm ≠ builtinsNs ∧ s₁.heap.get? bm = some ob ∧ ob.cls = .type "module" ∧ ob.dict = some builtinsNs ∧ ob.data = .plain)
    (hT : ∀ p ∈ cs, s₁.heap.get? p.2 = some (PySem.W.tabObj #[])) (nT : ∀ p ∈ cs, K.lookup p.2 = none) (hC : ∀ p ∈ cs, PySem.W.CodeHd s₁.heap p.1 p.2)
    (ha : s₁.heap.get? a = some { cls := .type "list", data := .seq vs.toArray }) (hi : IntsAre vs ns) (hl : ns.length ≤ sizeLine) (hr : RoomG k callerA)
    (F : ∀ base : Heap, K.In base → base.Ns mainGlobals mg → (∀ p ∈ cs, TabB base mg p.1 p.2) → FnG P w K mg base CX k fa fd [x] sp) (hbind : ∀ (s : Shared) (u : Value), BindsTo s fd ⟨[u], []⟩ [(x, u)])
    (hsp : ∀ H : Hp, SqL K H a (ns.map V.int) → (∀ p ∈ cs, H p.2 = some (.tbl #[])) → sp [.ref a] H (fun v _ => v = .bl true) fun _ _ _ => False)
    (hCX : ∀ H e s', CX [] H s₁ (fun _ _ _ => False) e s' → False) :
    codeAny (model P w) callerA (.call (.ref fa) ⟨[.ref a], []⟩) (fun r s' => r = .ok (.ret (.bool true)) ∧ OldK s₁.heap s'.heap ∧ s'.os = s₁.os ∧ AllBare s'.gens) s₁ := by
  let so : Obj := { cls := .type "list", data := .seq vs.toArray }
  have inT : ∀ b, (∃ p ∈ cs, p.2 = b) → s₁.heap.get? b = some (PySem.W.tabObj #[]) := fun b ⟨p, hp, e⟩ => e ▸ hT p hp
  have aT : ¬ ∃ p ∈ cs, p.2 = a := fun z => by
    have q := ha.symm.trans (inT a z)
    injection q with q
    injection q with _ _ q
    cases q
  have main : ∀ H : Hp, (∀ b, H b = none ∨ (b = a ∧ K.lookup a = none ∧ H b = some (.frz so (.lst (ns.map V.int)))) ∨ ((∃ p ∈ cs, p.2 = b) ∧ H b = some (.tbl #[]))) → (∀ p ∈ cs, H p.2 = some (.tbl #[])) → SqL K H a (ns.map V.int) → HOk P w H s₁.heap →
      codeAny (model P w) callerA (.call (.ref fa) ⟨[.ref a], []⟩) (fun r s' => r = .ok (.ret (.bool true)) ∧ OldK s₁.heap s'.heap ∧ s'.os = s₁.os ∧ AllBare s'.gens) s₁ := by
    intro H only hTb hS hok
    have isNone : ∀ {b : Addr} {o : Obj}, s₁.heap.get? b = some o → (b = a → K.lookup a = none → o = so → False) → ((∃ p ∈ cs, p.2 = b) → o = PySem.W.tabObj #[] → False) → H b = none := fun {b o} e n m => by
      rcases only b with q | ⟨q1, q2, q3⟩ | ⟨q1, q2⟩
      · exact q
      · refine (n q1 q2 ?_).elim
        subst q1
        exact Option.some.inj (e.symm.trans ha)
      · exact (m q1 (Option.some.inj (e.symm.trans (inT b q1)))).elim
    have at' : ∀ {b : Addr} {o : Obj}, s₁.heap.get? b = some o → o ≠ so → o ≠ PySem.W.tabObj #[] → (hidT s₁.heap H).get? b = some o := fun {b o} e n m => hidT_get e (isNone e (fun _ _ z => n z) fun _ z => m z)
    have nsOf : ∀ {b : Addr} {m : Str → Option Value}, s₁.heap.Ns b m → (hidT s₁.heap H).Ns b m := fun {b m} ⟨o, es, ep, e, d, r⟩ =>
      ⟨o, es, ep, at' e (fun z => by subst z; cases d) (fun z => by subst z; cases d), d, r⟩
    have hK : K.In (hidT s₁.heap H) := fun b o e => hidT_get (KX b o e) (isNone (KX b o e) (fun y z _ => by subst y; rw [z] at e; cases e) fun ⟨p, hp, y⟩ _ => by subst y; rw [nT p hp] at e; cases e)
    have hM : Mod K mg (hidT s₁.heap H) := ⟨hK, nsOf hG, ⟨mb, nsOf hB, hBB⟩, hL.elim fun mc z => ⟨mc, nsOf z.1, z.2⟩⟩
    have TB : ∀ p ∈ cs, TabB (hidT s₁.heap H) mg p.1 p.2 := fun p hp => by
      refine ⟨?_, ?_, fun z => ?_⟩
      · obtain ⟨o, us, file, tf, fl, tg, inF, text, tt, e1, e2, e3, e4⟩ := hC p hp
        exact ⟨o, us, file, tf, fl, tg, inF, text, tt, at' e1 (fun z => by subst z; injection e2 with e2; exact absurd e2 (by decide)) (fun z => by subst z; cases e2), e2, e3, e4⟩
      · obtain ⟨bm, ob, b1, b2, b3, b4, b5, b6⟩ := hbm
        refine ⟨bm, ob, b1, b2, fun q => ?_, fun q => ?_, at' b3 (fun z => by subst z; injection b4 with b4; exact absurd b4 (by decide)) (fun z => by subst z; cases b4), b4, b5, b6⟩
        · obtain ⟨o, es, ep, e, d, _⟩ := hG
          rw [q, e] at b3
          cases b3
          rw [d] at b6
          cases b6
        · have z := b3.symm.trans (q ▸ hT p hp)
          cases z
          cases b4
      · obtain ⟨o, es, ep, e, d, _⟩ := hG
        have y := e.symm.trans (z ▸ hT p hp)
        cases y
        cases d
    have nofr : ∀ b : Addr, b ∉ frs ([] : List Env) := fun b z => by cases z
    have e0 : Env0 P w K mg (hidT s₁.heap H) callerA [] s₁ H := ⟨rfl, hM, fun b o e => of_hidT e, by rw [hidT_size] <;> exact Nat.le_refl _, trivial, fun b z => (nofr b z).elim, hok, .of_eq hgen⟩
    refine codeAny_mono ((F _ hK (nsOf hG) TB).run callerA [] s₁ H ⟨[.ref a], []⟩ [.ref a] [.ref a] _ _ hr e0 (hbind s₁ (.ref a)) (.cons rfl .nil) (hsp H hS hTb)) fun r s' z => ?_
    match r, z with
    | .error e, z => exact (hCX H e s' z).elim
    | .ok .next, z => exact z.elim
    | .ok .brk, z => exact z.elim
    | .ok .cont, z => exact z.elim
    | .ok (.ret u), ⟨v, H', os, bare, un, hok', rv, q⟩ =>
      obtain rfl : v = .bl true := q
      obtain rfl : u = Value.bool true := rv
      have grown : ∀ b, (∃ p ∈ cs, p.2 = b) → ∃ more : Array Value, s'.heap.get? b = some (PySem.W.tabObj more) := fun b ⟨p, hp, e⟩ => by
        subst e
        obtain ⟨more, y⟩ := un.tbls p.2 #[] (hTb p hp)
        exact ⟨_, hok' p.2 _ y⟩
      have kept : ∀ b o, s₁.heap.get? b = some o → (¬ ∃ p ∈ cs, p.2 = b) → s'.heap.get? b = some o := fun b o e n => by
        rcases only b with y | ⟨_, _, y⟩ | ⟨y, _⟩
        · exact un.keep b o e y (nofr b) (by intro c; cases c)
        · obtain ⟨e1, _⟩ := hok b _ y
          obtain ⟨e2, _⟩ := hok' b _ (un.frzs b _ _ y)
          exact e2.trans (e1.symm.trans e)
        · exact (n y).elim
      refine ⟨rfl, ⟨fun b o e => ?_, fun b o e => ?_⟩, os, bare⟩
      · rcases Classical.em (∃ p ∈ cs, p.2 = b) with y | y
        · obtain ⟨more, hm⟩ := grown b y
          have eo : o = PySem.W.tabObj #[] := Option.some.inj (e.symm.trans (inT b y))
          subst eo
          obtain ⟨p, hp, rfl⟩ := y
          exact .inr (.inl ⟨((hC p hp).tab (hT p hp)).isCodeTable, rfl, #[], more, rfl, by rw [Array.empty_append]; exact hm⟩)
        · exact .inl (kept b o e y)
      · rcases Classical.em (∃ p ∈ cs, p.2 = b) with y | y
        · obtain ⟨more, hm⟩ := grown b y
          exact ⟨_, hm⟩
        · exact ⟨o, kept b o e y⟩
  have dT : ∀ b : Addr, Decidable (∃ p ∈ cs, p.2 = b) := fun b => Classical.propDecidable _
  cases hk : K.lookup a with
  | some o =>
    have e : o = so := Option.some.inj ((KX a o hk).symm.trans ha)
    subst e
    refine main (fun b => if ∃ p ∈ cs, p.2 = b then some (.tbl #[]) else none) (fun b => ?_) (fun p hp => if_pos ⟨p, hp, rfl⟩) (.inr ⟨so, vs.toArray, _, hk, rfl, rfl, rfl, by rw [List.size_toArray, hi.length]; exact hl, by simpa using vals_ints hi⟩) fun b u z => ?_
    · by_cases y : ∃ p ∈ cs, p.2 = b
      · exact .inr (.inr ⟨y, if_pos y⟩)
      · exact .inl (if_neg y)
    · by_cases y : ∃ p ∈ cs, p.2 = b
      · obtain rfl : HO.tbl #[] = u := Option.some.inj ((if_pos y).symm.trans z)
        exact inT b y
      · have z' := (if_neg y).symm.trans z
        cases z'
  | none =>
    have at_a : (fun b : Addr => if b = a then some (HO.frz so (.lst (ns.map V.int))) else if ∃ p ∈ cs, p.2 = b then some (HO.tbl #[]) else none) a = some (HO.frz so (.lst (ns.map V.int))) := if_pos rfl
    refine main (fun b => if b = a then some (.frz so (.lst (ns.map V.int))) else if ∃ p ∈ cs, p.2 = b then some (.tbl #[]) else none) (fun b => ?_) (fun p hp => (if_neg fun z => aT ⟨p, hp, z⟩).trans (if_pos ⟨p, hp, rfl⟩)) (.inl (.inr ⟨so, at_a⟩)) fun b u z => ?_
    · by_cases y : b = a
      · exact .inr (.inl ⟨y, hk, if_pos y⟩)
      · by_cases y2 : ∃ p ∈ cs, p.2 = b
        · exact .inr (.inr ⟨y2, (if_neg y).trans (if_pos y2)⟩)
        · exact .inl ((if_neg y).trans (if_neg y2))
    · by_cases y : b = a
      · subst y
        obtain rfl : HO.frz so (.lst (ns.map V.int)) = u := Option.some.inj (at_a.symm.trans z)
        exact ⟨ha, by rw [List.length_map] <;> exact hl, vs, _, vals_ints hi, ha⟩
      · by_cases y2 : ∃ p ∈ cs, p.2 = b
        · obtain rfl : HO.tbl #[] = u := Option.some.inj (((if_neg y).trans (if_pos y2)).symm.trans z)
          exact inT b y2
        · have z' : (none : Option HO) = some u := ((if_neg y).trans (if_neg y2)).symm.trans z
          cases z'
theorem walk_gT {l : PySem.W.OpenLaw} {n k : Nat} {q : Program} {loose : List Str} {XP : (Str → Option Value) → Heap → Prop} {YP : World → Heap → Prop} {d : DefRec} {K : Params → PySem.W.Frag} {CX : World → CXT} {x : Str} {cs : List (Addr × Addr)}
    (hn : l.most = some n) (hn2 : n ≤ sizeLine) (hdf : d.params.defaults = []) (hr : RoomG k callerA) (hY : ∀ (w : World) (h : Heap), YP w h → (K w.params).In h)
    (hT : ∀ (w : World) (h : Heap), YP w h → ∀ p ∈ cs, h.get? p.2 = some (PySem.W.tabObj #[])) (nT : ∀ (w : World), ∀ p ∈ cs, (K w.params).lookup p.2 = none) (hC : ∀ (w : World), ∀ p ∈ cs, PySem.W.codeHdIn (K w.params) p.1 p.2 = true)
    (F : ∀ (w : World) (mg : Str → Option Value) (fa : Addr) (h : Heap), (K w.params).In h → h.Ns mainGlobals mg → mg d.name = some (.ref fa) →
      ∃ (fd : FuncData) (sp : Sp), (∀ (s : Shared) (u : Value), BindsTo s fd ⟨[u], []⟩ [(x, u)]) ∧
        (∀ (H : Hp) (a : Addr) (ns : List Int), ns.length ≤ n → SqL (K w.params) H a (ns.map V.int) → (∀ p ∈ cs, H p.2 = some (.tbl #[])) → sp [.ref a] H (fun v _ => v = .bl true) fun _ _ _ => False) ∧
        ∀ base : Heap, (K w.params).In base → base.Ns mainGlobals mg → (∀ p ∈ cs, TabB base mg p.1 p.2) → FnG l.prog w (K w.params) mg base (CX w) k fa fd [x] sp)
    (hCX : ∀ (w : World) (H : Hp) (s : Shared) (e : Value) (s' : Shared), CX w [] H s (fun _ _ _ => False) e s' → False) : PySem.W.WalkO q loose XP YP l.row.toRowW d [] (fun f vs => PySem.call f vs) := by
  refine Att.attach_call hn hdf fun w s₀ s₁ mg mb fa o pm cd doc a vs ns G Y ho hd hcd hmg hobj hints hlen hg => ?_
  obtain ⟨fd, sp, hb, hs, hF⟩ := F w mg fa _ (hY w _ Y) G.T.g hmg
  exact law_gT (cs := cs) (hY w _ Y) G.T.g G.T.b G.T.builtins G.T.nolimit hg G.T.bmain (hT w _ Y) (nT w) (fun p hp => PySem.W.codeHd_of_K (hY w _ Y) (hC w p hp)) hobj hints (Nat.le_trans hlen hn2) hr hF hb (fun H hS hH => hs H a ns hlen hS hH) fun H e s' => hCX w H s₁ e s'
open PySem PySem.Spec PyProof.Rows
open L2 hiding pass0
open L2 (cxOf)
def top (i : Nat) : Stmt := PySem.Challenge.pw_coverways_k37_whole_bits_turned_and_tabl.main.body.getD i (.Pass ⟨0, 0, 0, 0⟩)
abbrev s_law_pot : Stmt := top 71
theorem sc_law_pot : FnScope ["_law_script", "_law_k", "_law_start"] ["_law_script", "_law_k"] (defScope s_law_pot) := ⟨rfl, rfl, rfl, by decide +kernel, rfl, by decide +kernel, by decide +kernel⟩
theorem bp_law_pot : BndP "_law_pot" s_law_pot ["_law_script", "_law_k"] := fun _ _ _ _ _ _ us h => match us, h with | [_, _], _ => rfl
abbrev s_law_draw : Stmt := top 72
theorem sc_law_draw : FnScope ["_law_pot_here", "_law_many", "_law_digit"] ["_law_pot_here", "_law_many"] (defScope s_law_draw) := ⟨rfl, rfl, rfl, by decide +kernel, rfl, by decide +kernel, by decide +kernel⟩
theorem bp_law_draw : BndP "_law_draw" s_law_draw ["_law_pot_here", "_law_many"] := fun _ _ _ _ _ _ us h => match us, h with | [_, _], _ => rfl
abbrev s_law_pick : Stmt := top 73
theorem sc_law_pick : FnScope ["_law_pot_here", "_law_some"] ["_law_pot_here", "_law_some"] (defScope s_law_pick) := ⟨rfl, rfl, rfl, by decide +kernel, rfl, by decide +kernel, by decide +kernel⟩
theorem bp_law_pick : BndP "_law_pick" s_law_pick ["_law_pot_here", "_law_some"] := fun _ _ _ _ _ _ us h => match us, h with | [_, _], _ => rfl
/-- what the top leaves of the built-in names -/
structure Txt (K : PySem.W.Frag) (mg : Str → Option Value) : Prop where
  b_len : mg "len" = none
  b_abs : mg "abs" = none
  b_max : mg "max" = none
  b_min : mg "min" = none
  b_int : mg "int" = none
  b_divmod : mg "divmod" = none
  b_range : mg "range" = none
  b_repr : mg "repr" = none
  b_all : mg "all" = none
  b_str : mg "str" = none
  b_bool : mg "bool" = none
  b_isinstance : mg "isinstance" = none
  b_tuple : mg "tuple" = none
  b_dict : mg "dict" = none
  b_list : mg "list" = none
  b_sorted : mg "sorted" = none
  b_zip : mg "zip" = none
  b_enumerate : mg "enumerate" = none
  b_sum : mg "sum" = none
  b_any : mg "any" = none
  b_reversed : mg "reversed" = none
def PotAt (H : Hp) (p : Addr) : Prop := ∃ a b : Int, H p = some (.lst [.int a, .int b]) ∧ 0 ≤ a ∧ 0 ≤ b ∧ b < 2147483648
/-- all that stood stands, but for the pot at p -/
structure Go (p : Addr) (H H' : Hp) : Prop where
  pot : PotAt H' p
  keep : ∀ a o, H a = some o → a ≠ p → H' a = some o
theorem Go.trans {p : Addr} {H H1 H2 : Hp} (a : Go p H H1) (b : Go p H1 H2) : Go p H H2 := ⟨b.pot, fun c o h n => b.keep c o (a.keep c o h n) n⟩
theorem Go.refl {p : Addr} {H : Hp} (h : PotAt H p) : Go p H H := ⟨h, fun _ _ e _ => e⟩
theorem Go.new {p q : Addr} {H H1 : Hp} {o : HO} (g : Go p H H1) (h : H1 q = none) : Go p H (upd H1 q o) := by
  obtain ⟨a, b, e, r⟩ := g.pot
  refine ⟨⟨a, b, by rw [upd_ne (ne_of_none e h)]; exact e, r⟩, fun c u hc n => ?_⟩
  have := g.keep c u hc n
  rw [upd_ne (ne_of_none this h)]
  exact this
theorem Go.lst {K : PySem.W.Frag} {p a : Addr} {H H' : Hp} {xs : List V} (g : Go p H H') (n : a ≠ p) (h : SqL K H a xs) : SqL K H' a xs := by
  rcases h with (h | ⟨o, h⟩) | h
  · exact .inl (.inl (g.keep _ _ h n))
  · exact .inl (.inr ⟨o, g.keep _ _ h n⟩)
  · exact .inr h
theorem Go.fresh {p q : Addr} {H H' : Hp} (g : Go p H H') (hp : PotAt H p) (h : H' q = none) : H q = none := by
  cases e : H q with
  | none => rfl
  | some o =>
    by_cases n : q = p
    · subst n
      obtain ⟨a, b, e2, _⟩ := g.pot
      rw [h] at e2
      cases e2
    · have := g.keep q o e n
      rw [h] at this
      cases this
theorem szl {n : Nat} (h : n ≤ 1000000) : n ≤ sizeLine := Nat.le_trans h (by decide)
theorem szt {n : Nat} (h : n < 1000000) : n < sizeLine := Nat.lt_of_lt_of_le h (by decide)
theorem nonn {H : Hp} {a b : Addr} {o : HO} (h' : H b = none) (h : H a = some o) : a ≠ b := ne_of_none h h'
theorem Go.kp {p a : Addr} {H H' : Hp} {o : HO} (g : Go p H H') (h : H a = some o) (n : a ≠ p) : H' a = some o := g.keep a o h n
theorem updn {H : Hp} {a b : Addr} {o u : HO} (n : b ≠ a) (h : H b = some u) : upd H a o b = some u := (upd_ne n).trans h
local macro_rules | `(tactic| walk_at "hp") => `(tactic| first | assumption | exact upd_same | exact updn (by walk_at "ne") (by walk_at "hp") | exact Go.kp (by assumption) (by walk_at "hp") (by walk_at "ne"))
local macro_rules | `(tactic| walk_at "ne") => `(tactic| first | assumption | exact Ne.symm (by assumption) | exact nonn (by assumption) (by walk_at "hp") | exact Ne.symm (nonn (by assumption) (by walk_at "hp")))
local macro_rules | `(tactic| walk_at "sq") => `(tactic| first | assumption | exact SqL.of (by walk_at "hp") | exact SqT.of (by walk_at "hp") | exact Go.lst (by assumption) (by walk_at "ne") (by walk_at "sq"))
local macro_rules | `(tactic| walk_at "sz") => `(tactic| first | assumption | exact szl (Nat.le_of_ble_eq_true rfl) | (apply szl; first | omega | (simp; omega)) | (apply szt; first | omega | (simp; omega)))
local macro_rules | `(tactic| walk_at "len") => `(tactic| first | exact Or.inl ⟨_, (by walk_at "sq"), rfl⟩ | exact ⟨(by walk_at "sz"), rfl⟩ | exact Or.inr ⟨_, (by walk_at "sq"), rfl⟩)
local macro_rules | `(tactic| walk_at "ar") => `(tactic| first | assumption | omega | decide | exact upd_same | rfl | walk_at "sz" | (simp only [CDiv, CMul, CPow]; first | omega | decide) | (refine ⟨?_, ?_⟩ <;> first | omega | decide))
local macro_rules | `(tactic| walk_at "at") => `(tactic| first | rfl | assumption | decide)
local macro_rules | `(tactic| walk_at "s1") => `(tactic| first
  | (refine ⟨_, rfl, ?_⟩)
  | (refine ⟨_, _, rfl, rfl, ?_⟩)
  | (refine Or.inl ⟨_, _, _, _, rfl, rfl, by walk_at "sq", by walk_at "at", ?_⟩)
  | (refine Or.inr (Or.inl ⟨_, _, _, _, rfl, rfl, by walk_at "sq", by walk_at "at", ?_⟩))
  | (refine Or.inl ⟨_, rfl, ?_⟩)
  | (refine And.intro (by walk_at "ar") ?_)
  | (refine ⟨_, _, rfl, ?_⟩)
  | (refine ⟨_, _, rfl, (by walk_at "sq"), rfl, ?_⟩)
  | (refine ⟨_, _, rfl, (by walk_at "len"), ?_⟩)
  | (refine ⟨_, _, _, _, rfl, rfl, (by walk_at "hp"), rfl, ?_⟩)
  | (refine fun q (hq : _ = none) => ?_)
  | (intro _; intros))
local macro_rules | `(tactic| walk_at "go") => `(tactic| first | assumption | exact Go.refl (by assumption) | exact Go.new (by walk_at "go") (by assumption) | exact Go.trans (by walk_at "go") (by assumption))
local macro_rules | `(tactic| walk_at "pot") => `(tactic| first | assumption | exact Go.pot (by assumption) | exact Go.pot (by walk_at "go"))
theorem atI_ok {α : Type} {xs : List α} {d : Int} (h0 : 0 ≤ d) (h1 : d < (xs.length : Int)) : ∃ v, v ∈ xs ∧ atI xs d = some v := by
  obtain ⟨j, rfl⟩ := Int.eq_ofNat_of_zero_le h0
  have hj : j < xs.length := by omega
  exact ⟨xs[j], List.getElem_mem hj, atI_nat (by simp [hj])⟩
theorem potb (x M : Int) (h0 : 0 < M) (h1 : M < 2147483648) : 0 ≤ x % M + 1 ∧ x % M + 1 < 2147483648 := by
  have := Int.emod_nonneg x (show M ≠ 0 by omega)
  have := Int.emod_lt_of_pos x h0
  omega
theorem emodb (x M : Int) (h0 : 0 < M) (h1 : M ≤ 2147483648) : x % M < 2147483648 := by
  have := Int.emod_lt_of_pos x h0
  omega
theorem max0 {x : Int} : 0 ≤ (if x > 0 then x else 0) := by split <;> omega
theorem Go.mut {p D : Addr} {H H1 : Hp} {o : HO} (g : Go p H H1) (n : H D = none) (np : D ≠ p) : Go p H (upd H1 D o) := by
  obtain ⟨a, b, e, r⟩ := g.pot
  exact ⟨⟨a, b, by rw [upd_ne (Ne.symm np)]; exact e, r⟩, fun c u hc nc => by rw [upd_ne (ne_of_none hc n)]; exact g.keep c u hc nc⟩
theorem PotAt.ne {p q : Addr} {H : Hp} (h : PotAt H p) (n : H q = none) : q ≠ p := by
  obtain ⟨a, b, e, _⟩ := h
  exact (ne_of_none e n).symm
/-- a def that raises nothing -/
theorem nm_of0 {P : Program} {w : World} {K : PySem.W.Frag} {mg : Str → Option Value} {base : Heap} {CX : CXT} {x : Str} {st : Stmt} {f : Addr} {fd : FuncData} {N ps : List Str} {k : Nat} {sp : Sp} (F : Fun K x x st f fd) (hm : mg x = some (.ref f)) (S : FnScope N ps (defScope st)) (len : ∀ vs H Q E, sp vs H Q E → vs.length = ps.length)
    (hb : ∀ (cdv : Value) (A : Around) (outer : List Env) (s : Shared) (H : Hp) (vs : List V) (Q : VK) (E : XK), RoomG k (A.deeper (envOfC x (defScope st) s.heap.objs.size f cdv)) → sp vs H Q E →
      ∃ t, PSs (cxOf CX P w K mg base N x (defScope st) f cdv A outer s H E).nox (defBody st) t ∧ t { nx := fun _ H' => Q .non H', rt := Q } (start N vs) H) : Nm P w K mg base CX (k + 1) x st ps sp :=
  nm_of F hm S len fun cdv A outer s H vs Q E hr h => let ⟨t, h1, h2⟩ := hb cdv A outer s H vs Q E hr h; ⟨t, h1.nox, h2⟩
/-- texts of single signs -/
def sg (c : Nat) : Str := ⟨#[c]⟩
theorem joinL_sg : ∀ zs : List Nat, TL.joinL [] (zs.map fun c => [c]) = zs
  | [] => rfl
  | [c] => rfl
  | c :: d :: r => by
    show [c] ++ [] ++ TL.joinL [] ((d :: r).map fun c => [c]) = c :: d :: r
    rw [joinL_sg (d :: r)]
    rfl
theorem join_sg (zs : List Nat) : Txt.join ("" : Str) (zs.map sg) = SX.S zs := by
  have h := SX.join_S [] (zs.map fun c => [c])
  rw [joinL_sg, List.map_map] at h
  exact h
theorem sum_sg : ∀ zs : List Nat, ((zs.map sg).map (·.length)).sum = zs.length
  | [] => rfl
  | c :: r => by
    rw [List.map_cons, List.map_cons, List.sum_cons, sum_sg r]
    show 1 + r.length = r.length + 1
    omega
theorem Go.put {p : Addr} {H H1 : Hp} {a b : Int} (g : Go p H H1) (ha : 0 ≤ a) (hb : 0 ≤ b) (hb2 : b < 2147483648) : Go p H (upd H1 p (.lst [.int a, .int b])) :=
  ⟨⟨a, b, upd_same, ha, hb, hb2⟩, fun c o e n => by rw [upd_ne n]; exact g.keep c o e n⟩
theorem Go.any {p : Addr} {H : Hp} (q : Addr) (o : HO) (h : PotAt H p) (n : H q = none) : Go p H (upd H q o) := (Go.refl h).new n
@[irreducible] def spPot (K : PySem.W.Frag) : Sp := fun vs H Q _ => ∃ (a : Addr) (ns : List Int) (k : Int), vs = [.ref a, .int k] ∧ SqL K H a (ns.map V.int) ∧ ns.length ≤ 63 ∧ 0 ≤ k ∧ k ≤ 100 ∧
  ∀ p H', H p = none → PotAt H' p → (∀ b o, H b = some o → H' b = some o) → Q (.ref p) H'
@[irreducible] def spDraw : Sp := fun vs H Q _ => ∃ (p : Addr) (n : Int), vs = [.ref p, .int n] ∧ PotAt H p ∧ 0 < n ∧ n < 1073741824 ∧ ∀ (d : Int) H', 0 ≤ d → d < n → Go p H H' → Q (.int d) H'
@[irreducible] def spAmong (K : PySem.W.Frag) : Sp := fun vs H Q _ => ∃ (p : Addr) (x : V), vs = [.ref p, x] ∧ PotAt H p ∧
  ((∃ (a : Addr) (xs : List V), x = .ref a ∧ a ≠ p ∧ SqL K H a xs ∧ 0 < xs.length ∧ xs.length ≤ 1000 ∧ ∀ v ∈ xs, ∀ H', Go p H H' → Q v H') ∨
   (∃ z : Str, x = .str z ∧ 0 < z.length ∧ z.length ≤ 1000 ∧ ∀ c ∈ z.cps.toList, ∀ H', Go p H H' → Q (.str ⟨#[c]⟩) H'))
def Bits (z : Str) : Prop := ∀ c ∈ z.cps.toList, c = 48 ∨ c = 49
section
variable {K : PySem.W.Frag} {p a : Addr} {n lo hi k : Int} {H : Hp} {Q : VK} {E : XK} {xs : List V} {z : Str} {ns : List Int}
theorem pot_go (hS : SqL K H a (ns.map V.int)) (hl : ns.length ≤ 63) (h0 : 0 ≤ k) (h1 : k ≤ 100) (q : ∀ p H', H p = none → PotAt H' p → (∀ b o, H b = some o → H' b = some o) → Q (.ref p) H') : spPot K [.ref a, .int k] H Q E := by
  unfold spPot
  exact ⟨a, ns, k, rfl, hS, hl, h0, h1, q⟩
theorem draw_go (hp : PotAt H p) (h0 : 0 < n) (h1 : n < 1073741824) (q : ∀ (d : Int) H', 0 ≤ d → d < n → Go p H H' → Q (.int d) H') : spDraw [.ref p, .int n] H Q E := by
  unfold spDraw
  exact ⟨p, n, rfl, hp, h0, h1, q⟩
theorem among_l (hp : PotAt H p) (na : a ≠ p) (hS : SqL K H a xs) (h0 : 0 < xs.length) (h1 : xs.length ≤ 1000) (q : ∀ v ∈ xs, ∀ H', Go p H H' → Q v H') : spAmong K [.ref p, .ref a] H Q E := by
  unfold spAmong
  exact ⟨p, _, rfl, hp, .inl ⟨a, xs, rfl, na, hS, h0, h1, q⟩⟩
end
section
variable {P : Program} {w : World} {K : PySem.W.Frag} {mg : Str → Option Value} {base : Heap} {f : Addr} {fd : FuncData}
theorem ok_draw (F : Fun K "_law_draw" "_law_draw" s_law_draw f fd) (hm : mg "_law_draw" = some (.ref f)) (T : Txt K mg) : Nm P w K mg base CX0 1 "_law_draw" s_law_draw ["_law_pot_here", "_law_many"] spDraw := by
  refine nm_of F hm sc_law_draw (fun vs H Q E h => ?_) fun cdv A outer s H vs Q E hr h => ?_
  · unfold spDraw at h
    obtain ⟨p, n, rfl, _⟩ := h
    rfl
  · unfold spDraw at h
    obtain ⟨p, n, rfl, ⟨a, b, hp, ha, hb, hb2⟩, hn, hn2, k⟩ := h
    refine ⟨_, (pss_cons (ps_if (pt_cmpR op_gt (pe_ix (ix_seqK (K := K) rfl) (pv 0) pe_int (fun _ _ => rfl)) pe_int (nomark _)) (pss_cons (ps_asg (pe_callB call_divmod (by rfl) T.b_divmod (by decide +kernel) (pa_cons (pe_ix (ix_seqK (K := K) rfl) (pv 0) pe_int (fun _ _ => rfl)) (pa_cons (pv 1) pa_nil))) (pg_tup (by rfl) (pgs_cons (pg_sub (pv 0) pe_int set_list) (pgs_cons (pg_name (i := 2) sc_law_draw.nd rfl (by first | exact Or.inl rfl | exact Or.inr rfl)) pgs_nil))))
      (pss_one (ps_ret (pv 2)))) pss_nil)
      (pss_cons (ps_asg (pe_op op_mod (pe_callTy call_int1 (by rfl) T.b_int (by decide +kernel) (pa_cons (pe_op op_add (pe_op op_mul (pe_ix (ix_seqK (K := K) rfl) (pv 0) pe_int (fun _ _ => rfl)) pe_int) pe_int) pa_nil)) pe_int) (pg_sub (pv 0) pe_int set_list))
      (pss_one (ps_ret (pe_op op_mod (pe_callTy call_int1 (by rfl) T.b_int (by decide +kernel) (pa_cons (pe_op op_fdiv (pe_op op_mod (pe_callTy call_int1 (by rfl) T.b_int (by decide +kernel) (pa_cons (pe_op op_mul (pe_ix (ix_seqK (K := K) rfl) (pv 0) pe_int (fun _ _ => rfl)) (pe_ix (ix_seqK (K := K) rfl) (pv 0) pe_int (fun _ _ => rfl))) pa_nil)) pe_int) pe_int) pa_nil)) (pv 1)))))), ?_⟩
    have g0 : PotAt H p := ⟨a, b, hp, ha, hb, hb2⟩
    repeat walk_at "s1"
    refine ite2 (fun c => ?_) fun c => ?_
    · have c' : 0 < a := of_decide_eq_true c
      repeat walk_at "s1"
      rename_i q hq
      exact k _ _ (Int.emod_nonneg _ (by omega)) (Int.emod_lt_of_pos _ hn) (((Go.refl g0).new hq).put (Int.ediv_nonneg ha (by omega)) hb hb2)
    · repeat walk_at "s1"
      exact k _ _ (Int.emod_nonneg _ (by omega)) (Int.emod_lt_of_pos _ hn) ((Go.refl g0).put ha (Int.emod_nonneg _ (by decide)) (emodb _ _ (by decide) (by decide)))
theorem ok_pot (F : Fun K "_law_pot" "_law_pot" s_law_pot f fd) (hm : mg "_law_pot" = some (.ref f)) (T : Txt K mg) : Nm P w K mg base CX0 1 "_law_pot" s_law_pot ["_law_script", "_law_k"] (spPot K) := by
  refine nm_of F hm sc_law_pot (fun vs H Q E h => ?_) fun cdv A outer s H vs Q E hr h => ?_
  · unfold spPot at h
    obtain ⟨a, ns, k, rfl, _⟩ := h
    rfl
  · unfold spPot at h
    obtain ⟨a, ns, k, rfl, hS, hl, hk, hk2, kk⟩ := h
    refine ⟨_, (pss_cons (ps_set (i := 2) sc_law_pot.nd rfl (by first | exact Or.inl rfl | exact Or.inr rfl) (pe_op op_add (pe_op op_mul pe_int (pv 1)) pe_int))
      (pss_cons (ps_if (pt_cmpR op_lt (pv 1) (pe_callB (call_lenK (K := K) rfl) (by rfl) T.b_len PySem.boot_len (pa_cons (pv 0) pa_nil)) (nomark _)) (pss_one (ps_set (i := 2) sc_law_pot.nd rfl (by first | exact Or.inl rfl | exact Or.inr rfl) (pe_callB call_abs (by rfl) T.b_abs (by decide +kernel) (pa_cons (pe_ix (ix_seqK (K := K) rfl) (pv 0) (pv 1) (fun _ _ => rfl)) pa_nil)))) pss_nil)
      (pss_one (ps_ret (pe_lst (pa_cons (pe_callB (call_max2 rfl) (by rfl) T.b_max (by decide +kernel) (pa_cons pe_int (pa_cons (pe_op op_sub (pv 2) (pe_op op_pow pe_int pe_int)) pa_nil))) (pa_cons (pe_op op_add (pe_op op_mod (pe_callTy call_int1 (by rfl) T.b_int (by decide +kernel) (pa_cons (pe_op op_add (pe_op op_add (pe_op op_mul (pe_op op_mod (pe_callTy call_int1 (by rfl) T.b_int (by decide +kernel) (pa_cons (pv 2) pa_nil)) pe_int) pe_int) (pe_op op_mul pe_int (pv 1))) pe_int) pa_nil)) pe_int) pe_int) pa_nil))))))), ?_⟩
    repeat walk_at "s1"
    refine ite2 (fun c => ?_) fun c => ?_
    · have c' : k < (ns.length : Int) := by have := of_decide_eq_true c; rw [List.length_map] at this; exact this
      have hat : atI (ns.map V.int) k = some (.int (ns.getD k.toNat 0)) := by
        obtain ⟨j, rfl⟩ := Int.eq_ofNat_of_zero_le hk
        have hj : j < ns.length := by omega
        refine atI_nat ?_
        simp [List.getElem?_map, hj, List.getD]
      iterate 30 (try walk_at "s1")
      refine kk _ _ (by assumption) ⟨_, _, upd_same, ?_, ?_, ?_⟩ fun b o e => updn (nonn (by assumption) e) e
      · exact max0
      · exact (potb _ _ (by decide) (by decide)).1
      · exact (potb _ _ (by decide) (by decide)).2
    · iterate 30 (try walk_at "s1")
      refine kk _ _ (by assumption) ⟨_, _, upd_same, ?_, ?_, ?_⟩ fun b o e => updn (nonn (by assumption) e) e
      · exact max0
      · exact (potb _ _ (by decide) (by decide)).1
      · exact (potb _ _ (by decide) (by decide)).2
theorem ok_among (F : Fun K "_law_pick" "_law_pick" s_law_pick f fd) (hm : mg "_law_pick" = some (.ref f)) (T : Txt K mg) (c_law_draw : Nm P w K mg base CX0 1 "_law_draw" s_law_draw ["_law_pot_here", "_law_many"] spDraw) :
    Nm P w K mg base CX0 2 "_law_pick" s_law_pick ["_law_pot_here", "_law_some"] (spAmong K) := by
  refine nm_of F hm sc_law_pick (fun vs H Q E h => ?_) fun cdv A outer s H vs Q E hr h => ?_
  · unfold spAmong at h
    obtain ⟨p, x, rfl, _⟩ := h
    rfl
  · unfold spAmong at h
    obtain ⟨p, x, rfl, hp, h⟩ := h
    refine ⟨_, (pss_one (ps_ret (pe_ix (ix_seqK (K := K) rfl) (pv 1) (pe_g c_law_draw hr (by decide) L2.pass0 bp_law_draw (by rfl) (pa_cons (pv 0) (pa_cons (pe_callB (call_lenK (K := K) rfl) (by rfl) T.b_len PySem.boot_len (pa_cons (pv 1) pa_nil)) pa_nil))) (fun _ _ => rfl)))), ?_⟩
    rcases h with ⟨a, xs, rfl, na, hS, l0, l1, k⟩ | ⟨z, rfl, l0, l1, k⟩
    · iterate 4 walk_at "s1"
      refine draw_go hp (by omega) (by omega) fun d H' h0 h1 g => ?_
      obtain ⟨v, hv, hat⟩ := atI_ok (xs := xs) h0 h1
      exact Or.inl ⟨_, _, _, _, rfl, rfl, g.lst na hS, hat, k v hv H' g⟩
    · iterate 4 walk_at "s1"
      refine draw_go hp (by omega) (by omega) fun d H' h0 h1 g => ?_
      obtain ⟨c, hc, hat⟩ := atI_ok (xs := z.cps.toList) h0 (by rw [Array.length_toList]; exact h1)
      exact Or.inr (Or.inr ⟨_, _, c, rfl, rfl, szl (by omega), hat, k c hc H' g⟩)
end
open PySem PySem.Spec PyProof.Rows
open L2 hiding pass0
abbrev s_is_count : Stmt := top 20
theorem sc_is_count : FnScope ["value"] ["value"] (defScope s_is_count) := ⟨rfl, rfl, rfl, by decide +kernel, rfl, by decide +kernel, by decide +kernel⟩
theorem bp_is_count : BndP "is_count" s_is_count ["value"] := fun _ _ _ _ _ _ us h => match us, h with | [_], _ => rfl
abbrev s_is_width : Stmt := top 21
theorem sc_is_width : FnScope ["value"] ["value"] (defScope s_is_width) := ⟨rfl, rfl, rfl, by decide +kernel, rfl, by decide +kernel, by decide +kernel⟩
theorem bp_is_width : BndP "is_width" s_is_width ["value"] := fun _ _ _ _ _ _ us h => match us, h with | [_], _ => rfl
abbrev s_is_bits : Stmt := top 22
theorem sc_is_bits : FnScope ["value", "bit"] ["value"] (defScope s_is_bits) := ⟨rfl, rfl, rfl, by decide +kernel, rfl, by decide +kernel, by decide +kernel⟩
theorem bp_is_bits : BndP "is_bits" s_is_bits ["value"] := fun _ _ _ _ _ _ us h => match us, h with | [_], _ => rfl
abbrev s_is_name : Stmt := top 23
theorem sc_is_name : FnScope ["value", "letter"] ["value"] (defScope s_is_name) := ⟨rfl, rfl, rfl, by decide +kernel, rfl, by decide +kernel, by decide +kernel⟩
theorem bp_is_name : BndP "is_name" s_is_name ["value"] := fun _ _ _ _ _ _ us h => match us, h with | [_], _ => rfl
abbrev s_is_goal : Stmt := top 24
theorem sc_is_goal : FnScope ["value"] ["value"] (defScope s_is_goal) := ⟨rfl, rfl, rfl, by decide +kernel, rfl, by decide +kernel, by decide +kernel⟩
theorem bp_is_goal : BndP "is_goal" s_is_goal ["value"] := fun _ _ _ _ _ _ us h => match us, h with | [_], _ => rfl
abbrev s_check_width : Stmt := top 27
theorem sc_check_width : FnScope ["width"] ["width"] (defScope s_check_width) := ⟨rfl, rfl, rfl, by decide +kernel, rfl, by decide +kernel, by decide +kernel⟩
theorem bp_check_width : BndP "check_width" s_check_width ["width"] := fun _ _ _ _ _ _ us h => match us, h with | [_], _ => rfl
abbrev s_is_stretch : Stmt := top 26
theorem sc_is_stretch : FnScope ["width", "value"] ["width", "value"] (defScope s_is_stretch) := ⟨rfl, rfl, rfl, by decide +kernel, rfl, by decide +kernel, by decide +kernel⟩
theorem bp_is_stretch : BndP "is_stretch" s_is_stretch ["width", "value"] := fun _ _ _ _ _ _ us h => match us, h with | [_, _], _ => rfl
abbrev s_is_address : Stmt := top 25
theorem sc_is_address : FnScope ["width", "value"] ["width", "value"] (defScope s_is_address) := ⟨rfl, rfl, rfl, by decide +kernel, rfl, by decide +kernel, by decide +kernel⟩
theorem bp_is_address : BndP "is_address" s_is_address ["width", "value"] := fun _ _ _ _ _ _ us h => match us, h with | [_, _], _ => rfl
abbrev s_check_stretch : Stmt := top 28
theorem sc_check_stretch : FnScope ["width", "stretch"] ["width", "stretch"] (defScope s_check_stretch) := ⟨rfl, rfl, rfl, by decide +kernel, rfl, by decide +kernel, by decide +kernel⟩
theorem bp_check_stretch : BndP "check_stretch" s_check_stretch ["width", "stretch"] := fun _ _ _ _ _ _ us h => match us, h with | [_, _], _ => rfl
abbrev s_check_address : Stmt := top 29
theorem sc_check_address : FnScope ["width", "address"] ["width", "address"] (defScope s_check_address) := ⟨rfl, rfl, rfl, by decide +kernel, rfl, by decide +kernel, by decide +kernel⟩
theorem bp_check_address : BndP "check_address" s_check_address ["width", "address"] := fun _ _ _ _ _ _ us h => match us, h with | [_, _], _ => rfl
/-- the constants of the text -/
structure Cst (K : PySem.W.Frag) (mg : Str → Option Value) where
  c_MOST_WIDTH : ∃ u, mg "MOST_WIDTH" = some u ∧ RelV (.int 100) u
  c_MOST_LETTERS : ∃ u, mg "MOST_LETTERS" = some u ∧ RelV (.int 6) u
  c_LETTERS : ∃ u, mg "LETTERS" = some u ∧ RelV (.str "abcdefghijklmnopqrstuvwxyz") u
  aN : Addr
  c_NO_NAMES : ∃ u, mg "NO_NAMES" = some u ∧ RelV (.ref aN) u
  tN : ∀ H, SqT K H aN [.str "home", .str "hole", .str "ring", .str "all", .str "none"]
  aE : Addr
  c_ENDS : ∃ u, mg "ENDS" = some u ∧ RelV (.ref aE) u
  tE : ∀ H, SqT K H aE [.str "home", .str "hole"]
def bitsB (z : Str) : Bool := z.cps.toList.all fun c => decide (c ∈ ("01" : Str).cps.toList)
theorem bitsB_of {z : Str} (h : Bits z) : bitsB z = true := List.all_eq_true.mpr fun c hc => by
  rcases h c hc with rfl | rfl <;> exact decide_eq_true (by decide)
theorem Bits.of {z : Str} (h : bitsB z = true) : Bits z := fun c hc => by
  have := of_decide_eq_true (List.all_eq_true.mp h c hc)
  have h2 : c ∈ [48, 49] := this
  simpa using h2
def Low (z : Str) : Prop := ∀ c ∈ z.cps.toList, c < 128
theorem Bits.low {z : Str} (h : Bits z) : Low z := fun c hc => by
  have := h c hc
  omega
theorem Low.small {z : Str} (h : Low z) : SmallS z := by
  refine Array.all_eq_true_iff_forall_mem.mpr fun c hc => decide_eq_true (h c (by simpa using hc))
@[irreducible] def spI (g : Int → Bool) : Sp := fun vs H Q _ => ∃ n : Int, vs = [.int n] ∧ Q (.bl (g n)) H
@[irreducible] def spT (g : Str → Bool) : Sp := fun vs H Q _ => ∃ z : Str, vs = [.str z] ∧ z.length ≤ 1000 ∧ ∀ H', Same H H' → Q (.bl (g z)) H'
@[irreducible] def spIT (g : Int → Str → Bool) : Sp := fun vs H Q _ => ∃ (n : Int) (z : Str), vs = [.int n, .str z] ∧ 1 ≤ n ∧ n ≤ 100 ∧ z.length ≤ 1000 ∧ ∀ H', Same H H' → Q (.bl (g n z)) H'
@[irreducible] def spCW : Sp := fun vs H Q _ => ∃ n : Int, vs = [.int n] ∧ 1 ≤ n ∧ n ≤ 100 ∧ ∀ H', Same H H' → Q .non H'
/-- a check of a text that is right -/
@[irreducible] def spCT (g : Int → Str → Bool) : Sp := fun vs H Q _ => ∃ (n : Int) (z : Str), vs = [.int n, .str z] ∧ 1 ≤ n ∧ n ≤ 100 ∧ z.length ≤ 1000 ∧ g n z = true ∧ ∀ H', Same H H' → Q .non H'
def cntB (n : Int) : Bool := decide (0 ≤ n)
def widB (n : Int) : Bool := decide (1 ≤ n) && decide (n ≤ 100)
def strB (n : Int) (z : Str) : Bool := bitsB z && decide ((z.length : Int) ≤ n)
def adrB (n : Int) (z : Str) : Bool := bitsB z && decide ((z.length : Int) = n)
section
variable {g : Int → Bool} {gt : Str → Bool} {g2 : Int → Str → Bool} {n : Int} {z : Str} {H : Hp} {Q : VK} {E : XK}
theorem i_go (q : Q (.bl (g n)) H) : spI g [.int n] H Q E := by
  unfold spI
  exact ⟨n, rfl, q⟩
theorem t_go (h : z.length ≤ 1000) (q : ∀ H', Same H H' → Q (.bl (gt z)) H') : spT gt [.str z] H Q E := by
  unfold spT
  exact ⟨z, rfl, h, q⟩
theorem it_go (h0 : 1 ≤ n) (h1 : n ≤ 100) (h : z.length ≤ 1000) (q : ∀ H', Same H H' → Q (.bl (g2 n z)) H') : spIT g2 [.int n, .str z] H Q E := by
  unfold spIT
  exact ⟨n, z, rfl, h0, h1, h, q⟩
theorem cw_go (h0 : 1 ≤ n) (h1 : n ≤ 100) (q : ∀ H', Same H H' → Q .non H') : spCW [.int n] H Q E := by
  unfold spCW
  exact ⟨n, rfl, h0, h1, q⟩
theorem ct_go (h0 : 1 ≤ n) (h1 : n ≤ 100) (h : z.length ≤ 1000) (hg : g2 n z = true) (q : ∀ H', Same H H' → Q .non H') : spCT g2 [.int n, .str z] H Q E := by
  unfold spCT
  exact ⟨n, z, rfl, h0, h1, h, hg, q⟩
end
theorem k_ii : kitB "int" "int" = some true := by decide +kernel
theorem k_ib : kitB "int" "bool" = some false := by decide +kernel
theorem k_ss : kitB "str" "str" = some true := by decide +kernel
section
variable {P : Program} {w : World} {K : PySem.W.Frag} {mg : Str → Option Value} {base : Heap} {f : Addr} {fd : FuncData}
theorem ok_is_count (F : Fun K "is_count" "is_count" s_is_count f fd) (hm : mg "is_count" = some (.ref f)) (T : Txt K mg) : Nm P w K mg base CX0 1 "is_count" s_is_count ["value"] (spI cntB) := by
  refine nm_of F hm sc_is_count (fun vs H Q E h => ?_) fun cdv A outer s H vs Q E hr h => ?_
  · unfold spI at h
    obtain ⟨n, rfl, k⟩ := h
    subst_vars
    rfl
  unfold spI at h
  obtain ⟨n, rfl, k⟩ := h
  refine ⟨_, (pss_one (ps_ret (pe_and (pe_callB (call_isiK' (K := K) rfl) (by rfl) T.b_isinstance (by decide +kernel) (pa_cons (pv 0) (pa_cons (pe_ty "int" (by rfl) T.b_int (by decide +kernel)) pa_nil))) (pe_and (pe_not (pe_callB (call_isiK' (K := K) rfl) (by rfl) T.b_isinstance (by decide +kernel) (pa_cons (pv 0) (pa_cons (pe_ty "bool" (by rfl) T.b_bool (by decide +kernel)) pa_nil)))) (pe_one (pe_cmpR op_ge (pv 0) pe_int (nomark _))))))), ?_⟩
  repeat walk_at "s1"
  refine ⟨_, _, _, _, _, rfl, .ty _, .base (.int _), kit_ty k_ii, ?_⟩
  refine ⟨_, rfl, iteT ?_⟩
  repeat walk_at "s1"
  refine ⟨_, _, _, _, _, rfl, .ty _, .base (.int _), kit_ty k_ib, ?_⟩
  repeat walk_at "s1"
  exact k
theorem ok_is_width (F : Fun K "is_width" "is_width" s_is_width f fd) (hm : mg "is_width" = some (.ref f)) (T : Txt K mg) (C : Cst K mg) (c_is_count : Nm P w K mg base CX0 1 "is_count" s_is_count ["value"] (spI cntB)) : Nm P w K mg base CX0 2 "is_width" s_is_width ["value"] (spI widB) := by
  refine nm_of F hm sc_is_width (fun vs H Q E h => ?_) fun cdv A outer s H vs Q E hr h => ?_
  · unfold spI at h
    obtain ⟨n, rfl, k⟩ := h
    subst_vars
    rfl
  unfold spI at h
  obtain ⟨n, rfl, k⟩ := h
  refine ⟨_, (pss_one (ps_ret (pe_and (pe_g c_is_count hr (by decide) L2.pass0 bp_is_count (by rfl) (pa_cons (pv 0) pa_nil)) (pe_one (pe_chain op_le op_le pe_int (pv 0) (pe_cst (by rfl) C.c_MOST_WIDTH)))))), ?_⟩
  repeat walk_at "s1"
  refine i_go ?_
  refine ⟨_, rfl, ?_⟩
  refine ite2 (fun c => ?_) fun c => ?_
  · repeat walk_at "s1"
    refine ite2 (fun c1 => ?_) fun c1 => ?_
    · repeat walk_at "s1"
      have e : widB n = decide (n ≤ 100) := by show (decide _ && _) = _; rw [c1, Bool.true_and]
      rw [e] at k; exact k
    · have e : widB n = false := by show (decide _ && _) = _; rw [Bool.eq_false_iff.mpr c1, Bool.false_and]
      rw [e] at k; exact k
  · have c' : ¬ 0 ≤ n := fun q => c (decide_eq_true q)
    have e : widB n = false := by show (decide _ && _) = _; rw [decide_eq_false (show ¬ 1 ≤ n by omega)]; rfl
    rw [e] at k; exact k
theorem ok_is_bits (F : Fun K "is_bits" "is_bits" s_is_bits f fd) (hm : mg "is_bits" = some (.ref f)) (T : Txt K mg) : Nm P w K mg base CX0 1 "is_bits" s_is_bits ["value"] (spT bitsB) := by
  refine nm_of F hm sc_is_bits (fun vs H Q E h => ?_) fun cdv A outer s H vs Q E hr h => ?_
  · unfold spT at h
    obtain ⟨z, rfl, hz', k⟩ := h
    subst_vars
    rfl
  unfold spT at h
  obtain ⟨z, rfl, hz', k⟩ := h
  refine ⟨_, (pss_one (ps_ret (pe_and (pe_callB (call_isiK' (K := K) rfl) (by rfl) T.b_isinstance (by decide +kernel) (pa_cons (pv 0) (pa_cons (pe_ty "str" (by rfl) T.b_str (by decide +kernel)) pa_nil))) (pe_one (pe_callB (call_allK (K := K) rfl rfl) (by rfl) T.b_all (by decide +kernel) (pa_cons (pe_lc (own := [("bit", 1)]) (g := (gName 1)) (by rfl) sc_is_bits.nd (pi_str (pv 0)) (blkOk_by (own := [("bit", 1)]) (N := ["value", "bit"]) (sc := defScope s_is_bits) (by decide +kernel)) (fun _ _ _ _ _ => (pg_name (i := 1) sc_is_bits.nd rfl (by first | exact Or.inl rfl | exact Or.inr rfl))) (fun _ _ _ _ _ => pts_nil) (fun _ _ _ _ _ => (pe_cmpR op_in_sign (pv 1) pe_str rfl))) pa_nil)))))), ?_⟩
  repeat walk_at "s1"
  refine ⟨_, _, _, _, _, rfl, .ty _, .base (.str _), kit_ty k_ss, ?_⟩
  refine ⟨_, rfl, iteT ?_⟩
  repeat walk_at "s1"
  rename_i D nD
  have hz : z.cps.size ≤ 1000 := hz'
  refine lc_it walk_str (fun i H1 => H1 D = some (.lst (((z.cps.toList.take i).map fun c => decide (c ∈ ("01" : Str).cps.toList)).map V.bl)) ∧ Same H H1) ⟨upd_same, fun b o e => updn (nonn nD e) e⟩ (fun _ _ _ _ => trivial) ?_ ?_
  · rintro i x H1 H2 hi ⟨hD, sm⟩ ⟨rfl, c, hc, rfl⟩
    refine ⟨rfl, ?_⟩
    dsimp only [tYes]
    rw [if_pos rfl]
    repeat walk_at "s1"
    refine ⟨_, hD, szt (by rw [List.length_map, List.length_map, List.length_take]; omega), ?_, fun b o e => updn (nonn nD e) (sm b o e)⟩
    rw [upd_same, List.take_add_one, Array.getElem?_toList, hc, List.map_append, List.map_append]
    rfl
  · rintro H1 ⟨hD, sm⟩
    rw [List.take_of_length_le (by rw [Array.length_toList]; exact Nat.le_refl _)] at hD
    refine ⟨_, _, rfl, SqL.of hD, ?_⟩
    have hk := k H1 sm
    have e : bitsB z = ((z.cps.toList.map fun c => decide (c ∈ ("01" : Str).cps.toList)).all id) := by rw [List.all_map]; rfl
    rw [e] at hk
    exact hk
theorem ok_check_width (F : Fun K "check_width" "check_width" s_check_width f fd) (hm : mg "check_width" = some (.ref f)) (T : Txt K mg) (c_is_width : Nm P w K mg base CX0 2 "is_width" s_is_width ["value"] (spI widB)) : Nm P w K mg base CX0 3 "check_width" s_check_width ["width"] (spCW) := by
  refine nm_of F hm sc_check_width (fun vs H Q E h => ?_) fun cdv A outer s H vs Q E hr h => ?_
  · unfold spCW at h
    obtain ⟨n, rfl, h0, h1, k⟩ := h
    subst_vars
    rfl
  unfold spCW at h
  obtain ⟨n, rfl, h0, h1, k⟩ := h
  refine ⟨_, (pss_one (ps_if (pt_not (pt_val (pe_g c_is_width hr (by decide) L2.pass0 bp_is_width (by rfl) (pa_cons (pv 0) pa_nil)))) (pss_one ps_never) pss_nil)), ?_⟩
  repeat walk_at "s1"
  refine i_go ?_
  repeat walk_at "s1"
  have e : widB n = true := by show (decide _ && decide _) = true; rw [decide_eq_true h0, decide_eq_true h1]; rfl
  rw [e]
  refine iteF ?_
  exact k H (Same.refl H)
theorem ok_is_stretch (F : Fun K "is_stretch" "is_stretch" s_is_stretch f fd) (hm : mg "is_stretch" = some (.ref f)) (T : Txt K mg) (c_check_width : Nm P w K mg base CX0 3 "check_width" s_check_width ["width"] (spCW)) (c_is_bits : Nm P w K mg base CX0 1 "is_bits" s_is_bits ["value"] (spT bitsB)) : Nm P w K mg base CX0 4 "is_stretch" s_is_stretch ["width", "value"] (spIT strB) := by
  refine nm_of F hm sc_is_stretch (fun vs H Q E h => ?_) fun cdv A outer s H vs Q E hr h => ?_
  · unfold spIT at h
    obtain ⟨n, z, rfl, h0, h1, hz, k⟩ := h
    subst_vars
    rfl
  unfold spIT at h
  obtain ⟨n, z, rfl, h0, h1, hz, k⟩ := h
  refine ⟨_, (pss_cons (ps_expr (pe_g c_check_width hr (by decide) L2.pass0 bp_check_width (by rfl) (pa_cons (pv 0) pa_nil)))
      (pss_one (ps_ret (pe_and (pe_g c_is_bits hr (by decide) L2.pass0 bp_is_bits (by rfl) (pa_cons (pv 1) pa_nil)) (pe_one (pe_cmpR op_le (pe_callB (call_lenK (K := K) rfl) (by rfl) T.b_len PySem.boot_len (pa_cons (pv 1) pa_nil)) (pv 0) (nomark _))))))), ?_⟩
  repeat walk_at "s1"
  refine cw_go h0 h1 fun H1 sm => ?_
  repeat walk_at "s1"
  refine t_go hz fun H2 sm2 => ?_
  have hk := k H2 (sm.trans sm2)
  refine ⟨_, rfl, ?_⟩
  cases c : bitsB z with
  | true =>
    refine iteT ?_
    repeat walk_at "s1"
    have e : strB n z = decide ((z.length : Int) ≤ n) := by show (bitsB _ && _) = _; rw [c]; rfl
    rw [e] at hk
    exact hk
  | false =>
    have e : strB n z = false := by show (bitsB _ && _) = _; rw [c]; rfl
    rw [e] at hk
    exact iteF hk
theorem ok_is_address (F : Fun K "is_address" "is_address" s_is_address f fd) (hm : mg "is_address" = some (.ref f)) (T : Txt K mg) (c_is_stretch : Nm P w K mg base CX0 4 "is_stretch" s_is_stretch ["width", "value"] (spIT strB)) : Nm P w K mg base CX0 5 "is_address" s_is_address ["width", "value"] (spIT adrB) := by
  refine nm_of F hm sc_is_address (fun vs H Q E h => ?_) fun cdv A outer s H vs Q E hr h => ?_
  · unfold spIT at h
    obtain ⟨n, z, rfl, h0, h1, hz, k⟩ := h
    subst_vars
    rfl
  unfold spIT at h
  obtain ⟨n, z, rfl, h0, h1, hz, k⟩ := h
  refine ⟨_, (pss_one (ps_ret (pe_and (pe_g c_is_stretch hr (by decide) L2.pass0 bp_is_stretch (by rfl) (pa_cons (pv 0) (pa_cons (pv 1) pa_nil))) (pe_one (pe_cmpR op_eq (pe_callB (call_lenK (K := K) rfl) (by rfl) T.b_len PySem.boot_len (pa_cons (pv 1) pa_nil)) (pv 0) (nomark _)))))), ?_⟩
  repeat walk_at "s1"
  refine it_go h0 h1 hz fun H2 sm2 => ?_
  have hk := k H2 sm2
  refine ⟨_, rfl, ?_⟩
  cases c : strB n z with
  | true =>
    refine iteT ?_
    repeat walk_at "s1"
    have c' : (bitsB z && decide ((z.length : Int) ≤ n)) = true := c
    have e : adrB n z = decide (V.int (z.length : Int) = V.int n) := by
      show (bitsB z && decide ((z.length : Int) = n)) = _
      rw [Bool.and_eq_true] at c'
      rw [c'.1, Bool.true_and]
      exact decide_eq_decide.mpr ⟨fun q => by rw [q], fun q => V.int.inj q⟩
    rw [e] at hk
    exact hk
  | false =>
    have e : adrB n z = false := by
      have c' : (bitsB z && decide ((z.length : Int) ≤ n)) = false := c
      show (bitsB z && decide ((z.length : Int) = n)) = false
      cases b : bitsB z with
      | false => rfl
      | true =>
        rw [b, Bool.true_and] at c'
        have := of_decide_eq_false c'
        rw [Bool.true_and]
        exact decide_eq_false (by omega)
    rw [e] at hk
    exact iteF hk
theorem ok_check_stretch (F : Fun K "check_stretch" "check_stretch" s_check_stretch f fd) (hm : mg "check_stretch" = some (.ref f)) (T : Txt K mg) (c_is_stretch : Nm P w K mg base CX0 4 "is_stretch" s_is_stretch ["width", "value"] (spIT strB)) : Nm P w K mg base CX0 5 "check_stretch" s_check_stretch ["width", "stretch"] (spCT strB) := by
  refine nm_of F hm sc_check_stretch (fun vs H Q E h => ?_) fun cdv A outer s H vs Q E hr h => ?_
  · unfold spCT at h
    obtain ⟨n, z, rfl, h0, h1, hz, hg, k⟩ := h
    subst_vars
    rfl
  unfold spCT at h
  obtain ⟨n, z, rfl, h0, h1, hz, hg, k⟩ := h
  refine ⟨_, (pss_one (ps_if (pt_not (pt_val (pe_g c_is_stretch hr (by decide) L2.pass0 bp_is_stretch (by rfl) (pa_cons (pv 0) (pa_cons (pv 1) pa_nil))))) (pss_one ps_never) pss_nil)), ?_⟩
  repeat walk_at "s1"
  refine it_go h0 h1 hz fun H2 sm2 => ?_
  repeat walk_at "s1"
  rw [hg]
  refine iteF ?_
  exact k H2 sm2
theorem ok_check_address (F : Fun K "check_address" "check_address" s_check_address f fd) (hm : mg "check_address" = some (.ref f)) (T : Txt K mg) (c_is_address : Nm P w K mg base CX0 5 "is_address" s_is_address ["width", "value"] (spIT adrB)) : Nm P w K mg base CX0 6 "check_address" s_check_address ["width", "address"] (spCT adrB) := by
  refine nm_of F hm sc_check_address (fun vs H Q E h => ?_) fun cdv A outer s H vs Q E hr h => ?_
  · unfold spCT at h
    obtain ⟨n, z, rfl, h0, h1, hz, hg, k⟩ := h
    subst_vars
    rfl
  unfold spCT at h
  obtain ⟨n, z, rfl, h0, h1, hz, hg, k⟩ := h
  refine ⟨_, (pss_one (ps_if (pt_not (pt_val (pe_g c_is_address hr (by decide) L2.pass0 bp_is_address (by rfl) (pa_cons (pv 0) (pa_cons (pv 1) pa_nil))))) (pss_one ps_never) pss_nil)), ?_⟩
  repeat walk_at "s1"
  refine it_go h0 h1 hz fun H2 sm2 => ?_
  repeat walk_at "s1"
  rw [hg]
  refine iteF ?_
  exact k H2 sm2
end
def nameB (z : Str) : Bool := decide (1 ≤ (z.length : Int)) && decide ((z.length : Int) ≤ 6) && !inV (.str z) [.str "home", .str "hole", .str "ring", .str "all", .str "none"] && z.cps.toList.all fun c => decide (c ∈ ("abcdefghijklmnopqrstuvwxyz" : Str).cps.toList)
def goalB (z : Str) : Bool := nameB z || inV (.str z) [.str "home", .str "hole"]
section
variable {P : Program} {w : World} {K : PySem.W.Frag} {mg : Str → Option Value} {base : Heap} {f : Addr} {fd : FuncData}
theorem ok_is_name (F : Fun K "is_name" "is_name" s_is_name f fd) (hm : mg "is_name" = some (.ref f)) (T : Txt K mg) (C : Cst K mg) : Nm P w K mg base CX0 1 "is_name" s_is_name ["value"] (spT nameB) := by
  refine nm_of F hm sc_is_name (fun vs H Q E h => ?_) fun cdv A outer s H vs Q E hr h => ?_
  · unfold spT at h
    obtain ⟨z, rfl, hz0, k⟩ := h
    subst_vars
    rfl
  unfold spT at h
  obtain ⟨z, rfl, hz0, k⟩ := h
  refine ⟨_, (pss_cons (ps_if (PW.pt (pw_or (pt_not (pt_val (pe_callB (call_isiK' (K := K) rfl) (by rfl) T.b_isinstance (by decide +kernel) (pa_cons (pv 0) (pa_cons (pe_ty "str" (by rfl) T.b_str (by decide +kernel)) pa_nil))))) (pw_or1 (pt_not (pt_chain op_le op_le pe_int (pe_callB (call_lenK (K := K) rfl) (by rfl) T.b_len PySem.boot_len (pa_cons (pv 0) pa_nil)) (pe_cst (by rfl) C.c_MOST_LETTERS)))))) (pss_one (ps_ret pe_bl)) pss_nil)
      (pss_one (ps_ret (pe_and (pe_cmpR (op_notInK (K := K) rfl) (pv 0) (pe_cst (by rfl) C.c_NO_NAMES) rfl) (pe_one (pe_callB (call_allK (K := K) rfl rfl) (by rfl) T.b_all (by decide +kernel) (pa_cons (pe_lc (own := [("letter", 1)]) (g := (gName 1)) (by rfl) sc_is_name.nd (pi_str (pv 0)) (blkOk_by (own := [("letter", 1)]) (N := ["value", "letter"]) (sc := defScope s_is_name) (by decide +kernel)) (fun _ _ _ _ _ => (pg_name (i := 1) sc_is_name.nd rfl (by first | exact Or.inl rfl | exact Or.inr rfl))) (fun _ _ _ _ _ => pts_nil) (fun _ _ _ _ _ => (pe_cmpR op_in_sign (pv 1) (pe_cst (by rfl) C.c_LETTERS) rfl))) pa_nil))))))), ?_⟩
  repeat walk_at "s1"
  refine ⟨_, _, _, _, _, rfl, .ty _, .base (.str _), kit_ty k_ss, ?_⟩
  refine ⟨_, rfl, ?_⟩
  refine iteF ?_
  repeat walk_at "s1"
  refine ite2 (fun c1 => ?_) fun c1 => ?_
  · have c1' := of_decide_eq_true c1
    repeat walk_at "s1"
    by_cases c2 : (z.length : Int) ≤ 6
    · rw [decide_eq_true c2]
      refine iteF ?_
      repeat walk_at "s1"
      refine ⟨_, _, rfl, Or.inr (C.tN _), rfl, rfl, ?_⟩
      refine ⟨_, rfl, ?_⟩
      cases c3 : inV (V.str z) [.str "home", .str "hole", .str "ring", .str "all", .str "none"] with
      | true =>
        refine iteF ?_
        have hk := k H (Same.refl H)
        have e : nameB z = false := by
          show (decide _ && decide _ && !inV _ _ && _) = false
          rw [c3]
          simp
        rw [e] at hk
        exact hk
      | false =>
        refine iteT ?_
        repeat walk_at "s1"
        rename_i D nD
        have hz' : z.cps.size ≤ 1000 := hz0
        refine lc_it walk_str (fun i H1 => H1 D = some (.lst (((z.cps.toList.take i).map fun c => decide (c ∈ ("abcdefghijklmnopqrstuvwxyz" : Str).cps.toList)).map V.bl)) ∧ Same H H1) ⟨upd_same, fun b o e => updn (nonn nD e) e⟩ (fun _ _ _ _ => trivial) ?_ ?_
        · rintro i x H1 H2 hi ⟨hD, sm⟩ ⟨rfl, c, hc, rfl⟩
          refine ⟨rfl, ?_⟩
          dsimp only [tYes]
          rw [if_pos rfl]
          repeat walk_at "s1"
          refine ⟨_, hD, szt (by rw [List.length_map, List.length_map, List.length_take]; omega), ?_, fun b o e => updn (nonn nD e) (sm b o e)⟩
          rw [upd_same, List.take_add_one, Array.getElem?_toList, hc, List.map_append, List.map_append]
          rfl
        · rintro H1 ⟨hD, sm⟩
          rw [List.take_of_length_le (by rw [Array.length_toList]; exact Nat.le_refl _)] at hD
          refine ⟨_, _, rfl, SqL.of hD, ?_⟩
          have hk := k H1 sm
          have e : nameB z = ((z.cps.toList.map fun c => decide (c ∈ ("abcdefghijklmnopqrstuvwxyz" : Str).cps.toList)).all id) := by
            show (decide _ && decide _ && !inV _ _ && _) = _
            rw [c3, decide_eq_true c1', decide_eq_true c2, List.all_map]
            rfl
          rw [e] at hk
          exact hk
    · rw [decide_eq_false c2]
      refine iteT ?_
      have hk := k H (Same.refl H)
      have e : nameB z = false := by
        show (decide _ && decide _ && !inV _ _ && _) = false
        rw [decide_eq_false c2]
        simp
      rw [e] at hk
      exact hk
  · repeat walk_at "s1"
    refine iteT ?_
    have hk := k H (Same.refl H)
    have e : nameB z = false := by
      show (decide (1 ≤ (z.length : Int)) && decide _ && !inV _ _ && _) = false
      rw [Bool.eq_false_iff.mpr c1]
      simp
    rw [e] at hk
    exact hk
theorem ok_is_goal (F : Fun K "is_goal" "is_goal" s_is_goal f fd) (hm : mg "is_goal" = some (.ref f)) (T : Txt K mg) (C : Cst K mg) (c_is_name : Nm P w K mg base CX0 1 "is_name" s_is_name ["value"] (spT nameB)) : Nm P w K mg base CX0 2 "is_goal" s_is_goal ["value"] (spT goalB) := by
  refine nm_of F hm sc_is_goal (fun vs H Q E h => ?_) fun cdv A outer s H vs Q E hr h => ?_
  · unfold spT at h
    obtain ⟨z, rfl, hz, k⟩ := h
    subst_vars
    rfl
  unfold spT at h
  obtain ⟨z, rfl, hz, k⟩ := h
  refine ⟨_, (pss_one (ps_ret (pe_or (pe_g c_is_name hr (by decide) L2.pass0 bp_is_name (by rfl) (pa_cons (pv 0) pa_nil)) (pe_one (pe_and (pe_callB (call_isiK' (K := K) rfl) (by rfl) T.b_isinstance (by decide +kernel) (pa_cons (pv 0) (pa_cons (pe_ty "str" (by rfl) T.b_str (by decide +kernel)) pa_nil))) (pe_one (pe_cmpR (op_inK (K := K) rfl) (pv 0) (pe_cst (by rfl) C.c_ENDS) rfl))))))), ?_⟩
  repeat walk_at "s1"
  refine t_go hz fun H1 sm => ?_
  refine ⟨_, rfl, ?_⟩
  have hk := k H1 sm
  cases c : nameB z with
  | true =>
    refine iteT ?_
    have e : goalB z = true := by show (nameB _ || _) = true; rw [c]; rfl
    rw [e] at hk
    exact hk
  | false =>
    refine iteF ?_
    repeat walk_at "s1"
    refine ⟨_, _, _, _, _, rfl, .ty _, .base (.str _), kit_ty k_ss, ?_⟩
    refine ⟨_, rfl, ?_⟩
    refine iteT ?_
    repeat walk_at "s1"
    refine ⟨_, _, rfl, Or.inr (C.tE _), rfl, rfl, ?_⟩
    have e : goalB z = inV (V.str z) [.str "home", .str "hole"] := by show (nameB _ || _) = _; rw [c]; rfl
    rw [e] at hk
    exact hk
end
open PySem PySem.Spec PyProof.Rows
open L2 hiding pass0
def sx (t : List Nat) : V := .str (SX.S t)
theorem sx_bits {t : List Nat} (h : M.BL t) : Bits (SX.S t) := fun c hc => h c (by rw [SX.S] at hc; simpa using hc)
theorem sx_len (t : List Nat) : (SX.S t).length = t.length := SX.S_len t
theorem tl_S (t : List Nat) : (SX.S t).cps.toList = t := by unfold SX.S; simp
theorem S_inj {a b : List Nat} (h : SX.S a = SX.S b) : a = b := by
  have := congrArg (fun z : Str => z.cps.toList) h
  rwa [tl_S, tl_S] at this
/-- a list or a tuple of stretches -/
def ArgAt (H : Hp) (a : Addr) (ts : List (List Nat)) : Prop := H a = some (.lst (ts.map sx)) ∨ H a = some (.tup (ts.map sx))
def Fits (n : Nat) (ts : List (List Nat)) : Prop := ∀ t ∈ ts, M.BL t ∧ t.length ≤ n
theorem ArgAt.same {H H' : Hp} {a : Addr} {ts : List (List Nat)} (h : ArgAt H a ts) (s : Same H H') : ArgAt H' a ts := h.elim (fun e => .inl (s _ _ e)) fun e => .inr (s _ _ e)
theorem str_ok {n : Nat} {t : List Nat} (hb : M.BL t) (hl : t.length ≤ n) : strB n (SX.S t) = true := by
  show (bitsB _ && decide (((SX.S t).length : Int) ≤ n)) = true
  rw [bitsB_of (sx_bits hb), sx_len, decide_eq_true (by omega)]
  rfl
open PySem PySem.Spec PyProof.Rows
open L2 hiding pass0
abbrev s_longest_beginning : Stmt := top 33
theorem sc_longest_beginning : FnScope ["known", "bits", "length"] ["known", "bits"] (defScope s_longest_beginning) := ⟨rfl, rfl, rfl, by decide +kernel, rfl, by decide +kernel, by decide +kernel⟩
theorem bp_longest_beginning : BndP "longest_beginning" s_longest_beginning ["known", "bits"] := fun _ _ _ _ _ _ us h => match us, h with | [_, _], _ => rfl
def skey (t : List Nat) : Key := Sum.inr (SX.S t)
theorem skey_inj {a b : List Nat} (h : skey a = skey b) : a = b := S_inj (Sum.inr.inj h)
def fd (ks : List (List Nat)) (g : List Nat → V) : List (Key × V) := ks.map fun t => (skey t, g t)
theorem fd_len (ks : List (List Nat)) (g : List Nat → V) : (fd ks g).length = ks.length := List.length_map ..
theorem fd_keys (ks : List (List Nat)) (g : List Nat → V) : (fd ks g).map (·.1) = (ks.map SX.S).map Sum.inr := by
  unfold fd
  rw [List.map_map, List.map_map]
  rfl
theorem fd_get (ks : List (List Nat)) (g : List Nat → V) (i : Nat) : (fd ks g)[i]? = (ks[i]?).map fun t => (skey t, g t) := List.getElem?_map ..
theorem fd_val {ks : List (List Nat)} {g : List Nat → V} {t : List Nat} : valV (fd ks g) (skey t) = if t ∈ ks then some (g t) else none := by
  induction ks with
  | nil => rfl
  | cons s ks ih =>
    show valV ((skey s, g s) :: fd ks g) (skey t) = _
    by_cases e : s = t
    · subst e
      rw [valV_pos rfl, if_pos (List.mem_cons_self ..)]
    · rw [valV_neg (fun q => e (skey_inj q)), ih]
      by_cases m : t ∈ ks
      · rw [if_pos m, if_pos (List.mem_cons_of_mem _ m)]
      · rw [if_neg m, if_neg (fun q => (List.mem_cons.mp q).elim (fun q => e q.symm) m)]
theorem fd_has {ks : List (List Nat)} {g : List Nat → V} {t : List Nat} : (valV (fd ks g) (skey t)).isSome = decide (t ∈ ks) := by
  rw [fd_val]
  by_cases m : t ∈ ks <;> simp [m]
theorem fd_congr {ks : List (List Nat)} {g g' : List Nat → V} (h : ∀ t ∈ ks, g t = g' t) : fd ks g = fd ks g' := List.map_congr_left fun t ht => by rw [h t ht]
def fup {α : Type} (g : List Nat → α) (t : List Nat) (v : α) : List Nat → α := fun x => if x = t then v else g x
theorem fup_at {α : Type} {g : List Nat → α} {t : List Nat} {v : α} : fup g t v t = v := if_pos rfl
theorem fup_ne {α : Type} {g : List Nat → α} {t x : List Nat} {v : α} (h : x ≠ t) : fup g t v x = g x := if_neg h
theorem fd_any {ks : List (List Nat)} {g : List Nat → V} {t : List Nat} : ((fd ks g).any fun kv => decide (kv.1 = skey t)) = decide (t ∈ ks) := by
  rw [valV_any, fd_has]
theorem fd_put {ks : List (List Nat)} {g : List Nat → V} {t : List Nat} {v : V} : putK (fd ks g) (skey t) v = fd (if t ∈ ks then ks else ks ++ [t]) (fup g t v) := by
  unfold putK
  rw [fd_any]
  by_cases m : t ∈ ks
  · rw [decide_eq_true m, if_pos rfl, if_pos m]
    unfold fd
    rw [List.map_map]
    refine List.map_congr_left fun s hs => ?_
    show (if skey s = skey t then (skey s, v) else (skey s, g s)) = _
    by_cases e : s = t
    · rw [if_pos (by rw [e]), e, fup_at]
    · rw [if_neg (fun q => e (skey_inj q)), fup_ne e]
  · rw [decide_eq_false m, if_neg Bool.false_ne_true, if_neg m]
    unfold fd
    rw [List.map_append]
    show _ = _ ++ [(skey t, fup g t v t)]
    rw [fup_at]
    congr 1
    exact List.map_congr_left fun s hs => by rw [fup_ne (fun q : s = t => m (q ▸ hs))]
@[irreducible] def spLB : Sp := fun vs H Q _ => ∃ (D : Addr) (ks : List (List Nat)) (g : List Nat → V) (a : List Nat), vs = [.ref D, sx a] ∧ Rd H D (.dK (fd ks g)) ∧ [] ∈ ks ∧ a.length ≤ 1000 ∧ ∀ H', Same H H' → Q (sx (M.lg ks a)) H'
theorem lb_go {D : Addr} {ks : List (List Nat)} {g : List Nat → V} {a : List Nat} {H : Hp} {Q : VK} {E : XK} (hD : Rd H D (.dK (fd ks g))) (h0 : [] ∈ ks) (hl : a.length ≤ 1000) (k : ∀ H', Same H H' → Q (sx (M.lg ks a)) H') : spLB [.ref D, sx a] H Q E := by
  unfold spLB
  exact ⟨D, ks, g, a, rfl, hD, h0, hl, k⟩
theorem cut_S (t : List Nat) {d : Int} {k : Nat} (h : d = k) : cutS (SX.S t) none (some d) = SX.S (t.take k) := by
  subst h
  show SX.S _ = SX.S _
  refine congrArg SX.S ?_
  show ((SX.S t).cps.toList.drop 0).take (HT.sIx (SX.S t).length (SX.S t).length (some (k : Int)) - 0) = t.take k
  rw [HT.sIx_nat, List.drop_zero, Nat.sub_zero, tl_S, sx_len]
  by_cases c : k ≤ t.length
  · rw [Nat.min_eq_left c]
  · rw [List.take_of_length_le (by omega), List.take_of_length_le (by omega)]
theorem rd_same {H H' : Hp} {a : Addr} {o : HO} (h : Rd H a o) (s : Same H H') : Rd H' a o := h.elim (fun e => .inl (s _ _ e)) fun ⟨b, e⟩ => .inr ⟨b, s _ _ e⟩
def stp (acc : List Str) (z : Str) : List Str := if z ∈ acc then acc else acc ++ [z]
def dd (zs : List Str) : List Str := zs.foldl stp []
theorem dc_it {J : It} {n : Nat} {G : Hp → Prop} {Y : Nat → Hp → V → Hp → Prop} (w : L2.Walk J n G Y) {g : TG} {tt : TT} {tk tv : TE} {vs : List Nat} {σ : L2.St} {H1 : Hp} {D : Addr} {Qd : Hp → Prop} (Pv : Nat → Hp → Prop) (h0 : Pv 0 (upd H1 D (.dK []))) (hG : ∀ i H, i ≤ n → Pv i H → G H)
    (hs : ∀ i x H H', i < n → Pv i H → Y i H x H' → g x (wipe σ vs) H' fun σ2 H2 => wipe σ2 vs = wipe σ vs ∧ tt σ2 H2 fun b H3 =>
      if b = true then tk σ2 H3 fun y H4 => tv σ2 H4 fun z H5 => ∃ kvs k, y = kV k ∧ H5 D = some (.dK kvs) ∧ kvs.length < sizeLine ∧ Pv (i + 1) (upd H5 D (.dK (putK kvs k z))) else Pv (i + 1) H3) (hd : ∀ H, Pv n H → Qd H) :
    ∃ W : Nat → Nat → Hp → Prop, (∃ m, W 0 m (upd H1 D (.dK []))) ∧ ∀ i m H, W i m H →
      (J.stop i H ∧ Qd H) ∨ (J.go i H ∧ ∃ Nx : Hp → Prop, (∀ H', Nx H' → ∃ m', m' < m ∧ W (i + 1) m' H') ∧ ∀ x H', J.yld i H x H' → g x (wipe σ vs) H' fun σ2 H2 => wipe σ2 vs = wipe σ vs ∧ tt σ2 H2 fun b H3 =>
        if b = true then tk σ2 H3 fun y H4 => tv σ2 H4 fun z H5 => ∃ kvs k, y = kV k ∧ H5 D = some (.dK kvs) ∧ kvs.length < sizeLine ∧ Nx (upd H5 D (.dK (putK kvs k z))) else Nx H3) := by
  refine ⟨fun i m H => m = n - i ∧ i ≤ n ∧ Pv i H, ⟨n, by simp, Nat.zero_le _, h0⟩, ?_⟩
  rintro i m H ⟨rfl, hi, p⟩
  have q := hG i H hi p
  by_cases hlt : i < n
  · refine .inr ⟨w.goes i H hlt q, Pv (i + 1), fun H' p' => ⟨n - (i + 1), by omega, rfl, hlt, p'⟩, fun x H' y => hs i x H H' hlt p (w.yields i H x H' hlt q y)⟩
  · have e : i = n := by omega
    subst e
    exact .inl ⟨w.stops H q, hd H p⟩
section
variable {P : Program} {w : World} {K : PySem.W.Frag} {mg : Str → Option Value} {base : Heap} {f : Addr} {fd' : FuncData}
theorem ok_longest (F : Fun K "longest_beginning" "longest_beginning" s_longest_beginning f fd') (hm : mg "longest_beginning" = some (.ref f)) (T : Txt K mg) : Nm P w K mg base CX0 1 "longest_beginning" s_longest_beginning ["known", "bits"] (spLB) := by
  refine nm_of0 F hm sc_longest_beginning (fun vs H Q E h => ?_) fun cdv A outer s H vs Q E hr h => ?_
  · unfold spLB at h
    obtain ⟨D, ks, g, a, rfl, hD, h0, hl, k⟩ := h
    subst_vars
    rfl
  unfold spLB at h
  obtain ⟨D, ks, g, a, rfl, hD, h0, hl, k⟩ := h
  refine ⟨_, (pss_cons (ps_for PassesOwn.never rfl (pi_range3 (by rfl) T.b_range (pa_cons (pe_callB (call_lenK (K := K) rfl) (by rfl) T.b_len PySem.boot_len (pa_cons (pv 1) pa_nil)) (pa_cons (pe_un un_neg pe_int) (pa_cons (pe_un un_neg pe_int) pa_nil)))) (pg_name (i := 2) sc_longest_beginning.nd rfl (by first | exact Or.inl rfl | exact Or.inr rfl)) (pss_one (ps_if (pt_cmp (pc_din hr.u1 (pe_slice sl_str (pv 1) po_none (po_some (pv 2))) (pv 0))) (pss_one (ps_ret (pe_slice sl_str (pv 1) po_none (po_some (pv 2))))) pss_nil)))
      (pss_one (ps_ret pe_non))), ?_⟩
  have en : (((SX.S a).length : Int) - (-1)).toNat = a.length + 1 := by rw [sx_len]; omega
  refine ⟨_, rfl, ⟨_, _, rfl, ⟨szl (by rw [sx_len]; omega), rfl⟩, ?_⟩⟩
  repeat walk_at "s1"
  refine ⟨_, _, _, _, rfl, RgC.neg (by rw [sx_len]; omega) (by omega) (by omega) (by omega), ?_⟩
  rw [en]
  refine for_it walk_rangeC (fun i σ' H' => ∃ x2, σ' = [some (.ref D), some (sx a), x2] ∧ Same H H' ∧ i ≤ a.length ∧ M.lg ks a = M.lgN ks a (a.length - i)) ⟨_, rfl, Same.refl H, Nat.zero_le _, rfl⟩ (fun _ _ _ _ _ => trivial) ?_ ?_
  · rintro i x σ' H1 H2 hi ⟨x2, rfl, sm, hle, hg⟩ ⟨rfl, rfl⟩
    repeat walk_at "s1"
    have ej : ((SX.S a).length : Int) + (i : Int) * -1 = ((a.length - i : Nat) : Int) := by rw [sx_len]; omega
    rw [cut_S a ej]
    refine ⟨D, _, rfl, .inl ⟨fd ks g, skey (a.take (a.length - i)), rd_same hD sm, rfl, rfl⟩, ?_⟩
    rw [fd_has]
    by_cases hc : a.take (a.length - i) ∈ ks
    · rw [decide_eq_true hc]
      refine ⟨_, rfl, iteT ?_⟩
      repeat walk_at "s1"
      rw [cut_S a ej]
      have e : M.lg ks a = a.take (a.length - i) := by
        rw [hg]
        generalize a.length - i = j at hc
        cases j with
        | zero => rfl
        | succ j => exact if_pos hc
      have hk := k _ sm
      rw [e] at hk
      exact hk
    · rw [decide_eq_false hc]
      refine ⟨_, rfl, iteF ?_⟩
      have hi0 : i < a.length := by
        refine Nat.lt_of_le_of_ne hle fun q => hc ?_
        rw [q, Nat.sub_self]
        exact h0
      refine ⟨_, rfl, sm, by omega, ?_⟩
      obtain ⟨j, hj⟩ : ∃ j, a.length - i = j + 1 := ⟨a.length - i - 1, by omega⟩
      rw [hg, show a.length - (i + 1) = j by omega, hj]
      rw [hj] at hc
      exact if_neg hc
  · rintro σ' H1 ⟨x2, rfl, sm, hle, hg⟩
    omega
end
open PySem PySem.Spec PyProof.Rows
open L2 hiding pass0
abbrev s_is_row : Stmt := top 36
theorem sc_is_row : FnScope ["width", "value"] ["width", "value"] (defScope s_is_row) := ⟨rfl, rfl, rfl, by decide +kernel, rfl, by decide +kernel, by decide +kernel⟩
abbrev s_is_rows : Stmt := top 37
theorem sc_is_rows : FnScope ["width", "value", "stretch", "goal"] ["width", "value"] (defScope s_is_rows) := ⟨rfl, rfl, rfl, by decide +kernel, rfl, by decide +kernel, by decide +kernel⟩
theorem bp_is_rows : BndP "is_rows" s_is_rows ["width", "value"] := fun _ _ _ _ _ _ us h => match us, h with | [_, _], _ => rfl
abbrev s_Tableinit : Stmt := inClass (top 35) 1
theorem sc_Tableinit : FnScope ["self", "width", "rows", "stretch"] ["self", "width", "rows"] (defScope s_Tableinit) := ⟨rfl, rfl, rfl, by decide +kernel, rfl, by decide +kernel, by decide +kernel⟩
abbrev s_Table_row : Stmt := inClass (top 35) 5
theorem sc_Table_row : FnScope ["self", "address"] ["self", "address"] (defScope s_Table_row) := ⟨rfl, rfl, rfl, by decide +kernel, rfl, by decide +kernel, by decide +kernel⟩
theorem bm_Table_row : BndMP "row" "Table.row" s_Table_row ["self", "address"] := fun _ _ _ _ _ _ us h => match us, h with | [_, _], _ => rfl
abbrev s_Table__call__ : Stmt := inClass (top 35) 7
theorem sc_Table__call__ : FnScope ["self", "address", "stretch"] ["self", "address"] (defScope s_Table__call__) := ⟨rfl, rfl, rfl, by decide +kernel, rfl, by decide +kernel, by decide +kernel⟩
theorem bm_Table__call__ : BndMP "__call__" "Table.__call__" s_Table__call__ ["self", "address"] := fun _ _ _ _ _ _ us h => match us, h with | [_, _], _ => rfl
abbrev s_check_same_width : Stmt := top 30
theorem sc_check_same_width : FnScope ["one", "other"] ["one", "other"] (defScope s_check_same_width) := ⟨rfl, rfl, rfl, by decide +kernel, rfl, by decide +kernel, by decide +kernel⟩
theorem bp_check_same_width : BndP "check_same_width" s_check_same_width ["one", "other"] := fun _ _ _ _ _ _ us h => match us, h with | [_, _], _ => rfl
abbrev s_Table_width : Stmt := inClass (top 35) 3
theorem sc_Table_width : FnScope ["self"] ["self"] (defScope s_Table_width) := ⟨rfl, rfl, rfl, by decide +kernel, rfl, by decide +kernel, by decide +kernel⟩
theorem bm_Table_width : BndMP "width" "Table.width" s_Table_width ["self"] := fun _ _ _ _ _ _ us h => match us, h with | [_], _ => rfl
abbrev s_Table_rows : Stmt := inClass (top 35) 4
theorem sc_Table_rows : FnScope ["self"] ["self"] (defScope s_Table_rows) := ⟨rfl, rfl, rfl, by decide +kernel, rfl, by decide +kernel, by decide +kernel⟩
theorem bm_Table_rows : BndMP "rows" "Table.rows" s_Table_rows ["self"] := fun _ _ _ _ _ _ us h => match us, h with | [_], _ => rfl
abbrev s_Table__eq__ : Stmt := inClass (top 35) 18
theorem sc_Table__eq__ : FnScope ["self", "other"] ["self", "other"] (defScope s_Table__eq__) := ⟨rfl, rfl, rfl, by decide +kernel, rfl, by decide +kernel, by decide +kernel⟩
theorem bm_Table__eq__ : BndMP "__eq__" "Table.__eq__" s_Table__eq__ ["self", "other"] := fun _ _ _ _ _ _ us h => match us, h with | [_, _], _ => rfl
/-- a dict of texts -/
def tk (m : List (Str × Str)) : List (Key × V) := m.map fun p => (Sum.inr p.1, V.str p.2)
/-- a row of the width: its stretch, its goal -/
def RowOk (n : Int) (p : Str × Str) : Prop := Bits p.1 ∧ (p.1.length : Int) ≤ n ∧ goalB p.2 = true ∧ Low p.2 ∧ p.2.length ≤ 200
@[irreducible] def spRow : Sp := fun vs H Q _ => ∃ (n : Int) (b : Addr) (p : Str × Str), vs = [.int n, .ref b] ∧ 1 ≤ n ∧ n ≤ 100 ∧ H b = some (.tup [.str p.1, .str p.2]) ∧ RowOk n p ∧ ∀ H', Same H H' → Q (.bl true) H'
@[irreducible] def spRows : Sp := fun vs H Q _ => ∃ (n : Int) (b : Addr) (m : List (Str × Str)), vs = [.int n, .ref b] ∧ 1 ≤ n ∧ n ≤ 100 ∧ H b = some (.dK (tk m)) ∧ (∀ p ∈ m, RowOk n p) ∧ m.length ≤ 1000 ∧ ∀ H', Same H H' → Q (.bl true) H'
theorem strB_ok {n : Int} {z : Str} (h : Bits z) (l : (z.length : Int) ≤ n) : strB n z = true := by
  show (bitsB z && decide ((z.length : Int) ≤ n)) = true
  rw [bitsB_of h, decide_eq_true l]
  rfl
theorem len200 {n : Int} {z : Str} (h1 : n ≤ 100) (l : (z.length : Int) ≤ n) : z.length ≤ 200 := by omega
section
variable {P : Program} {w : World} {K : PySem.W.Frag} {mg : Str → Option Value} {base : Heap} {f : Addr} {fd : FuncData}
theorem ok_is_row (F : Fun K "is_row" "is_row" s_is_row f fd) (hm : mg "is_row" = some (.ref f)) (T : Txt K mg) (c_is_stretch : Nm P w K mg base CX0 4 "is_stretch" s_is_stretch ["width", "value"] (spIT strB)) (c_is_goal : Nm P w K mg base CX0 2 "is_goal" s_is_goal ["value"] (spT goalB)) :
    Nm P w K mg base CX0 5 "is_row" s_is_row ["width", "value"] spRow := by
  refine nm_of F hm sc_is_row (fun vs H Q E h => ?_) fun cdv A outer s H vs Q E hr h => ?_
  · unfold spRow at h
    obtain ⟨n, b, p, rfl, _⟩ := h
    rfl
  · unfold spRow at h
    obtain ⟨n, b, p, rfl, h0, h1, hb, ⟨hp1, hp2, hp3, hp4, hp5⟩, k⟩ := h
    refine ⟨_, (pss_cons (ps_if (PW.pt (pw_or (pt_not (pt_val (pe_callB (call_isiK' (K := K) rfl) (by rfl) T.b_isinstance (by decide +kernel) (pa_cons (pv 1) (pa_cons (pe_ty "tuple" (by rfl) T.b_tuple (by decide +kernel)) pa_nil))))) (pw_or1 (pt_cmpR op_ne (pe_callB (call_lenK (K := K) rfl) (by rfl) T.b_len PySem.boot_len (pa_cons (pv 1) pa_nil)) pe_int (nomark _))))) (pss_one (ps_ret pe_bl)) pss_nil)
      (pss_one (ps_ret (pe_and (pe_g c_is_stretch hr (by decide) L2.pass0 bp_is_stretch (by rfl) (pa_cons (pv 0) (pa_cons (pe_ix (ix_seqK (K := K) rfl) (pv 1) pe_int (fun _ _ => rfl)) pa_nil))) (pe_one (pe_g c_is_goal hr (by decide) L2.pass0 bp_is_goal (by rfl) (pa_cons (pe_ix (ix_seqK (K := K) rfl) (pv 1) pe_int (fun _ _ => rfl)) pa_nil))))))), ?_⟩
    repeat walk_at "s1"
    refine ⟨_, _, _, _, _, rfl, .ty _, .base (.tup hb), kit_ty (show kitB "tuple" "tuple" = some true by decide +kernel), ?_⟩
    refine ⟨_, rfl, ?_⟩
    refine iteF ?_
    repeat walk_at "s1"
    refine it_go h0 h1 (Nat.le_trans (len200 h1 hp2) (by decide)) fun H1 sm => ?_
    rw [strB_ok hp1 hp2]
    refine ⟨_, rfl, ?_⟩
    refine iteT ?_
    have hb1 := sm _ _ hb
    repeat walk_at "s1"
    refine t_go (Nat.le_trans hp5 (by decide)) fun H2 sm2 => ?_
    rw [hp3]
    exact k H2 fun c o e => sm2 c o (sm c o e)
theorem ok_is_rows (F : Fun K "is_rows" "is_rows" s_is_rows f fd) (hm : mg "is_rows" = some (.ref f)) (T : Txt K mg) (c_is_stretch : Nm P w K mg base CX0 4 "is_stretch" s_is_stretch ["width", "value"] (spIT strB)) (c_is_goal : Nm P w K mg base CX0 2 "is_goal" s_is_goal ["value"] (spT goalB)) :
    Nm P w K mg base CX0 5 "is_rows" s_is_rows ["width", "value"] spRows := by
  refine nm_of F hm sc_is_rows (fun vs H Q E h => ?_) fun cdv A outer s H vs Q E hr h => ?_
  · unfold spRows at h
    obtain ⟨n, b, p, rfl, _⟩ := h
    rfl
  · unfold spRows at h
    obtain ⟨n, b, m, rfl, h0, h1, hb, hp, hz, k⟩ := h
    refine ⟨_, (pss_cons (ps_if (pt_not (pt_val (pe_callB (call_isiK' (K := K) rfl) (by rfl) T.b_isinstance (by decide +kernel) (pa_cons (pv 1) (pa_cons (pe_ty "dict" (by rfl) T.b_dict (by decide +kernel)) pa_nil))))) (pss_one (ps_ret pe_bl)) pss_nil)
      (pss_one (ps_ret (pe_callB (call_allK (K := K) rfl rfl) (by rfl) T.b_all (by decide +kernel) (pa_cons (pe_lock (pe_lc (own := [("stretch", 2), ("goal", 3)]) (g := (gTup K 2 (gCons (gName 2) (gCons (gName 3) gNil)))) (by rfl) sc_is_rows.nd (pi_items (pv 1)) (blkOk_by (own := [("stretch", 2), ("goal", 3)]) (N := ["width", "value", "stretch", "goal"]) (sc := defScope s_is_rows) (by decide +kernel)) (fun _ _ _ _ _ => (pg_tup (by rfl) (pgs_cons (pg_name (i := 2) sc_is_rows.nd rfl (by first | exact Or.inl rfl | exact Or.inr rfl)) (pgs_cons (pg_name (i := 3) sc_is_rows.nd rfl (by first | exact Or.inl rfl | exact Or.inr rfl)) pgs_nil)))) (fun _ _ _ _ _ => pts_nil) (fun _ _ _ _ _ => (pe_and (pe_g c_is_stretch hr (by decide) L2.pass0 bp_is_stretch (by rfl) (pa_cons (pv 0) (pa_cons (pv 2) pa_nil))) (pe_one (pe_g c_is_goal hr (by decide) L2.pass0 bp_is_goal (by rfl) (pa_cons (pv 3) pa_nil))))))) pa_nil))))), ?_⟩
    repeat walk_at "s1"
    refine ⟨_, _, _, _, _, rfl, .ty _, .base (.dK hb), kit_ty (show kitB "dict" "dict" = some true by decide +kernel), ?_⟩
    refine ⟨_, rfl, ?_⟩
    refine iteF ?_
    show ∃ d u, _
    refine ⟨b, _, hb, trivial, fun od => ?_⟩
    refine ⟨_, rfl, ?_⟩
    refine ⟨b, od, _, rfl, upd_same, fun D nD => ?_⟩
    have hDb : D ≠ b := fun z => by rw [z, upd_same] at nD; cases nD
    refine lc_it walk_items (fun i H1 => H1 D = some (.lst ((List.replicate i true).map V.bl)) ∧ Same (upd H b (.frz od (.dK (tk m)))) H1) ⟨upd_same, fun c o e => updn (nonn nD e) e⟩ (fun _ H1 _ h => h.2 _ _ upd_same) ?_ ?_
    · rintro i x H1 H2 hi ⟨hD, sm⟩ ⟨t, x1, x2, rfl, nt, rfl, e1, e2⟩
      obtain ⟨p, hm1, rfl, rfl⟩ : ∃ p, m[i]? = some p ∧ x1 = .str p.1 ∧ x2 = .str p.2 := by
        dsimp only at e1 e2
        unfold tk at e1 e2
        rw [List.getElem?_map] at e1 e2
        cases hx : m[i]? with
        | none => rw [hx] at e1; cases e1
        | some p =>
          rw [hx] at e1 e2
          exact ⟨p, rfl, (Option.some.inj e1).symm, (Option.some.inj e2).symm⟩
      obtain ⟨hp1, hp2, hp3, hp4, hp5⟩ := hp p (List.mem_of_getElem? hm1)
      have hi' : i < m.length := by unfold tk at hi; rw [List.length_map] at hi; exact hi
      have nDt : D ≠ t := nonn nt hD
      have smt : Same (upd H b (.frz od (.dK (tk m)))) (upd H1 t (.tup [.str p.1, .str p.2])) := fun c o e => updn (nonn nt (sm c o e)) (sm c o e)
      refine ⟨t, [.str p.1, .str p.2], rfl, SqT.of upd_same, rfl, ?_⟩
      refine ⟨_, _, rfl, ?_⟩
      refine ⟨_, _, rfl, ?_⟩
      refine ⟨rfl, rfl, ?_⟩
      dsimp only [tYes]
      rw [if_pos rfl]
      repeat walk_at "s1"
      refine it_go h0 h1 (Nat.le_trans (len200 h1 hp2) (by decide)) fun H3 sm3 => ?_
      rw [strB_ok hp1 hp2]
      refine ⟨_, rfl, ?_⟩
      refine iteT ?_
      repeat walk_at "s1"
      refine t_go (Nat.le_trans hp5 (by decide)) fun H4 sm4 => ?_
      rw [hp3]
      have hD4 : H4 D = some (.lst ((List.replicate i true).map V.bl)) := sm4 _ _ (sm3 _ _ (updn nDt hD))
      have sm5 : Same (upd H b (.frz od (.dK (tk m)))) H4 := fun c o e => sm4 c o (sm3 c o (smt c o e))
      refine ⟨_, hD4, szt (by rw [List.length_map, List.length_replicate]; omega), ?_, fun c o e => updn (nonn nD e) (sm5 c o e)⟩
      rw [upd_same, List.replicate_succ', List.map_append]
      rfl
    · rintro H1 ⟨hD, sm⟩
      refine ⟨sm _ _ upd_same, ?_⟩
      refine ⟨_, _, rfl, SqL.of (updn hDb hD), ?_⟩
      have e : (List.replicate (tk m).length true).all id = true := by
        rw [List.all_eq_true]
        intro x hx
        exact List.eq_of_mem_replicate hx
      rw [e]
      refine k _ fun c o e => ?_
      by_cases hc : c = b
      · rw [hc] at e ⊢
        rw [hb] at e
        rw [upd_same]
        exact e
      · exact updn hc (sm c o (updn hc e))
end
open PySem PySem.Spec PyProof.Rows
open L2 hiding pass0
/-- what of the text is known of the class -/
structure TabC (K : PySem.W.Frag) (C : Addr) : Prop where
  cl : Cls K C
  n1 : NoAttr K C "_width"
  n2 : NoAttr K C "_rows"
  con : ∃ u, Con K C "MOST_ROWS" (.int 40) u
  sf : PySem.W.selfFirst K C = true
/-- the value of a key -/
def getT (m : List (Str × Str)) (k : Str) : Str := ((m.find? fun p => decide (p.1 = k)).map (·.2)).getD Str.empty
/-- the rows in order -/
def srt (m : List (Str × Str)) : List (Str × Str) := (tsort (m.map (·.1))).map fun k => (k, getT m k)
/-- the table at a: its width, its rows m -/
def TabAt (C : Addr) (H : Hp) (a : Addr) (n : Int) (m : List (Str × Str)) : Prop := ∃ dx D, H a = some (.ins C dx [("_width", .int n), ("_rows", .ref D)]) ∧ H D = some (.dK (tk m)) ∧ D ≠ a
@[irreducible] def spInit (C : Addr) : Sp := fun vs H Q _ => ∃ (a dx : Addr) (n : Int) (b : Addr) (m : List (Str × Str)), vs = [.ref a, .int n, .ref b] ∧ H a = some (.ins C dx []) ∧ H b = some (.dK (tk m)) ∧ 1 ≤ n ∧ n ≤ 100 ∧ (∀ p ∈ m, RowOk n p) ∧ (m.map (·.1)).Nodup ∧ m.length ≤ 40 ∧
  ∀ H', (∀ c o, c ≠ a → H c = some o → H' c = some o) → TabAt C H' a n (srt m) → Q .non H'
theorem rows_go {n : Int} {b : Addr} {m : List (Str × Str)} {H : Hp} {Q : VK} {E : XK} (h0 : 1 ≤ n) (h1 : n ≤ 100) (hb : H b = some (.dK (tk m))) (hp : ∀ p ∈ m, RowOk n p) (hz : m.length ≤ 1000) (k : ∀ H', Same H H' → Q (.bl true) H') : spRows [.int n, .ref b] H Q E := by
  unfold spRows
  exact ⟨n, b, m, rfl, h0, h1, hb, hp, hz, k⟩
theorem tk_keys (m : List (Str × Str)) : (tk m).map (·.1) = (m.map (·.1)).map Sum.inr := by
  unfold tk
  rw [List.map_map, List.map_map]
  rfl
theorem tk_len (m : List (Str × Str)) : (tk m).length = m.length := by unfold tk; rw [List.length_map]
theorem tk_val (m : List (Str × Str)) {k : Str} (h : k ∈ m.map (·.1)) : valV (tk m) (Sum.inr k) = some (.str (getT m k)) := by
  induction m with
  | nil => cases h
  | cons p m ih =>
    unfold tk getT valV at *
    by_cases e : p.1 = k
    · rw [List.map_cons, List.find?_cons_of_pos (by simp [e]), List.find?_cons_of_pos (by simp [e])]
      rfl
    · rw [List.map_cons, List.find?_cons_of_neg (by simpa using e), List.find?_cons_of_neg (by simpa using e)]
      refine ih ?_
      rcases List.mem_cons.mp h with q | q
      · exact absurd q.symm e
      · exact q
theorem tk_snoc {m : List (Str × Str)} {k g : Str} (h : k ∉ m.map (·.1)) : putK (tk m) (Sum.inr k) (.str g) = tk (m ++ [(k, g)]) := by
  unfold putK
  rw [if_neg]
  · unfold tk
    rw [List.map_append]
    rfl
  · intro hh
    obtain ⟨q, hq, e⟩ := List.any_eq_true.mp hh
    have e' : q.1 = Sum.inr k := of_decide_eq_true e
    have : (Sum.inr k : Key) ∈ (tk m).map (·.1) := e' ▸ List.mem_map_of_mem hq
    rw [tk_keys] at this
    obtain ⟨z, hz, e2⟩ := List.mem_map.mp this
    cases e2
    exact h hz
section
variable {P : Program} {w : World} {K : PySem.W.Frag} {mg : Str → Option Value} {base : Heap} {f C : Addr} {fd : FuncData}
theorem ok_init {params : Arguments} {dvs : List V} {kws : List (Str × V)} (F : FunD K "__init__" "Table.__init__" params (defBody s_Tableinit) (defScope s_Tableinit) dvs kws f fd) (T : Txt K mg) (TC : TabC K C) (c_check_width : Nm P w K mg base CX0 3 "check_width" s_check_width ["width"] spCW)
    (c_is_rows : Nm P w K mg base CX0 5 "is_rows" s_is_rows ["width", "value"] spRows) : FnG P w K mg base CX0 6 f fd ["self", "width", "rows"] (spInit C) := by
  obtain ⟨oc, od, dV, kV, doc, pm, an, cdv, ct, osl, rfl, lk, hcd, _, _⟩ := F.ex
  refine fnG_core lk hcd sc_Tableinit (fun vs H Q E h => ?_) fun A outer s H vs Q E hr h => ?_
  · unfold spInit at h
    obtain ⟨a, dx, n, b, m, rfl, _⟩ := h
    rfl
  · unfold spInit at h
    obtain ⟨a, dx, n, b, m, rfl, ha, hb, h0, h1, hp, hnd, hz, k⟩ := h
    refine ⟨_, (pss_cons (ps_expr (pe_g c_check_width hr (by decide) L2.pass0 bp_check_width (by rfl) (pa_cons (pv 1) pa_nil)))
      (pss_cons (ps_if (pt_cmpR op_isN (pv 2) pe_non (nomark _)) (pss_one (ps_set (i := 2) sc_Tableinit.nd rfl (by first | exact Or.inl rfl | exact Or.inr rfl) pe_dnewK)) pss_nil)
      (pss_cons (ps_if (pt_not (pt_val (pe_g c_is_rows hr (by decide) L2.pass0 bp_is_rows (by rfl) (pa_cons (pv 1) (pa_cons (pv 2) pa_nil))))) (pss_one ps_never) pss_nil)
      (pss_cons (ps_if (pt_cmpR op_gt (pe_callB call_lenD (by rfl) T.b_len PySem.boot_len (pa_cons (pv 2) pa_nil)) (pe_con (pv 0) (by rfl)) (nomark _)) (pss_one ps_never) pss_nil)
      (pss_cons (ps_fld (pv 0) (pv 1) rfl)
      (pss_one (ps_fld (pv 0) (pe_dc (own := [("stretch", 3)]) (g := (gName 3)) (by rfl) sc_Tableinit.nd (pi_listK (K := K) rfl (pe_callBK (cr_sortKD hr.u rfl) (by rfl) T.b_sorted (by decide +kernel) (pa_cons (pv 2) pa_nil) (pk_cons (pe_ty "str" (by rfl) T.b_str (by decide +kernel)) pk_nil))) (blkOk_by (own := [("stretch", 3)]) (N := ["self", "width", "rows", "stretch"]) (sc := defScope s_Tableinit) (by decide +kernel)) (fun _ _ _ _ _ => (pg_name (i := 3) sc_Tableinit.nd rfl (by first | exact Or.inl rfl | exact Or.inr rfl))) (fun _ _ _ _ _ => pts_nil) (fun _ _ _ _ _ => (pv 3)) (fun _ _ _ _ _ => (pe_dget hr.u1 (pv 2) (pv 3) (fun _ _ => rfl)))) rfl))))))), ?_⟩
    repeat walk_at "s1"
    refine cw_go h0 h1 fun H1 sm1 => ?_
    have ha1 := sm1 _ _ ha
    have hb1 := sm1 _ _ hb
    show tSeq _ _ _ _ _
    refine ⟨_, rfl, ?_⟩
    refine ⟨rfl, ?_⟩
    refine ⟨_, rfl, ?_⟩
    refine iteF ?_
    show tSeq _ _ _ _ _
    refine ⟨_, rfl, ?_⟩
    refine ⟨_, rfl, ?_⟩
    refine rows_go h0 h1 hb1 hp (by omega) fun H2 sm2 => ?_
    have ha2 := sm2 _ _ ha1
    have hb2 := sm2 _ _ hb1
    refine ⟨_, rfl, ?_⟩
    refine iteF ?_
    show tSeq _ _ _ _ _
    refine ⟨_, rfl, ?_⟩
    refine ⟨b, tk m, rfl, hb2, ?_⟩
    refine ⟨_, rfl, ?_⟩
    obtain ⟨u, hcon⟩ := TC.con
    refine ⟨a, C, dx, [], .int 40, u, rfl, ha2, TC.cl, hcon, rfl, ?_⟩
    refine ⟨_, _, rfl, rfl, ?_⟩
    refine ⟨_, rfl, ?_⟩
    rw [show decide ((40 : Int) < ((tk m).length : Int)) = false from decide_eq_false (by rw [tk_len]; omega)]
    refine iteF ?_
    show tSeq _ _ _ _ _
    refine ⟨_, rfl, ?_⟩
    refine ⟨_, rfl, ?_⟩
    refine ⟨a, C, dx, [], rfl, ha2, TC.cl, TC.n1, by decide, ?_⟩
    have hba : b ≠ a := fun z => by rw [z, ha2] at hb2; cases hb2
    have hb3 : upd H2 a (.ins C dx (putF "_width" (.int n) [])) b = some (.dK (tk m)) := updn hba hb2
    dsimp only
    refine ⟨_, rfl, ?_⟩
    refine ⟨b, tk m, m.map (·.1), rfl, rfl, .inl hb3, tk_keys m, fun L nL => ?_⟩
    refine ⟨L, rfl, ⟨_, SqL.of upd_same⟩, fun D nD => ?_⟩
    generalize hT : tsort (m.map (·.1)) = ts at nL nD ⊢
    have hperm : ts.Perm (m.map (·.1)) := by rw [← hT]; exact tsort_perm _
    have htn : ts.Nodup := hperm.nodup_iff.mpr hnd
    have htl : ts.length ≤ 40 := by rw [hperm.length_eq, List.length_map]; exact hz
    have hLa : L ≠ a := fun z => by rw [z, upd_same] at nL; cases nL
    have hDL : D ≠ L := fun z => by rw [z, upd_same] at nD; cases nD
    have hDa : D ≠ a := fun z => by rw [z, upd_ne (Ne.symm hLa), upd_same] at nD; cases nD
    have hLb : b ≠ L := nonn nL hb3
    have nD2 : H2 D = none := by
      rw [upd_ne hDL, upd_ne hDa] at nD
      exact nD
    have hDb : b ≠ D := nonn nD (updn hLb hb3)
    refine dc_it walk_list (fun i H4 => H4 D = some (.dK (tk ((ts.take i).map fun k => (k, getT m k)))) ∧ H4 L = some (.lst (ts.map V.str)) ∧ H4 a = some (.ins C dx [("_width", .int n)]) ∧ (∀ c o, c ≠ a → H2 c = some o → H4 c = some o)) ?_ (fun i H4 _ h => SqL.of h.2.1) ?_ ?_
    · refine ⟨upd_same, updn (Ne.symm hDL) upd_same, updn (Ne.symm hDa) (updn (Ne.symm hLa) upd_same), fun c o hc e => ?_⟩
      have e1 : upd H2 a (.ins C dx (putF "_width" (.int n) [])) c = some o := updn hc e
      have e2 := updn (o := .lst (ts.map V.str)) (nonn nL e1) e1
      exact updn (nonn nD e2) e2
    · rintro i x H4 H5 hi ⟨hD, hL, hA, hk⟩ ⟨rfl, hx⟩
      obtain ⟨key, hkey, rfl⟩ : ∃ key, ts[i]? = some key ∧ x = .str key := by
        rw [List.getElem?_map] at hx
        cases e : ts[i]? with
        | none => rw [e] at hx; cases hx
        | some z => rw [e] at hx; exact ⟨z, rfl, (Option.some.inj hx).symm⟩
      refine ⟨rfl, ?_⟩
      dsimp only [tYes]
      rw [if_pos rfl]
      refine ⟨_, rfl, ?_⟩
      have hbH : H5 b = some (.dK (tk m)) := hk b _ hba hb2
      have hmem : key ∈ m.map (·.1) := hperm.mem_iff.mp (List.mem_of_getElem? hkey)
      have hnew : key ∉ ((ts.take i).map fun k => (k, getT m k)).map (·.1) := by
        have e0 : ((ts.take i).map fun k => (k, getT m k)).map (·.1) = ts.take i := by
          rw [List.map_map]
          exact List.map_id' _
        rw [e0]
        intro hin
        have hn : (ts.take (i + 1)).Nodup := (List.take_sublist _ _).nodup htn
        rw [List.take_add_one, hkey] at hn
        exact (List.nodup_append.mp hn).2.2 key hin key (List.mem_singleton.mpr rfl) rfl
      refine ⟨_, rfl, ⟨_, rfl, ⟨b, .str (getT m key), rfl, .inl ⟨tk m, Sum.inr key, .inl hbH, rfl, (tk_val m hmem).symm⟩, ?_⟩⟩⟩
      refine ⟨_, Sum.inr key, rfl, hD, szt (by rw [tk_len, List.length_map, List.length_take]; omega), ?_, updn (Ne.symm hDL) hL, updn (Ne.symm hDa) hA, fun c o hc e => updn (nonn nD2 e) (hk c o hc e)⟩
      rw [upd_same, tk_snoc hnew, List.take_add_one, hkey, List.map_append]
      rfl
    · rintro H4 ⟨hD, hL, hA, hk⟩
      rw [List.length_map, List.take_length] at hD
      refine ⟨_, rfl, ⟨a, C, dx, _, rfl, hA, TC.cl, TC.n2, Nat.le_of_ble_eq_true rfl, ?_⟩⟩
      refine k _ (fun c o hc e => updn hc (hk c o hc (sm2 c o (sm1 c o e)))) ⟨dx, D, upd_same, updn hDa ?_, hDa⟩
      rw [hD]
      unfold srt
      rw [hT]
end
open PySem PySem.Spec PyProof.Rows
open L2 hiding pass0
theorem tk_none (m : List (Str × Str)) {k : Str} (h : k ∉ m.map (·.1)) : valV (tk m) (Sum.inr k) = none := by
  unfold valV
  rw [List.find?_eq_none.mpr]
  · rfl
  · intro q hq e
    have e' : q.1 = Sum.inr k := of_decide_eq_true e
    have : (Sum.inr k : Key) ∈ (tk m).map (·.1) := e' ▸ List.mem_map_of_mem hq
    rw [tk_keys] at this
    obtain ⟨z, hz, e2⟩ := List.mem_map.mp this
    cases e2
    exact h hz
theorem tk_has (m : List (Str × Str)) (k : Str) : (valV (tk m) (Sum.inr k)).isSome = decide (k ∈ m.map (·.1)) := by
  by_cases h : k ∈ m.map (·.1)
  · rw [tk_val m h, decide_eq_true h]
    rfl
  · rw [tk_none m h, decide_eq_false h]
    rfl
@[irreducible] def spWidth (C : Addr) : Sp := fun vs H Q _ => ∃ (a : Addr) (n : Int) (m : List (Str × Str)), vs = [.ref a] ∧ TabAt C H a n m ∧ Q (.int n) H
@[irreducible] def spTRows (C : Addr) : Sp := fun vs H Q _ => ∃ (a : Addr) (n : Int) (m : List (Str × Str)), vs = [.ref a] ∧ TabAt C H a n m ∧ ∀ p, H p = none → Q (.ref p) (upd H p (.dK (tk m)))
open PySem PySem.Spec PyProof.Rows
open L2 hiding pass0
/-- a row put -/
def putT (m : List (Str × Str)) (k g : Str) : List (Str × Str) := if (m.any fun p => decide (p.1 = k)) = true then m.map (fun p => if p.1 = k then (p.1, g) else p) else m ++ [(k, g)]
theorem tk_put (m : List (Str × Str)) (k g : Str) : putK (tk m) (Sum.inr k) (.str g) = tk (putT m k g) := by
  unfold putK putT
  have e : ((tk m).any fun kv => decide (kv.1 = Sum.inr k)) = m.any fun p => decide (p.1 = k) := by
    unfold tk
    rw [List.any_map]
    congr 1
    funext p
    simp
  rw [e]
  split
  · unfold tk
    rw [List.map_map, List.map_map]
    refine List.map_congr_left fun p _ => ?_
    by_cases h : p.1 = k
    · simp [h]
    · simp [h]
  · unfold tk
    rw [List.map_append]
    rfl
theorem put_nodup {m : List (Str × Str)} {k g : Str} (h : (m.map (·.1)).Nodup) : ((putT m k g).map (·.1)).Nodup := by
  unfold putT
  split
  · have e : (m.map fun p => if p.1 = k then (p.1, g) else p).map (·.1) = m.map (·.1) := by
      rw [List.map_map]
      refine List.map_congr_left fun p _ => ?_
      by_cases h : p.1 = k <;> simp [h]
    rw [e]
    exact h
  · rename_i hn
    rw [List.map_append, List.nodup_append]
    refine ⟨h, by simp, fun x hx y hy => ?_⟩
    obtain rfl := List.mem_singleton.mp hy
    rintro rfl
    refine hn (List.any_eq_true.mpr ?_)
    obtain ⟨p, hp, e⟩ := List.mem_map.mp hx
    exact ⟨p, hp, decide_eq_true e⟩
theorem put_ok {n : Int} {m : List (Str × Str)} {k g : Str} (h : ∀ p ∈ m, RowOk n p) (h2 : RowOk n (k, g)) : ∀ p ∈ putT m k g, RowOk n p := by
  unfold putT
  split
  · intro p hp
    obtain ⟨q, hq, rfl⟩ := List.mem_map.mp hp
    by_cases e : q.1 = k
    · rw [if_pos e, e]
      exact h2
    · rw [if_neg e]
      exact h q hq
  · intro p hp
    rcases List.mem_append.mp hp with hp | hp
    · exact h p hp
    · rw [List.mem_singleton.mp hp]
      exact h2
/-- merging a dict into the empty one -/
theorem mrg_app : ∀ (m acc : List (Str × Str)), ((acc ++ m).map (·.1)).Nodup → mergeK (tk acc) (tk m) = tk (acc ++ m)
  | [], acc, _ => by rw [List.append_nil]; rfl
  | p :: m, acc, h => by
    have hf : p.1 ∉ acc.map (·.1) := fun hin => by
      rw [List.map_append, List.nodup_append] at h
      exact h.2.2 p.1 hin p.1 (List.mem_cons_self ..) rfl
    have e : mergeK (tk acc) (tk (p :: m)) = mergeK (putK (tk acc) (Sum.inr p.1) (.str p.2)) (tk m) := rfl
    rw [e, tk_snoc hf, mrg_app m (acc ++ [(p.1, p.2)]) (by rw [List.append_assoc]; exact h), List.append_assoc]
    rfl
theorem mrg_nil {m : List (Str × Str)} (h : (m.map (·.1)).Nodup) : mergeK [] (tk m) = tk m := mrg_app m [] h
structure TabOk (n : Int) (m : List (Str × Str)) : Prop where
  w0 : 1 ≤ n
  w1 : n ≤ 100
  rows : ∀ p ∈ m, RowOk n p
  nd : (m.map (·.1)).Nodup
  few : m.length ≤ 40
theorem init_go {C a dx b : Addr} {n : Int} {m : List (Str × Str)} {H : Hp} {Q : VK} {E : XK} (ha : H a = some (.ins C dx [])) (hb : H b = some (.dK (tk m))) (ok : TabOk n m) (k : ∀ H', (∀ c o, c ≠ a → H c = some o → H' c = some o) → TabAt C H' a n (srt m) → Q .non H') : spInit C [.ref a, .int n, .ref b] H Q E := by
  unfold spInit
  exact ⟨a, dx, n, b, m, rfl, ha, hb, ok.w0, ok.w1, ok.rows, ok.nd, ok.few, k⟩
theorem b_table {P : Program} {w : World} {K : PySem.W.Frag} {mg : Str → Option Value} {base : Heap} {f C : Addr} {fd : FuncData} (F : FunD K "__init__" "Table.__init__" (defArgs s_Tableinit) (defBody s_Tableinit) (defScope s_Tableinit) [.non] [] f fd) (M : Mk K C f) (hm : mg "Table" = some (.ref C))
    (ok : FnG P w K mg base CX0 6 f fd ["self", "width", "rows"] (spInit C)) : BndI P w K mg base CX0 6 "Table" C ["self", "width", "rows"] (spInit C) 2 [] (fun us _ => us) := by
  obtain ⟨its, hb⟩ := F.kbindsD (ps := ["self", "width", "rows"]) 3 [] (fun us _ _ => us) (by simp) (fun r _ _ => r) (fun T kV doc pm an cdv ct us its ws h1 h2 h3 => by
    match us, its, ws, h1, h2, h3 with
    | [a, b, c], [d], [], _, _, _ => exact ⟨_, rfl, rfl⟩)
  exact ⟨f, fd, _, M, hm, ok, hb⟩
open PySem PySem.Spec PyProof.Rows
open L2 hiding pass0
def px (z : Str) (k : Nat) : Str := SX.S (z.cps.toList.take k)
theorem cut_px (z : Str) {d : Int} {k : Nat} (h : d = k) : cutS z none (some d) = px z k := by
  subst h
  show SX.S _ = SX.S _
  refine congrArg SX.S ?_
  show (z.cps.toList.drop 0).take (HT.sIx z.length z.length (some (k : Int)) - 0) = z.cps.toList.take k
  rw [HT.sIx_nat, List.drop_zero, Nat.sub_zero]
  have hl : z.cps.toList.length = z.length := Array.length_toList
  by_cases c : k ≤ z.length
  · rw [Nat.min_eq_left c]
  · rw [List.take_of_length_le (by omega), List.take_of_length_le (by omega)]
theorem px_len (z : Str) (k : Nat) : (px z k).length = min k z.length := by
  unfold px
  rw [SX.S_len, List.length_take, Array.length_toList]
  rfl
def look (m : List (Str × Str)) (k : Str) : Option Str := (m.find? fun p => decide (p.1 = k)).map (·.2)
theorem look_get (m : List (Str × Str)) (k : Str) : getT m k = (look m k).getD Str.empty := rfl
theorem look_key {m : List (Str × Str)} {k : Str} : (look m k).isSome = decide (k ∈ m.map (·.1)) := by
  unfold look
  rw [Option.isSome_map]
  by_cases h : k ∈ m.map (·.1)
  · rw [decide_eq_true h]
    obtain ⟨p, hp, e⟩ := List.mem_map.mp h
    exact List.find?_isSome.mpr ⟨p, hp, decide_eq_true e⟩
  · rw [decide_eq_false h]
    refine Option.isSome_eq_false_iff.mpr ?_
    rw [Option.isNone_iff_eq_none]
    exact List.find?_eq_none.mpr fun p hp e => h (List.mem_map.mpr ⟨p, hp, of_decide_eq_true e⟩)
/-- the longest beginning with fewer than so many signs that is told -/
def lbP (f : Str → Option Str) (z : Str) : Nat → Option Str
  | 0 => none
  | i + 1 => if (f (px z i)).isSome = true then some (px z i) else lbP f z i
theorem lbP_no {f : Str → Option Str} {z : Str} {i : Nat} (h : (f (px z i)).isSome = false) : lbP f z (i + 1) = lbP f z i := by
  show (if _ then _ else _) = _
  rw [h]
  rfl
theorem lbP_yes {f : Str → Option Str} {z : Str} {i : Nat} (h : (f (px z i)).isSome = true) : lbP f z (i + 1) = some (px z i) := by
  show (if _ then _ else _) = _
  rw [h]
  rfl
theorem lbP_some {f : Str → Option Str} {z x : Str} : ∀ {i : Nat}, lbP f z i = some x → (f x).isSome = true ∧ ∃ j, j < i ∧ x = px z j
  | i + 1, h => by
    by_cases c : (f (px z i)).isSome = true
    · rw [lbP_yes c] at h
      cases h
      exact ⟨c, i, Nat.lt_succ_self _, rfl⟩
    · rw [lbP_no (by simpa using c)] at h
      obtain ⟨a, j, hj, e⟩ := lbP_some h
      exact ⟨a, j, by omega, e⟩
def lb (f : Str → Option Str) (z : Str) : Option Str := lbP f z (z.length + 1)
def oV : Option Str → V
  | some x => .str x
  | none => .non
def goalT (f : Str → Option Str) (z : Str) : Str := match lb f z with
  | some x => (f x).getD Str.empty
  | none => "hole"
theorem look_put (m : List (Str × Str)) (k g x : Str) : look (putT m k g) x = if x = k then some g else look m x := by
  unfold putT look
  split
  · rename_i h
    rw [List.find?_map, Option.map_map]
    have e : ((fun p : Str × Str => decide (p.1 = x)) ∘ fun p => if p.1 = k then (p.1, g) else p) = fun p => decide (p.1 = x) := by
      funext p
      by_cases q : p.1 = k <;> simp [q]
    rw [e]
    cases hf : m.find? (fun p => decide (p.1 = x)) with
    | none =>
      by_cases q : x = k
      · subst q
        obtain ⟨p, hp, e⟩ := List.any_eq_true.mp h
        exact absurd e (List.find?_eq_none.mp hf p hp)
      · rw [if_neg q]
        rfl
    | some p =>
      have e1 : p.1 = x := by simpa using List.find?_some hf
      by_cases q : x = k
      · rw [if_pos q]
        show some (if p.1 = k then (p.1, g) else p).2 = some g
        rw [if_pos (e1.trans q)]
      · rw [if_neg q]
        show some (if p.1 = k then (p.1, g) else p).2 = some p.2
        rw [if_neg (fun r => q (e1.symm.trans r))]
  · rename_i h
    rw [List.find?_append]
    by_cases q : x = k
    · subst q
      have e : m.find? (fun p => decide (p.1 = x)) = none := List.find?_eq_none.mpr fun p hp e => h (List.any_eq_true.mpr ⟨p, hp, e⟩)
      rw [e, if_pos rfl]
      simp
    · rw [if_neg q]
      have e : [(k, g)].find? (fun p => decide (p.1 = x)) = none := by
        simp [Ne.symm q]
      rw [e, Option.or_none]
theorem look_srt {m : List (Str × Str)} (k : Str) : look (srt m) k = look m k := by
  unfold look srt
  rw [List.find?_map, Option.map_map]
  show ((tsort (m.map (·.1))).find? (fun x => decide (x = k))).map (fun x => getT m x) = _
  by_cases h : k ∈ m.map (·.1)
  · have h2 : k ∈ tsort (m.map (·.1)) := (tsort_perm _).mem_iff.mpr h
    have e : (tsort (m.map (·.1))).find? (fun x => decide (x = k)) = some k := by
      cases hf : (tsort (m.map (·.1))).find? (fun x => decide (x = k)) with
      | none => exact absurd (decide_eq_true rfl) (List.find?_eq_none.mp hf k h2)
      | some y => rw [show y = k by simpa using List.find?_some hf]
    rw [e]
    show some (getT m k) = look m k
    have := look_key (m := m) (k := k)
    rw [decide_eq_true h] at this
    rw [look_get]
    cases hl : look m k with
    | none => rw [hl] at this; cases this
    | some v => rfl
  · have e : (tsort (m.map (·.1))).find? (fun x => decide (x = k)) = none := List.find?_eq_none.mpr fun x hx e => h (by rw [← of_decide_eq_true e]; exact (tsort_perm _).mem_iff.mp hx)
    have := look_key (m := m) (k := k)
    rw [decide_eq_false h] at this
    rw [e]
    show none = look m k
    cases hl : look m k with
    | none => rfl
    | some v => rw [hl] at this; cases this
theorem look_has (m : List (Str × Str)) (k : Str) : (valV (tk m) (Sum.inr k)).isSome = (look m k).isSome := by rw [tk_has, look_key]
@[irreducible] def spLong : Sp := fun vs H Q _ => ∃ (D : Addr) (z : Str) (m : List (Str × Str)), vs = [.ref D, .str z] ∧ H D = some (.dK (tk m)) ∧ z.length ≤ 1000 ∧ ∀ H', Same H H' → Q (oV (lb (look m) z)) H'
@[irreducible] def spRowOf (C : Addr) : Sp := fun vs H Q _ => ∃ (a : Addr) (n : Nat) (m : List (Str × Str)) (z : Str), vs = [.ref a, .str z] ∧ TabAt C H a n m ∧ 1 ≤ n ∧ n ≤ 100 ∧ Bits z ∧ z.length = n ∧ ∀ H', Same H H' → Q (oV (lb (look m) z)) H'
@[irreducible] def spCall (C : Addr) : Sp := fun vs H Q _ => ∃ (a : Addr) (n : Nat) (m : List (Str × Str)) (z : Str), vs = [.ref a, .str z] ∧ TabAt C H a n m ∧ 1 ≤ n ∧ n ≤ 100 ∧ Bits z ∧ z.length = n ∧ ∀ H', Same H H' → Q (.str (goalT (look m) z)) H'
theorem adr_ok {n : Nat} {z : Str} (hz : Bits z) (lz : z.length = n) : adrB n z = true := by
  show (bitsB z && decide ((z.length : Int) = n)) = true
  rw [bitsB_of hz, lz, decide_eq_true rfl]
  rfl
theorem long_go {D : Addr} {z : Str} {m : List (Str × Str)} {H : Hp} {Q : VK} {E : XK} (hD : H D = some (.dK (tk m))) (hz : z.length ≤ 1000) (k : ∀ H', Same H H' → Q (oV (lb (look m) z)) H') : spLong [.ref D, .str z] H Q E := by
  unfold spLong
  exact ⟨D, z, m, rfl, hD, hz, k⟩
theorem rowof_go {C a : Addr} {z : Str} {n : Nat} {m : List (Str × Str)} {H : Hp} {Q : VK} {E : XK} (ht : TabAt C H a n m) (h0 : 1 ≤ n) (h1 : n ≤ 100) (hz : Bits z) (lz : z.length = n) (k : ∀ H', Same H H' → Q (oV (lb (look m) z)) H') : spRowOf C [.ref a, .str z] H Q E := by
  unfold spRowOf
  exact ⟨a, n, m, z, rfl, ht, h0, h1, hz, lz, k⟩
theorem call_go {C a : Addr} {z : Str} {n : Nat} {m : List (Str × Str)} {H : Hp} {Q : VK} {E : XK} (ht : TabAt C H a n m) (h0 : 1 ≤ n) (h1 : n ≤ 100) (hz : Bits z) (lz : z.length = n) (k : ∀ H', Same H H' → Q (.str (goalT (look m) z)) H') : spCall C [.ref a, .str z] H Q E := by
  unfold spCall
  exact ⟨a, n, m, z, rfl, ht, h0, h1, hz, lz, k⟩
section
variable {P : Program} {w : World} {K : PySem.W.Frag} {mg : Str → Option Value} {base : Heap} {f C : Addr} {fd : FuncData}
theorem ok_long (F : Fun K "longest_beginning" "longest_beginning" s_longest_beginning f fd) (hm : mg "longest_beginning" = some (.ref f)) (T : Txt K mg) : Nm P w K mg base CX0 1 "longest_beginning" s_longest_beginning ["known", "bits"] (spLong) := by
  refine nm_of0 F hm sc_longest_beginning (fun vs H Q E h => ?_) fun cdv A outer s H vs Q E hr h => ?_
  · unfold spLong at h
    obtain ⟨D, z, m, rfl, hD, hz, k⟩ := h
    subst_vars
    rfl
  unfold spLong at h
  obtain ⟨D, z, m, rfl, hD, hz, k⟩ := h
  refine ⟨_, (pss_cons (ps_for PassesOwn.never rfl (pi_range3 (by rfl) T.b_range (pa_cons (pe_callB (call_lenK (K := K) rfl) (by rfl) T.b_len PySem.boot_len (pa_cons (pv 1) pa_nil)) (pa_cons (pe_un un_neg pe_int) (pa_cons (pe_un un_neg pe_int) pa_nil)))) (pg_name (i := 2) sc_longest_beginning.nd rfl (by first | exact Or.inl rfl | exact Or.inr rfl)) (pss_one (ps_if (pt_cmp (pc_din hr.u1 (pe_slice sl_str (pv 1) po_none (po_some (pv 2))) (pv 0))) (pss_one (ps_ret (pe_slice sl_str (pv 1) po_none (po_some (pv 2))))) pss_nil)))
      (pss_one (ps_ret pe_non))), ?_⟩
  have en : ((z.length : Int) - (-1)).toNat = z.length + 1 := by omega
  repeat walk_at "s1"
  refine ⟨_, _, _, _, rfl, RgC.neg (by omega) (by omega) (by omega) (by omega), ?_⟩
  rw [en]
  refine for_it walk_rangeC (fun i σ' H' => ∃ x2, σ' = [some (.ref D), some (.str z), x2] ∧ Same H H' ∧ lb (look m) z = lbP (look m) z (z.length + 1 - i)) ⟨_, rfl, Same.refl H, rfl⟩ (fun _ _ _ _ _ => trivial) ?_ ?_
  · rintro i x σ' H1 H2 hi ⟨x2, rfl, sm, hl⟩ ⟨rfl, rfl⟩
    repeat walk_at "s1"
    rw [cut_px z (k := z.length - i) (by omega)]
    refine ⟨D, _, rfl, .inl ⟨tk m, Sum.inr (px z (z.length - i)), .inl (sm _ _ hD), rfl, rfl⟩, ?_⟩
    rw [look_has]
    rw [show z.length + 1 - i = (z.length - i) + 1 by omega] at hl
    cases hc : (look m (px z (z.length - i))).isSome with
    | true =>
      rw [lbP_yes hc] at hl
      refine ⟨_, rfl, iteT ?_⟩
      repeat walk_at "s1"
      rw [cut_px z (k := z.length - i) (by omega)]
      have hk := k _ sm
      rw [hl] at hk
      exact hk
    | false =>
      rw [lbP_no hc] at hl
      refine ⟨_, rfl, iteF ?_⟩
      refine ⟨_, rfl, sm, ?_⟩
      rw [show z.length + 1 - (i + 1) = z.length - i by omega]
      exact hl
  · rintro σ' H1 ⟨x2, rfl, sm, hl⟩
    rw [Nat.sub_self] at hl
    have hk := k _ sm
    rw [hl] at hk
    exact hk
theorem ok_rowof (F : Fun K "row" "Table.row" s_Table_row f fd) (hm : Meth K C "row" f) (T : Txt K mg) (TC : TabC K C) (c_check_address : Nm P w K mg base CX0 6 "check_address" s_check_address ["width", "address"] (spCT adrB)) (c_longest_beginning : Nm P w K mg base CX0 1 "longest_beginning" s_longest_beginning ["known", "bits"] spLong) :
    Mth P w K mg base CX0 7 C "row" "Table.row" s_Table_row ["self", "address"] (spRowOf C) := by
  refine mth_of0 F hm sc_Table_row (fun vs H Q E h => ?_) fun cdv A outer s H vs Q E hr h => ?_
  · unfold spRowOf at h
    obtain ⟨a, n, m, z, rfl, _⟩ := h
    rfl
  · unfold spRowOf at h
    obtain ⟨a, n, m, z, rfl, ⟨dx, D, ha, hD, hne⟩, h0, h1, hz, lz, k⟩ := h
    refine ⟨_, (pss_cons (ps_expr (pe_g c_check_address hr (by decide) L2.pass0 bp_check_address (by rfl) (pa_cons (pe_fld (pv 0) (by rfl)) (pa_cons (pv 1) pa_nil))))
      (pss_one (ps_ret (pe_g c_longest_beginning hr (by decide) L2.pass0 bp_longest_beginning (by rfl) (pa_cons (pe_fld (pv 0) (by rfl)) (pa_cons (pv 1) pa_nil)))))), ?_⟩
    repeat walk_at "s1"
    refine ⟨a, C, dx, _, .int n, rfl, ha, TC.cl, TC.n1, rfl, ?_⟩
    repeat walk_at "s1"
    refine ct_go (by omega) (by omega) (by omega) (adr_ok hz lz) fun H1 sm1 => ?_
    refine ⟨_, rfl, ⟨a, C, dx, _, .ref D, rfl, sm1 _ _ ha, TC.cl, TC.n2, rfl, ?_⟩⟩
    repeat walk_at "s1"
    refine long_go (sm1 _ _ hD) (by omega) fun H2 sm2 => ?_
    exact k _ (sm1.trans sm2)
theorem ok_call (F : Fun K "__call__" "Table.__call__" s_Table__call__ f fd) (hm : Meth K C "__call__" f) (T : Txt K mg) (TC : TabC K C) (c_Table_row : Mth P w K mg base CX0 7 C "row" "Table.row" s_Table_row ["self", "address"] (spRowOf C)) :
    Mth P w K mg base CX0 8 C "__call__" "Table.__call__" s_Table__call__ ["self", "address"] (spCall C) := by
  refine mth_of0 F hm sc_Table__call__ (fun vs H Q E h => ?_) fun cdv A outer s H vs Q E hr h => ?_
  · unfold spCall at h
    obtain ⟨a, n, m, z, rfl, _⟩ := h
    rfl
  · unfold spCall at h
    obtain ⟨a, n, m, z, rfl, ⟨dx, D, ha, hD, hne⟩, h0, h1, hz, lz, k⟩ := h
    refine ⟨_, (pss_cons (ps_set (i := 2) sc_Table__call__.nd rfl (by first | exact Or.inl rfl | exact Or.inr rfl) (pe_m c_Table_row TC.cl hr (by decide) L2.pass0 bm_Table_row (pv 0) (pa_cons (pv 1) pa_nil)))
      (pss_cons (ps_if (pt_cmpR op_isN (pv 2) pe_non (nomark _)) (pss_one (ps_ret pe_str)) pss_nil)
      (pss_one (ps_ret (pe_dget hr.u1 (pe_fld (pv 0) (by rfl)) (pv 2) (fun _ _ => rfl)))))), ?_⟩
    refine ⟨_, rfl, ⟨⟨a, dx, _, rfl, ha, rfl⟩, ?_⟩⟩
    repeat walk_at "s1"
    refine rowof_go ⟨dx, D, ha, hD, hne⟩ h0 h1 hz lz fun H1 sm1 => ?_
    have ha1 := sm1 _ _ ha
    have hD1 := sm1 _ _ hD
    have hk := k _ sm1
    unfold goalT at hk
    cases hl : lb (look m) z with
    | none =>
      rw [hl] at hk
      repeat walk_at "s1"
      refine iteT ?_
      exact hk
    | some x =>
      rw [hl] at hk
      repeat walk_at "s1"
      refine ⟨a, C, dx, _, .ref D, rfl, ha1, TC.cl, TC.n2, rfl, ?_⟩
      have hx := (lbP_some hl).1
      rw [look_key] at hx
      refine ⟨_, rfl, ⟨D, .str (getT m x), rfl, .inl ⟨tk m, Sum.inr x, .inl hD1, rfl, (tk_val m (of_decide_eq_true hx)).symm⟩, ?_⟩⟩
      exact hk
end
open PySem PySem.Spec PyProof.Rows
open L2 hiding pass0
theorem RoomG.u0 {k : Nat} {A : Around} (x : RoomG k A) : A.units < cLine := by have := x.u1; omega
def mrgT (m r : List (Str × Str)) : List (Str × Str) := r.foldl (fun acc q => putT acc q.1 q.2) m
theorem mrgT_tk : ∀ (r m : List (Str × Str)), mergeK (tk m) (tk r) = tk (mrgT m r)
  | [], _ => rfl
  | q :: r, m => by
    have e : mergeK (tk m) (tk (q :: r)) = mergeK (putK (tk m) (Sum.inr q.1) (.str q.2)) (tk r) := rfl
    rw [e, tk_put, mrgT_tk r]
    rfl
theorem look_mrg : ∀ (r m : List (Str × Str)) (x : Str), (r.map (·.1)).Nodup → look (mrgT m r) x = (look r x).or (look m x)
  | [], m, x, _ => rfl
  | q :: r, m, x, h => by
    have hn := List.nodup_cons.mp h
    have e : mrgT m (q :: r) = mrgT (putT m q.1 q.2) r := rfl
    rw [e, look_mrg r _ x hn.2, look_put]
    by_cases c : x = q.1
    · subst c
      have hz : look r q.1 = none := by
        have := look_key (m := r) (k := q.1)
        rw [decide_eq_false hn.1] at this
        cases hl : look r q.1 with
        | none => rfl
        | some v => rw [hl] at this; cases this
      rw [hz, if_pos rfl]
      unfold look
      rw [List.find?_cons_of_pos (by simp)]
      rfl
    · rw [if_neg c]
      have e2 : look (q :: r) x = look r x := by
        unfold look
        rw [List.find?_cons_of_neg (by simpa using Ne.symm c)]
      rw [e2]
@[irreducible] def spSame : Sp := fun vs H Q _ => ∃ n : Int, vs = [.int n, .int n] ∧ Q .non H
def eqB (n1 : Int) (m1 : List (Str × Str)) (n2 : Int) (m2 : List (Str × Str)) : Bool := decide (n1 = n2) && (m1.length == m2.length && allEq (tk m1) (tk m2))
@[irreducible] def spEq (C : Addr) : Sp := fun vs H Q _ => ∃ (a b : Addr) (n1 n2 : Int) (m1 m2 : List (Str × Str)), vs = [.ref a, .ref b] ∧ TabAt C H a n1 m1 ∧ TabAt C H b n2 m2 ∧ Q (.bl (eqB n1 m1 n2 m2)) H
theorem same_go {n : Int} {H : Hp} {Q : VK} {E : XK} (k : Q .non H) : spSame [.int n, .int n] H Q E := by
  unfold spSame
  exact ⟨n, rfl, k⟩
theorem tk_flat (m : List (Str × Str)) : ∀ p ∈ tk m, flatV p.2 = true := fun p hp => by
  obtain ⟨q, _, rfl⟩ := List.mem_map.mp hp
  rfl
section
variable {P : Program} {w : World} {K : PySem.W.Frag} {mg : Str → Option Value} {base : Heap} {f C p0 : Addr} {fd : FuncData}
theorem ok_width (F : Fun K "width" "Table.width" s_Table_width f fd) (hp : PropOf K C "width" p0 f) (T : Txt K mg) (TC : TabC K C) : Prp P w K mg base CX0 1 C "width" "Table.width" s_Table_width ["self"] (spWidth C) := by
  refine prp_of F hp sc_Table_width (fun vs H Q E h => ?_) fun cdv A outer s H vs Q E hr h => ?_
  · unfold spWidth at h
    obtain ⟨a, n, m, rfl, _⟩ := h
    rfl
  · unfold spWidth at h
    obtain ⟨a, n, m, rfl, ⟨dx, D, ha, hD, hne⟩, k⟩ := h
    refine ⟨_, (pss_one (ps_ret (pe_fld (pv 0) (by rfl)))), ?_⟩
    exact ⟨_, rfl, ⟨a, C, dx, _, .int n, rfl, ha, TC.cl, TC.n1, rfl, k⟩⟩
theorem ok_trows (F : Fun K "rows" "Table.rows" s_Table_rows f fd) (hm : Meth K C "rows" f) (T : Txt K mg) (TC : TabC K C) : Mth P w K mg base CX0 1 C "rows" "Table.rows" s_Table_rows ["self"] (spTRows C) := by
  refine mth_of F hm sc_Table_rows (fun vs H Q E h => ?_) fun cdv A outer s H vs Q E hr h => ?_
  · unfold spTRows at h
    obtain ⟨a, n, m, rfl, _⟩ := h
    rfl
  · unfold spTRows at h
    obtain ⟨a, n, m, rfl, ⟨dx, D, ha, hD, hne⟩, k⟩ := h
    refine ⟨_, (pss_one (ps_ret (pe_callTy call_dictD (by rfl) T.b_dict (by decide +kernel) (pa_cons (pe_fld (pv 0) (by rfl)) pa_nil)))), ?_⟩
    refine ⟨_, rfl, ⟨a, C, dx, _, .ref D, rfl, ha, TC.cl, TC.n2, rfl, ?_⟩⟩
    exact ⟨D, tk m, rfl, .inl hD, k⟩
theorem ok_same (F : Fun K "check_same_width" "check_same_width" s_check_same_width f fd) (hm : mg "check_same_width" = some (.ref f)) (T : Txt K mg) : Nm P w K mg base CX0 1 "check_same_width" s_check_same_width ["one", "other"] (spSame) := by
  refine nm_of F hm sc_check_same_width (fun vs H Q E h => ?_) fun cdv A outer s H vs Q E hr h => ?_
  · unfold spSame at h
    obtain ⟨n, rfl, k⟩ := h
    subst_vars
    rfl
  unfold spSame at h
  obtain ⟨n, rfl, k⟩ := h
  refine ⟨_, (pss_one (ps_if (pt_cmpR op_ne (pv 0) (pv 1) (nomark _)) (pss_one ps_never) pss_nil)), ?_⟩
  refine ⟨_, rfl, ⟨_, rfl, ⟨rfl, ?_⟩⟩⟩
  refine ⟨_, rfl, ?_⟩
  rw [decide_eq_true rfl]
  exact iteF k
theorem ok_eq (F : Fun K "__eq__" "Table.__eq__" s_Table__eq__ f fd) (hm : Meth K C "__eq__" f) (T : Txt K mg) (TC : TabC K C) (IC : C8.InsC K C) (gC : ∃ u, mg "Table" = some u ∧ RelV (.ref C) u) : Mth P w K mg base CX0 1 C "__eq__" "Table.__eq__" s_Table__eq__ ["self", "other"] (spEq C) := by
  refine mth_of F hm sc_Table__eq__ (fun vs H Q E h => ?_) fun cdv A outer s H vs Q E hr h => ?_
  · unfold spEq at h
    obtain ⟨a, b, n1, n2, m1, m2, rfl, _⟩ := h
    rfl
  · unfold spEq at h
    obtain ⟨a, b, n1, n2, m1, m2, rfl, ⟨dx, D, ha, hD, hne⟩, ⟨dy, D2, hb, hD2, hne2⟩, k⟩ := h
    refine ⟨_, (pss_one (ps_ret (pe_and (pe_callB (C8.call_isC IC) (by rfl) T.b_isinstance (by decide +kernel) (pa_cons (pv 1) (pa_cons (C8.pe_gc (by rfl) gC) pa_nil))) (pe_and (pe_cmpR op_eq (pe_fld (pv 0) (by rfl)) (pe_fld (pv 1) (by rfl)) (nomark _)) (pe_one (pe_cmpR (op_eq_dictT hr.u0) (pe_fld (pv 0) (by rfl)) (pe_fld (pv 1) (by rfl)) (nomark _))))))), ?_⟩
    refine ⟨_, rfl, ⟨b, dy, _, rfl, hb, ?_⟩⟩
    refine ⟨_, rfl, iteT ?_⟩
    refine ⟨_, rfl, ⟨a, C, dx, _, .int n1, rfl, ha, TC.cl, TC.n1, rfl, ?_⟩⟩
    refine ⟨_, rfl, ⟨b, C, dy, _, .int n2, rfl, hb, TC.cl, TC.n1, rfl, ?_⟩⟩
    refine ⟨rfl, ?_⟩
    unfold eqB at k
    by_cases q : n1 = n2
    · rw [decide_eq_true q, Bool.true_and] at k
      rw [decide_eq_true (show V.int n1 = V.int n2 from congrArg V.int q)]
      refine ⟨_, rfl, iteT ?_⟩
      refine ⟨_, rfl, ⟨a, C, dx, _, .ref D, rfl, ha, TC.cl, TC.n2, rfl, ?_⟩⟩
      refine ⟨_, rfl, ⟨b, C, dy, _, .ref D2, rfl, hb, TC.cl, TC.n2, rfl, ?_⟩⟩
      refine ⟨D, D2, tk m1, tk m2, rfl, rfl, hD, hD2, tk_flat m1, tk_flat m2, ?_⟩
      rw [tk_len, tk_len]
      exact k
    · rw [decide_eq_false q, Bool.false_and] at k
      rw [decide_eq_false (fun e : V.int n1 = V.int n2 => q (V.int.inj e))]
      exact ⟨_, rfl, iteF k⟩
end
open PySem PySem.Spec PyProof.Rows
open L2 hiding pass0
theorem look_mem {m : List (Str × Str)} {x g : Str} (h : look m x = some g) : ∃ p ∈ m, p.1 = x ∧ p.2 = g := by
  unfold look at h
  cases hf : m.find? (fun p => decide (p.1 = x)) with
  | none => rw [hf] at h; cases h
  | some p =>
    rw [hf] at h
    exact ⟨p, List.mem_of_find?_eq_some hf, by simpa using List.find?_some hf, Option.some.inj h⟩
theorem Go.of {p : Addr} {H H' : Hp} (h : PotAt H p) (s : Same H H') : Go p H H' := by
  obtain ⟨a, b, e, r⟩ := h
  exact ⟨⟨a, b, s _ _ e, r⟩, fun c o e _ => s c o e⟩
theorem str_nil {z : Str} (h : z.length = 0) : z = "" := by
  rw [← SX.S_tl z]
  have : z.cps.toList = [] := List.eq_nil_of_length_eq_zero (by rw [Array.length_toList]; exact h)
  rw [this]
  rfl
theorem Go.dk {p M : Addr} {H H' : Hp} {kvs : List (Key × V)} (hp : PotAt H p) (g : Go p H H') (h : H M = some (.dK kvs)) : H' M = some (.dK kvs) := by
  refine g.kp h fun q => ?_
  obtain ⟨a, b, e, _⟩ := hp
  rw [q, e] at h
  cases h
theorem Go.tp {p t : Addr} {H H' : Hp} {xs : List V} (hp : PotAt H p) (g : Go p H H') (h : H t = some (.tup xs)) : H' t = some (.tup xs) := by
  refine g.kp h fun q => ?_
  obtain ⟨a, b, e, _⟩ := hp
  rw [q, e] at h
  cases h
theorem Go.tab {p C a : Addr} {n : Int} {m : List (Str × Str)} {H H' : Hp} (hp : PotAt H p) (g : Go p H H') (h : TabAt C H a n m) : TabAt C H' a n m := by
  obtain ⟨dx, D, ha, hD, hne⟩ := h
  refine ⟨dx, D, g.kp ha fun q => ?_, g.dk hp hD, hne⟩
  obtain ⟨x, y, e, _⟩ := hp
  rw [q, e] at ha
  cases ha
theorem look_of {m : List (Str × Str)} : ∀ {q : Str × Str}, (m.map (·.1)).Nodup → q ∈ m → look m q.1 = some q.2 := by
  induction m with
  | nil => intro q _ h; cases h
  | cons p r ih =>
    intro q hn hq
    have hn' := List.nodup_cons.mp hn
    unfold look
    rcases List.mem_cons.mp hq with h | h
    · rw [h, List.find?_cons_of_pos (by simp)]
      rfl
    · have hne : ¬ p.1 = q.1 := fun e => hn'.1 (List.mem_map.mpr ⟨q, h, e.symm⟩)
      rw [List.find?_cons_of_neg (by simpa using hne)]
      exact ih hn'.2 h
theorem get_of {m : List (Str × Str)} {q : Str × Str} (hn : (m.map (·.1)).Nodup) (hq : q ∈ m) : getT m q.1 = q.2 := by
  rw [look_get, look_of hn hq]
  rfl
theorem srt_keys (m : List (Str × Str)) : (srt m).map (·.1) = tsort (m.map (·.1)) := by
  unfold srt
  rw [List.map_map]
  exact List.map_id' _
theorem srt_ok {n : Int} {m : List (Str × Str)} (ok : TabOk n m) : TabOk n (srt m) := by
  refine ⟨ok.w0, ok.w1, fun p hp => ?_, ?_, ?_⟩
  · obtain ⟨k, hk, rfl⟩ := List.mem_map.mp hp
    have hk2 := (tsort_perm _).mem_iff.mp hk
    obtain ⟨q, hq, rfl⟩ := List.mem_map.mp hk2
    rw [get_of ok.nd hq]
    exact ok.rows q hq
  · rw [srt_keys]
    exact (tsort_perm _).nodup_iff.mpr ok.nd
  · unfold srt
    rw [List.length_map, (tsort_perm _).length_eq, List.length_map]
    exact ok.few
theorem srt_len (m : List (Str × Str)) : (srt m).length = m.length := by
  unfold srt
  rw [List.length_map, (tsort_perm _).length_eq, List.length_map]
theorem put_len (m : List (Str × Str)) (k g : Str) : (putT m k g).length ≤ m.length + 1 := by
  unfold putT
  split
  · rw [List.length_map]; omega
  · rw [List.length_append]; exact Nat.le_refl _
/-- tuples of two texts at these places -/
inductive Tq (H : Hp) : List Addr → List (Str × Str) → Prop
  | nil : Tq H [] []
  | cons {a : Addr} {q : Str × Str} {ts : List Addr} {m : List (Str × Str)} : H a = some (.tup [.str q.1, .str q.2]) → Tq H ts m → Tq H (a :: ts) (q :: m)
theorem Tq.mono {H H' : Hp} (k : ∀ a l, H a = some (.tup l) → H' a = some (.tup l)) : ∀ {ts : List Addr} {m : List (Str × Str)}, Tq H ts m → Tq H' ts m
  | _, _, .nil => .nil
  | _, _, .cons h r => .cons (k _ _ h) (r.mono k)
theorem Tq.app {H : Hp} {us : List Addr} {qs : List (Str × Str)} (u : Tq H us qs) : ∀ {ts : List Addr} {m : List (Str × Str)}, Tq H ts m → Tq H (ts ++ us) (m ++ qs)
  | _, _, .nil => u
  | _, _, .cons h r => .cons h (Tq.app u r)
theorem Tq.len {H : Hp} : ∀ {ts : List Addr} {m : List (Str × Str)}, Tq H ts m → ts.length = m.length
  | _, _, .nil => rfl
  | _, _, .cons _ r => congrArg (· + 1) r.len
theorem Tq.pair {K : PySem.W.Frag} {H : Hp} : ∀ {ts : List Addr} {m : List (Str × Str)}, Tq H ts m → Paired (fun p (kv : Key × V) => SqT K H p [kV kv.1, kv.2]) ts (tk m)
  | _, _, .nil => .nil
  | _, _, .cons h r => .cons (SqT.of h) r.pair
theorem Tq.of {H : Hp} : ∀ {ts : List Addr} {m : List (Str × Str)}, Paired (fun (t : Addr) (q : Key × V) => H t = some (.tup [kV q.1, q.2])) ts (tk m) → Tq H ts m
  | [], [], _ => .nil
  | a :: ts, q :: m, h => by
    cases h with
    | cons h r => exact .cons h (Tq.of r)
  | [], q :: m, h => by cases h
  | a :: ts, [], h => by cases h
theorem S_app (a b : List Nat) : SX.S a ++ SX.S b = SX.S (a ++ b) := by
  show (⟨a.toArray ++ b.toArray⟩ : Str) = ⟨(a ++ b).toArray⟩
  simp
theorem tk_kV (m : List (Str × Str)) : (tk m).map (fun kv => kV kv.1) = (m.map (·.1)).map V.str := by
  unfold tk
  rw [List.map_map, List.map_map]
  rfl
theorem dps {K : PySem.W.Frag} {H : Hp} : ∀ zs : List Str, DpAll K H (zs.map V.str) (zs.map PyData.str)
  | [] => .nil
  | z :: zs => .cons (.str z) (dps zs)
theorem strs_fit {N : Nat} {zs : List Str} (h : ∀ z ∈ zs, Low z ∧ z.length ≤ N) : Fit ((N + 1) * zs.length) 1 (.list (zs.map PyData.str)) := by
  have := Fit.list (N := N) (D := 0) (ds := zs.map PyData.str) fun d hd => by
    obtain ⟨z, hz, rfl⟩ := List.mem_map.mp hd
    exact .str (h z hz).1 (h z hz).2
  rw [List.length_map] at this
  exact this
theorem eqv_nil (ps : List Str) : PyData.eqv (.list (ps.map PyData.str)) (.list []) = decide (ps = []) := by
  cases ps with
  | nil => rfl
  | cons a r => rfl
theorem sx_tl (z : Str) : sx z.cps.toList = V.str z := by unfold sx; rw [SX.S_tl]
theorem len_tl (z : Str) : z.cps.toList.length = z.length := Array.length_toList
/-- the stretches of rows -/
def kz (m : List (Str × Str)) : List (List Nat) := m.map fun q => q.1.cps.toList
theorem kz_V (m : List (Str × Str)) : (kz m).map sx = (m.map (·.1)).map V.str := by
  unfold kz
  rw [List.map_map, List.map_map]
  exact List.map_congr_left fun q _ => sx_tl q.1
theorem kz_len (m : List (Str × Str)) : (kz m).length = m.length := List.length_map ..
theorem kz_fits {n : Nat} {m : List (Str × Str)} (h : ∀ q ∈ m, RowOk n q) : Fits n (kz m) := fun t ht => by
  obtain ⟨q, hq, rfl⟩ := List.mem_map.mp ht
  have := h q hq
  exact ⟨this.1, by rw [len_tl]; have := this.2.1; omega⟩
theorem kz_mem {m : List (Str × Str)} {x : Str} : x.cps.toList ∈ kz m ↔ x ∈ m.map (·.1) := by
  unfold kz
  rw [List.mem_map, List.mem_map]
  constructor
  · rintro ⟨q, hq, e⟩
    exact ⟨q, hq, by rw [← SX.S_tl q.1, ← SX.S_tl x, e]⟩
  · rintro ⟨q, hq, rfl⟩
    exact ⟨q, hq, rfl⟩
theorem TabAt.to {C a : Addr} {n : Int} {m : List (Str × Str)} {H H' : Hp} (h : TabAt C H a n m) (s : Same H H') : TabAt C H' a n m := by
  obtain ⟨dx, D, ha, hD, hne⟩ := h
  exact ⟨dx, D, s _ _ ha, s _ _ hD, hne⟩
theorem small_int {m : Nat} (h : m ≤ 128) : (PyData.shown (.int (m : Int))).length ≤ 13 ∧ (m : Int).natAbs < 2 ^ 1000 := by
  constructor
  · have : ∀ k : Fin 129, (PyData.shown (.int ((k.val : Nat) : Int))).length ≤ 13 := by decide +kernel
    exact this ⟨m, by omega⟩
  · have : m < 2 ^ 1000 := Nat.lt_of_le_of_lt h (by decide)
    simpa using this
theorem look_kz {m : List (Str × Str)} {t : List Nat} : (look m (SX.S t)).isSome = decide (t ∈ kz m) := by
  rw [look_key]
  exact decide_eq_decide.mpr (by rw [← kz_mem, tl_S])
theorem px_S (z : List Nat) (j : Nat) : px (SX.S z) j = SX.S (z.take j) := by
  unfold px
  rw [tl_S]
theorem all_true : ∀ k : Nat, (List.replicate k true).all id = true
  | 0 => rfl
  | k + 1 => by rw [List.replicate_succ, List.all_cons, all_true k]; rfl
open PySem PySem.Spec PyProof.Rows
open L2 hiding pass0
abbrev s_check_free : Stmt := top 40
theorem sc_check_free : FnScope ["width", "free", "position", "stretch"] ["width", "free"] (defScope s_check_free) := ⟨rfl, rfl, rfl, by decide +kernel, rfl, by decide +kernel, by decide +kernel⟩
theorem bp_check_free : BndP "check_free" s_check_free ["width", "free"] := fun _ _ _ _ _ _ us h => match us, h with | [_, _], _ => rfl
abbrev s_is_free : Stmt := top 41
theorem sc_is_free : FnScope ["free", "bits", "stretch"] ["free", "bits"] (defScope s_is_free) := ⟨rfl, rfl, rfl, by decide +kernel, rfl, by decide +kernel, by decide +kernel⟩
theorem bp_is_free : BndP "is_free" s_is_free ["free", "bits"] := fun _ _ _ _ _ _ us h => match us, h with | [_, _], _ => rfl
theorem take_new {ks : List (List Nat)} (h : ks.Nodup) {i : Nat} {t : List Nat} (e : ks[i]? = some t) : t ∉ ks.take i := by
  intro hin
  have hn : (ks.take (i + 1)).Nodup := (List.take_sublist _ _).nodup h
  rw [List.take_add_one, e] at hn
  exact (List.nodup_append.mp hn).2.2 t hin t (List.mem_singleton.mpr rfl) rfl
/-- the goal of an address, as codes -/
def gS (m : List (Str × Str)) (z : List Nat) : List Nat := (goalT (look m) (SX.S z)).cps.toList
theorem width_go {C a : Addr} {n : Int} {m : List (Str × Str)} {H : Hp} {Q : VK} {E : XK} (ht : TabAt C H a n m) (k : Q (.int n) H) : spWidth C [.ref a] H Q E := by
  unfold spWidth
  exact ⟨a, n, m, rfl, ht, k⟩
theorem trows_go {C a : Addr} {n : Int} {m : List (Str × Str)} {H : Hp} {Q : VK} {E : XK} (ht : TabAt C H a n m) (k : ∀ p, H p = none → Q (.ref p) (upd H p (.dK (tk m)))) : spTRows C [.ref a] H Q E := by
  unfold spTRows
  exact ⟨a, n, m, rfl, ht, k⟩
theorem _root_.L2.Same.new {H H' : Hp} {a : Addr} {o : HO} (s : Same H H') (n : H' a = none) : Same H (upd H' a o) := fun b u e => updn (nonn n (s _ _ e)) (s _ _ e)
theorem _root_.L2.Same.back {H H' : Hp} {a : Addr} (s : Same H H') (n : H' a = none) : H a = none := by
  cases e : H a with
  | none => rfl
  | some o => rw [s _ _ e] at n; cases n
def KT (K : PySem.W.Frag) (a : Addr) : Prop := ∃ (o : Obj) (its : Array Value) (n : Nat), K.lookup a = some o ∧ o.cls = .type "tuple" ∧ o.data = .seq its n ∧ its.size ≤ sizeLine ∧ Vals [] its.toList
def FrA (K : PySem.W.Frag) (H : Hp) (a : Addr) (fs : List (List Nat)) : Prop := H a = some (.lst (fs.map sx)) ∨ H a = some (.tup (fs.map sx)) ∨ (fs = [] ∧ KT K a)
theorem FrA.same {K : PySem.W.Frag} {H H' : Hp} {a : Addr} {fs : List (List Nat)} (h : FrA K H a fs) (s : Same H H') : FrA K H' a fs := by
  rcases h with h | h | h
  · exact .inl (s _ _ h)
  · exact .inr (.inl (s _ _ h))
  · exact .inr (.inr h)
theorem FrA.seq {K : PySem.W.Frag} {H : Hp} {a : Addr} {fs : List (List Nat)} (h : FrA K H a fs) : (∀ H', Same H H' → SqL K H' a (fs.map sx)) ∨ (∀ H', Same H H' → SqT K H' a (fs.map sx)) := by
  rcases h with h | h | ⟨rfl, h⟩
  · exact .inl fun H' s => SqL.of (s _ _ h)
  · exact .inr fun H' s => SqT.of (s _ _ h)
  · exact .inr fun H' _ => .inr h
theorem FrA.ty {K : PySem.W.Frag} {H : Hp} {a : Addr} {fs : List (List Nat)} (h : FrA K H a fs) : ∃ t, TyX K H (.ref a) t ∧ PySem.W.kitAny K t [.type "list", .type "tuple"] = some true := by
  have e2 : kitB "tuple" "list" = some false := by decide +kernel
  have e3 : kitB "tuple" "tuple" = some true := by decide +kernel
  have e1 : kitB "list" "list" = some true := by decide +kernel
  rcases h with e | e | ⟨_, o, its, n, e, c, _⟩
  · exact ⟨_, .base (.lst e), kitAny_cons (kit_ty e1) (fun z => nomatch z) fun _ => rfl⟩
  · exact ⟨_, .base (.tup e), kitAny_cons (kit_ty e2) (fun _ => kitAny_cons (kit_ty e3) (fun z => nomatch z) fun _ => rfl) fun z => nomatch z⟩
  · exact ⟨_, .kTuple e c, kitAny_cons (kit_ty e2) (fun _ => kitAny_cons (kit_ty e3) (fun z => nomatch z) fun _ => rfl) fun z => nomatch z⟩
theorem cutV_to (xs : List V) {k : Nat} : cutV xs none (some (k : Int)) = xs.take k := by
  unfold cutV
  rw [HT.sIx_none, HT.sIx_nat, Nat.sub_zero, List.drop_zero]
  by_cases h : k ≤ xs.length
  · rw [Nat.min_eq_left h]
  · rw [Nat.min_eq_right (by omega), List.take_length, List.take_of_length_le (by omega)]
theorem any_sx (t : List Nat) (ts : List (List Nat)) : inV (sx t) (ts.map sx) = decide (t ∈ ts) := by
  unfold inV
  rw [List.any_map]
  induction ts with
  | nil => rfl
  | cons a r ih =>
    rw [List.any_cons, ih]
    by_cases e : t = a
    · subst e
      have : ((fun y => eqV y (sx t)) ∘ sx) t = true := by show decide (SX.S t = SX.S t) = true; simp
      rw [this]
      simp
    · have : ((fun y => eqV y (sx t)) ∘ sx) a = false := by
        show decide (SX.S a = SX.S t) = false
        exact decide_eq_false fun q => e (S_inj q).symm
      rw [this]
      simp [e]
theorem flat_sx (ts : List (List Nat)) : (ts.map sx).all flatV = true := by
  rw [List.all_eq_true]
  intro v hv
  obtain ⟨t, _, rfl⟩ := List.mem_map.mp hv
  rfl
theorem starts_S (z f : List Nat) : Txt.startswith (SX.S z) (SX.S f) = decide (f <+: z) := by
  show (decide (0 + (SX.S f).length ≤ (SX.S z).length) && ((z.toArray.extract 0 (0 + (SX.S f).length)) == f.toArray)) = _
  rw [sx_len, sx_len, Nat.zero_add]
  have e : (z.toArray.extract 0 f.length == f.toArray) = decide (z.take f.length = f) := by
    rw [Bool.eq_iff_iff]
    simp
  rw [e, Bool.eq_iff_iff, Bool.and_eq_true, decide_eq_true_iff, decide_eq_true_iff, decide_eq_true_iff]
  constructor
  · rintro ⟨_, h⟩
    rw [← h]
    exact List.take_prefix _ _
  · intro h
    exact ⟨h.length_le, (List.prefix_iff_eq_take.mp h).symm⟩
@[irreducible] def spCF (K : PySem.W.Frag) : Sp := fun vs H Q _ => ∃ (n : Nat) (a : Addr) (fs : List (List Nat)), vs = [.int n, .ref a] ∧ 1 ≤ n ∧ n ≤ 100 ∧ FrA K H a fs ∧ Fits n fs ∧ fs.Nodup ∧ fs.length ≤ 20 ∧ ∀ H', Same H H' → Q .non H'
theorem cf_go {K : PySem.W.Frag} {n : Nat} {a : Addr} {fs : List (List Nat)} {H : Hp} {Q : VK} {E : XK} (h0 : 1 ≤ n) (h1 : n ≤ 100) (ha : FrA K H a fs) (hf : Fits n fs) (nd : fs.Nodup) (hl : fs.length ≤ 20) (k : ∀ H', Same H H' → Q .non H') : spCF K [.int n, .ref a] H Q E := by
  unfold spCF
  exact ⟨n, a, fs, rfl, h0, h1, ha, hf, nd, hl, k⟩
@[irreducible] def spIF (K : PySem.W.Frag) : Sp := fun vs H Q _ => ∃ (a : Addr) (fs : List (List Nat)) (z : List Nat), vs = [.ref a, sx z] ∧ FrA K H a fs ∧ fs.length ≤ 1000 ∧ z.length ≤ 1000 ∧ ∀ H', Same H H' → Q (.bl (M.frB fs z)) H'
theorem if_go {K : PySem.W.Frag} {a : Addr} {fs : List (List Nat)} {z : List Nat} {H : Hp} {Q : VK} {E : XK} (ha : FrA K H a fs) (hl : fs.length ≤ 1000) (hz : z.length ≤ 1000) (k : ∀ H', Same H H' → Q (.bl (M.frB fs z)) H') : spIF K [.ref a, sx z] H Q E := by
  unfold spIF
  exact ⟨a, fs, z, rfl, ha, hl, hz, k⟩
section
variable {P : Program} {w : World} {K : PySem.W.Frag} {mg : Str → Option Value} {base : Heap} {f C : Addr} {fd : FuncData}
theorem ok_check_free (F : Fun K "check_free" "check_free" s_check_free f fd) (hm : mg "check_free" = some (.ref f)) (T : Txt K mg) (cF : ∃ u, mg "MOST_FREE" = some u ∧ RelV (.int 20) u) (c_check_width : Nm P w K mg base CX0 3 "check_width" s_check_width ["width"] (spCW)) (c_is_stretch : Nm P w K mg base CX0 4 "is_stretch" s_is_stretch ["width", "value"] (spIT strB)) : Nm P w K mg base CX0 5 "check_free" s_check_free ["width", "free"] (spCF K) := by
  refine nm_of0 F hm sc_check_free (fun vs H Q E h => ?_) fun cdv A outer s H vs Q E hr h => ?_
  · unfold spCF at h
    obtain ⟨n, a, fs, rfl, h0, h1, ha, hf, nd, hl, k⟩ := h
    subst_vars
    rfl
  unfold spCF at h
  obtain ⟨n, a, fs, rfl, h0, h1, ha, hf, nd, hl, k⟩ := h
  refine ⟨_, (pss_cons (ps_expr (pe_g c_check_width hr (by decide) L2.pass0 bp_check_width (by rfl) (pa_cons (pv 0) pa_nil)))
      (pss_cons (ps_if (pt_not (pt_val (pe_callB call_isiT (by rfl) T.b_isinstance (by decide +kernel) (pa_cons (pv 1) (pa_cons (pe_tup (pa_cons (pe_ty "list" (by rfl) T.b_list (by decide +kernel)) (pa_cons (pe_ty "tuple" (by rfl) T.b_tuple (by decide +kernel)) pa_nil))) pa_nil))))) (pss_one ps_never) pss_nil)
      (pss_cons (ps_for PassesOwn.never rfl (pi_enumA (by rfl) T.b_enumerate (pa_cons (pv 1) pa_nil)) (pg_tup (by rfl) (pgs_cons (pg_name (i := 2) sc_check_free.nd rfl (by first | exact Or.inl rfl | exact Or.inr rfl)) (pgs_cons (pg_name (i := 3) sc_check_free.nd rfl (by first | exact Or.inl rfl | exact Or.inr rfl)) pgs_nil))) (pss_one (ps_if (PW.pt (pw_or (pt_not (pt_val (pe_g c_is_stretch hr (by decide) L2.pass0 bp_is_stretch (by rfl) (pa_cons (pv 0) (pa_cons (pv 3) pa_nil))))) (pw_or1 (pt_cmpR (op_inK (K := K) rfl) (pv 3) (pe_slice (sl_list.or sl_tup) (pv 1) po_none (po_some (pv 2))) rfl)))) (pss_one ps_never) pss_nil)))
      (pss_one (ps_if (pt_cmpR op_gt (pe_callB (call_lenK (K := K) rfl) (by rfl) T.b_len PySem.boot_len (pa_cons (pv 1) pa_nil)) (pe_cst (by rfl) cF) (nomark _)) (pss_one ps_never) pss_nil))))), ?_⟩
  repeat walk_at "s1"
  refine cw_go (by omega) (by omega) fun H1 sm1 => ?_
  have ha1 := ha.same sm1
  refine ⟨_, rfl, ?_⟩
  refine ⟨szl (by show 2 ≤ 1000000; decide), fun T nT => ?_⟩
  have sm2 : Same H (upd H1 T (.tup [.ty "list", .ty "tuple"])) := fun b o e => updn (nonn nT (sm1 b o e)) (sm1 b o e)
  obtain ⟨ty, hty, hk⟩ := (ha.same sm2).ty
  refine ⟨_, T, _, ty, _, true, rfl, upd_same, .cons (.ty _) (.cons (.ty _) .nil), hty, hk, ?_⟩
  refine ⟨_, rfl, ?_⟩
  refine iteF ?_
  generalize upd H1 T (.tup [.ty "list", .ty "tuple"]) = H2 at sm2 hty ⊢
  clear hty hk nT ha1
  have ha2 := (ha.same sm2).seq
  refine ⟨_, rfl, ?_⟩
  have lim : (decide ((20 : Int) < ((fs.map sx).length : Nat))) = false := decide_eq_false (by rw [List.length_map]; omega)
  rcases ha2 with e | e
  · refine ⟨a, fs.map sx, rfl, .inl ⟨e _ (Same.refl _), ?_⟩⟩
    refine for_it (walk_enum (xs := fs.map sx)) (fun i σ' H' => ∃ x2 x3, σ' = [some (.int n), some (.ref a), x2, x3] ∧ Same H2 H') ⟨_, _, rfl, Same.refl H2⟩ (fun i σ' H' _ h => let ⟨_, _, _, s⟩ := h; e _ s) ?_ ?_
    · rintro i x σ' H3 H4 hi ⟨x2, x3, rfl, sm⟩ ⟨T2, y, z, rfl, nT2, rfl, e5, e6⟩
      obtain rfl : y = .int (i : Nat) := (Option.some.inj e5).symm
      obtain ⟨t, ht, rfl⟩ : ∃ t, fs[i]? = some t ∧ z = sx t := by
        dsimp only at e6
        rw [List.getElem?_map] at e6
        cases q : fs[i]? with
        | none => rw [q] at e6; cases e6
        | some t => rw [q] at e6; exact ⟨t, rfl, (Option.some.inj e6).symm⟩
      obtain ⟨hb, hl2⟩ := hf t (List.mem_of_getElem? ht)
      have sm3 : Same H2 (upd H3 T2 (.tup [.int (i : Nat), sx t])) := fun b o q => updn (nonn nT2 (sm b o q)) (sm b o q)
      refine ⟨T2, [.int (i : Nat), sx t], rfl, SqT.of upd_same, rfl, ?_⟩
      refine ⟨_, _, rfl, ?_⟩
      refine ⟨_, _, rfl, ?_⟩
      refine ⟨rfl, ?_⟩
      refine ⟨_, rfl, ?_⟩
      refine ⟨_, rfl, ?_⟩
      refine it_go (by omega) (by omega) (by rw [sx_len]; omega) fun H5 sm5 => ?_
      rw [str_ok hb hl2]
      refine ⟨_, rfl, iteF ?_⟩
      refine ⟨_, rfl, ⟨_, rfl, ⟨_, rfl, ⟨_, rfl, ?_⟩⟩⟩⟩
      refine .inl ⟨a, fs.map sx, rfl, e _ (sm3.trans sm5), fun p np => ?_⟩
      rw [cutV_to]
      refine ⟨p, _, rfl, .inl (SqL.of upd_same), rfl, ?_, ?_⟩
      · rw [← List.map_take]; exact flat_sx _
      rw [← List.map_take, any_sx, decide_eq_false (take_new nd ht)]
      refine ⟨_, rfl, iteF ?_⟩
      have sm6 := sm3.trans sm5
      exact ⟨_, _, rfl, fun b o q => updn (nonn np (sm6 b o q)) (sm6 b o q)⟩
    · rintro σ' H3 ⟨x2, x3, rfl, sm⟩
      refine ⟨_, rfl, ⟨_, _, rfl, .inl ⟨_, e _ sm, rfl⟩, ?_⟩⟩
      refine ⟨_, _, rfl, rfl, ?_⟩
      refine ⟨_, rfl, ?_⟩
      rw [lim]
      exact iteF (k _ fun b o q => sm b o (sm2 b o q))
  · refine ⟨a, fs.map sx, rfl, .inr ⟨e _ (Same.refl _), ?_⟩⟩
    refine for_it (walk_enumT (xs := fs.map sx)) (fun i σ' H' => ∃ x2 x3, σ' = [some (.int n), some (.ref a), x2, x3] ∧ Same H2 H') ⟨_, _, rfl, Same.refl H2⟩ (fun i σ' H' _ h => let ⟨_, _, _, s⟩ := h; e _ s) ?_ ?_
    · rintro i x σ' H3 H4 hi ⟨x2, x3, rfl, sm⟩ ⟨T2, y, z, rfl, nT2, rfl, e5, e6⟩
      obtain rfl : y = .int (i : Nat) := (Option.some.inj e5).symm
      obtain ⟨t, ht, rfl⟩ : ∃ t, fs[i]? = some t ∧ z = sx t := by
        dsimp only at e6
        rw [List.getElem?_map] at e6
        cases q : fs[i]? with
        | none => rw [q] at e6; cases e6
        | some t => rw [q] at e6; exact ⟨t, rfl, (Option.some.inj e6).symm⟩
      obtain ⟨hb, hl2⟩ := hf t (List.mem_of_getElem? ht)
      have li : i < fs.length := (List.getElem?_eq_some_iff.mp ht).1
      have sm3 : Same H2 (upd H3 T2 (.tup [.int (i : Nat), sx t])) := fun b o q => updn (nonn nT2 (sm b o q)) (sm b o q)
      refine ⟨T2, [.int (i : Nat), sx t], rfl, SqT.of upd_same, rfl, ?_⟩
      refine ⟨_, _, rfl, ?_⟩
      refine ⟨_, _, rfl, ?_⟩
      refine ⟨rfl, ?_⟩
      refine ⟨_, rfl, ?_⟩
      refine ⟨_, rfl, ?_⟩
      refine it_go (by omega) (by omega) (by rw [sx_len]; omega) fun H5 sm5 => ?_
      rw [str_ok hb hl2]
      refine ⟨_, rfl, iteF ?_⟩
      refine ⟨_, rfl, ⟨_, rfl, ⟨_, rfl, ⟨_, rfl, ?_⟩⟩⟩⟩
      refine .inr ⟨a, fs.map sx, rfl, e _ (sm3.trans sm5), (fun q => by
        have q2 := q.2
        rw [HT.sIx_nat, List.length_map] at q2
        omega), fun p np => ?_⟩
      rw [cutV_to]
      refine ⟨p, _, rfl, .inr (SqT.of upd_same), rfl, ?_, ?_⟩
      · rw [← List.map_take]; exact flat_sx _
      rw [← List.map_take, any_sx, decide_eq_false (take_new nd ht)]
      refine ⟨_, rfl, iteF ?_⟩
      have sm6 := sm3.trans sm5
      exact ⟨_, _, rfl, fun b o q => updn (nonn np (sm6 b o q)) (sm6 b o q)⟩
    · rintro σ' H3 ⟨x2, x3, rfl, sm⟩
      refine ⟨_, rfl, ⟨_, _, rfl, .inr ⟨_, e _ sm, rfl⟩, ?_⟩⟩
      refine ⟨_, _, rfl, rfl, ?_⟩
      refine ⟨_, rfl, ?_⟩
      rw [lim]
      exact iteF (k _ fun b o q => sm b o (sm2 b o q))
theorem ok_is_free (F : Fun K "is_free" "is_free" s_is_free f fd) (hm : mg "is_free" = some (.ref f)) (T : Txt K mg) : Nm P w K mg base CX0 1 "is_free" s_is_free ["free", "bits"] (spIF K) := by
  refine nm_of F hm sc_is_free (fun vs H Q E h => ?_) fun cdv A outer s H vs Q E hr h => ?_
  · unfold spIF at h
    obtain ⟨a, fs, z, rfl, ha, hl, hz, k⟩ := h
    subst_vars
    rfl
  unfold spIF at h
  obtain ⟨a, fs, z, rfl, ha, hl, hz, k⟩ := h
  refine ⟨_, (pss_one (ps_ret (pe_callB (cr_any rfl) (by rfl) T.b_any (by decide +kernel) (pa_cons (pe_lc (own := [("stretch", 2)]) (g := (gName 2)) (by rfl) sc_is_free.nd (pi_seqAK (K := K) rfl (pv 0)) (blkOk_by (own := [("stretch", 2)]) (N := ["free", "bits", "stretch"]) (sc := defScope s_is_free) (by decide +kernel)) (fun _ _ _ _ _ => (pg_name (i := 2) sc_is_free.nd rfl (by first | exact Or.inl rfl | exact Or.inr rfl))) (fun _ _ _ _ _ => pts_nil) (fun _ _ _ _ _ => (pe_bmK (K := K) rfl PySem.F.plainAttrs_str PySem.F.slot_str_startswith PySem.F.type_str_startswith mt_startswith (pv 1) (pa_cons (pv 2) pa_nil)))) pa_nil)))), ?_⟩
  refine ⟨_, rfl, ?_⟩
  have ee := ha.seq
  refine ⟨a, fs.map sx, rfl, ?_⟩
  rcases ee with e | e
  · refine .inl ⟨e _ (Same.refl _), fun B nB => ?_⟩
    refine lc_it (walk_list (xs := fs.map sx)) (fun i H' => H' B = some (.lst (((fs.take i).map fun t => decide (t <+: z)).map V.bl)) ∧ Same H H') ⟨upd_same, fun b o e => updn (nonn nB e) e⟩ (fun i H' _ h => e _ h.2) ?_ ?_
    · rintro i x H1 H2 hi ⟨hB, sm⟩ ⟨rfl, hx⟩
      obtain ⟨t, ht, rfl⟩ : ∃ t, fs[i]? = some t ∧ x = sx t := by
        rw [List.getElem?_map] at hx
        cases q : fs[i]? with
        | none => rw [q] at hx; cases hx
        | some t => rw [q] at hx; exact ⟨t, rfl, (Option.some.inj hx).symm⟩
      have li : i < fs.length := (List.getElem?_eq_some_iff.mp ht).1
      refine ⟨rfl, ?_⟩
      refine ⟨_, rfl, ⟨rfl, ⟨_, rfl, ⟨_, _, rfl, rfl, ?_⟩⟩⟩⟩
      rw [starts_S]
      refine ⟨_, hB, szt (by rw [List.length_map, List.length_map, List.length_take]; omega), ?_, fun b o q => updn (nonn nB q) (sm b o q)⟩
      rw [upd_same, List.take_add_one, ht, List.map_append, List.map_append]
      rfl
    · rintro H1 ⟨hB, sm⟩
      rw [List.length_map, List.take_length] at hB
      refine ⟨_, _, rfl, SqL.of hB, ?_⟩
      have eB : (fs.map fun t => decide (t <+: z)).any id = M.frB fs z := by rw [List.any_map]; rfl
      rw [eB]
      exact k _ sm
  · refine .inr ⟨e _ (Same.refl _), fun B nB => ?_⟩
    refine lc_it (walk_tup (xs := fs.map sx)) (fun i H' => H' B = some (.lst (((fs.take i).map fun t => decide (t <+: z)).map V.bl)) ∧ Same H H') ⟨upd_same, fun b o e => updn (nonn nB e) e⟩ (fun i H' _ h => e _ h.2) ?_ ?_
    · rintro i x H1 H2 hi ⟨hB, sm⟩ ⟨rfl, hx⟩
      obtain ⟨t, ht, rfl⟩ : ∃ t, fs[i]? = some t ∧ x = sx t := by
        rw [List.getElem?_map] at hx
        cases q : fs[i]? with
        | none => rw [q] at hx; cases hx
        | some t => rw [q] at hx; exact ⟨t, rfl, (Option.some.inj hx).symm⟩
      have li : i < fs.length := (List.getElem?_eq_some_iff.mp ht).1
      refine ⟨rfl, ?_⟩
      refine ⟨_, rfl, ⟨rfl, ⟨_, rfl, ⟨_, _, rfl, rfl, ?_⟩⟩⟩⟩
      rw [starts_S]
      refine ⟨_, hB, szt (by rw [List.length_map, List.length_map, List.length_take]; omega), ?_, fun b o q => updn (nonn nB q) (sm b o q)⟩
      rw [upd_same, List.take_add_one, ht, List.map_append, List.map_append]
      rfl
    · rintro H1 ⟨hB, sm⟩
      rw [List.length_map, List.take_length] at hB
      refine ⟨_, _, rfl, SqL.of hB, ?_⟩
      have eB : (fs.map fun t => decide (t <+: z)).any id = M.frB fs z := by rw [List.any_map]; rfl
      rw [eB]
      exact k _ sm
end
open PySem PySem.Spec PyProof.Rows
open L2 hiding pass0
open PySem PySem.Spec PyProof.Rows
open L2 hiding pass0
abbrev s_even_set : Stmt := top 54
theorem sc_even_set : FnScope ["goal"] ["goal"] (defScope s_even_set) := ⟨rfl, rfl, rfl, by decide +kernel, rfl, by decide +kernel, by decide +kernel⟩
theorem bp_even_set : BndP "_even_set" s_even_set ["goal"] := fun _ _ _ _ _ _ us h => match us, h with | [_], _ => rfl
abbrev s_of_halves : Stmt := top 55
theorem sc_of_halves : FnScope ["zero", "one", "zero_goals", "zero_need", "one_goals", "one_need", "need", "both", "goal"] ["zero", "one"] (defScope s_of_halves) := ⟨rfl, rfl, rfl, by decide +kernel, rfl, by decide +kernel, by decide +kernel⟩
theorem bp_of_halves : BndP "_of_halves" s_of_halves ["zero", "one"] := fun _ _ _ _ _ _ us h => match us, h with | [_, _], _ => rfl
/-- a set of goals, mk for all of them -/
def SetV (H : Hp) (mk : V) (v : V) : Option (List Str) → Prop
  | none => v = mk
  | some x => ∃ b, v = .ref b ∧ H b = some (.lst (x.map V.str))
def SnA (mk : V) (H : Hp) (a : Addr) (s : SNd) : Prop := ∃ v, H a = some (.tup [v, .int (s.2 : Nat)]) ∧ SetV H mk v s.1
theorem SetV.to {H H' : Hp} {mk v : V} {o : Option (List Str)} (h : SetV H mk v o) (s : Same H H') : SetV H' mk v o := by
  cases o with
  | none => exact h
  | some x =>
    obtain ⟨b, e, hb⟩ := h
    exact ⟨b, e, s _ _ hb⟩
theorem SnA.to {H H' : Hp} {mk : V} {a : Addr} {t : SNd} (h : SnA mk H a t) (s : Same H H') : SnA mk H' a t := by
  obtain ⟨v, e, hv⟩ := h
  exact ⟨v, s _ _ e, hv.to s⟩
theorem inV_strs (y : Str) (ps : List Str) : inV (.str y) (ps.map V.str) = decide (y ∈ ps) := by
  unfold inV
  rw [List.any_map]
  induction ps with
  | nil => rfl
  | cons a r ih =>
    rw [List.any_cons, ih]
    have e : ((fun z => eqV z (V.str y)) ∘ V.str) a = decide (a = y) := rfl
    rw [e]
    by_cases q : a = y
    · simp [q]
    · have : ¬ y = a := fun h => q h.symm
      simp [q, this]
theorem flat_strs (ys : List Str) : (ys.map V.str).all flatV = true := by
  rw [List.all_eq_true]
  intro v hv
  obtain ⟨t, _, rfl⟩ := List.mem_map.mp hv
  rfl
theorem shr_more {xs ys : List Str} {j : Nat} {g : Str} (h : xs[j]? = some g) : shr (xs.take (j + 1)) ys = shr (xs.take j) ys ++ if g ∈ ys then [g] else [] := by
  unfold shr
  rw [List.take_add_one, h, List.filter_append, show (some g).toList = [g] from rfl]
  by_cases q : g ∈ ys
  · rw [if_pos q, List.filter_cons_of_pos (by simpa using q)]; rfl
  · rw [if_neg q, List.filter_cons_of_neg (by simpa using q)]; rfl
/-- no long lists -/
def Sz (s : SNd) : Prop := ∀ x, s.1 = some x → x.length ≤ 1000 ∧ ∀ g ∈ x, Low g ∧ g.length ≤ 200
@[irreducible] def spES : Sp := fun vs H Q _ => ∃ g : Str, vs = [.str g] ∧ ∀ v H', Same H H' → SetV H' (.str "all") v (if g = "all" then none else some [g]) → Q v H'
theorem es_go {g : Str} {H : Hp} {Q : VK} {E : XK} (k : ∀ v H', Same H H' → SetV H' (.str "all") v (if g = "all" then none else some [g]) → Q v H') : spES [.str g] H Q E := by
  unfold spES
  exact ⟨g, rfl, k⟩
@[irreducible] def spOH : Sp := fun vs H Q _ => ∃ (a b : Addr) (s t : SNd), vs = [.ref a, .ref b] ∧ SnA (.str "all") H a s ∧ SnA (.str "all") H b t ∧ Sz s ∧ Sz t ∧ ∀ c H', Same H H' → SnA (.str "all") H' c (both2 s t) → Q (.ref c) H'
theorem oh_go {a b : Addr} {s t : SNd} {H : Hp} {Q : VK} {E : XK} (ha : SnA (.str "all") H a s) (hb : SnA (.str "all") H b t) (zs : Sz s) (zt : Sz t) (k : ∀ c H', Same H H' → SnA (.str "all") H' c (both2 s t) → Q (.ref c) H') : spOH [.ref a, .ref b] H Q E := by
  unfold spOH
  exact ⟨a, b, s, t, rfl, ha, hb, zs, zt, k⟩
section
variable {P : Program} {w : World} {K : PySem.W.Frag} {mg : Str → Option Value} {base : Heap} {f C : Addr} {fd : FuncData}
theorem ok_even_set (F : Fun K "_even_set" "_even_set" s_even_set f fd) (hm : mg "_even_set" = some (.ref f)) (T : Txt K mg) (cA : ∃ u, mg "ALL" = some u ∧ RelV (.str "all") u) : Nm P w K mg base CX0 1 "_even_set" s_even_set ["goal"] (spES) := by
  refine nm_of F hm sc_even_set (fun vs H Q E h => ?_) fun cdv A outer s H vs Q E hr h => ?_
  · unfold spES at h
    obtain ⟨g, rfl, k⟩ := h
    subst_vars
    rfl
  unfold spES at h
  obtain ⟨g, rfl, k⟩ := h
  refine ⟨_, (pss_cons (ps_if (pt_cmpR op_eq (pv 0) (pe_cst (by rfl) cA) (nomark _)) (pss_one (ps_ret (pe_cst (by rfl) cA))) pss_nil)
      (pss_one (ps_ret (pe_lst (pa_cons (pv 0) pa_nil))))), ?_⟩
  refine ⟨_, rfl, ⟨rfl, ⟨_, rfl, ?_⟩⟩⟩
  refine ite2 (fun c => ?_) fun c => ?_
  · have q : g = "all" := by
      have := of_decide_eq_true c
      injection this
    exact k _ H (fun _ _ e => e) (by rw [if_pos q]; rfl)
  · have q : g ≠ "all" := fun e => c (decide_eq_true (by rw [e]))
    refine ⟨_, rfl, ⟨szl (by show 1 ≤ 1000000; decide), fun L nL => ?_⟩⟩
    exact k _ _ ((Same.refl H).new nL) (by rw [if_neg q]; exact ⟨L, rfl, upd_same⟩)
theorem ok_halves (F : Fun K "_of_halves" "_of_halves" s_of_halves f fd) (hm : mg "_of_halves" = some (.ref f)) (T : Txt K mg) (cA : ∃ u, mg "ALL" = some u ∧ RelV (.str "all") u) : Nm P w K mg base CX0 1 "_of_halves" s_of_halves ["zero", "one"] (spOH) := by
  refine nm_of F hm sc_of_halves (fun vs H Q E h => ?_) fun cdv A outer s H vs Q E hr h => ?_
  · unfold spOH at h
    obtain ⟨a, b, s, t, rfl, ha, hb, zs, zt, k⟩ := h
    subst_vars
    rfl
  unfold spOH at h
  obtain ⟨a, b, s, t, rfl, ha, hb, zs, zt, k⟩ := h
  refine ⟨_, (pss_cons (ps_asg (pv 0) (pg_tup (by rfl) (pgs_cons (pg_name (i := 2) sc_of_halves.nd rfl (by first | exact Or.inl rfl | exact Or.inr rfl)) (pgs_cons (pg_name (i := 3) sc_of_halves.nd rfl (by first | exact Or.inl rfl | exact Or.inr rfl)) pgs_nil))))
      (pss_cons (ps_asg (pv 1) (pg_tup (by rfl) (pgs_cons (pg_name (i := 4) sc_of_halves.nd rfl (by first | exact Or.inl rfl | exact Or.inr rfl)) (pgs_cons (pg_name (i := 5) sc_of_halves.nd rfl (by first | exact Or.inl rfl | exact Or.inr rfl)) pgs_nil))))
      (C8.pss_cut (ps_set (i := 6) sc_of_halves.nd rfl (by first | exact Or.inl rfl | exact Or.inr rfl) (pe_op op_add (pv 3) (pv 5)))
      (pss_cons (ps_if (pt_cmpR (op_eqDK (K := K) rfl hr.u64) (pv 2) (pe_cst (by rfl) cA) (nomark _)) (pss_one (ps_ret (pe_tup (pa_cons (pv 4) (pa_cons (pv 6) pa_nil))))) pss_nil)
      (pss_cons (ps_if (pt_cmpR (op_eqDK (K := K) rfl hr.u64) (pv 4) (pe_cst (by rfl) cA) (nomark _)) (pss_one (ps_ret (pe_tup (pa_cons (pv 2) (pa_cons (pv 6) pa_nil))))) pss_nil)
      (pss_cons (ps_setLc (i := 7) (own := [("goal", 8)]) (g := (gName 8)) (by rfl) sc_of_halves.nd rfl rfl (sw_true rfl rfl rfl (by decide +kernel)) (pi_listK (K := K) rfl (pv 2)) (blkOk_by (own := [("goal", 8)]) (N := ["zero", "one", "zero_goals", "zero_need", "one_goals", "one_need", "need", "both", "goal"]) (sc := defScope s_of_halves) (by decide +kernel)) (fun _ _ _ _ _ => (pg_name (i := 8) sc_of_halves.nd rfl (by first | exact Or.inl rfl | exact Or.inr rfl))) (fun _ _ _ _ _ => (pts_one (pt_cmpR (op_inK (K := K) rfl) (pv 8) (pv 4) rfl))) (fun _ _ _ _ _ => (pv 8)))
      (pss_cons (ps_if (pt_truth (pv 7) (by intro _; rfl)) (pss_one (ps_ret (pe_tup (pa_cons (pv 7) (pa_cons (pv 6) pa_nil))))) pss_nil)
      (pss_one (ps_ret (pe_tup (pa_cons (pe_callBK (cr_sortK hr.u) (by rfl) T.b_sorted (by decide +kernel) (pa_cons (pe_lst (StX.pa_star (pv 2) (StX.pa_star (pv 4) pa_nil))) pa_nil) (pk_cons (pe_ty "str" (by rfl) T.b_str (by decide +kernel)) pk_nil)) (pa_cons (pe_op op_add (pv 6) pe_int) pa_nil)))))))))))), ?_⟩
  obtain ⟨x, ea, vx⟩ := ha
  obtain ⟨y, eb, vy⟩ := hb
  refine ⟨_, rfl, ⟨a, _, rfl, SqT.of ea, rfl, ⟨_, _, rfl, ⟨_, _, rfl, ⟨rfl, ?_⟩⟩⟩⟩⟩
  refine ⟨_, rfl, ⟨b, _, rfl, SqT.of eb, rfl, ⟨_, _, rfl, ⟨_, _, rfl, ⟨rfl, ?_⟩⟩⟩⟩⟩
  refine ⟨fun σ' H' => σ' = [some (.ref a), some (.ref b), some x, some (.int (s.2 : Nat)), some y, some (.int (t.2 : Nat)), some (.int ((s.2 + t.2 : Nat) : Int)), none, none] ∧ H' = H, ?_, ?_⟩
  · refine ⟨_, rfl, ⟨_, rfl, ⟨_, _, rfl, rfl, ?_⟩⟩⟩
    refine ⟨?_, rfl⟩
    rw [show ((s.2 + t.2 : Nat) : Int) = (s.2 : Int) + (t.2 : Int) by omega]
    rfl
  rintro σ' H' ⟨rfl, rfl⟩
  obtain ⟨s1, i⟩ := s
  obtain ⟨t1, j⟩ := t
  dsimp only at vx vy ea eb zs zt ⊢
  have dA : Dp K H' (.str "all") (.str "all") := .str _
  have sA : SeqAt.shaped (.str "all") = true := (show Fit 200 0 (.str "all") from Fit.str (by decide +kernel) (by decide +kernel)).shp (by decide)
  have eA : PyData.eqv (.str "all") (.str "all") = true := by simp [PyData.eqv]
  have eL : ∀ zs : List Str, PyData.eqv (.list (zs.map PyData.str)) (.str "all") = false := fun zs => by simp [PyData.eqv]
  cases s1 with
  | none =>
    obtain rfl : x = .str "all" := vx
    refine ⟨_, rfl, ⟨_, _, dA, dA, sA, sA, ?_⟩⟩
    refine ⟨_, rfl, ?_⟩
    rw [eA]
    refine iteT ?_
    refine ⟨_, rfl, ⟨_, rfl, ⟨szl (by show 2 ≤ 1000000; decide), fun c nc => ?_⟩⟩⟩
    exact k c _ ((Same.refl H').new nc) ⟨y, upd_same, vy.to ((Same.refl H').new nc)⟩
  | some xs =>
    obtain ⟨A1, rfl, hA⟩ := vx
    obtain ⟨lx, gx⟩ := zs xs rfl
    refine ⟨_, rfl, ⟨_, _, .lst (SqL.of hA) (dps xs), dA, (strs_fit gx).shp (by decide), sA, ?_⟩⟩
    refine ⟨_, rfl, ?_⟩
    rw [eL]
    refine iteF ?_
    cases t1 with
    | none =>
      obtain rfl : y = .str "all" := vy
      refine ⟨_, rfl, ⟨_, _, dA, dA, sA, sA, ?_⟩⟩
      refine ⟨_, rfl, ?_⟩
      rw [eA]
      refine iteT ?_
      refine ⟨_, rfl, ⟨_, rfl, ⟨szl (by show 2 ≤ 1000000; decide), fun c nc => ?_⟩⟩⟩
      exact k c _ ((Same.refl H').new nc) ⟨_, upd_same, A1, rfl, updn (nonn nc hA) hA⟩
    | some ys =>
      obtain ⟨A2, rfl, hA2⟩ := vy
      obtain ⟨ly, gy⟩ := zt ys rfl
      refine ⟨_, rfl, ⟨_, _, .lst (SqL.of hA2) (dps ys), dA, (strs_fit gy).shp (by decide), sA, ?_⟩⟩
      refine ⟨_, rfl, ?_⟩
      rw [eL]
      refine iteF ?_
      refine ⟨_, rfl, ⟨A1, rfl, ⟨_, SqL.of hA⟩, fun B nB => ?_⟩⟩
      refine lc_it (walk_list (xs := xs.map V.str)) (fun j H2 => H2 B = some (.lst ((shr (xs.take j) ys).map V.str)) ∧ Same H' H2) ⟨upd_same, (Same.refl H').new nB⟩ (fun j H2 _ h => SqL.of (h.2 _ _ hA)) ?_ ?_
      · rintro j v H2 H3 hj ⟨hB, sm⟩ ⟨rfl, hv⟩
        obtain ⟨g, hg, rfl⟩ : ∃ g, xs[j]? = some g ∧ v = V.str g := by
          rw [List.getElem?_map] at hv
          cases e : xs[j]? with
          | none => rw [e] at hv; cases hv
          | some t => rw [e] at hv; exact ⟨t, rfl, (Option.some.inj hv).symm⟩
        refine ⟨rfl, ?_⟩
        refine ⟨_, rfl, ⟨_, rfl, ⟨A2, _, rfl, .inl (SqL.of (sm _ _ hA2)), rfl, flat_strs _, ?_⟩⟩⟩
        rw [show inV (.str g) (ys.map V.str) = decide (g ∈ ys) from inV_strs g ys]
        refine ⟨_, rfl, ?_⟩
        have e := shr_more (ys := ys) hg
        by_cases q : g ∈ ys
        · rw [decide_eq_true q]
          refine iteT ?_
          refine ⟨_, rfl, ⟨_, hB, szt (by have := List.length_filter_le (fun g => decide (g ∈ ys)) (xs.take j); rw [List.length_map]; unfold shr; rw [List.length_take] at this; omega), ?_, fun b o h => updn (nonn nB h) (sm _ _ h)⟩⟩
          rw [upd_same, e, if_pos q, List.map_append]
          rfl
        · rw [decide_eq_false q]
          refine iteF ?_
          rw [e, if_neg q, List.append_nil]
          exact ⟨hB, sm⟩
      · rintro H2 ⟨hB, sm⟩
        rw [List.length_map, List.take_length] at hB
        refine ⟨_, rfl, ⟨_, .inl ⟨_, SqL.of hB, rfl⟩, ?_⟩⟩
        by_cases q : shr xs ys = []
        · rw [q]
          refine iteF ?_
          refine ⟨_, rfl, ⟨A1, _, rfl, .inr (SqL.of (sm _ _ hA)), ⟨_, rfl, ⟨A2, _, rfl, .inr (SqL.of (sm _ _ hA2)), ?_⟩⟩⟩⟩
          refine ⟨szl (by rw [List.length_append, List.length_append, List.length_map, List.length_map]; show _ + (_ + 0) ≤ _; omega), fun L nL => ?_⟩
          have s3 := sm.new (o := HO.lst (xs.map V.str ++ (ys.map V.str ++ []))) nL
          have eL3 : upd H2 L (.lst (xs.map V.str ++ (ys.map V.str ++ []))) L = some (.lst ((xs ++ ys).map V.str)) := by rw [upd_same, List.append_nil, List.map_append]
          generalize upd H2 L (.lst (xs.map V.str ++ (ys.map V.str ++ []))) = H3 at s3 eL3 ⊢
          refine ⟨L, xs ++ ys, rfl, rfl, SqL.of eL3, fun p np => ?_⟩
          have s4 := s3.new (o := HO.lst ((tsort (xs ++ ys)).map V.str)) np
          have e4 : upd H3 p (.lst ((tsort (xs ++ ys)).map V.str)) p = some (.lst ((tsort (xs ++ ys)).map V.str)) := upd_same
          generalize upd H3 p (.lst ((tsort (xs ++ ys)).map V.str)) = H4 at s4 e4 ⊢
          refine ⟨_, rfl, ⟨_, _, rfl, rfl, ⟨szl (by show 2 ≤ 1000000; decide), fun c nc => ?_⟩⟩⟩
          refine k c _ (s4.new nc) ⟨.ref p, ?_, ?_⟩
          · rw [upd_same, both_ss, if_pos q]
            rfl
          · rw [both_ss, if_pos q]
            exact ⟨p, rfl, updn (nonn nc e4) e4⟩
        · have e : (!((shr xs ys).map V.str).isEmpty) = true := by
            cases h : shr xs ys with
            | nil => exact absurd h q
            | cons a b => rfl
          rw [e]
          refine iteT ?_
          refine ⟨_, rfl, ⟨_, rfl, ⟨szl (by show 2 ≤ 1000000; decide), fun c nc => ?_⟩⟩⟩
          refine k c _ (sm.new nc) ⟨.ref B, ?_, ?_⟩
          · rw [upd_same, both_ss, if_neg q]
          · rw [both_ss, if_neg q]
            exact ⟨B, rfl, updn (nonn nc hB) hB⟩
end
open PySem PySem.Spec PyProof.Rows
open L2 hiding pass0
abbrev s_holders : Stmt := top 52
theorem sc_holders : FnScope ["stretches", "inner", "stretch", "length"] ["stretches"] (defScope s_holders) := ⟨rfl, rfl, rfl, by decide +kernel, rfl, by decide +kernel, by decide +kernel⟩
theorem bp_holders : BndP "_holders" s_holders ["stretches"] := fun _ _ _ _ _ _ us h => match us, h with | [_], _ => rfl
def insB (ks : List (List Nat)) (x : List Nat) : Bool := ks.any fun t => decide (x <+: t ∧ x ≠ t)
theorem S_cp (s : Str) : SX.S s.cps.toList = s := by cases s; unfold SX.S; simp
theorem sx_at {ts : List (List Nat)} {i : Nat} {x : V} (h : (ts.map sx)[i]? = some x) : ∃ t, ts[i]? = some t ∧ x = sx t := by
  rw [List.getElem?_map] at h
  cases e : ts[i]? with
  | none => rw [e] at h; cases h
  | some t => rw [e] at h; exact ⟨t, rfl, (Option.some.inj h).symm⟩
/-- what lies inside, so far -/
def InsAt (ts : List (List Nat)) (i j : Nat) (ks : List (List Nat)) : Prop := (∀ x, x ∈ ks ↔ ((∃ t ∈ ts.take i, x <+: t ∧ x ≠ t) ∨ ∃ t, ts[i]? = some t ∧ ∃ l, l < j ∧ l < t.length ∧ x = t.take l)) ∧ ks.length ≤ 100 * i + j
theorem InsAt.next {ts : List (List Nat)} {i : Nat} {ks : List (List Nat)} {t : List Nat} (h : InsAt ts i t.length ks) (ht : ts[i]? = some t) (hl : t.length ≤ 100) : InsAt ts (i + 1) 0 ks := by
  refine ⟨fun x => (h.1 x).trans ?_, by have := h.2; omega⟩
  rw [List.take_add_one, ht]
  constructor
  · rintro (⟨u, hu, q⟩ | ⟨u, hu, l, l1, l2, rfl⟩)
    · exact .inl ⟨u, List.mem_append_left _ hu, q⟩
    · cases hu
      refine .inl ⟨t, List.mem_append_right _ (List.mem_singleton.mpr rfl), List.take_prefix _ _, fun e => ?_⟩
      have := congrArg List.length e
      rw [List.length_take] at this
      omega
  · rintro (⟨u, hu, q, q2⟩ | ⟨u, _, l, l1, _⟩)
    · rcases List.mem_append.mp hu with hu | hu
      · exact .inl ⟨u, hu, q, q2⟩
      · have : u = t := by simpa using hu
        subst this
        have hx : x.length < u.length := by
          rcases Nat.lt_or_ge x.length u.length with g | g
          · exact g
          · exact absurd (List.IsPrefix.eq_of_length q (Nat.le_antisymm q.length_le g)) q2
        exact .inr ⟨u, rfl, x.length, hx, hx, (List.prefix_iff_eq_take.mp q)⟩
    · omega
theorem InsAt.put {ts : List (List Nat)} {i j : Nat} {ks : List (List Nat)} {t : List Nat} (h : InsAt ts i j ks) (ht : ts[i]? = some t) (hj : j < t.length) : InsAt ts i (j + 1) (if t.take j ∈ ks then ks else ks ++ [t.take j]) := by
  have key : ∀ x, (x ∈ ks ∨ x = t.take j) ↔ ((∃ t ∈ ts.take i, x <+: t ∧ x ≠ t) ∨ ∃ t, ts[i]? = some t ∧ ∃ l, l < j + 1 ∧ l < t.length ∧ x = t.take l) := fun x => by
    rw [h.1 x]
    constructor
    · rintro ((q | ⟨u, hu, l, l1, l2, e⟩) | rfl)
      · exact .inl q
      · exact .inr ⟨u, hu, l, by omega, l2, e⟩
      · exact .inr ⟨t, ht, j, by omega, hj, rfl⟩
    · rintro (q | ⟨u, hu, l, l1, l2, e⟩)
      · exact .inl (.inl q)
      · rcases Nat.lt_or_ge l j with g | g
        · exact .inl (.inr ⟨u, hu, l, g, l2, e⟩)
        · have : l = j := by omega
          subst this
          rw [ht] at hu
          cases hu
          exact .inr e
  have hl := h.2
  split
  · refine ⟨fun x => ?_, by omega⟩
    rw [← key x]
    exact ⟨.inl, fun q => q.elim id fun e => by rw [e]; assumption⟩
  · refine ⟨fun x => ?_, by rw [List.length_append]; show ks.length + 1 ≤ _; omega⟩
    rw [← key x, List.mem_append, List.mem_singleton]
theorem InsAt.done {ts : List (List Nat)} {ks : List (List Nat)} (h : InsAt ts ts.length 0 ks) (x : List Nat) : decide (x ∈ ks) = insB ts x := by
  unfold insB
  rw [Bool.eq_iff_iff, decide_eq_true_iff, List.any_eq_true, h.1 x, List.take_length]
  constructor
  · rintro (⟨t, ht, q⟩ | ⟨t, _, l, l1, _⟩)
    · exact ⟨t, ht, decide_eq_true q⟩
    · omega
  · rintro ⟨t, ht, q⟩
    exact .inl ⟨t, ht, of_decide_eq_true q⟩
/-- all that stretches lie within, shorter ones first -/
structure Hold (ts hs : List (List Nat)) : Prop where
  nd : hs.Nodup
  mem : ∀ x, x ∈ hs ↔ ∃ t ∈ ts, x <+: t ∧ x ≠ t
  ord : hs.Pairwise fun a b => a.length ≤ b.length
  len : hs.length ≤ 100 * ts.length
@[irreducible] def spHo : Sp := fun vs H Q _ => ∃ (L : Addr) (ts : List (List Nat)), vs = [.ref L] ∧ H L = some (.lst (ts.map sx)) ∧ ts.length ≤ 60 ∧ (∀ t ∈ ts, t.length ≤ 100) ∧ ∀ R hs H', Same H H' → H R = none → H' R = some (.lst (hs.map sx)) → Hold ts hs → Q (.ref R) H'
theorem ho_go {L : Addr} {ts : List (List Nat)} {H : Hp} {Q : VK} {E : XK} (hL : H L = some (.lst (ts.map sx))) (lt : ts.length ≤ 60) (tl : ∀ t ∈ ts, t.length ≤ 100) (k : ∀ R hs H', Same H H' → H R = none → H' R = some (.lst (hs.map sx)) → Hold ts hs → Q (.ref R) H') : spHo [.ref L] H Q E := by
  unfold spHo
  exact ⟨L, ts, rfl, hL, lt, tl, k⟩
section
variable {P : Program} {w : World} {K : PySem.W.Frag} {mg : Str → Option Value} {base : Heap} {f C : Addr} {fd' : FuncData}
theorem ok_holders (F : Fun K "_holders" "_holders" s_holders f fd') (hm : mg "_holders" = some (.ref f)) (T : Txt K mg) : Nm P w K mg base CX0 1 "_holders" s_holders ["stretches"] (spHo) := by
  refine nm_of0 F hm sc_holders (fun vs H Q E h => ?_) fun cdv A outer s H vs Q E hr h => ?_
  · unfold spHo at h
    obtain ⟨L, ts, rfl, hL, lt, tl, k⟩ := h
    subst_vars
    rfl
  unfold spHo at h
  obtain ⟨L, ts, rfl, hL, lt, tl, k⟩ := h
  refine ⟨_, (pss_cons (ps_set (i := 1) sc_holders.nd rfl (by first | exact Or.inl rfl | exact Or.inr rfl) pe_dnewK)
      (pss_cons (ps_for PassesOwn.never rfl (pi_listK (K := K) rfl (pv 0)) (pg_name (i := 2) sc_holders.nd rfl (by first | exact Or.inl rfl | exact Or.inr rfl)) (pss_one (ps_for PassesOwn.never rfl (pi_range1 (by rfl) T.b_range (pa_cons (pe_callB (call_lenK (K := K) rfl) (by rfl) T.b_len PySem.boot_len (pa_cons (pv 2) pa_nil)) pa_nil)) (pg_name (i := 3) sc_holders.nd rfl (by first | exact Or.inl rfl | exact Or.inr rfl)) (pss_one (ps_asg pe_bl (pg_sub (pv 1) (pe_slice sl_str (pv 2) po_none (po_some (pv 3))) (set_dict hr.u1)))))))
      (pss_one (ps_ret (pe_sortLen (by rfl) T.b_sorted (by rfl) T.b_len hr.u rfl (pv 1)))))), ?_⟩
  intro I nI
  have s1 := (Same.refl H).new (o := HO.dK []) nI
  have eI : upd H I (.dK []) I = some (.dK []) := upd_same
  have hIL : L ≠ I := nonn nI hL
  generalize upd H I (.dK []) = H1 at s1 eI ⊢
  refine ⟨_, rfl, ⟨L, rfl, ⟨_, SqL.of (s1 _ _ hL)⟩, ?_⟩⟩
  refine for_it (walk_list (xs := ts.map sx)) (fun i σ' H' => ∃ x2 x3 ks, σ' = [some (.ref L), some (.ref I), x2, x3] ∧ Same H H' ∧ InsAt ts i 0 ks ∧ ks.Nodup ∧ H' I = some (.dK (fd ks fun _ => .bl true)))
    ⟨_, _, [], rfl, s1, ⟨fun x => ⟨fun h => (by cases h), ?_⟩, Nat.zero_le _⟩, .nil, eI⟩ (fun i σ' H' _ h => let ⟨_, _, _, _, s, _, _, _⟩ := h; SqL.of (s _ _ hL)) ?_ ?_
  · rintro (⟨t, ht, _⟩ | ⟨t, _, l, l1, _⟩)
    · cases ht
    · omega
  · rintro i x σ' H3 H4 hi ⟨x2, x3, ks, rfl, s5, ia, nd, eI5⟩ ⟨rfl, hx⟩
    obtain ⟨t, ht, rfl⟩ := sx_at hx
    have tl := tl t (List.mem_of_getElem? ht)
    have hi2 : i < 60 := by
      rw [List.length_map] at hi
      omega
    refine ⟨_, rfl, ⟨_, _, rfl, ⟨szl (by rw [sx_len]; omega), rfl⟩, ?_⟩⟩
    refine ⟨_, rfl, by rw [sx_len]; omega, by rw [sx_len]; omega, ?_⟩
    rw [show ((((SX.S t).length : Nat) : Int)).toNat = t.length by rw [sx_len]; omega]
    refine for_it walk_range (fun j σ' H' => ∃ x3 ks, σ' = [some (.ref L), some (.ref I), some (sx t), x3] ∧ Same H H' ∧ InsAt ts i j ks ∧ ks.Nodup ∧ H' I = some (.dK (fd ks fun _ => .bl true)))
      ⟨_, ks, rfl, s5, ia, nd, eI5⟩ (fun _ _ _ _ _ => trivial) ?_ ?_
    · rintro j x σ' H5 H6 hj ⟨x3, ks, rfl, s6, ia, nd, eI6⟩ ⟨rfl, rfl⟩
      refine ⟨_, rfl, ⟨_, rfl, ⟨_, rfl, ⟨_, rfl, ?_⟩⟩⟩⟩
      refine ⟨_, rfl, szl (by rw [sx_len]; omega), ?_⟩
      rw [show (0 + (j : Int)) = ((j : Nat) : Int) from Int.zero_add _, cut_S t (k := j) rfl]
      have hlen := ia.2
      refine ⟨I, _, rfl, .inl ⟨_, skey (t.take j), eI6, rfl, szt (by rw [fd_len]; omega), rfl⟩, ?_⟩
      rw [fd_put]
      refine ⟨_, if t.take j ∈ ks then ks else ks ++ [t.take j], rfl, fun b o e => updn (nonn nI e) (s6 _ _ e), ia.put ht hj, ?_, ?_⟩
      · by_cases q : t.take j ∈ ks
        · rw [if_pos q]; exact nd
        · rw [if_neg q]
          exact List.nodup_append.mpr ⟨nd, by simp, fun a ha b hb => by rw [List.mem_singleton] at hb; subst hb; exact fun e => q (e ▸ ha)⟩
      · rw [upd_same]
        exact congrArg (fun z => some (HO.dK z)) (fd_congr fun s _ => by unfold fup; split <;> rfl)
    · rintro σ' H5 ⟨x3, ks, rfl, s6, ia, nd, eI6⟩
      exact ⟨_, _, ks, rfl, s6, ia.next ht (by omega), nd, eI6⟩
  · rintro σ' H5 ⟨x2, x3, ks, rfl, s6, ia, nd, eI6⟩
    rw [List.length_map] at ia
    have hp := lsort_perm (ks.map SX.S)
    have lk : ∀ x ∈ ks, x.length ≤ 100 := fun x hx => by
      have := ia.done x
      rw [decide_eq_true hx] at this
      obtain ⟨t, ht, q⟩ := List.any_eq_true.mp this.symm
      have q := of_decide_eq_true q
      exact Nat.le_trans q.1.length_le (tl t ht)
    refine ⟨_, rfl, ⟨I, _, ks.map SX.S, rfl, .inl eI6, fd_keys _ _, fun x hx => ?_, fun p np => ?_⟩⟩
    · obtain ⟨t, ht, rfl⟩ := List.mem_map.mp hx
      have := lk t ht
      exact szl (by rw [sx_len]; omega)
    have hm : ((lsort (ks.map SX.S)).map fun z => z.cps.toList).map sx = (lsort (ks.map SX.S)).map V.str := by
      rw [List.map_map]
      exact List.map_congr_left fun z _ => sx_tl z
    refine k p ((lsort (ks.map SX.S)).map fun z => z.cps.toList) _ (s6.new np) (s6.back np) (by rw [upd_same, hm]) ⟨?_, fun x => ?_, ?_, ?_⟩
    · have : ((lsort (ks.map SX.S)).map fun z => z.cps.toList).Perm ks := by
        have h1 := hp.map fun z : Str => z.cps.toList
        rw [List.map_map] at h1
        have e : ks.map ((fun z : Str => z.cps.toList) ∘ SX.S) = ks := by
          rw [show ((fun z : Str => z.cps.toList) ∘ SX.S) = id from funext fun t => tl_S t, List.map_id]
        rw [e] at h1
        exact h1
      exact this.nodup_iff.mpr nd
    · rw [List.mem_map]
      have hd := ia.done x
      constructor
      · rintro ⟨z, hz, rfl⟩
        obtain ⟨t, ht, rfl⟩ := List.mem_map.mp (hp.mem_iff.mp hz)
        rw [tl_S] at hd ⊢
        rw [decide_eq_true ht] at hd
        obtain ⟨u, hu, q⟩ := List.any_eq_true.mp hd.symm
        exact ⟨u, hu, of_decide_eq_true q⟩
      · rintro ⟨u, hu, q⟩
        have : insB ts x = true := List.any_eq_true.mpr ⟨u, hu, decide_eq_true q⟩
        rw [this] at hd
        exact ⟨SX.S x, hp.mem_iff.mpr (List.mem_map_of_mem (of_decide_eq_true hd)), tl_S x⟩
    · rw [List.pairwise_map]
      refine (lsort_ord (ks.map SX.S)).imp fun {a b} h => ?_
      rw [len_tl, len_tl]
      exact h
    · rw [List.length_map, hp.length_eq, List.length_map]
      have := ia.2
      omega
end
open PySem PySem.Spec PyProof.Rows
open L2 hiding pass0
def kys (hs : List (List Nat)) : List (List Nat) := [] :: hs.flatMap fun s => [s ++ [48], s ++ [49]]
theorem kys_mem {hs : List (List Nat)} {x : List Nat} : x ∈ kys hs ↔ x = [] ∨ ∃ s ∈ hs, x = s ++ [48] ∨ x = s ++ [49] := by
  unfold kys
  rw [List.mem_cons, List.mem_flatMap]
  refine or_congr_right ⟨?_, ?_⟩
  · rintro ⟨s, hs, h⟩
    simp only [List.mem_cons, List.not_mem_nil, or_false] at h
    exact ⟨s, hs, h⟩
  · rintro ⟨s, hs, h⟩
    refine ⟨s, hs, ?_⟩
    simp only [List.mem_cons, List.not_mem_nil, or_false]
    exact h
theorem snoc_inj {s t : List Nat} {a b : Nat} (h : s ++ [a] = t ++ [b]) : s = t ∧ a = b := by
  have := List.append_inj' h rfl
  exact ⟨this.1, by simpa using this.2⟩
theorem kys_snoc (hs : List (List Nat)) (s : List Nat) : kys (hs ++ [s]) = kys hs ++ [s ++ [48], s ++ [49]] := by
  unfold kys
  rw [List.flatMap_append]
  simp
theorem kys_new {hs : List (List Nat)} {s : List Nat} (h : s ∉ hs) (b : Nat) : s ++ [b] ∉ kys hs := fun q => by
  rcases kys_mem.mp q with q | ⟨t, ht, q | q⟩
  · simp at q
  · exact h ((snoc_inj q).1 ▸ ht)
  · exact h ((snoc_inj q).1 ▸ ht)
theorem flat_nd : ∀ {hs : List (List Nat)}, hs.Nodup → (hs.flatMap fun s => [s ++ [48], s ++ [49]]).Nodup
  | [], _ => .nil
  | s :: hs, h => by
    obtain ⟨h1, h2⟩ := List.nodup_cons.mp h
    rw [List.flatMap_cons]
    refine List.nodup_append.mpr ⟨by simp, flat_nd h2, fun a ha b hb e => ?_⟩
    subst e
    have hk : a ∈ kys hs := List.mem_cons_of_mem _ hb
    simp only [List.mem_cons, List.not_mem_nil, or_false] at ha
    rcases ha with rfl | rfl
    · exact kys_new h1 48 hk
    · exact kys_new h1 49 hk
theorem kys_nd {hs : List (List Nat)} (h : hs.Nodup) : (kys hs).Nodup := by
  refine List.nodup_cons.mpr ⟨fun q => ?_, flat_nd h⟩
  obtain ⟨s, _, q⟩ := List.mem_flatMap.mp q
  simp at q
theorem kys_len (hs : List (List Nat)) : (kys hs).length = 2 * hs.length + 1 := by
  unfold kys
  rw [List.length_cons, List.length_flatMap]
  induction hs with
  | nil => rfl
  | cons s hs ih => rw [List.map_cons, List.sum_cons, List.length_cons]; simp at *; omega
theorem Hold.up {ts hs : List (List Nat)} (h : Hold ts hs) {s p : List Nat} (hs' : s ∈ hs) (hp : p <+: s) : p ∈ hs := by
  obtain ⟨t, ht, q, n⟩ := (h.mem s).mp hs'
  refine (h.mem p).mpr ⟨t, ht, hp.trans q, fun e => n ?_⟩
  subst e
  exact List.IsPrefix.eq_of_length q (Nat.le_antisymm q.length_le hp.length_le)
theorem Hold.bl {ts hs : List (List Nat)} (h : Hold ts hs) (bl : ∀ t ∈ ts, M.BL t) {s : List Nat} (hs' : s ∈ hs) : M.BL s := by
  obtain ⟨t, ht, q, _⟩ := (h.mem s).mp hs'
  intro c hc
  exact bl t ht c (q.sublist.subset hc)
theorem snoc_of {s : List Nat} (h : s ≠ []) : ∃ p b, s = p ++ [b] := ⟨s.dropLast, s.getLast h, (List.dropLast_concat_getLast h).symm⟩
theorem Hold.ahead {ts hs : List (List Nat)} (h : Hold ts hs) {i j : Nat} {s p : List Nat} (ei : hs[i]? = some s) (ej : hs[j]? = some p) (l : p.length < s.length) : j < i := by
  obtain ⟨li, ei'⟩ := List.getElem?_eq_some_iff.mp ei
  obtain ⟨lj, ej'⟩ := List.getElem?_eq_some_iff.mp ej
  rcases Nat.lt_trichotomy j i with q | q | q
  · exact q
  · subst q
    rw [ei] at ej
    cases ej
    omega
  · have := List.pairwise_iff_getElem.mp h.ord i j li lj q
    rw [ei', ej'] at this
    omega
theorem Hold.key {ts hs : List (List Nat)} (h : Hold ts hs) (bl : ∀ t ∈ ts, M.BL t) {i : Nat} {s : List Nat} (e : hs[i]? = some s) : s ∈ kys (hs.take i) := by
  by_cases q : s = []
  · exact kys_mem.mpr (.inl q)
  · obtain ⟨p, b, rfl⟩ := snoc_of q
    have hm := List.mem_of_getElem? e
    have hp := h.up hm (List.prefix_append p [b])
    obtain ⟨j, hj⟩ := List.getElem?_of_mem hp
    have hl := h.ahead e hj (by rw [List.length_append]; exact Nat.lt_succ_self _)
    have hb : b = 48 ∨ b = 49 := h.bl bl hm b (List.mem_append_right _ (List.mem_singleton.mpr rfl))
    refine kys_mem.mpr (.inr ⟨p, ?_, ?_⟩)
    · refine List.mem_of_getElem? (i := j) ?_
      rw [List.getElem?_take, if_pos hl]
      exact hj
    · rcases hb with rfl | rfl
      · exact .inl rfl
      · exact .inr rfl
def gev (m : List (Str × Str)) (fs : List (List Nat)) (t : List Nat) : Str := if M.frB fs t = true then "all" else goalT (look m) (SX.S t)
theorem fr_snoc (fs : List (List Nat)) (s : List Nat) (b : Nat) : M.frB fs (s ++ [b]) = (M.frB fs s || decide (s ++ [b] ∈ fs)) := by
  unfold M.frB
  rw [Bool.eq_iff_iff, Bool.or_eq_true, List.any_eq_true, List.any_eq_true, decide_eq_true_iff]
  constructor
  · rintro ⟨f, hf, q⟩
    have q := of_decide_eq_true q
    rcases List.prefix_concat_iff.mp q with q | q
    · exact .inr (q ▸ hf)
    · exact .inl ⟨f, hf, decide_eq_true q⟩
  · rintro (⟨f, hf, q⟩ | q)
    · exact ⟨f, hf, decide_eq_true ((of_decide_eq_true q).trans (List.prefix_append _ _))⟩
    · exact ⟨_, q, decide_eq_true (List.prefix_refl _)⟩
theorem px_pre {s t : List Nat} (h : s <+: t) {i : Nat} (hi : i ≤ s.length) : px (SX.S t) i = px (SX.S s) i := by
  rw [px_S, px_S]
  obtain ⟨u, rfl⟩ := h
  rw [List.take_append_of_le_length hi]
theorem lbP_pre {f : Str → Option Str} {s t : List Nat} (h : s <+: t) : ∀ {i : Nat}, i ≤ s.length + 1 → lbP f (SX.S t) i = lbP f (SX.S s) i
  | 0, _ => rfl
  | i + 1, hi => by
    have e := px_pre h (i := i) (by omega)
    have ih := lbP_pre (f := f) h (i := i) (by omega)
    cases c : (f (px (SX.S t) i)).isSome with
    | true => rw [lbP_yes c, lbP_yes (by rw [← e]; exact c), e]
    | false => rw [lbP_no c, lbP_no (by rw [← e]; exact c), ih]
theorem goal_snoc (f : Str → Option Str) (s : List Nat) (b : Nat) : goalT f (SX.S (s ++ [b])) = (f (SX.S (s ++ [b]))).getD (goalT f (SX.S s)) := by
  have ep : px (SX.S (s ++ [b])) (s ++ [b]).length = SX.S (s ++ [b]) := by rw [px_S, List.take_length]
  have el : lb f (SX.S (s ++ [b])) = lbP f (SX.S (s ++ [b])) ((s ++ [b]).length + 1) := by unfold lb; rw [sx_len]
  have el2 : lb f (SX.S s) = lbP f (SX.S s) (s.length + 1) := by unfold lb; rw [sx_len]
  cases c : f (SX.S (s ++ [b])) with
  | some g =>
    unfold goalT
    rw [el, lbP_yes (by rw [ep, c]; rfl), ep]
    show (f (SX.S (s ++ [b]))).getD Str.empty = _
    rw [c]
    rfl
  | none =>
    unfold goalT
    rw [el, lbP_no (by rw [ep, c]; rfl), show (s ++ [b]).length = s.length + 1 from List.length_append, lbP_pre (List.prefix_append s [b]) (Nat.le_refl _), el2]
    rfl
theorem goal_nil (f : Str → Option Str) : goalT f (SX.S []) = (f "").getD "hole" := by
  have ep : px (SX.S []) 0 = ("" : Str) := rfl
  cases c : f "" with
  | some g =>
    unfold goalT lb
    rw [show (SX.S []).length + 1 = 0 + 1 from rfl, lbP_yes (by rw [ep, c]; rfl), ep]
    show (f "").getD Str.empty = _
    rw [c]
    rfl
  | none =>
    unfold goalT lb
    rw [show (SX.S []).length + 1 = 0 + 1 from rfl, lbP_no (by rw [ep, c]; rfl)]
    rfl
theorem all_no_goal : goalB "all" = false := by decide +kernel
theorem goal_not_all {n : Int} {m : List (Str × Str)} {z : Str} (h : ∀ p ∈ m, RowOk n p) : goalT (look m) z ≠ "all" := by
  intro e
  unfold goalT at e
  cases c : lb (look m) z with
  | none =>
    rw [c] at e
    exact absurd (show ("hole" : Str) = "all" from e) (by decide +kernel)
  | some x =>
    rw [c] at e
    obtain ⟨g, hg⟩ := Option.isSome_iff_exists.mp (lbP_some c).1
    obtain ⟨p, hp, _, rfl⟩ := look_mem hg
    have e : (look m x).getD Str.empty = "all" := e
    rw [hg] at e
    have := (h p hp).2.2.1
    rw [show p.2 = "all" from e, all_no_goal] at this
    cases this
theorem gev_all {n : Int} {m : List (Str × Str)} {fs : List (List Nat)} {t : List Nat} (h : ∀ p ∈ m, RowOk n p) : gev m fs t = "all" ↔ M.frB fs t = true := by
  unfold gev
  by_cases q : M.frB fs t = true
  · rw [if_pos q]
    exact ⟨fun _ => q, fun _ => rfl⟩
  · rw [if_neg q]
    exact ⟨fun e => absurd e (goal_not_all h), fun e => absurd e q⟩
/-- rows, and free ones -/
theorem val_free (kvs : List (Key × V)) (fs : List (List Nat)) (v : V) (t : List Nat) : valV (mergeK kvs (fd fs fun _ => v)) (skey t) = if t ∈ fs then some v else valV kvs (skey t) := by
  induction fs generalizing kvs with
  | nil => rw [if_neg (by simp)]; rfl
  | cons f fs ih =>
    have e : mergeK kvs (fd (f :: fs) fun _ => v) = mergeK (putK kvs (skey f) v) (fd fs fun _ => v) := rfl
    rw [e, ih, valV_put]
    by_cases h1 : t ∈ fs
    · rw [if_pos h1, if_pos (List.mem_cons_of_mem _ h1)]
    · rw [if_neg h1]
      by_cases h2 : t = f
      · rw [if_pos (by rw [h2]), if_pos (by rw [h2]; exact List.mem_cons_self)]
      · rw [if_neg fun q => h2 (skey_inj q), if_neg fun q => (List.mem_cons.mp q).elim h2 h1]
theorem tk_look (m : List (Str × Str)) (k : Str) : valV (tk m) (Sum.inr k) = (look m k).map V.str := by
  by_cases h : k ∈ m.map (·.1)
  · have e : (look m k).isSome = true := by rw [look_key, decide_eq_true h]
    rw [tk_val m h, look_get]
    cases e2 : look m k with
    | none => rw [e2] at e; cases e
    | some g => rfl
  · have e : (look m k).isSome = false := by rw [look_key, decide_eq_false h]
    have e1 : valV (tk m) (Sum.inr k) = none := by
      unfold valV
      rw [List.find?_eq_none.mpr]
      · rfl
      intro p hp q
      have q : p.1 = Sum.inr k := by simpa using q
      have : (Sum.inr k : Key) ∈ (tk m).map (·.1) := q ▸ List.mem_map_of_mem hp
      rw [tk_keys] at this
      obtain ⟨z, hz, e2⟩ := List.mem_map.mp this
      cases e2
      exact h hz
    rw [e1]
    cases e2 : look m k with
    | none => rfl
    | some g => rw [e2] at e; cases e
theorem gev_nil (m : List (Str × Str)) (fs : List (List Nat)) : V.str (gev m fs []) = (valV (mergeK (tk m) (fd fs fun _ => .str "all")) (skey [])).getD (.str "hole") := by
  rw [val_free]
  unfold gev
  have hf : M.frB fs [] = decide ([] ∈ fs) := by
    unfold M.frB
    rw [Bool.eq_iff_iff, List.any_eq_true, decide_eq_true_iff]
    constructor
    · rintro ⟨f, hf, q⟩
      have := List.prefix_nil.mp (of_decide_eq_true q)
      exact this ▸ hf
    · intro q
      exact ⟨_, q, decide_eq_true (List.prefix_refl _)⟩
  by_cases q : [] ∈ fs
  · rw [if_pos (by rw [hf]; exact decide_eq_true q), if_pos q]
    rfl
  · rw [if_neg (by rw [hf, decide_eq_false q]; decide), if_neg q, goal_nil, show skey [] = Sum.inr ("" : Str) from congrArg Sum.inr (by decide +kernel), tk_look]
    cases look m "" <;> rfl
theorem gev_snoc {n : Int} {m : List (Str × Str)} (fs : List (List Nat)) (s : List Nat) (b : Nat) (h : ∀ p ∈ m, RowOk n p) : V.str (gev m fs (s ++ [b])) = if gev m fs s = "all" then .str "all" else (valV (mergeK (tk m) (fd fs fun _ => .str "all")) (skey (s ++ [b]))).getD (.str (gev m fs s)) := by
  rw [val_free]
  by_cases q : gev m fs s = "all"
  · rw [if_pos q]
    have q := (gev_all h).mp q
    unfold gev
    rw [if_pos (by rw [fr_snoc, q]; rfl)]
  · rw [if_neg q]
    have q2 : M.frB fs s = false := by
      cases c : M.frB fs s with
      | false => rfl
      | true => exact absurd ((gev_all h).mpr c) q
    by_cases c : s ++ [b] ∈ fs
    · rw [if_pos c]
      unfold gev
      rw [if_pos (by rw [fr_snoc, decide_eq_true c, Bool.or_true])]
      rfl
    · rw [if_neg c]
      have e1 : gev m fs s = goalT (look m) (SX.S s) := by unfold gev; rw [if_neg (by rw [q2]; decide)]
      rw [e1]
      unfold gev
      rw [if_neg (by rw [fr_snoc, q2, decide_eq_false c]; decide), goal_snoc, show skey (s ++ [b]) = Sum.inr (SX.S (s ++ [b])) from rfl, tk_look]
      cases look m (SX.S (s ++ [b])) <;> rfl
open PySem PySem.Spec PyProof.Rows
open L2 hiding pass0
abbrev s_even_goals : Stmt := top 53
theorem sc_even_goals : FnScope ["table", "free", "inner", "rows", "goals", "stretch", "half"] ["table", "free", "inner"] (defScope s_even_goals) := ⟨rfl, rfl, rfl, by decide +kernel, rfl, by decide +kernel, by decide +kernel⟩
theorem bp_even_goals : BndP "_even_goals" s_even_goals ["table", "free", "inner"] := fun _ _ _ _ _ _ us h => match us, h with | [_, _, _], _ => rfl
@[irreducible] def spEG (K : PySem.W.Frag) (C : Addr) : Sp := fun vs H Q _ => ∃ (a F R : Addr) (n : Nat) (m : List (Str × Str)) (fs hs : List (List Nat)), vs = [.ref a, .ref F, .ref R] ∧ TabAt C H a n m ∧ TabOk n m ∧ FrA K H F fs ∧ Fits n fs ∧ fs.Nodup ∧ fs.length ≤ 20 ∧ H R = some (.lst (hs.map sx)) ∧ Hold (kz m ++ fs) hs ∧
  ∀ D H', Same H H' → H D = none → H' D = some (.dK (fd (kys hs) fun t => .str (gev m fs t))) → Q (.ref D) H'
theorem eg_go {K : PySem.W.Frag} {C a F R : Addr} {n : Nat} {m : List (Str × Str)} {fs hs : List (List Nat)} {H : Hp} {Q : VK} {E : XK} (ht : TabAt C H a n m) (ok : TabOk n m) (hF : FrA K H F fs) (ff : Fits n fs) (nd : fs.Nodup) (lf : fs.length ≤ 20) (hR : H R = some (.lst (hs.map sx))) (ho : Hold (kz m ++ fs) hs)
    (k : ∀ D H', Same H H' → H D = none → H' D = some (.dK (fd (kys hs) fun t => .str (gev m fs t))) → Q (.ref D) H') : spEG K C [.ref a, .ref F, .ref R] H Q E := by
  unfold spEG
  exact ⟨a, F, R, n, m, fs, hs, rfl, ht, ok, hF, ff, nd, lf, hR, ho, k⟩
section
variable {P : Program} {w : World} {K : PySem.W.Frag} {mg : Str → Option Value} {base : Heap} {f C : Addr} {fd' : FuncData}
theorem ok_even_goals (F : Fun K "_even_goals" "_even_goals" s_even_goals f fd') (hm : mg "_even_goals" = some (.ref f)) (T : Txt K mg) (TC : TabC K C) (cA : ∃ u, mg "ALL" = some u ∧ RelV (.str "all") u)
    (c_Table_rows : Mth P w K mg base CX0 1 C "rows" "Table.rows" s_Table_rows ["self"] (spTRows C)) : Nm P w K mg base CX0 2 "_even_goals" s_even_goals ["table", "free", "inner"] (spEG K C) := by
  refine nm_of0 F hm sc_even_goals (fun vs H Q E h => ?_) fun cdv A outer s H vs Q E hr h => ?_
  · unfold spEG at h
    obtain ⟨a, F, R, n, m, fs, hs, rfl, ht, ok, hF, ff, nd, lf, hR, ho, k⟩ := h
    subst_vars
    rfl
  unfold spEG at h
  obtain ⟨a, F, R, n, m, fs, hs, rfl, ht, ok, hF, ff, nd, lf, hR, ho, k⟩ := h
  refine ⟨_, (C8.pss_cut (ps_set (i := 3) sc_even_goals.nd rfl (by first | exact Or.inl rfl | exact Or.inr rfl) (pe_star2 (pe_m0 c_Table_rows TC.cl hr (by decide) L2.pass0 bm_Table_rows (pv 0)) (pe_dc (own := [("stretch", 5)]) (g := (gName 5)) (by rfl) sc_even_goals.nd (pi_seqAK (K := K) rfl (pv 1)) (blkOk_by (own := [("stretch", 5)]) (N := ["table", "free", "inner", "rows", "goals", "stretch", "half"]) (sc := defScope s_even_goals) (by decide +kernel)) (fun _ _ _ _ _ => (pg_name (i := 5) sc_even_goals.nd rfl (by first | exact Or.inl rfl | exact Or.inr rfl))) (fun _ _ _ _ _ => pts_nil) (fun _ _ _ _ _ => (pv 5)) (fun _ _ _ _ _ => (pe_cst (by rfl) cA)))))
      (C8.pss_cut (ps_set (i := 4) sc_even_goals.nd rfl (by first | exact Or.inl rfl | exact Or.inr rfl) (pe_disp (pps_cons pe_str (pe_dget2 hr.u1 (pv 3) pe_str pe_str ⟨by rfl, by rfl, by rfl, by rfl⟩) pps_nil) (by rfl) (by rfl) (fun z => by cases z) (by decide)))
      (pss_cons (ps_for PassesOwn.never rfl (pi_listK (K := K) rfl (pv 2)) (pg_name (i := 5) sc_even_goals.nd rfl (by first | exact Or.inl rfl | exact Or.inr rfl)) (pss_one (ps_for PassesOwn.never rfl (pi_tup (pe_tup (pa_cons (pe_op op_add_str (pv 5) pe_str) (pa_cons (pe_op op_add_str (pv 5) pe_str) pa_nil)))) (pg_name (i := 6) sc_even_goals.nd rfl (by first | exact Or.inl rfl | exact Or.inr rfl)) (pss_one (ps_asg (pe_ifExp (pt_cmpR op_eq (pe_dget hr.u1 (pv 4) (pv 5) (fun _ _ => rfl)) (pe_cst (by rfl) cA) (nomark _)) (pe_cst (by rfl) cA) (pe_dget2 hr.u1 (pv 3) (pv 6) (pe_dget hr.u1 (pv 4) (pv 5) (fun _ _ => rfl)) ⟨by rfl, by rfl, by rfl, by rfl⟩)) (pg_sub (pv 4) (pv 6) (set_dict hr.u1)))))))
      (pss_one (ps_ret (pv 4)))))), ?_⟩
  have rk := ok.rows
  obtain ⟨dx, Dm, ha, hDm, hne⟩ := ht
  have tt : TabAt C H a n m := ⟨dx, Dm, ha, hDm, hne⟩
  refine ⟨fun σ' H' => ∃ W x5, σ' = [some (.ref a), some (.ref F), some (.ref R), some (.ref W), none, x5, none] ∧ Same H H' ∧ H' W = some (.dK (mergeK (tk m) (fd fs fun _ => .str "all"))), ?_, ?_⟩
  · intro W nW
    have s1 := (Same.refl H).new (o := HO.dK []) nW
    have eW : upd H W (.dK []) W = some (.dK []) := upd_same
    generalize hH1 : upd H W (.dK []) = H1 at s1 eW ⊢
    refine ⟨_, rfl, ⟨⟨a, dx, _, rfl, s1 _ _ ha, rfl⟩, ?_⟩⟩
    refine trows_go (tt.to s1) fun p np => ?_
    have hWp : W ≠ p := nonn np eW
    refine ⟨p, tk m, rfl, hWp, updn hWp eW, .inl upd_same, ?_⟩
    rw [show mergeK [] (tk m) = tk m from mrg_nil ok.nd]
    have s2 : Same H (upd (upd H1 p (.dK (tk m))) W (.dK (tk m))) := fun b o e => by
      have e1 := s1 b o e
      exact updn (fun q => by rw [q, nW] at e; cases e) (updn (nonn np e1) e1)
    have eW2 : upd (upd H1 p (.dK (tk m))) W (.dK (tk m)) W = some (.dK (tk m)) := upd_same
    generalize upd (upd H1 p (.dK (tk m))) W (.dK (tk m)) = H2 at s2 eW2 ⊢
    refine ⟨_, rfl, ⟨F, fs.map sx, rfl, ?_⟩⟩
    rcases hF.seq with q | q
    · refine .inl ⟨q _ s2, fun D nD => ?_⟩
      refine dc_it (walk_list (xs := fs.map sx)) (fun i H3 => H3 D = some (.dK (fd (fs.take i) fun _ => .str "all")) ∧ Same H2 H3) ⟨upd_same, (Same.refl H2).new nD⟩ (fun i H3 _ h => q _ (s2.trans h.2)) ?_ ?_
      · rintro i x H3 H4 hi ⟨hD, sm⟩ ⟨rfl, hx⟩
        obtain ⟨t, ht, rfl⟩ := sx_at hx
        refine ⟨rfl, ?_⟩
        dsimp only [tYes]
        rw [if_pos rfl]
        refine ⟨_, rfl, ⟨_, skey t, rfl, hD, szt (by rw [fd_len, List.length_take]; omega), ?_, fun b o e => updn (nonn nD e) (sm _ _ e)⟩⟩
        rw [upd_same, fd_put, if_neg (take_new nd ht), List.take_add_one, ht]
        exact congrArg (fun z => some (HO.dK z)) (fd_congr fun s _ => by unfold fup; split <;> rfl)
      · rintro H3 ⟨hD, sm⟩
        rw [List.length_map, List.take_length] at hD
        refine ⟨D, _, _, rfl, nonn nD eW2, sm _ _ eW2, .inl hD, szl (by rw [tk_len, fd_len]; have := ok.few; omega), ?_⟩
        refine ⟨W, _, rfl, fun b o e => ?_, upd_same⟩
        have e1 := sm b o (s2 b o e)
        exact updn (fun q => by rw [q, nW] at e; cases e) e1
    · refine .inr ⟨q _ s2, fun D nD => ?_⟩
      refine dc_it (walk_tup (xs := fs.map sx)) (fun i H3 => H3 D = some (.dK (fd (fs.take i) fun _ => .str "all")) ∧ Same H2 H3) ⟨upd_same, (Same.refl H2).new nD⟩ (fun i H3 _ h => q _ (s2.trans h.2)) ?_ ?_
      · rintro i x H3 H4 hi ⟨hD, sm⟩ ⟨rfl, hx⟩
        obtain ⟨t, ht, rfl⟩ := sx_at hx
        refine ⟨rfl, ?_⟩
        dsimp only [tYes]
        rw [if_pos rfl]
        refine ⟨_, rfl, ⟨_, skey t, rfl, hD, szt (by rw [fd_len, List.length_take]; omega), ?_, fun b o e => updn (nonn nD e) (sm _ _ e)⟩⟩
        rw [upd_same, fd_put, if_neg (take_new nd ht), List.take_add_one, ht]
        exact congrArg (fun z => some (HO.dK z)) (fd_congr fun s _ => by unfold fup; split <;> rfl)
      · rintro H3 ⟨hD, sm⟩
        rw [List.length_map, List.take_length] at hD
        refine ⟨D, _, _, rfl, nonn nD eW2, sm _ _ eW2, .inl hD, szl (by rw [tk_len, fd_len]; have := ok.few; omega), ?_⟩
        refine ⟨W, _, rfl, fun b o e => ?_, upd_same⟩
        have e1 := sm b o (s2 b o e)
        exact updn (fun q => by rw [q, nW] at e; cases e) e1
  rintro σ' H1 ⟨W, x5, rfl, s1, eW⟩
  generalize hrw : mergeK (tk m) (fd fs fun _ => .str "all") = rw at eW
  refine ⟨fun σ' H' => ∃ G, σ' = [some (.ref a), some (.ref F), some (.ref R), some (.ref W), some (.ref G), x5, none] ∧ Same H H' ∧ H G = none ∧ H' W = some (.dK rw) ∧ G ≠ W ∧ H' G = some (.dK (fd (kys []) fun t => .str (gev m fs t))), ?_, ?_⟩
  · intro G nG
    have s2 := s1.new (o := HO.dK []) nG
    have e2 := updn (o := HO.dK []) (nonn nG eW) eW
    have eG : upd H1 G (.dK []) G = some (.dK []) := upd_same
    have nGW : W ≠ G := nonn nG eW
    have nGH := s1.back nG
    generalize upd H1 G (.dK []) = H2 at s2 e2 eG ⊢
    refine ⟨_, rfl, ⟨W, rfl, .inl ⟨_, .inl e2⟩, ⟨_, .inl ⟨_, Sum.inr "", .inl e2, rfl, rfl⟩, ?_⟩⟩⟩
    refine ⟨eG, [(Sum.inr "", _)], rfl, by show 1 ≤ 15; decide, ?_⟩
    refine ⟨G, rfl, fun b o e => updn (fun q => by rw [q, nGH] at e; cases e) (s2 _ _ e), nGH, updn nGW e2, nGW.symm, ?_⟩
    rw [upd_same]
    refine congrArg (fun z => some (HO.dK z)) ?_
    show [((Sum.inr "" : Key), (valV rw (Sum.inr "")).getD (V.str "hole"))] = [(skey [], V.str (gev m fs []))]
    rw [show ((Sum.inr "" : Key)) = skey [] from congrArg Sum.inr (by decide +kernel), gev_nil, hrw]
  rintro σ' H2 ⟨G, rfl, s2, nG, eW2, hGW, eG⟩
  refine ⟨_, rfl, ⟨R, rfl, ⟨_, SqL.of (s2 _ _ hR)⟩, ?_⟩⟩
  have hlen := ho.len
  have lts : (kz m ++ fs).length ≤ 60 := by
    rw [List.length_append, kz_len]
    have := ok.few
    omega
  have hbl : ∀ t ∈ kz m ++ fs, M.BL t ∧ t.length ≤ n := fun t ht => by
    rcases List.mem_append.mp ht with h | h
    · exact kz_fits rk t h
    · exact ff t h
  have hsl : ∀ s ∈ hs, s.length ≤ 100 := fun s h => by
    obtain ⟨t, ht, q, _⟩ := (ho.mem s).mp h
    have := (hbl t ht).2
    have := q.length_le
    have := ok.w1
    omega
  refine for_it (walk_list (xs := hs.map sx)) (fun i σ' H' => ∃ x5 x6, σ' = [some (.ref a), some (.ref F), some (.ref R), some (.ref W), some (.ref G), x5, x6] ∧ Same H H' ∧ H' W = some (.dK rw) ∧ H' G = some (.dK (fd (kys (hs.take i)) fun t => .str (gev m fs t)))) ⟨_, _, rfl, s2, eW2, eG⟩ (fun i σ' H' _ h => let ⟨_, _, _, s, _⟩ := h; SqL.of (s _ _ hR)) ?_ ?_
  · rintro i x σ' H3 H4 hi ⟨x5, x6, rfl, s3, eW3, eG3⟩ ⟨rfl, hx⟩
    obtain ⟨s, hs', rfl⟩ := sx_at hx
    have sl := hsl s (List.mem_of_getElem? hs')
    have li : i < hs.length := (List.getElem?_eq_some_iff.mp hs').1
    have hk := ho.key (fun t ht => (hbl t ht).1) hs'
    have snew : s ∉ hs.take i := take_new ho.nd hs'
    refine ⟨_, rfl, ⟨_, _, rfl, rfl, szl (by rw [sx_len]; show s.length + 1 ≤ 1000000; omega), ?_⟩⟩
    refine ⟨_, rfl, ⟨_, _, rfl, rfl, szl (by rw [sx_len]; show s.length + 1 ≤ 1000000; omega), ?_⟩⟩
    refine ⟨szl (by show 2 ≤ 1000000; decide), fun t nt => ?_⟩
    rw [show V.str (SX.S s ++ "0") = sx (s ++ [48]) by rw [show ("0" : Str) = SX.S [48] by decide +kernel, S_app]; rfl, show V.str (SX.S s ++ "1") = sx (s ++ [49]) by rw [show ("1" : Str) = SX.S [49] by decide +kernel, S_app]; rfl]
    have s4 := s3.new (o := HO.tup [sx (s ++ [48]), sx (s ++ [49])]) nt
    have et : upd H4 t (.tup [sx (s ++ [48]), sx (s ++ [49])]) t = some (.tup [sx (s ++ [48]), sx (s ++ [49])]) := upd_same
    have eW4 := updn (o := HO.tup [sx (s ++ [48]), sx (s ++ [49])]) (nonn nt eW3) eW3
    have eG4 := updn (o := HO.tup [sx (s ++ [48]), sx (s ++ [49])]) (nonn nt eG3) eG3
    have hGt : G ≠ t := nonn nt eG3
    have ntH := s3.back nt
    generalize upd H4 t (.tup [sx (s ++ [48]), sx (s ++ [49])]) = H5 at s4 et eW4 eG4 ⊢
    refine ⟨t, rfl, ⟨_, SqT.of et⟩, ?_⟩
    refine for_it (walk_tup (xs := [s ++ [48], s ++ [49]].map sx)) (fun j σ' H' => ∃ x6, σ' = [some (.ref a), some (.ref F), some (.ref R), some (.ref W), some (.ref G), some (sx s), x6] ∧ Same H H' ∧ H' W = some (.dK rw) ∧ H' t = some (.tup ([s ++ [48], s ++ [49]].map sx)) ∧ H' G = some (.dK (fd (kys (hs.take i) ++ [s ++ [48], s ++ [49]].take j) fun t => .str (gev m fs t)))) ⟨_, rfl, s4, eW4, et, by rw [List.take_zero, List.append_nil]; exact eG4⟩ (fun j σ' H' _ h => let ⟨_, _, _, _, e, _⟩ := h; SqT.of e) ?_ ?_
    · rintro j x σ' H6 H7 hj ⟨x6, rfl, s6, eW6, et6, eG6⟩ ⟨rfl, hx⟩
      obtain ⟨u, hu, rfl⟩ := sx_at hx
      have hE : H7 G = some (.dK (fd (kys (hs.take i) ++ [s ++ [48], s ++ [49]].take j) fun t => .str (gev m fs t))) := eG6
      have hW7 : H7 W = some (.dK rw) := eW6
      obtain ⟨b, rfl, unew, utk, lj⟩ : ∃ b, u = s ++ [b] ∧ s ++ [b] ∉ kys (hs.take i) ++ [s ++ [48], s ++ [49]].take j ∧ [s ++ [48], s ++ [49]].take (j + 1) = [s ++ [48], s ++ [49]].take j ++ [s ++ [b]] ∧ j < 2 := by
        match j, hu with
        | 0, hu =>
          cases hu
          refine ⟨48, rfl, ?_, rfl, by decide⟩
          rw [List.take_zero, List.append_nil]
          exact kys_new snew 48
        | 1, hu =>
          cases hu
          refine ⟨49, rfl, fun q => ?_, rfl, by decide⟩
          rcases List.mem_append.mp q with q | q
          · exact kys_new snew 49 q
          · have : s ++ [49] = s ++ [48] := by simpa using q
            have := (snoc_inj this).2
            omega
        | j + 2, hu => cases hu
      have lk : (fd (kys (hs.take i) ++ [s ++ [48], s ++ [49]].take j) fun t => V.str (gev m fs t)).length < sizeLine := by
        rw [fd_len, List.length_append, kys_len, List.length_take, List.length_take]
        exact szt (by show 2 * _ + 1 + min j 2 < 1000000; omega)
      have vs : some (V.str (gev m fs s)) = valV (fd (kys (hs.take i) ++ [s ++ [48], s ++ [49]].take j) fun t => V.str (gev m fs t)) (skey s) := by
        rw [fd_val, if_pos (List.mem_append_left _ hk)]
      have fin : ∀ v : V, v = .str (gev m fs (s ++ [b])) → ∃ x6, ([some (V.ref a), some (V.ref F), some (V.ref R), some (V.ref W), some (V.ref G), some (sx s), some (sx (s ++ [b]))] : List (Option V)) = [some (V.ref a), some (V.ref F), some (V.ref R), some (V.ref W), some (V.ref G), some (sx s), x6] ∧ Same H (upd H7 G (.dK (putK (fd (kys (hs.take i) ++ [s ++ [48], s ++ [49]].take j) fun t => .str (gev m fs t)) (skey (s ++ [b])) v))) ∧ upd H7 G (.dK (putK (fd (kys (hs.take i) ++ [s ++ [48], s ++ [49]].take j) fun t => .str (gev m fs t)) (skey (s ++ [b])) v)) W = some (.dK rw) ∧ upd H7 G (.dK (putK (fd (kys (hs.take i) ++ [s ++ [48], s ++ [49]].take j) fun t => .str (gev m fs t)) (skey (s ++ [b])) v)) t = some (.tup ([s ++ [48], s ++ [49]].map sx)) ∧ upd H7 G (.dK (putK (fd (kys (hs.take i) ++ [s ++ [48], s ++ [49]].take j) fun t => .str (gev m fs t)) (skey (s ++ [b])) v)) G = some (.dK (fd (kys (hs.take i) ++ [s ++ [48], s ++ [49]].take (j + 1)) fun t => .str (gev m fs t))) := by
        rintro v rfl
        refine ⟨_, rfl, fun b o e => updn (fun q => by rw [q, nG] at e; cases e) (s6 _ _ e), updn hGW.symm eW6, updn hGt.symm et6, ?_⟩
        rw [upd_same, fd_put, if_neg unew, utk, ← List.append_assoc]
        exact congrArg (fun z => some (HO.dK z)) (fd_congr fun x _ => by
          by_cases q : x = s ++ [b]
          · rw [q, fup_at]
          · rw [fup_ne q])
      have ev := gev_snoc fs s b rk
      rw [hrw] at ev
      refine ⟨_, rfl, ⟨_, rfl, ⟨G, .str (gev m fs s), rfl, .inl ⟨_, skey s, .inl hE, rfl, vs⟩, ⟨rfl, ⟨_, rfl, ?_⟩⟩⟩⟩⟩
      by_cases q : gev m fs s = "all"
      · rw [show decide (V.str (gev m fs s) = V.str "all") = true from decide_eq_true (by rw [q])]
        refine iteT ?_
        refine ⟨_, rfl, ⟨_, rfl, ⟨G, _, rfl, .inl ⟨_, skey (s ++ [b]), hE, rfl, lk, rfl⟩, ?_⟩⟩⟩
        rw [if_pos q] at ev
        exact fin _ ev.symm
      · rw [show decide (V.str (gev m fs s) = V.str "all") = false from decide_eq_false (fun e => q (by injection e))]
        refine iteF ?_
        refine ⟨_, rfl, ⟨W, rfl, .inl ⟨_, .inl hW7⟩, ⟨_, rfl, ?_⟩⟩⟩
        refine ⟨_, rfl, ⟨_, rfl, ⟨G, .str (gev m fs s), rfl, .inl ⟨_, skey s, .inl hE, rfl, vs⟩, ?_⟩⟩⟩
        refine ⟨_, .inl ⟨_, skey (s ++ [b]), .inl hW7, rfl, rfl⟩, ?_⟩
        refine ⟨_, rfl, ⟨_, rfl, ⟨G, _, rfl, .inl ⟨_, skey (s ++ [b]), hE, rfl, lk, rfl⟩, ?_⟩⟩⟩
        rw [if_neg q] at ev
        exact fin _ ev.symm
    · rintro σ' H6 ⟨x6, rfl, s6, eW6, et6, eG6⟩
      refine ⟨_, _, rfl, s6, eW6, ?_⟩
      rw [eG6, List.take_add_one, hs']
      show _ = some (HO.dK (fd (kys (hs.take i ++ [s])) _))
      rw [kys_snoc]
      rfl
  · rintro σ' H3 ⟨x5, x6, rfl, s3, eW3, eG3⟩
    rw [List.length_map, List.take_length] at eG3
    exact ⟨_, rfl, k G H3 s3 nG eG3⟩
end
open PySem PySem.Spec PyProof.Rows
open L2 hiding pass0
abbrev s_sets_and_needs : Stmt := top 50
theorem sc_sets_and_needs : FnScope ["table", "free", "inner", "known", "stretch", "goal"] ["table", "free"] (defScope s_sets_and_needs) := ⟨rfl, rfl, rfl, by decide +kernel, rfl, by decide +kernel, by decide +kernel⟩
theorem bp_sets_and_needs : BndP "sets_and_needs" s_sets_and_needs ["table", "free"] := fun _ _ _ _ _ _ us h => match us, h with | [_, _], _ => rfl
/-- what an address is led to, none if it is free -/
def lab (m : List (Str × Str)) (fs : List (List Nat)) (z : List Nat) : Option Str := if M.frB fs z = true then none else some (goalT (look m) (SX.S z))
def SN (n : Nat) (m : List (Str × Str)) (fs : List (List Nat)) (t : List Nat) : SNd := SNk (lab m fs) (n - t.length) t
/-- what is known of a table -/
def KnAt (H : Hp) (D : Addr) (n : Nat) (m : List (Str × Str)) (fs : List (List Nat)) : Prop := ∃ (hs : List (List Nat)) (ad : List Nat → Addr), Hold (kz m ++ fs) hs ∧ H D = some (.dK (fd (kys hs) fun t => .ref (ad t))) ∧ ∀ t ∈ kys hs, SnA (.str "all") H (ad t) (SN n m fs t)
@[irreducible] def spSN (K : PySem.W.Frag) (C : Addr) : Sp := fun vs H Q _ => ∃ (a F : Addr) (n : Nat) (m : List (Str × Str)) (fs : List (List Nat)), vs = [.ref a, .ref F] ∧ TabAt C H a n m ∧ TabOk n m ∧ FrA K H F fs ∧ Fits n fs ∧ fs.Nodup ∧ fs.length ≤ 20 ∧
  ∀ D H', Same H H' → H D = none → KnAt H' D n m fs → Q (.ref D) H'
theorem sn_go {K : PySem.W.Frag} {C a F : Addr} {n : Nat} {m : List (Str × Str)} {fs : List (List Nat)} {H : Hp} {Q : VK} {E : XK} (ht : TabAt C H a n m) (ok : TabOk n m) (hF : FrA K H F fs) (ff : Fits n fs) (nd : fs.Nodup) (lf : fs.length ≤ 20)
    (k : ∀ D H', Same H H' → H D = none → KnAt H' D n m fs → Q (.ref D) H') : spSN K C [.ref a, .ref F] H Q E := by
  unfold spSN
  exact ⟨a, F, n, m, fs, rfl, ht, ok, hF, ff, nd, lf, k⟩
theorem SetV.mutD {H : Hp} {mk v : V} {o : Option (List Str)} {D : Addr} {kvs kvs' : List (Key × V)} (h : SetV H mk v o) (hD : H D = some (.dK kvs)) : SetV (upd H D (.dK kvs')) mk v o := by
  cases o with
  | none => exact h
  | some x =>
    obtain ⟨b, e, hb⟩ := h
    exact ⟨b, e, updn (fun q => by rw [q, hD] at hb; cases hb) hb⟩
theorem SnA.mutD {H : Hp} {mk : V} {a D : Addr} {t : SNd} {kvs kvs' : List (Key × V)} (h : SnA mk H a t) (hD : H D = some (.dK kvs)) : SnA mk (upd H D (.dK kvs')) a t := by
  obtain ⟨v, e, hv⟩ := h
  exact ⟨v, updn (fun q => by rw [q, hD] at e; cases e) e, hv.mutD hD⟩
theorem str0 (s : List Nat) : V.str (SX.S s ++ "0") = sx (s ++ [48]) := by rw [show ("0" : Str) = SX.S [48] by decide +kernel, S_app]; rfl
theorem str1 (s : List Nat) : V.str (SX.S s ++ "1") = sx (s ++ [49]) := by rw [show ("1" : Str) = SX.S [49] by decide +kernel, S_app]; rfl
theorem frozen_ext {m : List (Str × Str)} {fs : List (List Nat)} {t : List Nat} (h : ∀ p, t <+: p → p ≠ t → p ∉ kz m ++ fs) : ∀ (k : Nat) (y : List Nat), y.length = k → M.frB fs (t ++ y) = M.frB fs t ∧ goalT (look m) (SX.S (t ++ y)) = goalT (look m) (SX.S t)
  | 0, y, e => by
    have : y = [] := List.eq_nil_of_length_eq_zero e
    subst this
    rw [List.append_nil]
    exact ⟨rfl, rfl⟩
  | k + 1, y, e => by
    obtain ⟨z, b, rfl⟩ := snoc_of (s := y) (fun q => by rw [q] at e; cases e)
    have lz : z.length = k := by rw [List.length_append] at e; exact Nat.succ.inj e
    obtain ⟨h1, h2⟩ := frozen_ext h k z lz
    have hn := h (t ++ z ++ [b]) (by rw [List.append_assoc]; exact List.prefix_append _ _) (fun q => by
      have := congrArg List.length q
      rw [List.length_append, List.length_append] at this
      have : t.length + z.length + 1 = t.length := this
      omega)
    rw [List.mem_append] at hn
    rw [← List.append_assoc]
    constructor
    · rw [fr_snoc, decide_eq_false fun q => hn (.inr q), Bool.or_false, h1]
    · have e1 : look m (SX.S (t ++ z ++ [b])) = none := by
        have := look_kz (m := m) (t := t ++ z ++ [b])
        rw [decide_eq_false fun q => hn (.inl q)] at this
        cases c : look m (SX.S (t ++ z ++ [b])) with
        | none => rfl
        | some g => rw [c] at this; cases this
      rw [goal_snoc, e1, ← h2]
      rfl
def ev0 (m : List (Str × Str)) (fs : List (List Nat)) (t : List Nat) : SNd := (if gev m fs t = "all" then none else some [gev m fs t], 0)
theorem SN_leaf {n : Nat} {m : List (Str × Str)} {fs hs : List (List Nat)} {t : List Nat} (rk : ∀ p ∈ m, RowOk (n : Int) p) (ho : Hold (kz m ++ fs) hs) (ht : t ∉ hs) : SN n m fs t = ev0 m fs t := by
  have hx : ∀ p, t <+: p → p ≠ t → p ∉ kz m ++ fs := fun p hp hn q => ht ((ho.mem t).mpr ⟨p, q, hp, fun e => hn e.symm⟩)
  unfold SN ev0
  rw [SNk_even (o := if gev m fs t = "all" then none else some (gev m fs t)) fun y _ ly => ?_]
  · split <;> rfl
  · obtain ⟨h1, h2⟩ := frozen_ext hx _ y ly
    unfold lab
    rw [h1, h2]
    by_cases q : M.frB fs t = true
    · rw [if_pos q, if_pos ((gev_all rk).mpr q)]
    · rw [if_neg q, if_neg fun e => q ((gev_all rk).mp e)]
      unfold gev
      rw [if_neg q]
theorem SN_in {n : Nat} {m : List (Str × Str)} {fs : List (List Nat)} {t : List Nat} (h : t.length < n) : SN n m fs t = both2 (SN n m fs (t ++ [48])) (SN n m fs (t ++ [49])) := by
  unfold SN
  obtain ⟨k, hk⟩ : ∃ k, n - t.length = k + 1 := ⟨n - t.length - 1, by omega⟩
  have e : ∀ b : Nat, n - (t ++ [b]).length = k := fun b => by rw [List.length_append]; show n - (t.length + 1) = k; omega
  rw [hk, e, e]
  rfl
theorem goal_in (m : List (Str × Str)) (z : Str) : goalT (look m) z ∈ ("hole" : Str) :: m.map (·.2) := by
  unfold goalT
  cases c : lb (look m) z with
  | none => exact List.mem_cons_self
  | some x =>
    obtain ⟨g, hg⟩ := Option.isSome_iff_exists.mp (lbP_some c).1
    obtain ⟨p, hp, _, rfl⟩ := look_mem hg
    show (look m x).getD Str.empty ∈ _
    rw [hg]
    exact List.mem_cons_of_mem _ (List.mem_map_of_mem hp)
theorem nd_len {α : Type} [BEq α] [LawfulBEq α] : ∀ {x y : List α}, x.Nodup → (∀ a ∈ x, a ∈ y) → x.length ≤ y.length
  | [], _, _, _ => Nat.zero_le _
  | a :: x, y, h, s => by
    obtain ⟨h1, h2⟩ := List.nodup_cons.mp h
    have ha := s a List.mem_cons_self
    have := nd_len (x := x) (y := y.erase a) h2 fun b hb => (List.mem_erase_of_ne (show b ≠ a from fun e => h1 (e ▸ hb))).mpr (s b (List.mem_cons_of_mem _ hb))
    rw [List.length_erase_of_mem ha] at this
    have := List.length_pos_of_mem ha
    rw [List.length_cons]
    omega
theorem SN_sz {n : Nat} {m : List (Str × Str)} {fs : List (List Nat)} {t : List Nat} (ok : TabOk (n : Int) m) : Sz (SN n m fs t) := fun x hx => by
  obtain ⟨nd, _, sub⟩ := SNk_sub (GS := ("hole" : Str) :: m.map (·.2)) (fun y g _ _ e => by
    unfold lab at e
    split at e
    · cases e
    · cases e
      exact goal_in m _) x hx
  constructor
  · have := nd_len nd sub
    rw [List.length_cons, List.length_map] at this
    have := ok.few
    omega
  · intro g hg
    rcases List.mem_cons.mp (sub g hg) with rfl | h
    · exact ⟨by unfold Low; decide +kernel, by decide +kernel⟩
    · obtain ⟨p, hp, rfl⟩ := List.mem_map.mp h
      exact ⟨(ok.rows p hp).2.2.2.1, (ok.rows p hp).2.2.2.2⟩
theorem kys_fit {n : Nat} {ts hs : List (List Nat)} (ho : Hold ts hs) (ht : ∀ t ∈ ts, M.BL t ∧ t.length ≤ n) {x : List Nat} (h : x ∈ kys hs) : M.BL x ∧ x.length ≤ n := by
  rcases kys_mem.mp h with rfl | ⟨s, hs', q⟩
  · exact ⟨(fun c hc => by cases hc), Nat.zero_le _⟩
  · obtain ⟨t, ht', p, ne⟩ := (ho.mem s).mp hs'
    have h1 := ht t ht'
    have bl := ho.bl (fun t h => (ht t h).1) hs'
    have l1 : s.length < t.length := by
      rcases Nat.lt_or_ge s.length t.length with g | g
      · exact g
      · exact absurd (List.IsPrefix.eq_of_length p (Nat.le_antisymm p.length_le g)) ne
    rcases q with rfl | rfl
    · exact ⟨bl.app fun c hc => .inl (List.mem_singleton.mp hc), by rw [List.length_append]; show s.length + 1 ≤ n; omega⟩
    · exact ⟨bl.app fun c hc => .inr (List.mem_singleton.mp hc), by rw [List.length_append]; show s.length + 1 ≤ n; omega⟩
theorem hold_lt {n : Nat} {ts hs : List (List Nat)} (ho : Hold ts hs) (ht : ∀ t ∈ ts, M.BL t ∧ t.length ≤ n) {s : List Nat} (h : s ∈ hs) : s.length < n := by
  have := (kys_fit ho ht (kys_mem.mpr (.inr ⟨s, h, .inl rfl⟩))).2
  rw [List.length_append] at this
  exact this
section
variable {P : Program} {w : World} {K : PySem.W.Frag} {mg : Str → Option Value} {base : Heap} {f C : Addr} {fd' : FuncData}
theorem ok_sets (F : Fun K "sets_and_needs" "sets_and_needs" s_sets_and_needs f fd') (hm : mg "sets_and_needs" = some (.ref f)) (T : Txt K mg) (TC : TabC K C) (c_check_free : Nm P w K mg base CX0 5 "check_free" s_check_free ["width", "free"] (spCF K)) (c_holders : Nm P w K mg base CX0 1 "_holders" s_holders ["stretches"] (spHo)) (c_even_goals : Nm P w K mg base CX0 2 "_even_goals" s_even_goals ["table", "free", "inner"] (spEG K C)) (c_even_set : Nm P w K mg base CX0 1 "_even_set" s_even_set ["goal"] (spES)) (c_of_halves : Nm P w K mg base CX0 1 "_of_halves" s_of_halves ["zero", "one"] (spOH))
    (c_Table_width : Prp P w K mg base CX0 1 C "width" "Table.width" s_Table_width ["self"] (spWidth C)) (c_Table_rows : Mth P w K mg base CX0 1 C "rows" "Table.rows" s_Table_rows ["self"] (spTRows C)) : Nm P w K mg base CX0 6 "sets_and_needs" s_sets_and_needs ["table", "free"] (spSN K C) := by
  refine nm_of0 F hm sc_sets_and_needs (fun vs H Q E h => ?_) fun cdv A outer s H vs Q E hr h => ?_
  · unfold spSN at h
    obtain ⟨a, F, n, m, fs, rfl, ht, ok, hF, ff, nd, lf, k⟩ := h
    subst_vars
    rfl
  unfold spSN at h
  obtain ⟨a, F, n, m, fs, rfl, ht, ok, hF, ff, nd, lf, k⟩ := h
  refine ⟨_, (C8.pss_cut (ps_expr (pe_g c_check_free hr (by decide) L2.pass0 bp_check_free (by rfl) (pa_cons (pe_p c_Table_width TC.cl hr (by decide) L2.pass0 bm_Table_width (pv 0)) (pa_cons (pv 1) pa_nil))))
      (C8.pss_cut (ps_set (i := 2) sc_sets_and_needs.nd rfl (by first | exact Or.inl rfl | exact Or.inr rfl) (pe_g c_holders hr (by decide) L2.pass0 bp_holders (by rfl) (pa_cons (pe_lst (pa_starD rfl (pe_m0 c_Table_rows TC.cl hr (by decide) L2.pass0 bm_Table_rows (pv 0)) (StX.pa_star (pv 1) pa_nil))) pa_nil)))
      (C8.pss_cut (ps_setDc (i := 3) (own := [("stretch", 4), ("goal", 5)]) (g := (gTup K 2 (gCons (gName 4) (gCons (gName 5) gNil)))) (by rfl) sc_sets_and_needs.nd rfl rfl (sw_trueD rfl rfl rfl (by decide +kernel)) (L2.pi_items (pe_frz (pe_g c_even_goals hr (by decide) L2.pass0 bp_even_goals (by rfl) (pa_cons (pv 0) (pa_cons (pv 1) (pa_cons (pv 2) pa_nil)))))) (blkOk_by (own := [("stretch", 4), ("goal", 5)]) (N := ["table", "free", "inner", "known", "stretch", "goal"]) (sc := defScope s_sets_and_needs) (by decide +kernel)) (fun _ _ _ _ _ => (pg_tup (by rfl) (pgs_cons (pg_name (i := 4) sc_sets_and_needs.nd rfl (by first | exact Or.inl rfl | exact Or.inr rfl)) (pgs_cons (pg_name (i := 5) sc_sets_and_needs.nd rfl (by first | exact Or.inl rfl | exact Or.inr rfl)) pgs_nil)))) (fun _ _ _ _ _ => pts_nil) (fun _ _ _ _ _ => (pv 4)) (fun _ _ _ _ _ => (pe_tup (pa_cons (pe_g c_even_set hr (by decide) L2.pass0 bp_even_set (by rfl) (pa_cons (pv 5) pa_nil)) (pa_cons pe_int pa_nil)))))
      (pss_cons (ps_for PassesOwn.never rfl (pi_reversed (by rfl) T.b_reversed (pa_cons (pe_callTy call_list_of (by rfl) T.b_list (by decide +kernel) (pa_cons (pv 2) pa_nil)) pa_nil)) (pg_name (i := 4) sc_sets_and_needs.nd rfl (by first | exact Or.inl rfl | exact Or.inr rfl)) (pss_one (ps_asg (pe_g c_of_halves hr (by decide) L2.pass0 bp_of_halves (by rfl) (pa_cons (pe_dget hr.u1 (pv 3) (pe_op op_add_str (pv 4) pe_str) (fun _ _ => rfl)) (pa_cons (pe_dget hr.u1 (pv 3) (pe_op op_add_str (pv 4) pe_str) (fun _ _ => rfl)) pa_nil))) (pg_sub (pv 3) (pv 4) (set_dict hr.u1)))))
      (pss_one (ps_ret (pv 3))))))), ?_⟩
  have rk := ok.rows
  have h0 : 1 ≤ n := by have := ok.w0; omega
  have h1 : n ≤ 100 := by have := ok.w1; omega
  obtain ⟨dx, Dm, ha, hDm, hne⟩ := ht
  have tt : TabAt C H a n m := ⟨dx, Dm, ha, hDm, hne⟩
  have hts : ∀ t ∈ kz m ++ fs, M.BL t ∧ t.length ≤ n := fun t ht => by
    rcases List.mem_append.mp ht with h | h
    · exact kz_fits rk t h
    · exact ff t h
  have lts : (kz m ++ fs).length ≤ 60 := by
    rw [List.length_append, kz_len]
    have := ok.few
    omega
  refine ⟨fun σ' H' => σ' = [some (.ref a), some (.ref F), none, none, none, none] ∧ Same H H', ?_, ?_⟩
  · refine ⟨_, rfl, ⟨a, dx, _, rfl, ha, width_go tt ?_⟩⟩
    refine ⟨_, rfl, ?_⟩
    exact cf_go h0 h1 hF ff nd lf fun H1 s1 => ⟨rfl, s1⟩
  rintro σ' H1 ⟨rfl, s1⟩
  refine ⟨fun σ' H' => ∃ (R : Addr) (hs : List (List Nat)), σ' = [some (.ref a), some (.ref F), some (.ref R), none, none, none] ∧ Same H H' ∧ H' R = some (.lst (hs.map sx)) ∧ Hold (kz m ++ fs) hs, ?_, ?_⟩
  · refine ⟨_, rfl, ⟨⟨a, dx, _, rfl, s1 _ _ ha, rfl⟩, ?_⟩⟩
    refine trows_go (tt.to s1) fun p np => ?_
    have s2 := s1.new (o := HO.dK (tk m)) np
    refine ⟨p, tk m, rfl, .inl upd_same, ?_⟩
    refine ⟨_, rfl, ⟨F, fs.map sx, rfl, ?_, ?_⟩⟩
    · rcases hF.seq with q | q
      · exact .inr (q _ s2)
      · exact .inl (q _ s2)
    generalize upd H1 p (.dK (tk m)) = H2 at s2 ⊢
    have el : ((tk m).map fun kv => kV kv.1) ++ (fs.map sx ++ []) = (kz m ++ fs).map sx := by rw [tk_kV, ← kz_V, List.append_nil, List.map_append]
    refine ⟨szl (by rw [el, List.length_map]; omega), fun L nL => ?_⟩
    rw [el]
    have s3 := s2.new (o := HO.lst ((kz m ++ fs).map sx)) nL
    refine ho_go upd_same lts (fun t ht => by have := (hts t ht).2; omega) fun R hs H3 s4 nR eR ho => ?_
    exact ⟨R, hs, rfl, s3.trans s4, eR, ho⟩
  rintro σ' H2 ⟨R, hs, rfl, s2, eR, ho⟩
  clear s1
  have hlen : hs.length ≤ 6000 := by have := ho.len; omega
  have klen := kys_len hs
  have knd := kys_nd ho.nd
  refine ⟨fun σ' H' => ∃ (D : Addr) (ad : List Nat → Addr) (x4 x5 : Option V), σ' = [some (.ref a), some (.ref F), some (.ref R), some (.ref D), x4, x5] ∧ Same H H' ∧ H D = none ∧ H' R = some (.lst (hs.map sx)) ∧ D ≠ R ∧ H' D = some (.dK (fd (kys hs) fun t => .ref (ad t))) ∧ ∀ t ∈ kys hs, SnA (.str "all") H' (ad t) (ev0 m fs t), ?_, ?_⟩
  · refine ⟨_, rfl, ⟨_, rfl, ⟨_, rfl, ?_⟩⟩⟩
    refine eg_go (tt.to s2) ok (hF.same s2) ff nd lf eR ho fun G H3 s3 nG eG => ?_
    refine ⟨G, _, rfl, eG, trivial, fun od => ?_⟩
    refine ⟨G, od, _, rfl, upd_same, fun D nD => ?_⟩
    have hDG : D ≠ G := fun q => by rw [q, upd_same] at nD; cases nD
    have s4 : Same H (upd H3 G (.frz od (.dK (fd (kys hs) fun t => .str (gev m fs t))))) := fun b o e => updn (fun q => by rw [q, s2.back nG] at e; cases e) ((s2.trans s3) _ _ e)
    have eG4 : upd H3 G (.frz od (.dK (fd (kys hs) fun t => .str (gev m fs t)))) G = some (.frz od (.dK (fd (kys hs) fun t => .str (gev m fs t)))) := upd_same
    have eR4 : upd H3 G (.frz od (.dK (fd (kys hs) fun t => .str (gev m fs t)))) R = some (.lst (hs.map sx)) := updn (fun q => by rw [← q, eR] at nG; cases nG) (s3 _ _ eR)
    generalize upd H3 G (.frz od (.dK (fd (kys hs) fun t => .str (gev m fs t)))) = H4 at nD s4 eG4 eR4 ⊢
    refine dc_it walk_items (fun i H' => ∃ ad : List Nat → Addr, H' D = some (.dK (fd ((kys hs).take i) fun t => .ref (ad t))) ∧ (∀ t ∈ (kys hs).take i, SnA (.str "all") H' (ad t) (ev0 m fs t)) ∧ Same H4 H') ⟨fun _ => 0, upd_same, (fun t h => by cases h), (Same.refl H4).new nD⟩ (fun i H' _ ⟨_, _, _, s⟩ => s _ _ eG4) ?_ ?_
    · rintro i x HA HB hi ⟨ad, hD, hev, sm⟩ ⟨t0, x1, x2, rfl, nt, rfl, e1, e2⟩
      obtain ⟨t, hk, rfl, rfl⟩ : ∃ t, (kys hs)[i]? = some t ∧ x1 = sx t ∧ x2 = .str (gev m fs t) := by
        dsimp only at e1 e2
        rw [fd_get] at e1 e2
        cases hx : (kys hs)[i]? with
        | none => rw [hx] at e1; cases e1
        | some t =>
          rw [hx] at e1 e2
          exact ⟨t, rfl, (Option.some.inj e1).symm, (Option.some.inj e2).symm⟩
      have li : i < (kys hs).length := (List.getElem?_eq_some_iff.mp hk).1
      have sA : Same HA (upd HA t0 (.tup [sx t, .str (gev m fs t)])) := (Same.refl HA).new nt
      refine ⟨t0, [sx t, .str (gev m fs t)], rfl, SqT.of upd_same, rfl, ?_⟩
      refine ⟨_, _, rfl, ?_⟩
      refine ⟨_, _, rfl, ?_⟩
      refine ⟨rfl, rfl, ?_⟩
      dsimp only [tYes]
      rw [if_pos rfl]
      refine ⟨_, rfl, ?_⟩
      refine ⟨_, rfl, es_go fun v HC sC vC => ?_⟩
      refine ⟨szl (by show 2 ≤ 1000000; decide), fun c nc => ?_⟩
      have sc := (sA.trans sC).new (o := HO.tup [v, .int 0]) nc
      have hD5 := sc _ _ hD
      have nw : t ∉ (kys hs).take i := take_new knd hk
      refine ⟨_, skey t, rfl, hD5, szt (by rw [fd_len, List.length_take]; omega), fup ad t c, ?_, fun u hu => ?_, fun b o e => updn (fun q => by rw [q, nD] at e; cases e) (sc _ _ (sm _ _ e))⟩
      · rw [upd_same, fd_put, if_neg nw, List.take_add_one, hk]
        exact congrArg (fun z => some (HO.dK z)) (fd_congr fun x _ => by
          by_cases q : x = t
          · rw [q, fup_at, fup_at]
          · rw [fup_ne q, fup_ne q])
      · refine SnA.mutD ?_ hD5
        rw [List.take_add_one, hk, List.mem_append] at hu
        by_cases q : u = t
        · rw [q, fup_at]
          exact ⟨v, upd_same, vC.to ((Same.refl HC).new nc)⟩
        · rw [fup_ne q]
          exact (hev u (hu.resolve_right fun h => q (by simpa using h))).to sc
    · rintro H5 ⟨ad, hD, hev, sm⟩
      rw [fd_len, List.take_length] at hD hev
      have nDH : H D = none := s4.back nD
      refine ⟨D, ad, _, _, rfl, s4.trans sm, nDH, sm _ _ eR4, fun q => ?_, hD, hev⟩
      rw [q, eR4] at nD
      cases nD
  rintro σ' H3 ⟨D, ad, x4, x5, rfl, s3, nD, eR3, hDR, eD, hev⟩
  refine ⟨_, rfl, ⟨R, _, rfl, .inl (SqL.of eR3), fun L nL => ?_⟩⟩
  have sL := s3.new (o := HO.lst (hs.map sx)) nL
  have eL : upd H3 L (.lst (hs.map sx)) L = some (.lst (hs.map sx)) := upd_same
  have hDL : D ≠ L := nonn nL eD
  have eD3 := updn (o := HO.lst (hs.map sx)) hDL eD
  have hev3 : ∀ t ∈ kys hs, SnA (.str "all") (upd H3 L (.lst (hs.map sx))) (ad t) (ev0 m fs t) := fun t h => (hev t h).to ((Same.refl H3).new nL)
  generalize upd H3 L (.lst (hs.map sx)) = H4 at sL eL eD3 hev3 ⊢
  refine ⟨L, _, rfl, SqL.of eL, ?_⟩
  refine for_it (walk_rev (xs := hs.map sx)) (fun i σ' H' => ∃ (ad : List Nat → Addr) (x4 x5 : Option V), σ' = [some (.ref a), some (.ref F), some (.ref R), some (.ref D), x4, x5] ∧ Same H H' ∧ H' L = some (.lst (hs.map sx)) ∧ H' D = some (.dK (fd (kys hs) fun t => .ref (ad t))) ∧ ∀ t ∈ kys hs, SnA (.str "all") H' (ad t) (if t ∈ hs.drop (hs.length - i) then SN n m fs t else ev0 m fs t))
    ⟨ad, _, _, rfl, sL, eL, eD3, fun t h => by rw [if_neg (by rw [Nat.sub_zero, List.drop_length]; simp)]; exact hev3 t h⟩ (fun i σ' H' _ h => let ⟨_, _, _, _, _, e, _⟩ := h; SqL.of e) ?_ ?_
  · clear eD3 hev3 sL eL hev eD ad
    rintro i x σ' H5 H6 hi ⟨ad, x4, x5, rfl, s5, eL5, eD5, hev⟩ ⟨rfl, hx⟩
    rw [List.length_map] at hi hx
    obtain ⟨s, hs', rfl⟩ := sx_at hx
    have hm := List.mem_of_getElem? hs'
    have sl := hold_lt ho hts hm
    have sk : s ∈ kys hs := by
      rcases kys_mem.mp (ho.key (fun t ht => (hts t ht).1) hs') with h | ⟨p, hp, h⟩
      · exact kys_mem.mpr (.inl h)
      · exact kys_mem.mpr (.inr ⟨p, List.mem_of_mem_take hp, h⟩)
    have k0 : s ++ [48] ∈ kys hs := kys_mem.mpr (.inr ⟨s, hm, .inl rfl⟩)
    have k1 : s ++ [49] ∈ kys hs := kys_mem.mpr (.inr ⟨s, hm, .inr rfl⟩)
    have val : ∀ b, (if s ++ [b] ∈ hs.drop (hs.length - i) then SN n m fs (s ++ [b]) else ev0 m fs (s ++ [b])) = SN n m fs (s ++ [b]) := fun b => by
      by_cases q : s ++ [b] ∈ hs.drop (hs.length - i)
      · rw [if_pos q]
      · rw [if_neg q]
        refine (SN_leaf rk ho fun h => q ?_).symm
        obtain ⟨j, hj⟩ := List.getElem?_of_mem h
        have := ho.ahead hj hs' (by rw [List.length_append]; exact Nat.lt_succ_self _)
        refine List.mem_of_getElem? (i := j - (hs.length - i)) ?_
        rw [List.getElem?_drop, show hs.length - i + (j - (hs.length - i)) = j by omega]
        exact hj
    have h0' := hev _ k0
    have h1' := hev _ k1
    rw [val] at h0' h1'
    have hD : H6 D = some (.dK (fd (kys hs) fun t => .ref (ad t))) := eD5
    have v0 : ∀ b, s ++ [b] ∈ kys hs → some (V.ref (ad (s ++ [b]))) = valV (fd (kys hs) fun t => V.ref (ad t)) (skey (s ++ [b])) := fun b h => by rw [fd_val, if_pos h]
    refine ⟨_, rfl, ⟨_, rfl, ⟨_, _, rfl, rfl, szl (by rw [sx_len]; show s.length + 1 ≤ 1000000; omega), ?_⟩⟩⟩
    rw [str0]
    refine ⟨D, _, rfl, .inl ⟨_, skey (s ++ [48]), .inl hD, rfl, v0 48 k0⟩, ?_⟩
    refine ⟨_, rfl, ⟨_, rfl, ⟨_, _, rfl, rfl, szl (by rw [sx_len]; show s.length + 1 ≤ 1000000; omega), ?_⟩⟩⟩
    rw [str1]
    refine ⟨D, _, rfl, .inl ⟨_, skey (s ++ [49]), .inl hD, rfl, v0 49 k1⟩, ?_⟩
    refine oh_go h0' h1' (SN_sz ok) (SN_sz ok) fun c H7 s7 hc => ?_
    rw [← SN_in sl] at hc
    have hD7 := s7 _ _ hD
    refine ⟨_, rfl, ⟨_, rfl, ⟨D, _, rfl, .inl ⟨_, skey s, hD7, rfl, szt (by rw [fd_len]; omega), rfl⟩, ?_⟩⟩⟩
    refine ⟨fup ad s c, _, _, rfl, fun b o e => updn (fun q => by rw [q, nD] at e; cases e) (s7 _ _ (s5 _ _ e)), updn hDL.symm (s7 _ _ eL5), ?_, fun u hu => ?_⟩
    · rw [upd_same, fd_put, if_pos sk]
      exact congrArg (fun z => some (HO.dK z)) (fd_congr fun x _ => by
        by_cases q : x = s
        · rw [q, fup_at, fup_at]
        · rw [fup_ne q, fup_ne q])
    · have hdr : hs.drop (hs.length - (i + 1)) = s :: hs.drop (hs.length - i) := by
        have li : hs.length - (i + 1) < hs.length := by omega
        rw [List.drop_eq_getElem_cons li, show hs.length - (i + 1) + 1 = hs.length - i by omega]
        congr 1
        obtain ⟨_, e⟩ := List.getElem?_eq_some_iff.mp hs'
        rw [← e]
        congr 1
        omega
      refine SnA.mutD ?_ hD7
      rw [hdr]
      by_cases q : u = s
      · rw [q, fup_at, if_pos List.mem_cons_self]
        exact hc
      · rw [fup_ne q]
        have := (hev u hu).to s7
        by_cases c : u ∈ hs.drop (hs.length - i)
        · rw [if_pos c] at this
          rw [if_pos (List.mem_cons_of_mem _ c)]
          exact this
        · rw [if_neg c] at this
          rw [if_neg fun z => (List.mem_cons.mp z).elim q c]
          exact this
  · rintro σ' H5 ⟨ad, x4, x5, rfl, s5, eL5, eD5, hev⟩
    rw [List.length_map, Nat.sub_self, List.drop_zero] at hev
    refine ⟨_, rfl, k D H5 s5 nD ⟨hs, ad, ho, eD5, fun t ht => ?_⟩⟩
    have := hev t ht
    by_cases q : t ∈ hs
    · rw [if_pos q] at this
      exact this
    · rw [if_neg q, ← SN_leaf rk ho q] at this
      exact this
end
open PySem PySem.Spec PyProof.Rows
open L2 hiding pass0
abbrev s_told_at : Stmt := top 51
theorem sc_told_at : FnScope ["table", "stretch", "free", "known"] ["table", "stretch", "free"] (defScope s_told_at) := ⟨rfl, rfl, rfl, by decide +kernel, rfl, by decide +kernel, by decide +kernel⟩
theorem bp_told_at : BndP "_told_at" s_told_at ["table", "stretch", "free"] := fun _ _ _ _ _ _ us h => match us, h with | [_, _, _], _ => rfl
abbrev s_set_at : Stmt := top 46
theorem sc_set_at : FnScope ["table", "stretch", "free", "goals", "_"] ["table", "stretch", "free"] (defScope s_set_at) := ⟨rfl, rfl, rfl, by decide +kernel, rfl, by decide +kernel, by decide +kernel⟩
abbrev s_need_at : Stmt := top 47
theorem sc_need_at : FnScope ["table", "stretch", "free", "_", "need"] ["table", "stretch", "free"] (defScope s_need_at) := ⟨rfl, rfl, rfl, by decide +kernel, rfl, by decide +kernel, by decide +kernel⟩
abbrev s_fewest : Stmt := top 48
theorem sc_fewest : FnScope ["table", "free", "goals", "need"] ["table", "free"] (defScope s_fewest) := ⟨rfl, rfl, rfl, by decide +kernel, rfl, by decide +kernel, by decide +kernel⟩
theorem SN_lg {n : Nat} {m : List (Str × Str)} {fs hs : List (List Nat)} {t : List Nat} (rk : ∀ p ∈ m, RowOk (n : Int) p) (ho : Hold (kz m ++ fs) hs) (bl : M.BL t) : SN n m fs (M.lg (kys hs) t) = SN n m fs t := by
  have h0 : [] ∈ kys hs := kys_mem.mpr (.inl rfl)
  have hl := M.lg_is (a := t) h0
  generalize M.lg (kys hs) t = l at hl
  obtain ⟨y, rfl⟩ := hl.pre
  cases y with
  | nil => rw [List.append_nil]
  | cons b y =>
    have nl : l ∉ hs := fun q => by
      have hb : b = 48 ∨ b = 49 := bl b (List.mem_append_right _ List.mem_cons_self)
      have hk : l ++ [b] ∈ kys hs := kys_mem.mpr (.inr ⟨l, q, by rcases hb with rfl | rfl <;> simp⟩)
      have := hl.top _ hk ⟨y, by simp⟩
      rw [List.length_append] at this
      have : l.length + 1 ≤ l.length := this
      omega
    have nt : l ++ b :: y ∉ hs := fun q => nl (ho.up q (List.prefix_append _ _))
    rw [SN_leaf rk ho nl, SN_leaf rk ho nt]
    have hx : ∀ p, l <+: p → p ≠ l → p ∉ kz m ++ fs := fun p hp hn q => nl ((ho.mem l).mpr ⟨p, q, hp, fun e => hn e.symm⟩)
    obtain ⟨h1, h2⟩ := frozen_ext hx _ (b :: y) rfl
    unfold ev0 gev
    rw [h1, h2]
/-- what is asked of a table and free stretches -/
structure TF (K : PySem.W.Frag) (C : Addr) (H : Hp) (a F : Addr) (n : Nat) (m : List (Str × Str)) (fs : List (List Nat)) : Prop where
  ht : TabAt C H a n m
  ok : TabOk (n : Int) m
  hF : FrA K H F fs
  ff : Fits n fs
  nd : fs.Nodup
  lf : fs.length ≤ 20
theorem TF.to {K : PySem.W.Frag} {C : Addr} {H H' : Hp} {a F : Addr} {n : Nat} {m : List (Str × Str)} {fs : List (List Nat)} (h : TF K C H a F n m fs) (s : Same H H') : TF K C H' a F n m fs := ⟨h.ht.to s, h.ok, h.hF.same s, h.ff, h.nd, h.lf⟩
@[irreducible] def spTo (K : PySem.W.Frag) (C : Addr) : Sp := fun vs H Q _ => ∃ (a F : Addr) (n : Nat) (m : List (Str × Str)) (fs : List (List Nat)) (t : List Nat), vs = [.ref a, sx t, .ref F] ∧ TF K C H a F n m fs ∧ M.BL t ∧ t.length ≤ n ∧ ∀ c H', Same H H' → SnA (.str "all") H' c (SN n m fs t) → Q (.ref c) H'
@[irreducible] def spSA (K : PySem.W.Frag) (C : Addr) : Sp := fun vs H Q _ => ∃ (a F : Addr) (n : Nat) (m : List (Str × Str)) (fs : List (List Nat)) (t : List Nat), vs = [.ref a, sx t, .ref F] ∧ TF K C H a F n m fs ∧ M.BL t ∧ t.length ≤ n ∧ ((SN n m fs t).1 = none → ∀ H', Same H H' → Q (.str "all") H') ∧ ∀ x, (SN n m fs t).1 = some x → ∀ L H', Same H H' → H L = none → H' L = some (.lst (x.map V.str)) → Q (.ref L) H'
@[irreducible] def spNA (K : PySem.W.Frag) (C : Addr) : Sp := fun vs H Q _ => ∃ (a F : Addr) (n : Nat) (m : List (Str × Str)) (fs : List (List Nat)) (t : List Nat), vs = [.ref a, sx t, .ref F] ∧ TF K C H a F n m fs ∧ M.BL t ∧ t.length ≤ n ∧ ∀ H', Same H H' → Q (.int ((SN n m fs t).2 : Nat)) H'
@[irreducible] def spFe (K : PySem.W.Frag) (C : Addr) : Sp := fun vs H Q _ => ∃ (a F : Addr) (n : Nat) (m : List (Str × Str)) (fs : List (List Nat)), vs = [.ref a, .ref F] ∧ TF K C H a F n m fs ∧ ∀ H', Same H H' → Q (.int (cst (SN n m fs []) "hole" : Nat)) H'
section
variable {K : PySem.W.Frag} {C a F : Addr} {n : Nat} {m : List (Str × Str)} {fs : List (List Nat)} {t : List Nat} {H : Hp} {Q : VK} {E : XK}
theorem to_go (tf : TF K C H a F n m fs) (bl : M.BL t) (tl : t.length ≤ n) (k : ∀ c H', Same H H' → SnA (.str "all") H' c (SN n m fs t) → Q (.ref c) H') : spTo K C [.ref a, sx t, .ref F] H Q E := by
  unfold spTo
  exact ⟨a, F, n, m, fs, t, rfl, tf, bl, tl, k⟩
theorem sa_go (tf : TF K C H a F n m fs) (bl : M.BL t) (tl : t.length ≤ n) (k1 : (SN n m fs t).1 = none → ∀ H', Same H H' → Q (.str "all") H') (k2 : ∀ x, (SN n m fs t).1 = some x → ∀ L H', Same H H' → H L = none → H' L = some (.lst (x.map V.str)) → Q (.ref L) H') : spSA K C [.ref a, sx t, .ref F] H Q E := by
  unfold spSA
  exact ⟨a, F, n, m, fs, t, rfl, tf, bl, tl, k1, k2⟩
theorem na_go (tf : TF K C H a F n m fs) (bl : M.BL t) (tl : t.length ≤ n) (k : ∀ H', Same H H' → Q (.int ((SN n m fs t).2 : Nat)) H') : spNA K C [.ref a, sx t, .ref F] H Q E := by
  unfold spNA
  exact ⟨a, F, n, m, fs, t, rfl, tf, bl, tl, k⟩
theorem fe_go (tf : TF K C H a F n m fs) (k : ∀ H', Same H H' → Q (.int (cst (SN n m fs []) "hole" : Nat)) H') : spFe K C [.ref a, .ref F] H Q E := by
  unfold spFe
  exact ⟨a, F, n, m, fs, rfl, tf, k⟩
end
section
variable {P : Program} {w : World} {K : PySem.W.Frag} {mg : Str → Option Value} {base : Heap} {f C : Addr} {fd' : FuncData}
theorem ok_told_at (F : Fun K "_told_at" "_told_at" s_told_at f fd') (hm : mg "_told_at" = some (.ref f)) (T : Txt K mg) (TC : TabC K C) (c_check_stretch : Nm P w K mg base CX0 5 "check_stretch" s_check_stretch ["width", "stretch"] (spCT strB)) (c_sets_and_needs : Nm P w K mg base CX0 6 "sets_and_needs" s_sets_and_needs ["table", "free"] (spSN K C)) (c_longest_beginning : Nm P w K mg base CX0 1 "longest_beginning" s_longest_beginning ["known", "bits"] (spLB))
    (c_Table_width : Prp P w K mg base CX0 1 C "width" "Table.width" s_Table_width ["self"] (spWidth C)) : Nm P w K mg base CX0 7 "_told_at" s_told_at ["table", "stretch", "free"] (spTo K C) := by
  refine nm_of F hm sc_told_at (fun vs H Q E h => ?_) fun cdv A outer s H vs Q E hr h => ?_
  · unfold spTo at h
    obtain ⟨a, F, n, m, fs, t, rfl, tf, bl, tl, k⟩ := h
    subst_vars
    rfl
  unfold spTo at h
  obtain ⟨a, F, n, m, fs, t, rfl, tf, bl, tl, k⟩ := h
  refine ⟨_, (pss_cons (ps_expr (pe_g c_check_stretch hr (by decide) L2.pass0 bp_check_stretch (by rfl) (pa_cons (pe_p c_Table_width TC.cl hr (by decide) L2.pass0 bm_Table_width (pv 0)) (pa_cons (pv 1) pa_nil))))
      (pss_cons (ps_set (i := 3) sc_told_at.nd rfl (by first | exact Or.inl rfl | exact Or.inr rfl) (pe_g c_sets_and_needs hr (by decide) L2.pass0 bp_sets_and_needs (by rfl) (pa_cons (pv 0) (pa_cons (pv 2) pa_nil))))
      (pss_one (ps_ret (pe_dget hr.u1 (pv 3) (pe_g c_longest_beginning hr (by decide) L2.pass0 bp_longest_beginning (by rfl) (pa_cons (pv 3) (pa_cons (pv 1) pa_nil))) (fun _ _ => rfl)))))), ?_⟩
  have h0 : 1 ≤ n := by have := tf.ok.w0; omega
  have h1 : n ≤ 100 := by have := tf.ok.w1; omega
  obtain ⟨dx, Dm, ha, hDm, hne⟩ := tf.ht
  refine ⟨_, rfl, ⟨a, dx, _, rfl, ha, width_go tf.ht ?_⟩⟩
  refine ⟨_, rfl, ?_⟩
  refine ct_go (by omega) (by omega) (by rw [sx_len]; omega) (str_ok bl tl) fun H1 s1 => ?_
  have tf1 := tf.to s1
  refine ⟨_, rfl, ⟨_, rfl, ?_⟩⟩
  refine sn_go tf1.ht tf1.ok tf1.hF tf1.ff tf1.nd tf1.lf fun D H2 s2 nD ⟨hs, ad, ho, eD, hev⟩ => ?_
  have h00 : [] ∈ kys hs := kys_mem.mpr (.inl rfl)
  refine ⟨_, rfl, ⟨_, rfl, ⟨_, rfl, ?_⟩⟩⟩
  refine lb_go (.inl eD) h00 (by omega) fun H3 s3 => ?_
  have hmem := (M.lg_is (a := t) h00).mem
  refine ⟨D, .ref (ad (M.lg (kys hs) t)), rfl, .inl ⟨_, skey (M.lg (kys hs) t), .inl (s3 _ _ eD), rfl, ?_⟩, ?_⟩
  · rw [fd_val, if_pos hmem]
  · refine k _ H3 ((s1.trans s2).trans s3) ?_
    rw [← SN_lg tf.ok.rows ho bl]
    exact (hev _ hmem).to s3
theorem ok_set_at {params : Arguments} {dvs : List V} {kws : List (Str × V)} (F : FunD K "set_at" "set_at" params (defBody s_set_at) (defScope s_set_at) dvs kws f fd') (T : Txt K mg) (cA : ∃ u, mg "ALL" = some u ∧ RelV (.str "all") u) (c_told_at : Nm P w K mg base CX0 7 "_told_at" s_told_at ["table", "stretch", "free"] (spTo K C)) : FnG P w K mg base CX0 8 f fd' ["table", "stretch", "free"] (spSA K C) := by
  obtain ⟨oc, od, dV, kV, doc, pm, an, cdv, ct, osl, rfl, lk, hcd, _, _⟩ := F.ex
  refine fnG_core0 lk hcd sc_set_at (fun vs H Q E h => ?_) fun A outer s H vs Q E hr h => ?_
  · unfold spSA at h
    obtain ⟨a, F, n, m, fs, t, rfl, _⟩ := h
    rfl
  unfold spSA at h
  obtain ⟨a, F, n, m, fs, t, rfl, tf, bl, tl, k1, k2⟩ := h
  refine ⟨_, (pss_cons (ps_asg (pe_g c_told_at hr (by decide) L2.pass0 bp_told_at (by rfl) (pa_cons (pv 0) (pa_cons (pv 1) (pa_cons (pv 2) pa_nil)))) (pg_tup (by rfl) (pgs_cons (pg_name (i := 3) sc_set_at.nd rfl (by first | exact Or.inl rfl | exact Or.inr rfl)) (pgs_cons (pg_name (i := 4) sc_set_at.nd rfl (by first | exact Or.inl rfl | exact Or.inr rfl)) pgs_nil))))
      (pss_cons (ps_if (pt_cmpR (op_eqDK (K := K) rfl hr.u64) (pv 3) (pe_cst (by rfl) cA) (nomark _)) (pss_one (ps_ret (pe_cst (by rfl) cA))) pss_nil)
      (pss_one (ps_ret (pe_callTy call_list_of (by rfl) T.b_list (by decide +kernel) (pa_cons (pv 3) pa_nil)))))), ?_⟩
  refine ⟨_, rfl, ⟨_, rfl, ⟨_, rfl, ?_⟩⟩⟩
  have hz := SN_sz (t := t) (fs := fs) tf.ok
  refine to_go tf bl tl fun c H1 s1 ⟨v, ec, hv⟩ => ?_
  generalize SN n m fs t = S at ec hv k1 k2 hz
  refine ⟨c, _, rfl, SqT.of ec, rfl, ⟨_, _, rfl, ⟨_, _, rfl, ⟨rfl, ?_⟩⟩⟩⟩
  have dA : Dp K H1 (.str "all") (.str "all") := .str _
  have sA : SeqAt.shaped (.str "all") = true := (show Fit 200 0 (.str "all") from Fit.str (by decide +kernel) (by decide +kernel)).shp (by decide)
  have eA : PyData.eqv (.str "all") (.str "all") = true := by simp [PyData.eqv]
  have eL : ∀ zs : List Str, PyData.eqv (.list (zs.map PyData.str)) (.str "all") = false := fun zs => by simp [PyData.eqv]
  obtain ⟨o, i⟩ := S
  cases o with
  | none =>
    obtain rfl : v = .str "all" := hv
    refine ⟨_, rfl, ⟨_, _, dA, dA, sA, sA, ?_⟩⟩
    refine ⟨_, rfl, ?_⟩
    rw [eA]
    refine iteT ?_
    exact k1 rfl H1 s1
  | some xs =>
    obtain ⟨A1, rfl, hA⟩ := hv
    obtain ⟨lx, gx⟩ := hz xs rfl
    refine ⟨_, rfl, ⟨_, _, .lst (SqL.of hA) (dps xs), dA, (strs_fit gx).shp (by decide), sA, ?_⟩⟩
    refine ⟨_, rfl, ?_⟩
    rw [eL]
    refine iteF ?_
    refine ⟨_, rfl, ⟨A1, _, rfl, .inl (SqL.of hA), fun L nL => ?_⟩⟩
    exact k2 xs rfl L _ (s1.new nL) (s1.back nL) upd_same
theorem ok_need_at {params : Arguments} {dvs : List V} {kws : List (Str × V)} (F : FunD K "need_at" "need_at" params (defBody s_need_at) (defScope s_need_at) dvs kws f fd') (T : Txt K mg) (c_told_at : Nm P w K mg base CX0 7 "_told_at" s_told_at ["table", "stretch", "free"] (spTo K C)) : FnG P w K mg base CX0 8 f fd' ["table", "stretch", "free"] (spNA K C) := by
  obtain ⟨oc, od, dV, kV, doc, pm, an, cdv, ct, osl, rfl, lk, hcd, _, _⟩ := F.ex
  refine fnG_core0 lk hcd sc_need_at (fun vs H Q E h => ?_) fun A outer s H vs Q E hr h => ?_
  · unfold spNA at h
    obtain ⟨a, F, n, m, fs, t, rfl, _⟩ := h
    rfl
  unfold spNA at h
  obtain ⟨a, F, n, m, fs, t, rfl, tf, bl, tl, k⟩ := h
  refine ⟨_, (pss_cons (ps_asg (pe_g c_told_at hr (by decide) L2.pass0 bp_told_at (by rfl) (pa_cons (pv 0) (pa_cons (pv 1) (pa_cons (pv 2) pa_nil)))) (pg_tup (by rfl) (pgs_cons (pg_name (i := 3) sc_need_at.nd rfl (by first | exact Or.inl rfl | exact Or.inr rfl)) (pgs_cons (pg_name (i := 4) sc_need_at.nd rfl (by first | exact Or.inl rfl | exact Or.inr rfl)) pgs_nil))))
      (pss_one (ps_ret (pv 4)))), ?_⟩
  refine ⟨_, rfl, ⟨_, rfl, ⟨_, rfl, ?_⟩⟩⟩
  refine to_go tf bl tl fun c H1 s1 ⟨v, ec, hv⟩ => ?_
  refine ⟨c, _, rfl, SqT.of ec, rfl, ⟨_, _, rfl, ⟨_, _, rfl, ⟨rfl, ?_⟩⟩⟩⟩
  exact ⟨_, rfl, k H1 s1⟩
theorem ok_fewest {params : Arguments} {dvs : List V} {kws : List (Str × V)} (F : FunD K "fewest" "fewest" params (defBody s_fewest) (defScope s_fewest) dvs kws f fd') (T : Txt K mg) (cA : ∃ u, mg "ALL" = some u ∧ RelV (.str "all") u) (c_sets_and_needs : Nm P w K mg base CX0 6 "sets_and_needs" s_sets_and_needs ["table", "free"] (spSN K C)) : FnG P w K mg base CX0 7 f fd' ["table", "free"] (spFe K C) := by
  obtain ⟨oc, od, dV, kV, doc, pm, an, cdv, ct, osl, rfl, lk, hcd, _, _⟩ := F.ex
  refine fnG_core0 lk hcd sc_fewest (fun vs H Q E h => ?_) fun A outer s H vs Q E hr h => ?_
  · unfold spFe at h
    obtain ⟨a, F, n, m, fs, rfl, _⟩ := h
    rfl
  unfold spFe at h
  obtain ⟨a, F, n, m, fs, rfl, tf, k⟩ := h
  refine ⟨_, (pss_cons (ps_asg (pe_dget hr.u1 (pe_g c_sets_and_needs hr (by decide) L2.pass0 bp_sets_and_needs (by rfl) (pa_cons (pv 0) (pa_cons (pv 1) pa_nil))) pe_str (fun _ _ => rfl)) (pg_tup (by rfl) (pgs_cons (pg_name (i := 2) sc_fewest.nd rfl (by first | exact Or.inl rfl | exact Or.inr rfl)) (pgs_cons (pg_name (i := 3) sc_fewest.nd rfl (by first | exact Or.inl rfl | exact Or.inr rfl)) pgs_nil))))
      (pss_cons (ps_if (PW.pt (pw_or (pt_cmpR (op_eqDK (K := K) rfl hr.u64) (pv 2) (pe_cst (by rfl) cA) (nomark _)) (pw_or1 (pt_cmpR (op_inK (K := K) rfl) pe_str (pv 2) rfl)))) (pss_one (ps_ret (pv 3))) pss_nil)
      (pss_one (ps_ret (pe_op op_add (pv 3) pe_int))))), ?_⟩
  refine ⟨_, rfl, ⟨_, rfl, ?_⟩⟩
  have hz := SN_sz (t := []) (fs := fs) tf.ok
  refine sn_go tf.ht tf.ok tf.hF tf.ff tf.nd tf.lf fun D H1 s1 nD ⟨hs, ad, ho, eD, hev⟩ => ?_
  have h00 : [] ∈ kys hs := kys_mem.mpr (.inl rfl)
  obtain ⟨v, ec, hv⟩ := hev _ h00
  generalize SN n m fs [] = S at ec hv k hz
  refine ⟨D, .ref (ad []), rfl, .inl ⟨_, skey [], .inl eD, (by show V.str "" = V.str (SX.S []); decide +kernel), (by rw [fd_val, if_pos h00])⟩, ?_⟩
  refine ⟨ad [], _, rfl, SqT.of ec, rfl, ⟨_, _, rfl, ⟨_, _, rfl, ⟨rfl, ?_⟩⟩⟩⟩
  have dA : Dp K H1 (.str "all") (.str "all") := .str _
  have sA : SeqAt.shaped (.str "all") = true := (show Fit 200 0 (.str "all") from Fit.str (by decide +kernel) (by decide +kernel)).shp (by decide)
  have eA : PyData.eqv (.str "all") (.str "all") = true := by simp [PyData.eqv]
  have eL : ∀ zs : List Str, PyData.eqv (.list (zs.map PyData.str)) (.str "all") = false := fun zs => by simp [PyData.eqv]
  obtain ⟨o, i⟩ := S
  cases o with
  | none =>
    obtain rfl : v = .str "all" := hv
    refine ⟨_, rfl, ⟨_, _, dA, dA, sA, sA, ?_⟩⟩
    refine ⟨_, rfl, ?_⟩
    rw [eA]
    refine iteT (iteT ?_)
    exact ⟨_, rfl, k H1 s1⟩
  | some xs =>
    obtain ⟨A1, rfl, hA⟩ := hv
    obtain ⟨lx, gx⟩ := hz xs rfl
    refine ⟨_, rfl, ⟨_, _, .lst (SqL.of hA) (dps xs), dA, (strs_fit gx).shp (by decide), sA, ?_⟩⟩
    refine ⟨_, rfl, ?_⟩
    rw [eL]
    refine iteF ?_
    refine ⟨_, rfl, ⟨A1, _, rfl, .inl (SqL.of hA), rfl, flat_strs _, ?_⟩⟩
    rw [show inV (.str "hole") (xs.map V.str) = decide (("hole" : Str) ∈ xs) from inV_strs "hole" xs]
    refine ⟨_, rfl, ?_⟩
    have ec2 := cst_some xs i "hole"
    by_cases q : ("hole" : Str) ∈ xs
    · rw [decide_eq_true q]
      refine iteT ?_
      refine ⟨_, rfl, ?_⟩
      have := k H1 s1
      rw [ec2, if_pos q] at this
      exact this
    · rw [decide_eq_false q]
      refine iteF ?_
      refine ⟨_, rfl, ⟨_, _, rfl, rfl, ?_⟩⟩
      have := k H1 s1
      rw [ec2, if_neg q] at this
      exact this
end
open PySem PySem.Spec PyProof.Rows
open L2 hiding pass0
abbrev s_law_bits : Stmt := top 74
theorem sc_law_bits : FnScope ["_law_many", "_law_found", "_law_turn", "_law_longer", "_law_bits_here"] ["_law_many"] (defScope s_law_bits) := ⟨rfl, rfl, rfl, by decide +kernel, rfl, by decide +kernel, by decide +kernel⟩
theorem bp_law_bits : BndP "_law_bits" s_law_bits ["_law_many"] := fun _ _ _ _ _ _ us h => match us, h with | [_], _ => rfl
abbrev s_law_stretches : Stmt := top 75
theorem sc_law_stretches : FnScope ["_law_wide", "_law_found", "_law_many"] ["_law_wide"] (defScope s_law_stretches) := ⟨rfl, rfl, rfl, by decide +kernel, rfl, by decide +kernel, by decide +kernel⟩
theorem bp_law_stretches : BndP "_law_stretches" s_law_stretches ["_law_wide"] := fun _ _ _ _ _ _ us h => match us, h with | [_], _ => rfl
/-- all texts of so many bits -/
def bitsL : Nat → List (List Nat)
  | 0 => [[]]
  | k + 1 => (bitsL k).flatMap fun t => [t ++ [48], t ++ [49]]
theorem bitsL_mem : ∀ {k : Nat} {t : List Nat}, t ∈ bitsL k ↔ M.BL t ∧ t.length = k
  | 0, t => by
    unfold bitsL
    rw [List.mem_singleton]
    constructor
    · rintro rfl
      exact ⟨(fun c hc => by cases hc), rfl⟩
    · intro h
      exact List.eq_nil_of_length_eq_zero h.2
  | k + 1, t => by
    unfold bitsL
    rw [List.mem_flatMap]
    constructor
    · rintro ⟨s, hs, h⟩
      obtain ⟨h1, h2⟩ := bitsL_mem.mp hs
      simp only [List.mem_cons, List.not_mem_nil, or_false] at h
      rcases h with rfl | rfl
      · exact ⟨h1.app fun c hc => .inl (List.mem_singleton.mp hc), by rw [List.length_append, h2]; rfl⟩
      · exact ⟨h1.app fun c hc => .inr (List.mem_singleton.mp hc), by rw [List.length_append, h2]; rfl⟩
    · rintro ⟨h1, h2⟩
      obtain ⟨s, b, rfl⟩ := snoc_of (s := t) (fun q => by rw [q] at h2; cases h2)
      refine ⟨s, bitsL_mem.mpr ⟨h1.l, by rw [List.length_append] at h2; exact Nat.succ.inj h2⟩, ?_⟩
      rcases h1 b (List.mem_append_right _ (List.mem_singleton.mpr rfl)) with rfl | rfl <;> simp
theorem bitsL_nd : ∀ k : Nat, (bitsL k).Nodup
  | 0 => by simp [bitsL]
  | k + 1 => flat_nd (bitsL_nd k)
theorem bitsL_len : ∀ k : Nat, (bitsL k).length = 2 ^ k
  | 0 => rfl
  | k + 1 => by
    unfold bitsL
    have := kys_len (bitsL k)
    unfold kys at this
    rw [List.length_cons, bitsL_len k] at this
    rw [Nat.pow_succ]
    omega
/-- all texts of at most so many bits -/
def strL : Nat → List (List Nat)
  | 0 => []
  | k + 1 => strL k ++ bitsL k
theorem strL_mem {t : List Nat} : ∀ {k : Nat}, t ∈ strL k ↔ M.BL t ∧ t.length < k
  | 0 => by unfold strL; simp
  | k + 1 => by
    unfold strL
    rw [List.mem_append, strL_mem, bitsL_mem]
    constructor
    · rintro (⟨a, b⟩ | ⟨a, b⟩)
      · exact ⟨a, by omega⟩
      · exact ⟨a, by omega⟩
    · rintro ⟨a, b⟩
      by_cases q : t.length = k
      · exact .inr ⟨a, q⟩
      · exact .inl ⟨a, by omega⟩
theorem strL_len : ∀ k : Nat, (strL k).length + 1 = 2 ^ k
  | 0 => rfl
  | k + 1 => by
    unfold strL
    rw [List.length_append, bitsL_len, Nat.pow_succ]
    have := strL_len k
    omega
theorem pow7 {k : Nat} (h : k ≤ 7) : 2 ^ k ≤ 128 := by
  have := Nat.pow_le_pow_right (n := 2) (by decide) h
  exact this
@[irreducible] def spLB2 : Sp := fun vs H Q _ => ∃ k : Nat, vs = [.int k] ∧ k ≤ 7 ∧ ∀ L H', Same H H' → H L = none → H' L = some (.lst ((bitsL k).map sx)) → Q (.ref L) H'
@[irreducible] def spLS : Sp := fun vs H Q _ => ∃ k : Nat, vs = [.int k] ∧ k ≤ 6 ∧ ∀ L H', Same H H' → H L = none → H' L = some (.lst ((strL (k + 1)).map sx)) → Q (.ref L) H'
theorem lb2_go {k : Nat} {H : Hp} {Q : VK} {E : XK} (h : k ≤ 7) (q : ∀ L H', Same H H' → H L = none → H' L = some (.lst ((bitsL k).map sx)) → Q (.ref L) H') : spLB2 [.int k] H Q E := by
  unfold spLB2
  exact ⟨k, rfl, h, q⟩
theorem ls_go {k : Nat} {H : Hp} {Q : VK} {E : XK} (h : k ≤ 6) (q : ∀ L H', Same H H' → H L = none → H' L = some (.lst ((strL (k + 1)).map sx)) → Q (.ref L) H') : spLS [.int k] H Q E := by
  unfold spLS
  exact ⟨k, rfl, h, q⟩
section
variable {P : Program} {w : World} {K : PySem.W.Frag} {mg : Str → Option Value} {base : Heap} {f : Addr} {fd' : FuncData}
theorem ok_lbits (F : Fun K "_law_bits" "_law_bits" s_law_bits f fd') (hm : mg "_law_bits" = some (.ref f)) (T : Txt K mg) : Nm P w K mg base CX0 1 "_law_bits" s_law_bits ["_law_many"] (spLB2) := by
  refine nm_of0 F hm sc_law_bits (fun vs H Q E h => ?_) fun cdv A outer s H vs Q E hr h => ?_
  · unfold spLB2 at h
    obtain ⟨k, rfl, hk, q⟩ := h
    subst_vars
    rfl
  unfold spLB2 at h
  obtain ⟨k, rfl, hk, q⟩ := h
  refine ⟨_, (pss_cons (ps_set (i := 1) sc_law_bits.nd rfl (by first | exact Or.inl rfl | exact Or.inr rfl) (pe_lst (pa_cons pe_str pa_nil)))
      (pss_cons (ps_for PassesOwn.never rfl (pi_range1 (by rfl) T.b_range (pa_cons (pv 0) pa_nil)) (pg_name (i := 2) sc_law_bits.nd rfl (by first | exact Or.inl rfl | exact Or.inr rfl)) (pss_cons (ps_set (i := 3) sc_law_bits.nd rfl (by first | exact Or.inl rfl | exact Or.inr rfl) (pe_lst pa_nil))
      (pss_cons (ps_for PassesOwn.never rfl (pi_listK (K := K) rfl (pv 1)) (pg_name (i := 4) sc_law_bits.nd rfl (by first | exact Or.inl rfl | exact Or.inr rfl)) (pss_one (ps_expr (pe_bm PySem.F.plainAttrs_list PySem.F.slot_list_extend PySem.F.type_list_extend mt_extend (pv 3) (pa_cons (pe_lst (pa_cons (pe_op op_add_str (pv 4) pe_str) (pa_cons (pe_op op_add_str (pv 4) pe_str) pa_nil))) pa_nil)))))
      (pss_one (ps_set (i := 1) sc_law_bits.nd rfl (by first | exact Or.inl rfl | exact Or.inr rfl) (pv 3))))))
      (pss_one (ps_ret (pv 1))))), ?_⟩
  refine ⟨szl (by show 1 ≤ 1000000; decide), fun L0 nL0 => ?_⟩
  have s0 := (Same.refl H).new (o := HO.lst [V.str ""]) nL0
  have e0 : upd H L0 (.lst [V.str ""]) L0 = some (.lst ((bitsL 0).map sx)) := by rw [upd_same]; unfold bitsL; exact congrArg (fun z => some (HO.lst [V.str z])) (by decide +kernel)
  generalize upd H L0 (.lst [V.str ""]) = H0 at s0 e0 ⊢
  refine ⟨_, rfl, ⟨_, rfl, by omega, by omega, ?_⟩⟩
  rw [show ((k : Int)).toNat = k by omega]
  refine for_it walk_range (fun i σ' H' => ∃ L x2 x3 x4, σ' = [some (.int k), some (.ref L), x2, x3, x4] ∧ Same H H' ∧ H L = none ∧ H' L = some (.lst ((bitsL i).map sx))) ⟨L0, _, _, _, rfl, s0, nL0, e0⟩ (fun _ _ _ _ _ => trivial) ?_ ?_
  · rintro i x σ' H1 H2 hi ⟨L, x2, x3, x4, rfl, s1, nL, eL⟩ ⟨rfl, rfl⟩
    have li := pow7 (k := i) (by omega)
    have len := bitsL_len i
    refine ⟨szl (Nat.zero_le _), fun M nM => ?_⟩
    have s2 := s1.new (o := HO.lst ([] : List V)) nM
    have nMH := s1.back nM
    have eM : upd H2 M (.lst []) M = some (.lst []) := upd_same
    have hLM : L ≠ M := nonn nM eL
    have eL2 := updn (o := HO.lst ([] : List V)) hLM eL
    generalize upd H2 M (.lst []) = H3 at s2 eM eL2 ⊢
    refine ⟨_, rfl, ⟨L, rfl, ⟨_, SqL.of eL2⟩, ?_⟩⟩
    refine for_it (walk_list (xs := (bitsL i).map sx)) (fun j σ' H' => ∃ x4, σ' = [some (.int k), some (.ref L), some (.int (0 + (i : Int))), some (.ref M), x4] ∧ Same H H' ∧ H' L = some (.lst ((bitsL i).map sx)) ∧ H' M = some (.lst ((((bitsL i).take j).flatMap fun t => [t ++ [48], t ++ [49]]).map sx))) ⟨_, rfl, s2, eL2, eM⟩ (fun j σ' H' _ h => let ⟨_, _, _, e, _⟩ := h; SqL.of e) ?_ ?_
    · rintro j x σ' H4 H5 hj ⟨x4, rfl, s4, eL4, eM4⟩ ⟨rfl, hx⟩
      obtain ⟨t, ht, rfl⟩ := sx_at hx
      have tl := (bitsL_mem.mp (List.mem_of_getElem? ht)).2
      rw [List.length_map] at hj
      refine ⟨_, rfl, ⟨.inl ⟨rfl, _, SqL.of eM4⟩, ?_⟩⟩
      refine ⟨_, rfl, ⟨_, _, rfl, rfl, szl (by rw [sx_len]; show t.length + 1 ≤ 1000000; omega), ?_⟩⟩
      refine ⟨_, rfl, ⟨_, _, rfl, rfl, szl (by rw [sx_len]; show t.length + 1 ≤ 1000000; omega), ?_⟩⟩
      rw [str0, str1]
      refine ⟨szl (by show 2 ≤ 1000000; decide), fun N nN => ?_⟩
      have s5 := s4.new (o := HO.lst [sx (t ++ [48]), sx (t ++ [49])]) nN
      have hMN : M ≠ N := nonn nN eM4
      have hLN : L ≠ N := nonn nN eL4
      have fl : (((bitsL i).take j).flatMap fun t => [t ++ [48], t ++ [49]]).length ≤ 256 := by
        have := kys_len ((bitsL i).take j)
        unfold kys at this
        rw [List.length_cons, List.length_take] at this
        omega
      refine ⟨M, N, _, _, rfl, rfl, updn hMN eM4, upd_same, szl (by rw [List.length_map]; show _ + 2 ≤ 1000000; omega), ?_⟩
      refine ⟨_, rfl, fun b o e => updn (fun q => by rw [q, nMH] at e; cases e) (s5 _ _ e), updn hLM (updn hLN eL4), ?_⟩
      rw [upd_same, List.take_add_one, ht, List.flatMap_append, List.map_append]
      rfl
    · rintro σ' H4 ⟨x4, rfl, s4, eL4, eM4⟩
      rw [List.length_map, List.take_length] at eM4
      exact ⟨_, rfl, M, _, _, _, rfl, s4, nMH, eM4⟩
  · rintro σ' H1 ⟨L, x2, x3, x4, rfl, s1, nL, eL⟩
    exact ⟨_, rfl, q L H1 s1 nL eL⟩
theorem ok_lstr (F : Fun K "_law_stretches" "_law_stretches" s_law_stretches f fd') (hm : mg "_law_stretches" = some (.ref f)) (T : Txt K mg) (c_law_bits : Nm P w K mg base CX0 1 "_law_bits" s_law_bits ["_law_many"] (spLB2)) : Nm P w K mg base CX0 2 "_law_stretches" s_law_stretches ["_law_wide"] (spLS) := by
  refine nm_of0 F hm sc_law_stretches (fun vs H Q E h => ?_) fun cdv A outer s H vs Q E hr h => ?_
  · unfold spLS at h
    obtain ⟨k, rfl, hk, q⟩ := h
    subst_vars
    rfl
  unfold spLS at h
  obtain ⟨k, rfl, hk, q⟩ := h
  refine ⟨_, (pss_cons (ps_set (i := 1) sc_law_stretches.nd rfl (by first | exact Or.inl rfl | exact Or.inr rfl) (pe_lst pa_nil))
      (pss_cons (ps_for PassesOwn.never rfl (pi_range1 (by rfl) T.b_range (pa_cons (pe_op op_add (pv 0) pe_int) pa_nil)) (pg_name (i := 2) sc_law_stretches.nd rfl (by first | exact Or.inl rfl | exact Or.inr rfl)) (pss_one (ps_expr (pe_bm PySem.F.plainAttrs_list PySem.F.slot_list_extend PySem.F.type_list_extend mt_extend (pv 1) (pa_cons (pe_g c_law_bits hr (by decide) L2.pass0 bp_law_bits (by rfl) (pa_cons (pv 2) pa_nil)) pa_nil)))))
      (pss_one (ps_ret (pv 1))))), ?_⟩
  refine ⟨szl (Nat.zero_le _), fun L nL => ?_⟩
  have s0 := (Same.refl H).new (o := HO.lst ([] : List V)) nL
  have e0 : upd H L (.lst []) L = some (.lst ((strL 0).map sx)) := upd_same
  generalize upd H L (.lst []) = H0 at s0 e0 ⊢
  refine ⟨_, rfl, ⟨_, _, rfl, rfl, ?_⟩⟩
  refine ⟨_, rfl, by omega, by omega, ?_⟩
  rw [show ((k : Int) + 1).toNat = k + 1 by omega]
  refine for_it walk_range (fun i σ' H' => ∃ x2, σ' = [some (.int k), some (.ref L), x2] ∧ Same H H' ∧ H' L = some (.lst ((strL i).map sx))) ⟨_, rfl, s0, e0⟩ (fun _ _ _ _ _ => trivial) ?_ ?_
  · rintro i x σ' H1 H2 hi ⟨x2, rfl, s1, eL⟩ ⟨rfl, rfl⟩
    have hE : H2 L = some (.lst ((strL i).map sx)) := eL
    refine ⟨_, rfl, ⟨.inl ⟨rfl, _, SqL.of hE⟩, ?_⟩⟩
    refine ⟨_, rfl, ?_⟩
    show spLB2 [V.int (0 + (i : Int))] H2 _ _
    rw [show (0 + (i : Int)) = ((i : Nat) : Int) from Int.zero_add _]
    refine lb2_go (by omega) fun N H3 s3 nN eN => ?_
    have l1 := strL_len i
    have l2 := bitsL_len i
    have l3 := pow7 (k := i) (by omega)
    refine ⟨L, N, _, _, rfl, rfl, s3 _ _ hE, eN, szl (by rw [List.length_map, List.length_map]; omega), ?_⟩
    refine ⟨_, rfl, fun b o e => updn (fun q => by rw [q, nL] at e; cases e) (s3 _ _ (s1 _ _ e)), ?_⟩
    rw [upd_same, ← List.map_append]
    rfl
  · rintro σ' H1 ⟨x2, rfl, s1, eL⟩
    exact ⟨_, rfl, q L H1 s1 nL eL⟩
end
open PySem PySem.Spec PyProof.Rows
open L2 hiding pass0
def GoalG (g : Str) : Prop := goalB g = true ∧ (∀ c ∈ g.cps.toList, c < 128) ∧ g.length ≤ 200
theorem gg_a : GoalG "a" := by unfold GoalG; decide +kernel
theorem gg_b : GoalG "b" := by unfold GoalG; decide +kernel
theorem gg_c : GoalG "c" := by unfold GoalG; decide +kernel
theorem gg_d : GoalG "d" := by unfold GoalG; decide +kernel
theorem gg_hole : GoalG "hole" := by unfold GoalG; decide +kernel
theorem gg_home : GoalG "home" := by unfold GoalG; decide +kernel
theorem put_new {m : List (Str × Str)} {k g : Str} (h : k ∉ m.map (·.1)) : putT m k g = m ++ [(k, g)] := by
  unfold putT
  rw [if_neg]
  intro q
  obtain ⟨p, hp, e⟩ := List.any_eq_true.mp q
  exact h (List.mem_map.mpr ⟨p, hp, of_decide_eq_true e⟩)
open PySem PySem.Spec PyProof.Rows
open L2 hiding pass0
def cutp (k : Nat) (x : Str) : Str := SX.S (x.cps.toList.drop k)
theorem tl_cutp (k : Nat) (x : Str) : (cutp k x).cps.toList = x.cps.toList.drop k := by unfold cutp SX.S; simp
theorem tl_inj {x y : Str} (h : x.cps.toList = y.cps.toList) : x = y := by rw [← SX.S_tl x, ← SX.S_tl y, h]
theorem tl_cat (x y : Str) : (x ++ y).cps.toList = x.cps.toList ++ y.cps.toList := by
  show (x.cps ++ y.cps).toList = _
  simp
theorem len_cat (x y : Str) : (x ++ y).length = x.length + y.length := by
  show (x.cps ++ y.cps).size = _
  simp; rfl
def preB (s x : Str) : Bool := decide (s.cps.toList <+: x.cps.toList)
theorem pre_cut {s x z : Str} : (preB s x && decide (cutp s.length x = z)) = decide (x = s ++ z) := by
  unfold preB
  rw [← Bool.decide_and, decide_eq_decide]
  constructor
  · rintro ⟨h1, rfl⟩
    refine tl_inj ?_
    rw [tl_cat, tl_cutp]
    exact (List.prefix_iff_eq_append.mp h1).symm
  · rintro rfl
    refine ⟨by rw [tl_cat]; exact List.prefix_append _ _, tl_inj ?_⟩
    rw [tl_cutp, tl_cat]
    exact List.drop_left' (by rfl)
def wiT (m : List (Str × Str)) (s : Str) : List (Str × Str) := (m.filter fun p => preB s p.1).map fun p => (cutp s.length p.1, p.2)
theorem look_wiT (m : List (Str × Str)) (s z : Str) : look (wiT m s) z = look m (s ++ z) := by
  unfold look wiT
  rw [List.find?_map, Option.map_map, List.find?_filter]
  have e : (fun a : Str × Str => (preB s a.1 && ((fun p : Str × Str => decide (p.1 = z)) ∘ fun p : Str × Str => (cutp s.length p.1, p.2)) a)) = fun p => decide (p.1 = s ++ z) := by
    funext p
    exact pre_cut
  have e' : (fun a : Str × Str => decide (preB s a.1 = true ∧ ((fun p : Str × Str => decide (p.1 = z)) ∘ fun p : Str × Str => (cutp s.length p.1, p.2)) a = true)) = fun p => decide (p.1 = s ++ z) := by
    rw [← e]
    funext a
    rw [Bool.decide_and, Bool.decide_eq_true, Bool.decide_eq_true]
  rw [e']
  rfl
theorem wiT_nd {m : List (Str × Str)} (h : (m.map (·.1)).Nodup) (s : Str) : ((wiT m s).map (·.1)).Nodup := by
  unfold wiT
  rw [List.map_map]
  show (List.map (fun p : Str × Str => cutp s.length p.1) _).Pairwise (· ≠ ·)
  rw [List.pairwise_map]
  have h2 : ((m.filter fun p => preB s p.1).map (·.1)).Nodup := (List.filter_sublist.map _).nodup h
  have h3 : (m.filter fun p => preB s p.1).Pairwise fun a b => a.1 ≠ b.1 := List.pairwise_map.mp h2
  refine List.Pairwise.imp_of_mem (fun {a b} ha hb hne e => hne ?_) h3
  have pa := of_decide_eq_true (List.mem_filter.mp ha).2
  have pb := of_decide_eq_true (List.mem_filter.mp hb).2
  refine tl_inj ?_
  rw [List.prefix_iff_eq_append.mp pa |>.symm, List.prefix_iff_eq_append.mp pb |>.symm]
  have e2 : (cutp s.length a.1).cps.toList = (cutp s.length b.1).cps.toList := congrArg (fun x : Str => x.cps.toList) e
  rw [tl_cutp, tl_cutp] at e2
  show _ ++ List.drop s.cps.toList.length _ = _ ++ List.drop s.cps.toList.length _
  rw [show s.cps.toList.length = s.length from Array.length_toList, e2]
theorem wiT_len (m : List (Str × Str)) (s : Str) : (wiT m s).length ≤ m.length := by
  unfold wiT
  rw [List.length_map]
  exact List.length_filter_le _ _
def wi (m : List (Str × Str)) (s : Str) : List (Str × Str) := match lb (look m) s with
  | some x => mrgT [(("" : Str), getT m x)] (wiT m s)
  | none => wiT m s
/-- what the longest beginning is led to -/
def gv (f : Str → Option Str) (z : Str) (i : Nat) : Option Str := (lbP f z i).bind f
theorem goal_gv (f : Str → Option Str) (z : Str) : goalT f z = (gv f z (z.length + 1)).getD "hole" := by
  unfold goalT gv lb
  cases h : lbP f z (z.length + 1) with
  | none => rfl
  | some x =>
    have := (lbP_some h).1
    obtain ⟨g, hg⟩ := Option.isSome_iff_exists.mp this
    show (f x).getD _ = (f x).getD _
    rw [hg]
    rfl
theorem gv_succ (f : Str → Option Str) (z : Str) (i : Nat) : gv f z (i + 1) = (f (px z i)).or (gv f z i) := by
  unfold gv
  cases h : f (px z i) with
  | none => rw [lbP_no (by rw [h]; rfl)]; rfl
  | some g => rw [lbP_yes (by rw [h]; rfl)]; show f (px z i) = _; rw [h]; rfl
theorem look_wi {m : List (Str × Str)} (h : (m.map (·.1)).Nodup) (s z : Str) : look (wi m s) z = (look m (s ++ z)).or (if z = "" then gv (look m) s (s.length + 1) else none) := by
  unfold wi gv
  show look (match lb (look m) s with | some x => mrgT [(("" : Str), getT m x)] (wiT m s) | none => wiT m s) z = (look m (s ++ z)).or (if z = "" then (lb (look m) s).bind (look m) else none)
  cases e : lb (look m) s with
  | none =>
    show look (wiT m s) z = _
    rw [look_wiT]
    cases look m (s ++ z) <;> (split <;> rfl)
  | some x =>
    show look (mrgT _ _) z = _
    rw [look_mrg _ _ _ (wiT_nd h s), look_wiT]
    congr 1
    have hx := (lbP_some e).1
    obtain ⟨g, hg⟩ := Option.isSome_iff_exists.mp hx
    show look [(("" : Str), getT m x)] z = if z = "" then look m x else none
    rw [look_get, hg]
    unfold look
    by_cases q : z = ""
    · rw [if_pos q, List.find?_cons_of_pos (by simpa using q.symm)]
      rfl
    · rw [if_neg q, List.find?_cons_of_neg (by simpa using fun h => q h.symm)]
      rfl
theorem px_all (z : Str) : px z z.length = z := by
  unfold px
  rw [show z.length = z.cps.toList.length from Array.length_toList.symm, List.take_length, SX.S_tl]
theorem px_cat (s z : Str) (i : Nat) : px (s ++ z) (s.length + i) = s ++ px z i := by
  refine tl_inj ?_
  have tl_px : ∀ (x : Str) (j : Nat), (px x j).cps.toList = x.cps.toList.take j := fun x j => by unfold px SX.S; simp
  rw [tl_cat, tl_px, tl_px, tl_cat, show s.length = s.cps.toList.length from Array.length_toList.symm, List.take_length_add_append]
theorem px_left {s z : Str} {i : Nat} (h : i ≤ s.length) : px (s ++ z) i = px s i := by
  unfold px
  rw [tl_cat, List.take_append_of_le_length (by rw [Array.length_toList]; exact h)]
theorem cat_nil (s : Str) : s ++ ("" : Str) = s := by
  refine tl_inj ?_
  rw [tl_cat]
  exact List.append_nil _
theorem gv_left (f : Str → Option Str) (s z : Str) : ∀ i, i ≤ s.length + 1 → gv f (s ++ z) i = gv f s i
  | 0, _ => rfl
  | i + 1, h => by rw [gv_succ, gv_succ, px_left (by omega), gv_left f s z i (by omega)]
theorem gv_wi {m : List (Str × Str)} (h : (m.map (·.1)).Nodup) (s z : Str) : ∀ k, k ≤ z.length → gv (look (wi m s)) z (k + 1) = gv (look m) (s ++ z) (s.length + k + 1)
  | 0, _ => by
    rw [gv_succ, show px z 0 = ("" : Str) from rfl, look_wi h, cat_nil, if_pos rfl, Nat.add_zero, gv_left _ _ _ _ (Nat.le_refl _), gv_succ (look m) s, px_all]
    show ((look m s).or ((look m s).or _)).or none = _
    cases look m s <;> simp
  | k + 1, hk => by
    rw [gv_succ, look_wi h, gv_wi h s z k (by omega), if_neg, gv_succ (look m) (s ++ z) (s.length + (k + 1)), px_cat]
    · cases look m (s ++ px z (k + 1)) <;> rfl
    · intro e
      have := congrArg (fun x : Str => x.cps.toList.length) e
      unfold px SX.S at this
      simp only [List.length_take, Array.length_toList] at this
      have h3 : z.cps.size = z.length := rfl
      have h4 : ("" : Str).cps.size = 0 := rfl
      omega
theorem goal_wi {m : List (Str × Str)} (h : (m.map (·.1)).Nodup) (s z : Str) : goalT (look (wi m s)) z = goalT (look m) (s ++ z) := by
  rw [goal_gv, goal_gv, gv_wi h s z z.length (Nat.le_refl _), len_cat]
theorem mrg_nd : ∀ {r m : List (Str × Str)}, (m.map (·.1)).Nodup → ((mrgT m r).map (·.1)).Nodup
  | [], _, h => h
  | q :: r, m, h => mrg_nd (r := r) (m := putT m q.1 q.2) (put_nodup h)
theorem mrg_rows {n : Int} : ∀ {r m : List (Str × Str)}, (∀ p ∈ m, RowOk n p) → (∀ p ∈ r, RowOk n p) → ∀ p ∈ mrgT m r, RowOk n p
  | [], _, h, _ => h
  | q :: r, m, h, h2 => mrg_rows (r := r) (m := putT m q.1 q.2) (put_ok h (h2 q List.mem_cons_self)) fun p hp => h2 p (List.mem_cons_of_mem _ hp)
theorem mrg_len1 : ∀ {r m : List (Str × Str)}, (mrgT m r).length ≤ m.length + r.length
  | [], _ => Nat.le_refl _
  | q :: r, m => by
    have h1 := mrg_len1 (r := r) (m := putT m q.1 q.2)
    have h2 := put_len m q.1 q.2
    show (mrgT (putT m q.1 q.2) r).length ≤ _
    rw [List.length_cons]
    omega
theorem wi_nd {m : List (Str × Str)} (h : (m.map (·.1)).Nodup) (s : Str) : ((wi m s).map (·.1)).Nodup := by
  unfold wi
  split
  · exact mrg_nd (by simp)
  · exact wiT_nd h s
theorem wi_rows {n k : Nat} {m : List (Str × Str)} {s : Str} (h : ∀ p ∈ m, RowOk n p) (hk : s.length + k = n) : ∀ p ∈ wi m s, RowOk k p := by
  have h1 : ∀ p ∈ wiT m s, RowOk k p := fun p hp => by
    unfold wiT at hp
    obtain ⟨q, hq, rfl⟩ := List.mem_map.mp hp
    obtain ⟨hm, hpre⟩ := List.mem_filter.mp hq
    obtain ⟨a1, a2, a3, a4, a5⟩ := h q hm
    refine ⟨fun c hc => ?_, ?_, a3, a4, a5⟩
    · rw [tl_cutp] at hc
      exact a1 c (List.mem_of_mem_drop hc)
    · have e : (cutp s.length q.1).length = q.1.length - s.length := by
        show (cutp s.length q.1).cps.size = _
        rw [← Array.length_toList, tl_cutp, List.length_drop, Array.length_toList]
        rfl
      rw [e]
      omega
  unfold wi
  split
  · rename_i x hx
    refine mrg_rows (fun p hp => ?_) h1
    rw [List.mem_singleton] at hp
    subst hp
    have hs := (lbP_some hx).1
    rw [look_key] at hs
    obtain ⟨q, hq, e⟩ := List.mem_map.mp (of_decide_eq_true hs)
    refine ⟨(fun c hc => by cases hc), (by show ((0 : Nat) : Int) ≤ k; omega), ?_⟩
    obtain ⟨_, _, a3, a4, a5⟩ : RowOk n (q.1, getT m x) := by
      rw [look_get]
      obtain ⟨g, hg⟩ := Option.isSome_iff_exists.mp (lbP_some hx).1
      rw [hg]
      unfold look at hg
      obtain ⟨r, hr, rfl⟩ := Option.map_eq_some_iff.mp hg
      have hrm := h r (List.mem_of_find?_eq_some hr)
      have hqm := h q hq
      exact ⟨hqm.1, hqm.2.1, hrm.2.2⟩
    exact ⟨a3, a4, a5⟩
  · exact h1
theorem cat_inj {s a b : Str} (h : s ++ a = s ++ b) : a = b := by
  have := congrArg (fun z : Str => z.cps.toList) h
  simp only [tl_cat] at this
  exact tl_inj (List.append_cancel_left this)
theorem cat_len0 {s b : Str} (h : (s ++ b).length ≤ s.length) : b = "" := by
  rw [len_cat] at h
  exact str_nil (by omega)
theorem wi_len2 {m : List (Str × Str)} (nd : (m.map (·.1)).Nodup) (s : Str) : (wi m s).length ≤ m.length := by
  cases e : lb (look m) s with
  | none =>
    have : wi m s = wiT m s := by unfold wi; rw [e]
    rw [this]
    exact wiT_len m s
  | some x =>
    have hx := lbP_some (show lbP (look m) s (s.length + 1) = some x from e)
    have lx : x.length ≤ s.length := by obtain ⟨j, _, e2⟩ := hx.2; rw [e2, px_len]; omega
    let φ : Str → Str := fun z => if z = "" then x else s ++ z
    have h1 : (((wi m s).map (·.1)).map φ).Nodup := by
      show List.Pairwise _ _
      rw [List.pairwise_map]
      refine List.Pairwise.imp (fun {a b} hab hq => hab ?_) (wi_nd nd s)
      show a = b
      have hq : (if a = "" then x else s ++ a) = (if b = "" then x else s ++ b) := hq
      by_cases ha : a = ""
      · by_cases hb : b = ""
        · rw [ha, hb]
        · rw [if_pos ha, if_neg hb] at hq
          exact absurd (cat_len0 (by rw [← hq]; exact lx)) hb
      · by_cases hb : b = ""
        · rw [if_neg ha, if_pos hb] at hq
          exact absurd (cat_len0 (by rw [hq]; exact lx)) ha
        · rw [if_neg ha, if_neg hb] at hq
          exact cat_inj hq
    have h2 : ∀ y ∈ ((wi m s).map (·.1)).map φ, y ∈ m.map (·.1) := fun y hy => by
      obtain ⟨k, hk, rfl⟩ := List.mem_map.mp hy
      have hk2 : (look (wi m s) k).isSome = true := by rw [look_key]; exact decide_eq_true hk
      show (if k = "" then x else s ++ k) ∈ _
      by_cases hb : k = ""
      · rw [if_pos hb]
        have := hx.1
        rw [look_key] at this
        exact of_decide_eq_true this
      · rw [if_neg hb]
        rw [look_wi nd, if_neg hb, Option.or_none, look_key] at hk2
        exact of_decide_eq_true hk2
    have := nd_len h1 h2
    rw [List.length_map, List.length_map, List.length_map] at this
    exact this
theorem wi_ok {n k : Nat} {m : List (Str × Str)} {s : Str} (ok : TabOk n m) (h1 : 1 ≤ k) (hk : s.length + k = n) : TabOk k (wi m s) := by
  have := ok.w1
  exact ⟨by omega, by omega, wi_rows ok.rows hk, wi_nd ok.nd s, Nat.le_trans (wi_len2 ok.nd s) ok.few⟩
theorem look_mem_key {m : List (Str × Str)} {k : Str} : k ∈ m.map (·.1) ↔ (look m k).isSome = true := by
  rw [look_key, decide_eq_true_iff]
theorem perm_nd : ∀ {a b : List Str}, a.Nodup → b.Nodup → (∀ x, x ∈ a ↔ x ∈ b) → a.Perm b
  | [], b, _, _, h => by
    cases b with
    | nil => exact .nil
    | cons x r => exact absurd ((h x).mpr (List.mem_cons_self ..)) List.not_mem_nil
  | x :: a, b, ha, hb, h => by
    have hx : x ∈ b := (h x).mp (List.mem_cons_self ..)
    have ha' := List.nodup_cons.mp ha
    refine List.Perm.trans (List.Perm.cons x (perm_nd ha'.2 (hb.erase x) fun y => ?_)) (List.perm_cons_erase hx).symm
    rw [hb.mem_erase_iff]
    constructor
    · intro hy
      exact ⟨fun e => ha'.1 (e ▸ hy), (h y).mp (List.mem_cons_of_mem _ hy)⟩
    · rintro ⟨hne, hy⟩
      exact (List.mem_cons.mp ((h y).mpr hy)).resolve_left hne
open PySem PySem.Spec PyProof.Rows
open L2 hiding pass0
abbrev s_within : Stmt := top 42
theorem sc_within : FnScope ["table", "stretch", "rows", "inner", "outer", "row", "goal"] ["table", "stretch"] (defScope s_within) := ⟨rfl, rfl, rfl, by decide +kernel, rfl, by decide +kernel, by decide +kernel⟩
theorem bp_within : BndP "within" s_within ["table", "stretch"] := fun _ _ _ _ _ _ us h => match us, h with | [_, _], _ => rfl
theorem starts_pre (x s : Str) : Txt.startswith x s = preB s x := by
  unfold preB
  rw [← starts_S, SX.S_tl, SX.S_tl]
theorem rempre {x s : Str} (h : preB s x = true) : Txt.removeprefix x s = cutp s.length x := by
  have hs := starts_pre x s
  rw [h] at hs
  have h2 := (Bool.and_eq_true _ _).mp (show (decide (0 + s.length ≤ x.length) && Builtin.Str.subAt x s 0) = true from hs)
  have hl : s.length ≤ x.length := by have := of_decide_eq_true h2.1; omega
  unfold Txt.removeprefix
  rw [if_pos h2.2]
  unfold Txt.affix
  show (if (x.length - s.length == x.length) = true then x else Builtin.Str.strSub x s.length x.length) = _
  unfold cutp
  by_cases c : (x.length - s.length == x.length) = true
  · rw [if_pos c]
    have c' := eq_of_beq c
    have e0 : s.length = 0 := by omega
    rw [e0, List.drop_zero, SX.S_tl]
  · rw [if_neg c]
    refine tl_inj ?_
    show (x.cps.extract s.length x.length).toList = (SX.S (x.cps.toList.drop s.length)).cps.toList
    unfold SX.S
    rw [Array.toList_extract]
    simp only [List.extract_eq_take_drop]
    refine List.take_of_length_le ?_
    rw [List.length_drop, Array.length_toList]
    exact Nat.le_refl _
theorem tk_mrg : ∀ (r a : List (Str × Str)), mergeK (tk a) (tk r) = tk (mrgT a r)
  | [], _ => rfl
  | q :: r, a => by
    show mergeK (putK (tk a) (Sum.inr q.1) (.str q.2)) (tk r) = _
    rw [tk_put]
    exact tk_mrg r (putT a q.1 q.2)
@[irreducible] def spWn (C : Addr) : Sp := fun vs H Q _ => ∃ (a : Addr) (n k : Nat) (m : List (Str × Str)) (s : Str), vs = [.ref a, .str s] ∧ TabAt C H a n m ∧ TabOk n m ∧ Bits s ∧ s.length + k = n ∧ 1 ≤ k ∧
  ∀ a' H', Same H H' → H a' = none → TabAt C H' a' k (srt (wi m s)) → Q (.ref a') H'
theorem wn_go {C a : Addr} {n k : Nat} {m : List (Str × Str)} {s : Str} {H : Hp} {Q : VK} {E : XK} (ht : TabAt C H a n m) (ok : TabOk n m) (hs : Bits s) (hk : s.length + k = n) (h1 : 1 ≤ k)
    (kk : ∀ a' H', Same H H' → H a' = none → TabAt C H' a' k (srt (wi m s)) → Q (.ref a') H') : spWn C [.ref a, .str s] H Q E := by
  unfold spWn
  exact ⟨a, n, k, m, s, rfl, ht, ok, hs, hk, h1, kk⟩
section
variable {P : Program} {w : World} {K : PySem.W.Frag} {mg : Str → Option Value} {base : Heap} {f C : Addr} {fd : FuncData}
theorem ok_within (F : Fun K "within" "within" s_within f fd) (hm : mg "within" = some (.ref f)) (T : Txt K mg) (TC : TabC K C) (c_check_stretch : Nm P w K mg base CX0 5 "check_stretch" s_check_stretch ["width", "stretch"] (spCT strB)) (c_longest_beginning : Nm P w K mg base CX0 1 "longest_beginning" s_longest_beginning ["known", "bits"] (spLong))
    (c_Table_width : Prp P w K mg base CX0 1 C "width" "Table.width" s_Table_width ["self"] (spWidth C)) (c_Table_rows : Mth P w K mg base CX0 1 C "rows" "Table.rows" s_Table_rows ["self"] (spTRows C))
    (b_Table : BndI P w K mg base CX0 6 "Table" C ["self", "width", "rows"] (spInit C) 2 [] (fun us _ => us)) : Nm P w K mg base CX0 8 "within" s_within ["table", "stretch"] (spWn C) := by
  refine nm_of F hm sc_within (fun vs H Q E h => ?_) fun cdv A outer s H vs Q E hr h => ?_
  · unfold spWn at h
    obtain ⟨a, n, k, m, s, rfl, ht, ok, hs, hk, h1, kk⟩ := h
    subst_vars
    rfl
  unfold spWn at h
  obtain ⟨a, n, k, m, s, rfl, ht, ok, hs, hk, h1, kk⟩ := h
  refine ⟨_, (pss_cons (ps_expr (pe_g c_check_stretch hr (by decide) L2.pass0 bp_check_stretch (by rfl) (pa_cons (pe_p c_Table_width TC.cl hr (by decide) L2.pass0 bm_Table_width (pv 0)) (pa_cons (pv 1) pa_nil))))
      (pss_cons (ps_if (pt_cmpR op_eq (pe_callB (call_lenK (K := K) rfl) (by rfl) T.b_len PySem.boot_len (pa_cons (pv 1) pa_nil)) (pe_p c_Table_width TC.cl hr (by decide) L2.pass0 bm_Table_width (pv 0)) (nomark _)) (pss_one ps_never) pss_nil)
      (pss_cons (ps_set (i := 2) sc_within.nd rfl (by first | exact Or.inl rfl | exact Or.inr rfl) (pe_m0 c_Table_rows TC.cl hr (by decide) L2.pass0 bm_Table_rows (pv 0)))
      (C8.pss_cut (ps_lock (ps_setDc (i := 3) (own := [("row", 5), ("goal", 6)]) (g := (gTup K 2 (gCons (gName 5) (gCons (gName 6) gNil)))) (by rfl) sc_within.nd rfl rfl (sw_trueD rfl rfl rfl (by decide +kernel)) (pi_items (pv 2)) (blkOk_by (own := [("row", 5), ("goal", 6)]) (N := ["table", "stretch", "rows", "inner", "outer", "row", "goal"]) (sc := defScope s_within) (by decide +kernel)) (fun _ _ _ _ _ => (pg_tup (by rfl) (pgs_cons (pg_name (i := 5) sc_within.nd rfl (by first | exact Or.inl rfl | exact Or.inr rfl)) (pgs_cons (pg_name (i := 6) sc_within.nd rfl (by first | exact Or.inl rfl | exact Or.inr rfl)) pgs_nil)))) (fun _ _ _ _ _ => (pts_one (pt_val (pe_bmK (K := K) rfl PySem.F.plainAttrs_str PySem.F.slot_str_startswith PySem.F.type_str_startswith mt_startswith (pv 5) (pa_cons (pv 1) pa_nil))))) (fun _ _ _ _ _ => (pe_bmK (K := K) rfl PySem.F.plainAttrs_str PySem.F.slot_str_removeprefix PySem.F.type_str_removeprefix mt_removeprefix (pv 5) (pa_cons (pv 1) pa_nil))) (fun _ _ _ _ _ => (pv 6))))
      (C8.pss_cut (ps_set (i := 4) sc_within.nd rfl (by first | exact Or.inl rfl | exact Or.inr rfl) (pe_g c_longest_beginning hr (by decide) L2.pass0 bp_longest_beginning (by rfl) (pa_cons (pv 2) (pa_cons (pv 1) pa_nil))))
      (C8.pss_cut (ps_if (pt_cmpR op_notN (pv 4) pe_non (nomark _)) (pss_one (ps_set (i := 3) sc_within.nd rfl (by first | exact Or.inl rfl | exact Or.inr rfl) (pe_starK pe_str (pe_dget hr.u1 (pv 2) (pv 4) (fun _ _ => rfl)) (pv 3)))) pss_nil)
      (pss_one (ps_ret (pe_mk b_Table hr (by decide) L2.pass0 (by rfl) (pa_cons (pe_op op_sub (pe_p c_Table_width TC.cl hr (by decide) L2.pass0 bm_Table_width (pv 0)) (pe_callB (call_lenK (K := K) rfl) (by rfl) T.b_len PySem.boot_len (pa_cons (pv 1) pa_nil))) (pa_cons (pv 3) pa_nil)) pk_nil))))))))), ?_⟩
  have w1 := ok.w1
  have hs1 : s.length ≤ 1000 := by omega
  obtain ⟨dx, Dm, ha, hDm, hne⟩ := ht
  have tt : TabAt C H a n m := ⟨dx, Dm, ha, hDm, hne⟩
  refine ⟨_, rfl, ⟨a, dx, _, rfl, ha, width_go tt ?_⟩⟩
  refine ⟨_, rfl, ?_⟩
  refine ct_go (by omega) (by omega) hs1 (strB_ok hs (by omega)) fun H1 s1 => ?_
  refine ⟨_, rfl, ⟨_, _, rfl, ⟨szl (by omega), rfl⟩, ?_⟩⟩
  refine ⟨_, rfl, ⟨a, dx, _, rfl, s1 _ _ ha, width_go (tt.to s1) ?_⟩⟩
  refine ⟨rfl, ⟨_, rfl, ?_⟩⟩
  rw [decide_eq_false (by intro h; have := V.int.inj h; omega)]
  refine iteF ?_
  refine ⟨_, rfl, ⟨⟨a, dx, _, rfl, s1 _ _ ha, rfl⟩, ?_⟩⟩
  refine trows_go (tt.to s1) fun R nR => ?_
  have s2 := s1.new (o := HO.dK (tk m)) nR
  have eR : upd H1 R (.dK (tk m)) R = some (.dK (tk m)) := upd_same
  generalize upd H1 R (.dK (tk m)) = H2 at s2 eR ⊢
  have nR0 : H R = none := s1.back nR
  have hl2 := ok.few
  refine ⟨fun σ' H' => ∃ B, σ' = [some (.ref a), some (.str s), some (.ref R), some (.ref B), none, none, none] ∧ Same H H' ∧ H' R = some (.dK (tk m)) ∧ H' B = some (.dK (tk (wiT m s))), ?_, ?_⟩
  · refine ⟨R, _, eR, trivial, fun od => ?_⟩
    refine ⟨_, rfl, ⟨R, od, _, rfl, upd_same, fun B nB => ?_⟩⟩
    have hBR : B ≠ R := fun z => by rw [z, upd_same] at nB; cases nB
    refine dc_it walk_items (fun i H1 => H1 B = some (.dK (tk (wiT (m.take i) s))) ∧ Same (upd H2 R (.frz od (.dK (tk m)))) H1) ⟨upd_same, fun c o e => updn (nonn nB e) e⟩ (fun _ H1 _ h => h.2 _ _ upd_same) ?_ ?_
    · rintro i x H3 H4 hi ⟨hB, sm⟩ ⟨t, x1, x2, rfl, nt, rfl, e1, e2⟩
      obtain ⟨p, hm1, rfl, rfl⟩ : ∃ p, m[i]? = some p ∧ x1 = .str p.1 ∧ x2 = .str p.2 := by
        dsimp only at e1 e2
        unfold tk at e1 e2
        rw [List.getElem?_map] at e1 e2
        cases hx : m[i]? with
        | none => rw [hx] at e1; cases e1
        | some p =>
          rw [hx] at e1 e2
          exact ⟨p, rfl, (Option.some.inj e1).symm, (Option.some.inj e2).symm⟩
      have nBt : B ≠ t := nonn nt hB
      have smt : Same (upd H2 R (.frz od (.dK (tk m)))) (upd H3 t (.tup [.str p.1, .str p.2])) := fun c o e => updn (nonn nt (sm c o e)) (sm c o e)
      have hBt : upd H3 t (.tup [.str p.1, .str p.2]) B = some (.dK (tk (wiT (m.take i) s))) := updn nBt hB
      refine ⟨t, [.str p.1, .str p.2], rfl, SqT.of upd_same, rfl, ?_⟩
      refine ⟨_, _, rfl, ?_⟩
      refine ⟨_, _, rfl, ?_⟩
      refine ⟨rfl, rfl, ?_⟩
      have etk : wiT (m.take (i + 1)) s = wiT (m.take i) s ++ (if preB s p.1 = true then [(cutp s.length p.1, p.2)] else []) := by
        rw [List.take_add_one, hm1]
        unfold wiT
        rw [List.filter_append, List.map_append]
        congr 1
        by_cases q : preB s p.1 = true
        · rw [if_pos q]
          show List.map _ (List.filter (fun p : Str × Str => preB s p.1) [p]) = _
          simp [List.filter, q]
        · rw [if_neg q]
          show List.map _ (List.filter (fun p : Str × Str => preB s p.1) [p]) = _
          simp [List.filter, q]
      refine ⟨_, rfl, ⟨rfl, ⟨_, rfl, ⟨_, _, rfl, rfl, ?_⟩⟩⟩⟩
      refine ⟨_, rfl, ?_⟩
      rw [starts_pre]
      have hp1 := (ok.rows p (List.mem_of_getElem? hm1)).2.1
      by_cases q : preB s p.1 = true
      · rw [q]
        refine iteT ?_
        rw [if_pos q] at etk
        refine ⟨_, rfl, ⟨rfl, ⟨_, rfl, ⟨_, _, rfl, rfl, szl (by omega), ?_⟩⟩⟩⟩
        rw [rempre q]
        have hnew : cutp s.length p.1 ∉ (wiT (m.take i) s).map (·.1) := by
          intro hin
          have hn := wiT_nd (m := m.take (i + 1)) (((List.take_sublist _ _).map _).nodup ok.nd) s
          rw [etk, List.map_append] at hn
          exact (List.nodup_append.mp hn).2.2 _ hin _ (List.mem_singleton.mpr rfl) rfl
        have hl4 : (tk (wiT (m.take i) s)).length ≤ 40 := by
          rw [tk_len]
          refine Nat.le_trans (wiT_len _ _) ?_
          rw [List.length_take]
          omega
        refine ⟨_, rfl, ⟨_, Sum.inr (cutp s.length p.1), rfl, hBt, szt (by omega), ?_, fun c o e => updn (nonn nB e) (smt c o e)⟩⟩
        rw [upd_same, tk_snoc hnew, etk]
      · rw [Bool.eq_false_iff.mpr q]
        refine iteF ?_
        rw [if_neg q, List.append_nil] at etk
        rw [etk]
        exact ⟨hBt, smt⟩
    · rintro H3 ⟨hB, sm⟩
      rw [tk_len, List.take_length] at hB
      refine ⟨sm _ _ upd_same, ?_⟩
      refine ⟨B, rfl, fun c o h0 => ?_, upd_same, updn hBR hB⟩
      have hcR : c ≠ R := nonn nR0 h0
      exact updn hcR (sm c o (updn hcR (s2 c o h0)))
  rintro σ' H3 ⟨B, rfl, s3, eR3, eB3⟩
  refine ⟨fun σ' H' => σ' = [some (.ref a), some (.str s), some (.ref R), some (.ref B), some (oV (lb (look m) s)), none, none] ∧ Same H3 H', ?_, ?_⟩
  · refine ⟨_, rfl, ⟨_, rfl, ?_⟩⟩
    refine long_go eR3 hs1 fun H4 s4 => ?_
    exact ⟨rfl, s4⟩
  rintro σ' H4 ⟨rfl, s4⟩
  have eR4 := s4 _ _ eR3
  have eB4 := s4 _ _ eB3
  refine ⟨fun σ' H' => ∃ B, σ' = [some (.ref a), some (.str s), some (.ref R), some (.ref B), some (oV (lb (look m) s)), none, none] ∧ Same H4 H' ∧ H' B = some (.dK (tk (wi m s))), ?_, ?_⟩
  · have ewi : wi m s = match lb (look m) s with
      | some x => mrgT [(("" : Str), getT m x)] (wiT m s)
      | none => wiT m s := rfl
    cases hl : lb (look m) s with
    | none =>
      rw [hl] at ewi
      refine ⟨_, rfl, ?_⟩
      refine ⟨rfl, ?_⟩
      refine ⟨_, rfl, ?_⟩
      refine iteF ?_
      exact ⟨B, rfl, Same.refl _, by rw [ewi]; exact eB4⟩
    | some x =>
      rw [hl] at ewi
      refine ⟨_, rfl, ?_⟩
      refine ⟨rfl, ?_⟩
      refine ⟨_, rfl, ?_⟩
      refine iteT ?_
      intro d nd
      have hx := (lbP_some hl).1
      rw [look_key] at hx
      refine ⟨_, rfl, ⟨_, rfl, ⟨R, .str (getT m x), rfl, .inl ⟨tk m, Sum.inr x, .inl (updn (nonn nd eR4) eR4), rfl, (tk_val m (of_decide_eq_true hx)).symm⟩, ?_⟩⟩⟩
      refine ⟨.inr "", .str (getT m x), rfl, upd_same, ?_⟩
      have hBd : B ≠ d := nonn nd eB4
      have hw := wiT_len m s
      refine ⟨_, rfl, ⟨B, [(.inr "", .str (getT m x))], tk (wiT m s), rfl, Ne.symm hBd, upd_same, .inl (updn hBd (updn hBd eB4)), szl (by show 1 + (tk (wiT m s)).length ≤ _; rw [tk_len]; omega), ?_⟩⟩
      refine ⟨d, rfl, fun c o e => updn (nonn nd e) (updn (nonn nd e) (updn (nonn nd e) e)), ?_⟩
      rw [upd_same, ewi]
      exact congrArg (fun z => some (HO.dK z)) (tk_mrg (wiT m s) [(("" : Str), getT m x)])
  rintro σ' H5 ⟨B5, rfl, s5, eB5⟩
  have s15 := (s3.trans s4).trans s5
  refine ⟨_, rfl, ⟨a, dx, _, rfl, s15 _ _ ha, width_go (tt.to s15) ?_⟩⟩
  refine ⟨_, rfl, ⟨_, _, rfl, ⟨szl (by omega), rfl⟩, ?_⟩⟩
  refine ⟨_, _, rfl, rfl, ?_⟩
  rw [show ((fun i j : Int => V.int (i - j)) (n : Int) (s.length : Int)) = V.int (k : Int) from congrArg V.int (by omega)]
  refine ⟨_, rfl, ?_⟩
  refine ⟨rfl, rfl, fun X dX hX hdX hXX => ?_⟩
  have mx : B5 ≠ X := nonn hX eB5
  have md : B5 ≠ dX := nonn hdX eB5
  refine init_go upd_same (updn mx (updn md eB5)) (wi_ok ok h1 hk) fun H6 kp tb => ⟨rfl, ?_⟩
  have s6 : Same H5 H6 := fun c o q => kp c o (nonn hX q) (updn (nonn hX q) (updn (nonn hdX q) q))
  exact kk X H6 (s15.trans s6) (s15.back hX) tb
end
open PySem PySem.Spec PyProof.Rows
open L2 hiding pass0
theorem gS_wi {m : List (Str × Str)} (h : (m.map (·.1)).Nodup) (s z : List Nat) : gS (wi m (SX.S s)) z = gS m (s ++ z) := by
  unfold gS
  rw [goal_wi h, S_app]
theorem tl_S' (t : List Nat) : (SX.S t).cps.toList = t := by unfold SX.S; simp
def mapA (y : List Nat) (m : List (Str × Str)) : List (Str × Str) := m.map fun p => (SX.S (y ++ p.1.cps.toList), p.2)
theorem look_mapA {y x : List Nat} : ∀ {m : List (Str × Str)}, look (mapA y m) (SX.S (y ++ x)) = look m (SX.S x)
  | [] => rfl
  | p :: m => by
    have ih := look_mapA (y := y) (x := x) (m := m)
    unfold look mapA at ih ⊢
    by_cases c : p.1 = SX.S x
    · rw [List.map_cons, List.find?_cons_of_pos (by rw [c, tl_S']; exact decide_eq_true rfl), List.find?_cons_of_pos (p := fun p : Str × Str => decide (p.1 = SX.S x)) (decide_eq_true c)]
      rfl
    · rw [List.map_cons, List.find?_cons_of_neg, List.find?_cons_of_neg (by simpa using c)]
      · exact ih
      · intro e
        have e' := List.append_cancel_left (S_inj (of_decide_eq_true e))
        exact c (tl_inj (by rw [tl_S']; exact e'))
theorem look_mapA_no {y x : List Nat} (h : ¬ y <+: x) (m : List (Str × Str)) : look (mapA y m) (SX.S x) = none := by
  cases hl : look (mapA y m) (SX.S x) with
  | none => rfl
  | some g =>
    obtain ⟨p, hp, e, _⟩ := look_mem hl
    unfold mapA at hp
    obtain ⟨q, hq, rfl⟩ := List.mem_map.mp hp
    have := S_inj e
    exact absurd (this ▸ List.prefix_append _ _) h
theorem BL_cat {a b : List Nat} (h1 : M.BL a) (h2 : M.BL b) : M.BL (a ++ b) := fun c hc => (List.mem_append.mp hc).elim (h1 c) (h2 c)
def RowsIn (n : Nat) (m : List (Str × Str)) : Prop := ∀ p ∈ m, M.BL p.1.cps.toList ∧ p.1.length ≤ n
theorem rows_in {n : Nat} {m : List (Str × Str)} (ok : TabOk (n : Int) m) : RowsIn n m := fun p hp => by
  have := ok.rows p hp
  exact ⟨this.1, by have := this.2.1; omega⟩
theorem mapA_ok {n : Nat} {y : List Nat} {m : List (Str × Str)} (hy : M.BL y) (ok : TabOk n m) (ln : n + y.length ≤ 100) : TabOk ((n + y.length : Nat) : Int) (mapA y m) := by
  have w0 := ok.w0
  refine ⟨by omega, by omega, fun p hp => ?_, ?_, by unfold mapA; rw [List.length_map]; exact ok.few⟩
  · unfold mapA at hp
    obtain ⟨q, hq, rfl⟩ := List.mem_map.mp hp
    have r := rows_in ok q hq
    have g := ok.rows q hq
    refine ⟨sx_bits (BL_cat hy r.1), ?_, g.2.2.1, g.2.2.2.1, g.2.2.2.2⟩
    show ((SX.S (y ++ q.1.cps.toList)).length : Int) ≤ _
    rw [sx_len, List.length_append, len_tl]
    have := r.2
    omega
  · unfold mapA
    rw [List.map_map]
    have nd : List.Pairwise (· ≠ ·) (m.map (·.1)) := ok.nd
    show List.Pairwise (· ≠ ·) _
    rw [List.pairwise_map] at nd ⊢
    refine nd.imp fun {a b} h e => h ?_
    exact tl_inj (List.append_cancel_left (S_inj e))
theorem eq_go {C a b : Addr} {n1 n2 : Int} {m1 m2 : List (Str × Str)} {H : Hp} {Q : VK} {E : XK} (h1 : TabAt C H a n1 m1) (h2 : TabAt C H b n2 m2) (k : Q (.bl (eqB n1 m1 n2 m2)) H) : spEq C [.ref a, .ref b] H Q E := by
  unfold spEq
  exact ⟨a, b, n1, n2, m1, m2, rfl, h1, h2, k⟩
theorem eqB_self {n : Int} {m : List (Str × Str)} (nd : (m.map (·.1)).Nodup) : eqB n m n m = true := by
  unfold eqB
  rw [decide_eq_true rfl, Bool.true_and, beq_self_eq_true, Bool.true_and]
  unfold allEq
  rw [List.all_eq_true]
  intro p hp
  obtain ⟨q, hq, rfl⟩ := List.mem_map.mp hp
  have hv := tk_val m (List.mem_map_of_mem (f := (·.1)) hq)
  rw [get_of nd hq] at hv
  show (match valV (tk m) (Sum.inr q.1) with | some v => eqV (V.str q.2) v | none => false) = true
  rw [hv]
  show decide (q.2 = q.2) = true
  exact decide_eq_true rfl
theorem TabAt.at {C a : Addr} {n : Int} {m : List (Str × Str)} {H : Hp} (h : TabAt C H a n m) : ∃ dx fs, H a = some (.ins C dx fs) ∧ fs.lookup ("rows" : Str) = none := by
  obtain ⟨dx, D, ha, _, _⟩ := h
  exact ⟨dx, _, ha, rfl⟩
theorem look_fun {m r : List (Str × Str)} (h : ∀ z, look m z = look r z) : look m = look r := funext h
def jn (m r : List (Str × Str)) : List (Str × Str) := mrgT (mapA [48] m) (mapA [49] r)
def fa (f g : List (List Nat)) : List (List Nat) := f.map (48 :: ·) ++ g.map (49 :: ·)
theorem mapA_nd {y : List Nat} {m : List (Str × Str)} (h : (m.map (·.1)).Nodup) : ((mapA y m).map (·.1)).Nodup := by
  unfold mapA
  rw [List.map_map]
  have nd : List.Pairwise (· ≠ ·) (m.map (·.1)) := h
  show List.Pairwise (· ≠ ·) _
  rw [List.pairwise_map] at nd ⊢
  exact nd.imp fun {a b} h e => h (tl_inj (List.append_cancel_left (S_inj e)))
theorem no_pre {a b : Nat} {x : List Nat} (h : a ≠ b) : ¬ [a] <+: b :: x := fun ⟨t, e⟩ => h (List.cons.inj e).1
theorem no_pre0 {a : Nat} : ¬ [a] <+: ([] : List Nat) := fun ⟨t, e⟩ => by cases e
section
variable {m r : List (Str × Str)}
theorem look_jn (h : (r.map (·.1)).Nodup) (x : Str) : look (jn m r) x = (look (mapA [49] r) x).or (look (mapA [48] m) x) := look_mrg _ _ _ (mapA_nd h)
theorem look_j0 (h : (r.map (·.1)).Nodup) (x : List Nat) : look (jn m r) (SX.S (48 :: x)) = look m (SX.S x) := by
  rw [look_jn h, look_mapA_no (no_pre (by decide)), show (48 :: x : List Nat) = [48] ++ x from rfl, look_mapA]
  rfl
theorem look_j1 (h : (r.map (·.1)).Nodup) (x : List Nat) : look (jn m r) (SX.S (49 :: x)) = look r (SX.S x) := by
  rw [look_jn h, look_mapA_no (y := [48]) (no_pre (by decide)), show (49 :: x : List Nat) = [49] ++ x from rfl, look_mapA]
  cases look r (SX.S x) <;> rfl
theorem look_jN (h : (r.map (·.1)).Nodup) : look (jn m r) (SX.S []) = none := by
  rw [look_jn h, look_mapA_no no_pre0, look_mapA_no no_pre0]
  rfl
theorem gv_first {q s : List (Str × Str)} {b : Nat} (h1 : ∀ x, look q (SX.S (b :: x)) = look s (SX.S x)) (h0 : look q (SX.S []) = none) (z : List Nat) : ∀ i, gv (look q) (SX.S (b :: z)) (i + 1) = gv (look s) (SX.S z) i
  | 0 => by
    rw [gv_succ, px_S]
    show (look q (SX.S [])).or none = none
    rw [h0]
    rfl
  | i + 1 => by
    rw [gv_succ, gv_succ (look s), px_S, px_S, gv_first h1 h0 z i]
    show (look q (SX.S (b :: z.take i))).or _ = _
    rw [h1]
theorem gS_first {q s : List (Str × Str)} {b : Nat} (h1 : ∀ x, look q (SX.S (b :: x)) = look s (SX.S x)) (h0 : look q (SX.S []) = none) (z : List Nat) : gS q (b :: z) = gS s z := by
  unfold gS
  rw [goal_gv, goal_gv, sx_len, sx_len, List.length_cons, gv_first h1 h0]
theorem gS_j0 (h : (r.map (·.1)).Nodup) (z : List Nat) : gS (jn m r) (48 :: z) = gS m z := gS_first (look_j0 h) (look_jN h) z
theorem gS_j1 (h : (r.map (·.1)).Nodup) (z : List Nat) : gS (jn m r) (49 :: z) = gS r z := gS_first (look_j1 h) (look_jN h) z
theorem frB_0 (f g : List (List Nat)) (z : List Nat) : M.frB (fa f g) (48 :: z) = M.frB f z := by
  unfold M.frB fa
  rw [List.any_append, List.any_map, List.any_map, show (g.any ((fun f => decide (f <+: 48 :: z)) ∘ fun x => 49 :: x)) = false from List.any_eq_false.mpr fun x _ e => by
    obtain ⟨t, q⟩ := of_decide_eq_true (show decide (49 :: x <+: 48 :: z) = true from e)
    exact absurd (List.cons.inj q).1 (by decide), Bool.or_false]
  congr 1
  funext x
  show decide (48 :: x <+: 48 :: z) = _
  rw [decide_eq_decide]
  exact List.prefix_cons_inj 48
theorem frB_1 (f g : List (List Nat)) (z : List Nat) : M.frB (fa f g) (49 :: z) = M.frB g z := by
  unfold M.frB fa
  rw [List.any_append, List.any_map, List.any_map, show (f.any ((fun f => decide (f <+: 49 :: z)) ∘ fun x => 48 :: x)) = false from List.any_eq_false.mpr fun x _ e => by
    obtain ⟨t, q⟩ := of_decide_eq_true (show decide (48 :: x <+: 49 :: z) = true from e)
    exact absurd (List.cons.inj q).1 (by decide), Bool.false_or]
  congr 1
  funext x
  show decide (49 :: x <+: 49 :: z) = _
  rw [decide_eq_decide]
  exact List.prefix_cons_inj 49
theorem jn_nd (h1 : (m.map (·.1)).Nodup) : ((jn m r).map (·.1)).Nodup := mrg_nd (mapA_nd h1)
theorem jn_len : (jn m r).length ≤ m.length + r.length := by
  have := mrg_len1 (r := mapA [49] r) (m := mapA [48] m)
  unfold mapA at this
  rw [List.length_map, List.length_map] at this
  exact this
theorem jn_ok {n : Nat} (ok1 : TabOk n m) (ok2 : TabOk n r) (hn : n + 1 ≤ 100) (hl : m.length + r.length ≤ 40) : TabOk ((n + 1 : Nat) : Int) (jn m r) := by
  have a := mapA_ok (y := [48]) (fun c hc => .inl (List.mem_singleton.mp hc)) ok1 hn
  have b := mapA_ok (y := [49]) (fun c hc => .inr (List.mem_singleton.mp hc)) ok2 hn
  exact ⟨a.w0, a.w1, mrg_rows a.rows b.rows, jn_nd ok1.nd, Nat.le_trans jn_len hl⟩
end
open PySem PySem.Spec PyProof.Rows
open L2 hiding pass0
abbrev s_joined : Stmt := top 43
theorem sc_joined : FnScope ["zero", "one", "behind_zero", "behind_one", "stretch", "goal"] ["zero", "one"] (defScope s_joined) := ⟨rfl, rfl, rfl, by decide +kernel, rfl, by decide +kernel, by decide +kernel⟩
theorem bp_joined : BndP "joined" s_joined ["zero", "one"] := fun _ _ _ _ _ _ us h => match us, h with | [_, _], _ => rfl
@[irreducible] def spJn (C : Addr) : Sp := fun vs H Q _ => ∃ (a b : Addr) (n : Nat) (m r : List (Str × Str)), vs = [.ref a, .ref b] ∧ TabAt C H a n m ∧ TabAt C H b n r ∧ TabOk n m ∧ TabOk n r ∧ n + 1 ≤ 100 ∧ m.length + r.length ≤ 40 ∧
  ∀ a' H', Same H H' → H a' = none → TabAt C H' a' ((n + 1 : Nat) : Int) (srt (jn m r)) → Q (.ref a') H'
theorem jn_go {C a b : Addr} {n : Nat} {m r : List (Str × Str)} {H : Hp} {Q : VK} {E : XK} (ha : TabAt C H a n m) (hb : TabAt C H b n r) (ok1 : TabOk n m) (ok2 : TabOk n r) (hn : n + 1 ≤ 100) (hl : m.length + r.length ≤ 40)
    (k : ∀ a' H', Same H H' → H a' = none → TabAt C H' a' ((n + 1 : Nat) : Int) (srt (jn m r)) → Q (.ref a') H') : spJn C [.ref a, .ref b] H Q E := by
  unfold spJn
  exact ⟨a, b, n, m, r, rfl, ha, hb, ok1, ok2, hn, hl, k⟩
section
variable {P : Program} {w : World} {K : PySem.W.Frag} {mg : Str → Option Value} {base : Heap} {f C : Addr} {fd : FuncData}
theorem ok_joined (F : Fun K "joined" "joined" s_joined f fd) (hm : mg "joined" = some (.ref f)) (T : Txt K mg) (TC : TabC K C) (cW : ∃ u, mg "MOST_WIDTH" = some u ∧ RelV (.int 100) u) (c_check_same_width : Nm P w K mg base CX0 1 "check_same_width" s_check_same_width ["one", "other"] (spSame))
    (c_Table_width : Prp P w K mg base CX0 1 C "width" "Table.width" s_Table_width ["self"] (spWidth C)) (c_Table_rows : Mth P w K mg base CX0 1 C "rows" "Table.rows" s_Table_rows ["self"] (spTRows C))
    (b_Table : BndI P w K mg base CX0 6 "Table" C ["self", "width", "rows"] (spInit C) 2 [] (fun us _ => us)) : Nm P w K mg base CX0 8 "joined" s_joined ["zero", "one"] (spJn C) := by
  refine nm_of F hm sc_joined (fun vs H Q E h => ?_) fun cdv A outer s H vs Q E hr h => ?_
  · unfold spJn at h
    obtain ⟨a, b, n, m, r, rfl, ha, hb, ok1, ok2, hn, hl, k⟩ := h
    subst_vars
    rfl
  unfold spJn at h
  obtain ⟨a, b, n, m, r, rfl, ha, hb, ok1, ok2, hn, hl, k⟩ := h
  refine ⟨_, (pss_cons (ps_expr (pe_g c_check_same_width hr (by decide) L2.pass0 bp_check_same_width (by rfl) (pa_cons (pe_p c_Table_width TC.cl hr (by decide) L2.pass0 bm_Table_width (pv 0)) (pa_cons (pe_p c_Table_width TC.cl hr (by decide) L2.pass0 bm_Table_width (pv 1)) pa_nil))))
      (pss_cons (ps_if (pt_cmpR op_eq (pe_p c_Table_width TC.cl hr (by decide) L2.pass0 bm_Table_width (pv 0)) (pe_cst (by rfl) cW) (nomark _)) (pss_one ps_never) pss_nil)
      (C8.pss_cut (ps_setDc (i := 2) (own := [("stretch", 4), ("goal", 5)]) (g := (gTup K 2 (gCons (gName 4) (gCons (gName 5) gNil)))) (by rfl) sc_joined.nd rfl rfl (sw_trueD rfl rfl rfl (by decide +kernel)) (L2.pi_items (pe_frz (pe_m0 c_Table_rows TC.cl hr (by decide) L2.pass0 bm_Table_rows (pv 0)))) (blkOk_by (own := [("stretch", 4), ("goal", 5)]) (N := ["zero", "one", "behind_zero", "behind_one", "stretch", "goal"]) (sc := defScope s_joined) (by decide +kernel)) (fun _ _ _ _ _ => (pg_tup (by rfl) (pgs_cons (pg_name (i := 4) sc_joined.nd rfl (by first | exact Or.inl rfl | exact Or.inr rfl)) (pgs_cons (pg_name (i := 5) sc_joined.nd rfl (by first | exact Or.inl rfl | exact Or.inr rfl)) pgs_nil)))) (fun _ _ _ _ _ => pts_nil) (fun _ _ _ _ _ => (pe_op op_add_str pe_str (pv 4))) (fun _ _ _ _ _ => (pv 5)))
      (C8.pss_cut (ps_setDc (i := 3) (own := [("stretch", 4), ("goal", 5)]) (g := (gTup K 2 (gCons (gName 4) (gCons (gName 5) gNil)))) (by rfl) sc_joined.nd rfl rfl (sw_trueD rfl rfl rfl (by decide +kernel)) (L2.pi_items (pe_frz (pe_m0 c_Table_rows TC.cl hr (by decide) L2.pass0 bm_Table_rows (pv 1)))) (blkOk_by (own := [("stretch", 4), ("goal", 5)]) (N := ["zero", "one", "behind_zero", "behind_one", "stretch", "goal"]) (sc := defScope s_joined) (by decide +kernel)) (fun _ _ _ _ _ => (pg_tup (by rfl) (pgs_cons (pg_name (i := 4) sc_joined.nd rfl (by first | exact Or.inl rfl | exact Or.inr rfl)) (pgs_cons (pg_name (i := 5) sc_joined.nd rfl (by first | exact Or.inl rfl | exact Or.inr rfl)) pgs_nil)))) (fun _ _ _ _ _ => pts_nil) (fun _ _ _ _ _ => (pe_op op_add_str pe_str (pv 4))) (fun _ _ _ _ _ => (pv 5)))
      (pss_one (ps_ret (pe_mk b_Table hr (by decide) L2.pass0 (by rfl) (pa_cons (pe_op op_add (pe_p c_Table_width TC.cl hr (by decide) L2.pass0 bm_Table_width (pv 0)) pe_int) (pa_cons (pe_star2 (pv 2) (pv 3)) pa_nil)) pk_nil))))))), ?_⟩
  obtain ⟨da, Da, ea, eDa, na⟩ := ha
  obtain ⟨db, Db, eb, eDb, nb⟩ := hb
  have ta : TabAt C H a n m := ⟨da, Da, ea, eDa, na⟩
  have tb : TabAt C H b n r := ⟨db, Db, eb, eDb, nb⟩
  refine ⟨_, rfl, ⟨a, da, _, rfl, ea, width_go ta ?_⟩⟩
  refine ⟨_, rfl, ⟨b, db, _, rfl, eb, width_go tb ?_⟩⟩
  refine same_go ?_
  refine ⟨_, rfl, ⟨a, da, _, rfl, ea, width_go ta ?_⟩⟩
  refine ⟨rfl, ⟨_, rfl, ?_⟩⟩
  rw [decide_eq_false (by intro h; have := V.int.inj h; omega)]
  refine iteF ?_
  refine ⟨fun σ' H' => ∃ B, σ' = [some (.ref a), some (.ref b), some (.ref B), none, none, none] ∧ Same H H' ∧ H' B = some (.dK (tk (mapA [48] m))), ?_, ?_⟩
  · refine ⟨_, rfl, ⟨⟨a, da, _, rfl, ea, rfl⟩, ?_⟩⟩
    refine trows_go ta fun R nR => ?_
    have s2 := (Same.refl H).new (o := HO.dK (tk m)) nR
    have eR : upd H R (.dK (tk m)) R = some (.dK (tk m)) := upd_same
    have keepR : ∀ b o, H b = some o → b ≠ R := fun b o e => nonn nR e
    generalize upd H R (.dK (tk m)) = H2 at s2 eR ⊢
    refine ⟨R, _, rfl, eR, trivial, fun od => ?_⟩
    refine ⟨R, od, _, rfl, upd_same, fun B nB => ?_⟩
    have hBR : B ≠ R := fun z => by rw [z, upd_same] at nB; cases nB
    refine dc_it walk_items (fun i H1 => H1 B = some (.dK (tk (mapA [48] (m.take i)))) ∧ Same (upd H2 R (.frz od (.dK (tk m)))) H1) ⟨upd_same, fun c o e => updn (nonn nB e) e⟩ (fun _ H1 _ h => h.2 _ _ upd_same) ?_ ?_
    · rintro i x H3 H4 hi ⟨hB, sm⟩ ⟨t, x1, x2, rfl, nt, rfl, e1, e2⟩
      obtain ⟨p, hm1, rfl, rfl⟩ : ∃ p, m[i]? = some p ∧ x1 = .str p.1 ∧ x2 = .str p.2 := by
        dsimp only at e1 e2
        unfold tk at e1 e2
        rw [List.getElem?_map] at e1 e2
        cases hx : m[i]? with
        | none => rw [hx] at e1; cases e1
        | some p =>
          rw [hx] at e1 e2
          exact ⟨p, rfl, (Option.some.inj e1).symm, (Option.some.inj e2).symm⟩
      have hp := (ok1.rows p (List.mem_of_getElem? hm1)).2.1
      have nBt : B ≠ t := nonn nt hB
      have smt : Same (upd H2 R (.frz od (.dK (tk m)))) (upd H3 t (.tup [.str p.1, .str p.2])) := fun c o e => updn (nonn nt (sm c o e)) (sm c o e)
      have hBt : upd H3 t (.tup [.str p.1, .str p.2]) B = some (.dK (tk (mapA [48] (m.take i)))) := updn nBt hB
      refine ⟨t, [.str p.1, .str p.2], rfl, SqT.of upd_same, rfl, ?_⟩
      refine ⟨_, _, rfl, ?_⟩
      refine ⟨_, _, rfl, ?_⟩
      refine ⟨rfl, rfl, ?_⟩
      have etk : mapA [48] (m.take (i + 1)) = mapA [48] (m.take i) ++ [(("0" : Str) ++ p.1, p.2)] := by
        rw [List.take_add_one, hm1]
        unfold mapA
        rw [List.map_append]
        have e : (("0" : Str) ++ p.1, p.2) = (SX.S ([48] ++ p.1.cps.toList), p.2) := Prod.ext (tl_inj (by rw [tl_cat, tl_S]; rfl)) rfl
        rw [e]
        rfl
      dsimp only [tYes]
      rw [if_pos rfl]
      refine ⟨_, rfl, ⟨_, _, rfl, rfl, szl (by show 1 + p.1.length ≤ 1000000; omega), ?_⟩⟩
      have hnew : (("0" : Str) ++ p.1) ∉ (mapA [48] (m.take i)).map (·.1) := by
        intro hin
        have hn := mapA_nd (y := [48]) (m := m.take (i + 1)) (((List.take_sublist _ _).map _).nodup ok1.nd)
        rw [etk, List.map_append] at hn
        exact (List.nodup_append.mp hn).2.2 _ hin _ (List.mem_singleton.mpr rfl) rfl
      have hl4 : (tk (mapA [48] (m.take i))).length ≤ 40 := by
        have := ok1.few
        rw [tk_len]
        unfold mapA
        rw [List.length_map, List.length_take]
        omega
      refine ⟨_, rfl, ⟨_, Sum.inr (("0" : Str) ++ p.1), rfl, hBt, szt (by omega), ?_, fun c o e => updn (nonn nB e) (smt c o e)⟩⟩
      rw [upd_same, tk_snoc hnew, etk]
    · rintro H3 ⟨hB, sm⟩
      rw [tk_len, List.take_length] at hB
      exact ⟨B, rfl, fun c o e => sm c o (updn (keepR c o e) (s2 c o e)), hB⟩
  rintro σ' H1 ⟨B1, rfl, s1, eB1⟩
  refine ⟨fun σ' H' => ∃ B, σ' = [some (.ref a), some (.ref b), some (.ref B1), some (.ref B), none, none] ∧ Same H1 H' ∧ H' B = some (.dK (tk (mapA [49] r))), ?_, ?_⟩
  · refine ⟨_, rfl, ⟨⟨b, db, _, rfl, s1 _ _ eb, rfl⟩, ?_⟩⟩
    refine trows_go (tb.to s1) fun R nR => ?_
    have s2 := (Same.refl H1).new (o := HO.dK (tk r)) nR
    have eR : upd H1 R (.dK (tk r)) R = some (.dK (tk r)) := upd_same
    have keepR : ∀ b o, H1 b = some o → b ≠ R := fun b o e => nonn nR e
    generalize upd H1 R (.dK (tk r)) = H2 at s2 eR ⊢
    refine ⟨R, _, rfl, eR, trivial, fun od => ?_⟩
    refine ⟨R, od, _, rfl, upd_same, fun B nB => ?_⟩
    have hBR : B ≠ R := fun z => by rw [z, upd_same] at nB; cases nB
    refine dc_it walk_items (fun i H1 => H1 B = some (.dK (tk (mapA [49] (r.take i)))) ∧ Same (upd H2 R (.frz od (.dK (tk r)))) H1) ⟨upd_same, fun c o e => updn (nonn nB e) e⟩ (fun _ H1 _ h => h.2 _ _ upd_same) ?_ ?_
    · rintro i x H3 H4 hi ⟨hB, sm⟩ ⟨t, x1, x2, rfl, nt, rfl, e1, e2⟩
      obtain ⟨p, hm1, rfl, rfl⟩ : ∃ p, r[i]? = some p ∧ x1 = .str p.1 ∧ x2 = .str p.2 := by
        dsimp only at e1 e2
        unfold tk at e1 e2
        rw [List.getElem?_map] at e1 e2
        cases hx : r[i]? with
        | none => rw [hx] at e1; cases e1
        | some p =>
          rw [hx] at e1 e2
          exact ⟨p, rfl, (Option.some.inj e1).symm, (Option.some.inj e2).symm⟩
      have hp := (ok2.rows p (List.mem_of_getElem? hm1)).2.1
      have nBt : B ≠ t := nonn nt hB
      have smt : Same (upd H2 R (.frz od (.dK (tk r)))) (upd H3 t (.tup [.str p.1, .str p.2])) := fun c o e => updn (nonn nt (sm c o e)) (sm c o e)
      have hBt : upd H3 t (.tup [.str p.1, .str p.2]) B = some (.dK (tk (mapA [49] (r.take i)))) := updn nBt hB
      refine ⟨t, [.str p.1, .str p.2], rfl, SqT.of upd_same, rfl, ?_⟩
      refine ⟨_, _, rfl, ?_⟩
      refine ⟨_, _, rfl, ?_⟩
      refine ⟨rfl, rfl, ?_⟩
      have etk : mapA [49] (r.take (i + 1)) = mapA [49] (r.take i) ++ [(("1" : Str) ++ p.1, p.2)] := by
        rw [List.take_add_one, hm1]
        unfold mapA
        rw [List.map_append]
        have e : (("1" : Str) ++ p.1, p.2) = (SX.S ([49] ++ p.1.cps.toList), p.2) := Prod.ext (tl_inj (by rw [tl_cat, tl_S]; rfl)) rfl
        rw [e]
        rfl
      dsimp only [tYes]
      rw [if_pos rfl]
      refine ⟨_, rfl, ⟨_, _, rfl, rfl, szl (by show 1 + p.1.length ≤ 1000000; omega), ?_⟩⟩
      have hnew : (("1" : Str) ++ p.1) ∉ (mapA [49] (r.take i)).map (·.1) := by
        intro hin
        have hn := mapA_nd (y := [49]) (m := r.take (i + 1)) (((List.take_sublist _ _).map _).nodup ok2.nd)
        rw [etk, List.map_append] at hn
        exact (List.nodup_append.mp hn).2.2 _ hin _ (List.mem_singleton.mpr rfl) rfl
      have hl4 : (tk (mapA [49] (r.take i))).length ≤ 40 := by
        have := ok2.few
        rw [tk_len]
        unfold mapA
        rw [List.length_map, List.length_take]
        omega
      refine ⟨_, rfl, ⟨_, Sum.inr (("1" : Str) ++ p.1), rfl, hBt, szt (by omega), ?_, fun c o e => updn (nonn nB e) (smt c o e)⟩⟩
      rw [upd_same, tk_snoc hnew, etk]
    · rintro H3 ⟨hB, sm⟩
      rw [tk_len, List.take_length] at hB
      exact ⟨B, rfl, fun c o e => sm c o (updn (keepR c o e) (s2 c o e)), hB⟩
  rintro σ' H5 ⟨B2, rfl, s5, eB2⟩
  have s15 := s1.trans s5
  have eB15 := s5 _ _ eB1
  have ok := jn_ok ok1 ok2 hn hl
  have nd1 := mapA_nd (y := [48]) ok1.nd
  have l1 : (mapA [48] m).length = m.length := List.length_map ..
  have l2 : (mapA [49] r).length = r.length := List.length_map ..
  refine ⟨_, rfl, ⟨a, da, _, rfl, s15 _ _ ea, width_go (ta.to s15) ?_⟩⟩
  refine ⟨_, _, rfl, rfl, ?_⟩
  rw [show ((fun i j : Int => V.int (i + j)) (n : Int) 1) = V.int ((n + 1 : Nat) : Int) from congrArg V.int (by omega)]
  intro d nd
  have n1 : B1 ≠ d := nonn nd eB15
  have n2 : B2 ≠ d := nonn nd eB2
  refine ⟨_, rfl, ⟨B1, tk (mapA [48] m), rfl, Ne.symm n1, upd_same, .inl (updn n1 eB15), ?_⟩⟩
  refine ⟨_, rfl, ⟨B2, tk (mapA [48] m), tk (mapA [49] r), rfl, Ne.symm n2, by rw [upd_same, mrg_nil nd1], .inl (updn n2 (updn n2 eB2)), szl (by rw [tk_len, tk_len, l1, l2]; omega), ?_⟩⟩
  rw [mrgT_tk]
  refine ⟨rfl, rfl, fun x dx' hx hdx hxx => ?_⟩
  have up : Same H5 (upd (upd (upd H5 d (.dK [])) d (.dK (mergeK [] (tk (mapA [48] m))))) d (.dK (tk (mrgT (mapA [48] m) (mapA [49] r))))) := fun c o h0 => by
    have hc := nonn nd h0
    exact updn hc (updn hc (updn hc h0))
  have hd3 : upd (upd (upd H5 d (.dK [])) d (.dK (mergeK [] (tk (mapA [48] m))))) d (.dK (tk (mrgT (mapA [48] m) (mapA [49] r)))) d = some (.dK (tk (jn m r))) := upd_same
  generalize upd (upd (upd H5 d (.dK [])) d (.dK (mergeK [] (tk (mapA [48] m))))) d (.dK (tk (mrgT (mapA [48] m) (mapA [49] r)))) = H6 at up hd3 hx hdx ⊢
  have hdx2 : d ≠ x := nonn hx hd3
  have hdd : d ≠ dx' := nonn hdx hd3
  refine init_go upd_same (updn hdx2 (updn hdd hd3)) ok fun H7 kp tb => ⟨rfl, ?_⟩
  have s6 : Same H6 H7 := fun c o q => kp c o (nonn hx q) (updn (nonn hx q) (updn (nonn hdx q) q))
  exact k x H7 (s15.trans (up.trans s6)) (s15.back (up.back hx)) tb
end
open PySem PySem.Spec PyProof.Rows
open L2 hiding pass0
/-- the goal to take where g is inherited -/
def pick (s : SNd) (g : Str) : Str := if inS s g = true then g else (s.1.getD []).headD Str.empty
def inh (f : List Nat → SNd) (t : List Nat) : Str := (List.range t.length).foldl (fun g k => pick (f (t.take k)) g) "hole"
def gl (f : List Nat → SNd) (t : List Nat) : Str := pick (f t) (inh f t)
theorem inh_nil (f : List Nat → SNd) : inh f [] = "hole" := rfl
theorem fold_same {α β : Type} {u v : β → α → β} : ∀ {l : List α} {g : β}, (∀ x ∈ l, ∀ g, u g x = v g x) → l.foldl u g = l.foldl v g
  | [], _, _ => rfl
  | a :: l, g, h => by
    rw [List.foldl_cons, List.foldl_cons, h a List.mem_cons_self]
    exact fold_same fun x hx => h x (List.mem_cons_of_mem _ hx)
theorem inh_snoc (f : List Nat → SNd) (t : List Nat) (b : Nat) : inh f (t ++ [b]) = gl f t := by
  unfold gl inh
  rw [List.length_append, show t.length + [b].length = t.length + 1 from rfl, List.range_succ, List.foldl_append]
  have e : ∀ g, ([t.length] : List Nat).foldl (fun g k => pick (f ((t ++ [b]).take k)) g) g = pick (f t) g := fun g => by
    show pick (f ((t ++ [b]).take t.length)) g = _
    rw [List.take_left']
    rfl
  rw [e]
  congr 1
  refine fold_same fun k hk g => ?_
  have := List.mem_range.mp hk
  rw [List.take_append_of_le_length (by omega)]
theorem pick_in {s : SNd} {x : List Str} (e : s.1 = some x) (h : x ≠ []) (g : Str) : pick s g ∈ x := by
  unfold pick inS
  rw [e]
  by_cases q : g ∈ x
  · rw [if_pos (decide_eq_true q)]; exact q
  · rw [if_neg (by simpa using q)]
    cases x with
    | nil => exact absurd rfl h
    | cons a x => exact List.mem_cons_self
theorem pick_yes {s : SNd} {g : Str} (h : inS s g = true) : pick s g = g := if_pos h
theorem inS_pick {s : SNd} (h : ∀ x, s.1 = some x → x ≠ []) (g : Str) : inS s (pick s g) = true := by
  cases e : s.1 with
  | none => unfold inS; rw [e]
  | some x =>
    have := pick_in e (h x e) g
    unfold inS
    rw [e]
    exact decide_eq_true this
theorem cst_step {a b : SNd} (ha : ∀ x, a.1 = some x → x ≠ []) (hb : ∀ x, b.1 = some x → x ≠ []) (g : Str) :
    cst (both2 a b) g = (if inS (both2 a b) g = true then 0 else 1) + (cst a (pick (both2 a b) g) + cst b (pick (both2 a b) g)) := by
  have key : ∀ g', g' = pick (both2 a b) g → (both2 a b).2 = cst a g' + cst b g' := by
    rintro g' rfl
    obtain ⟨a, i⟩ := a
    obtain ⟨b, j⟩ := b
    cases a with
    | none =>
      rw [both_nl]
      cases b with
      | none => rw [cst_none, cst_none]
      | some y =>
        have := pick_in (s := (some y, i + j)) rfl (hb y rfl) g
        rw [cst_none, cst_some, if_pos this]
        rfl
    | some x =>
      cases b with
      | none =>
        rw [both_nr]
        have := pick_in (s := (some x, i + j)) rfl (ha x rfl) g
        rw [cst_none, cst_some, if_pos this]
        show i + j = _
        omega
      | some y =>
        rw [both_ss]
        by_cases q : shr x y = []
        · rw [if_pos q]
          have hne : tsort (x ++ y) ≠ [] := fun e => by
            have := (tsort_perm (x ++ y)).length_eq
            rw [e, List.length_append] at this
            have h2 : x.length ≠ 0 := fun z => ha x rfl (List.eq_nil_of_length_eq_zero z)
            have h3 : ([] : List Str).length = 0 := rfl
            omega
          have hp := pick_in (s := (some (tsort (x ++ y)), i + j + 1)) rfl hne g
          generalize pick (some (tsort (x ++ y)), i + j + 1) g = g' at hp
          have hp := List.mem_append.mp (mem_tsort.mp hp)
          have hn := shr_nil q g'
          rw [cst_some, cst_some]
          show i + j + 1 = _
          by_cases h1 : g' ∈ x
          · rw [if_pos h1, if_neg fun h2 => hn ⟨h1, h2⟩]; omega
          · rw [if_neg h1, if_pos (hp.resolve_left h1)]; omega
        · rw [if_neg q]
          have hp := pick_in (s := (some (shr x y), i + j)) rfl q g
          have hp := mem_shr.mp hp
          rw [cst_some, cst_some, if_pos hp.1, if_pos hp.2]
          rfl
  rw [← key _ rfl]
  show (both2 a b).2 + _ = _
  omega
open Classical in
/-- the row, or none, of a spare table at a stretch -/
noncomputable def rowT (n : Nat) (f : List Nat → SNd) (t : List Nat) : Option Str := if M.BL t ∧ t.length ≤ n ∧ inS (f t) (inh f t) = false then some (gl f t) else none
structure Due (n : Nat) (f : List Nat → SNd) (d : List (Str × Str)) : Prop where
  nd : (d.map (·.1)).Nodup
  at' : ∀ t, look d (SX.S t) = rowT n f t
theorem Due.at_ {n : Nat} {f : List Nat → SNd} {d : List (Str × Str)} (h : Due n f d) (z : Str) : look d z = rowT n f z.cps.toList := by
  rw [← h.at', S_cp]
theorem Due.srt {n : Nat} {f : List Nat → SNd} {d : List (Str × Str)} (h : Due n f d) : Due n f (Cov.srt d) := ⟨by rw [srt_keys]; exact (tsort_perm _).nodup_iff.mpr h.nd, fun t => by rw [look_srt]; exact h.at' t⟩
theorem BL.pre {t p : List Nat} (h : M.BL t) (q : p <+: t) : M.BL p := fun c hc => h c (q.subset hc)
theorem Due.goal {n : Nat} {f : List Nat → SNd} {d : List (Str × Str)} (h : Due n f d) : ∀ (k : Nat) (t : List Nat), t.length = k → M.BL t → t.length ≤ n → goalT (look d) (SX.S t) = gl f t := by
  intro k
  induction k with
  | zero =>
    intro t e _ _
    have := List.eq_nil_of_length_eq_zero e
    subst this
    rw [goal_nil, show ("" : Str) = SX.S [] by decide +kernel, h.at', rowT]
    by_cases q : inS (f []) (inh f []) = true
    · rw [if_neg (by rw [q]; simp), gl, pick_yes q]; rfl
    · rw [if_pos ⟨(fun c hc => by cases hc), Nat.zero_le _, by simpa using q⟩]; rfl
  | succ k ih =>
    intro t e bl l
    obtain ⟨s, b, rfl⟩ := snoc_of (s := t) (fun z => by rw [z] at e; cases e)
    have e' : s.length + 1 = k + 1 := by rw [List.length_append] at e; exact e
    have l' : s.length + 1 ≤ n := by rw [List.length_append] at l; exact l
    rw [goal_snoc, h.at', rowT, ih s (by omega) (BL.pre bl (List.prefix_append _ _)) (by omega)]
    by_cases q : inS (f (s ++ [b])) (inh f (s ++ [b])) = true
    · rw [if_neg (by rw [q]; simp), show gl f (s ++ [b]) = inh f (s ++ [b]) from pick_yes q, inh_snoc]; rfl
    · rw [if_pos ⟨bl, l, by simpa using q⟩]; rfl
/-- the same goals at all used addresses -/
def Like (n : Nat) (m m2 : List (Str × Str)) (fs : List (List Nat)) : Prop := ∀ z, M.BL z → z.length = n → M.frB fs z = false → goalT (look m) (SX.S z) = goalT (look m2) (SX.S z)
theorem Like.symm {n : Nat} {m m2 : List (Str × Str)} {fs : List (List Nat)} (h : Like n m m2 fs) : Like n m2 m fs := fun z a b c => (h z a b c).symm
theorem Like.trans {n : Nat} {m m2 m3 : List (Str × Str)} {fs : List (List Nat)} (h : Like n m m2 fs) (g : Like n m2 m3 fs) : Like n m m3 fs := fun z a b c => (h z a b c).trans (g z a b c)
theorem Like.sn {n : Nat} {m m2 : List (Str × Str)} {fs : List (List Nat)} (h : Like n m m2 fs) (t : List Nat) (bl : M.BL t) (l : t.length ≤ n) : SN n m fs t = SN n m2 fs t := by
  unfold SN
  refine SNk_congr fun y hy ly => ?_
  unfold lab
  by_cases q : M.frB fs (t ++ y) = true
  · rw [if_pos q, if_pos q]
  · rw [if_neg q, if_neg q, h _ (bl.app hy) (by rw [List.length_append]; omega) (by simpa using q)]
theorem SN_ne {n : Nat} {m : List (Str × Str)} {fs : List (List Nat)} {t : List Nat} : ∀ x, (SN n m fs t).1 = some x → x ≠ [] ∧ ∀ g ∈ x, g ∈ ("hole" : Str) :: m.map (·.2) := fun x hx => by
  obtain ⟨_, ne, sub⟩ := SNk_sub (GS := ("hole" : Str) :: m.map (·.2)) (fun y g _ _ e => by
    unfold lab at e
    split at e
    · cases e
    · cases e
      exact goal_in m _) x hx
  exact ⟨ne, sub⟩
theorem SN_end {n : Nat} {m : List (Str × Str)} {fs : List (List Nat)} {t : List Nat} (l : t.length = n) : SN n m fs t = ((lab m fs t).map fun g => [g], 0) := by
  unfold SN
  rw [l, Nat.sub_self]
  rfl
/-- it has the goals of the table -/
theorem Due.lab {n : Nat} {m d : List (Str × Str)} {fs : List (List Nat)} (h : Due n (SN n m fs) d) : Like n m d fs := fun z bl l nf => by
  rw [h.goal _ z rfl bl (by omega)]
  have e := SN_end (m := m) (fs := fs) l
  unfold Cov.lab at e
  rw [if_neg (by rw [nf]; simp)] at e
  have := pick_in (s := SN n m fs z) (x := [goalT (look m) (SX.S z)]) (by rw [e]; rfl) (by simp) (inh (SN n m fs) z)
  unfold gl
  exact (List.mem_singleton.mp this).symm
theorem count_kids {ks : List (List Nat)} (nd : ks.Nodup) (bl : ∀ s ∈ ks, M.BL s) (t : List Nat) :
    ks.countP (fun s => decide (t <+: s)) = (if t ∈ ks then 1 else 0) + (ks.countP (fun s => decide (t ++ [48] <+: s)) + ks.countP (fun s => decide (t ++ [49] <+: s))) := by
  induction ks with
  | nil => rfl
  | cons s ks ih =>
    obtain ⟨n1, n2⟩ := List.nodup_cons.mp nd
    have ih := ih n2 fun x hx => bl x (List.mem_cons_of_mem _ hx)
    rw [List.countP_cons, List.countP_cons, List.countP_cons, ih]
    have hb := bl s List.mem_cons_self
    by_cases e : s = t
    · subst e
      have h0 : ∀ b : Nat, ¬ s ++ [b] <+: s := fun b q => by
        have := q.length_le
        rw [List.length_append] at this
        have : s.length + 1 ≤ s.length := this
        omega
      rw [if_neg n1, if_pos List.mem_cons_self, if_pos (decide_eq_true (List.prefix_refl s)), if_neg (by simpa using h0 48), if_neg (by simpa using h0 49)]
      omega
    · have em : (t ∈ s :: ks) ↔ t ∈ ks := by
        rw [List.mem_cons]
        exact ⟨fun q => q.resolve_left fun z => e z.symm, .inr⟩
      have e2 : (if t ∈ s :: ks then 1 else 0) = if t ∈ ks then 1 else 0 := by
        by_cases z : t ∈ ks
        · rw [if_pos z, if_pos (em.mpr z)]
        · rw [if_neg z, if_neg fun y => z (em.mp y)]
      rw [e2]
      by_cases q : t <+: s
      · obtain ⟨y, rfl⟩ := q
        cases y with
        | nil => rw [List.append_nil] at e; exact absurd rfl e
        | cons b y =>
          have hbb : b = 48 ∨ b = 49 := hb b (by simp)
          have pc : ∀ c : Nat, (t ++ [c] <+: t ++ b :: y) ↔ c = b := fun c => by
            rw [show t ++ b :: y = t ++ ([b] ++ y) from rfl]
            rw [List.prefix_append_right_inj]
            constructor
            · rintro ⟨z, hz⟩
              cases hz
              rfl
            · rintro rfl
              exact ⟨y, rfl⟩
          rw [if_pos (decide_eq_true (List.prefix_append _ _))]
          rcases hbb with rfl | rfl
          · rw [if_pos (decide_eq_true ((pc 48).mpr rfl)), if_neg (show ¬ (decide (t ++ [49] <+: t ++ 48 :: y) = true) from fun z => by have := (pc 49).mp (of_decide_eq_true z); omega)]
            omega
          · rw [if_neg (show ¬ (decide (t ++ [48] <+: t ++ 49 :: y) = true) from fun z => by have := (pc 48).mp (of_decide_eq_true z); omega), if_pos (decide_eq_true ((pc 49).mpr rfl))]
            omega
      · have h0 : ∀ b : Nat, ¬ t ++ [b] <+: s := fun b z => q ((List.prefix_append _ _).trans z)
        rw [if_neg (show ¬ (decide (t <+: s) = true) from fun z => q (of_decide_eq_true z)), if_neg (show ¬ (decide (t ++ [48] <+: s) = true) from fun z => h0 48 (of_decide_eq_true z)), if_neg (show ¬ (decide (t ++ [49] <+: s) = true) from fun z => h0 49 (of_decide_eq_true z))]
        omega
theorem Due.mem {n : Nat} {f : List Nat → SNd} {d : List (Str × Str)} (h : Due n f d) (t : List Nat) : t ∈ kz d ↔ (M.BL t ∧ t.length ≤ n ∧ inS (f t) (inh f t) = false) := by
  have e : t ∈ kz d ↔ (look d (SX.S t)).isSome = true := by
    rw [look_key, decide_eq_true_iff]
    unfold Cov.kz
    rw [List.mem_map, List.mem_map]
    constructor
    · rintro ⟨p, hp, rfl⟩
      exact ⟨p, hp, (S_cp _).symm⟩
    · rintro ⟨p, hp, e⟩
      exact ⟨p, hp, by rw [e, tl_S]⟩
  rw [e, h.at', rowT]
  split <;> simp_all
theorem kz_nd {d : List (Str × Str)} (h : (d.map (·.1)).Nodup) : (kz d).Nodup := by
  have e : kz d = (d.map (·.1)).map fun z => z.cps.toList := by unfold kz; rw [List.map_map]; rfl
  rw [e]
  show List.Pairwise _ _
  rw [List.pairwise_map]
  exact h.imp fun {a b} q z => q (by rw [← S_cp a, ← S_cp b, z])
/-- and just so many rows -/
theorem Due.len {n : Nat} {m d : List (Str × Str)} {fs : List (List Nat)} (h : Due n (SN n m fs) d) : d.length = cst (SN n m fs []) "hole" := by
  have nd := kz_nd h.nd
  have bl : ∀ s ∈ kz d, M.BL s := fun s hs => ((h.mem s).mp hs).1
  have main : ∀ (k : Nat) (t : List Nat), t.length + k = n → M.BL t → (kz d).countP (fun s => decide (t <+: s)) = cst (SN n m fs t) (inh (SN n m fs) t) := by
    intro k
    induction k with
    | zero =>
      intro t l bt
      have z : ∀ b : Nat, (kz d).countP (fun s => decide (t ++ [b] <+: s)) = 0 := fun b => by
        rw [List.countP_eq_zero]
        intro s hs q
        have h1 := (of_decide_eq_true q).length_le
        have h2 := ((h.mem s).mp hs).2.1
        rw [List.length_append] at h1
        have : t.length + 1 ≤ s.length := h1
        omega
      rw [count_kids nd bl, z, z]
      have e := SN_end (m := m) (fs := fs) (t := t) (n := n) (by omega)
      have hm := h.mem t
      unfold cst
      rw [show (SN n m fs t).2 = 0 by rw [e]]
      by_cases q : inS (SN n m fs t) (inh (SN n m fs) t) = true
      · rw [if_pos q, if_neg fun z => by have := (hm.mp z).2.2; rw [q] at this; cases this]
      · rw [if_neg q, if_pos (hm.mpr ⟨bt, by omega, by simpa using q⟩)]
    | succ k ih =>
      intro t l bt
      have hb : ∀ b : Nat, b = 48 ∨ b = 49 → M.BL (t ++ [b]) := fun b hb => bt.app fun c hc => by rw [List.mem_singleton] at hc; rw [hc]; exact hb
      rw [count_kids nd bl, ih (t ++ [48]) (by rw [List.length_append]; show t.length + 1 + k = n; omega) (hb 48 (.inl rfl)), ih (t ++ [49]) (by rw [List.length_append]; show t.length + 1 + k = n; omega) (hb 49 (.inr rfl))]
      rw [inh_snoc, inh_snoc]
      have e := SN_in (m := m) (fs := fs) (t := t) (n := n) (by omega)
      have st := cst_step (a := SN n m fs (t ++ [48])) (b := SN n m fs (t ++ [49])) (fun x hx => (SN_ne x hx).1) (fun x hx => (SN_ne x hx).1) (inh (SN n m fs) t)
      rw [← e] at st
      rw [st]
      have hm := h.mem t
      unfold gl
      by_cases q : inS (SN n m fs t) (inh (SN n m fs) t) = true
      · rw [if_pos q, if_neg fun z => by have := (hm.mp z).2.2; rw [q] at this; cases this]
      · rw [if_neg q, if_pos (hm.mpr ⟨bt, by omega, by simpa using q⟩)]
  have := main n [] (by simp) (fun c hc => by cases hc)
  rw [inh_nil] at this
  rw [← this, List.countP_eq_length.mpr (fun s _ => decide_eq_true (List.nil_prefix)), kz_len]
/-- no table that is alike has fewer rows -/
theorem few_le {n : Nat} {m : List (Str × Str)} {fs : List (List Nat)} : cst (SN n m fs []) "hole" ≤ m.length := by
  have h := SNk_rows (lab := lab m fs) (G := fun t => goalT (look m) (SX.S t)) (ks := kz m) (k := n) (t := []) (fun y hy ly => by
    unfold lab
    by_cases q : M.frB fs ([] ++ y) = true
    · exact .inr (if_pos q)
    · exact .inl (if_neg q)) (fun y b _ _ hn => by
    show goalT (look m) _ = goalT (look m) _
    rw [goal_snoc]
    have : look m (SX.S ([] ++ y ++ [b])) = none := by
      have e : ¬ (look m (SX.S ([] ++ y ++ [b]))).isSome = true := fun z => hn (by
        rw [look_key, decide_eq_true_iff, List.mem_map] at z
        obtain ⟨p, hp, e⟩ := z
        exact List.mem_map.mpr ⟨p, hp, by rw [e, tl_S]⟩)
      cases c : look m (SX.S ([] ++ y ++ [b])) with
      | none => rfl
      | some g => rw [c] at e; exact absurd rfl e
    rw [this]
    rfl)
  have e0 : SN n m fs [] = SNk (lab m fs) n [] := by unfold SN; rfl
  rw [← e0] at h
  have lk := kz_len m
  by_cases q : ([] : List Nat) ∈ kz m
  · have h1 := cst_low (SN n m fs []) "hole" (goalT (look m) (SX.S []))
    have h2 : (kz m).countP (fun s => decide (([] : List Nat) <+: s) && !decide (s = [])) < (kz m).length := by
      refine Nat.lt_of_le_of_ne List.countP_le_length fun e => ?_
      have := (List.countP_eq_length.mp e) _ q
      simp at this
    omega
  · have hn : look m "" = none := by
      have e : ¬ (look m "").isSome = true := fun z => q (by
        rw [look_key, decide_eq_true_iff, List.mem_map] at z
        obtain ⟨p, hp, e⟩ := z
        exact List.mem_map.mpr ⟨p, hp, by rw [e]; decide +kernel⟩)
      cases c : look m "" with
      | none => rfl
      | some g => rw [c] at e; exact absurd rfl e
    have hG : goalT (look m) (SX.S []) = "hole" := by rw [goal_nil, hn]; rfl
    have h' : cst (SN n m fs []) (goalT (look m) (SX.S [])) ≤ _ := h
    rw [hG] at h'
    have := List.countP_le_length (l := kz m) (p := fun s => decide (([] : List Nat) <+: s) && !decide (s = []))
    omega
theorem Due.ok {n : Nat} {m d : List (Str × Str)} {fs : List (List Nat)} (ok : TabOk (n : Int) m) (h : Due n (SN n m fs) d) : TabOk (n : Int) d := ⟨ok.w0, ok.w1, fun p hp => by
  have hl := look_of h.nd hp
  rw [h.at_, rowT] at hl
  split at hl
  case isFalse => cases hl
  case isTrue c =>
  obtain ⟨bl, l, q⟩ := c
  have hg := Option.some.inj hl
  have hin : p.2 ∈ ("hole" : Str) :: m.map (·.2) := by
    rw [← hg]
    unfold gl
    cases e : (SN n m fs p.1.cps.toList).1 with
    | none => unfold inS at q; rw [e] at q; cases q
    | some x =>
      have hx := SN_ne x e
      exact hx.2 _ (pick_in e hx.1 _)
  have hb : Bits p.1 := fun c hc => bl c hc
  have hle : ((p.1.length : Nat) : Int) ≤ n := by
    have : p.1.length = p.1.cps.toList.length := by rw [← SX.S_len, S_cp]
    omega
  rcases List.mem_cons.mp hin with e | e
  · rw [show p = (p.1, p.2) from rfl, e]
    exact ⟨hb, hle, gg_hole.1, gg_hole.2.1, gg_hole.2.2⟩
  · obtain ⟨r, hr, er⟩ := List.mem_map.mp e
    rw [show p = (p.1, p.2) from rfl, ← er]
    have := ok.rows r hr
    exact ⟨hb, hle, this.2.2.1, this.2.2.2.1, this.2.2.2.2⟩, h.nd, by
  rw [h.len]
  have := few_le (n := n) (m := m) (fs := fs)
  have := ok.few
  omega⟩
open PySem PySem.Spec PyProof.Rows
open L2 hiding pass0
abbrev s_spare : Stmt := top 49
theorem sc_spare : FnScope ["table", "free", "known", "inherited", "rows", "stretch", "goals", "_", "goal"] ["table", "free"] (defScope s_spare) := ⟨rfl, rfl, rfl, by decide +kernel, rfl, by decide +kernel, by decide +kernel⟩
def al3 : List V → List V → List V := fun us _ => us
/-- no row where no key is -/
theorem row_out {n : Nat} {m : List (Str × Str)} {fs hs : List (List Nat)} {t : List Nat} (rk : ∀ p ∈ m, RowOk (n : Int) p) (ho : Hold (kz m ++ fs) hs) (ht : t ∉ kys hs) : rowT n (SN n m fs) t = none := by
  unfold rowT
  by_cases c : M.BL t ∧ t.length ≤ n
  case neg => exact if_neg fun z => c ⟨z.1, z.2.1⟩
  case pos =>
  have h0 : t ≠ [] := fun z => ht (kys_mem.mpr (.inl z))
  obtain ⟨p, b, rfl⟩ := snoc_of h0
  have hb : b = 48 ∨ b = 49 := c.1 b (by simp)
  have np : p ∉ hs := fun q => ht (kys_mem.mpr (.inr ⟨p, q, by rcases hb with rfl | rfl <;> simp⟩))
  have nt : p ++ [b] ∉ hs := fun q => np (ho.up q (List.prefix_append _ _))
  have hx : ∀ q, p <+: q → q ≠ p → q ∉ kz m ++ fs := fun q hp hn z => np ((ho.mem p).mpr ⟨q, z, hp, fun e => hn e.symm⟩)
  obtain ⟨h1, h2⟩ := frozen_ext hx _ [b] rfl
  have e : SN n m fs (p ++ [b]) = SN n m fs p := by
    rw [SN_leaf rk ho np, SN_leaf rk ho nt]
    unfold ev0 gev
    rw [h1, h2]
  refine if_neg fun z => ?_
  have := z.2.2
  rw [inh_snoc, e, gl, inS_pick (fun x hx => (SN_ne x hx).1)] at this
  cases this
theorem hold_key {n : Nat} {ts hs : List (List Nat)} (ho : Hold ts hs) (ht : ∀ t ∈ ts, M.BL t ∧ t.length ≤ n) {p : List Nat} (h : p ∈ hs) : p ∈ kys hs := by
  obtain ⟨i, hi⟩ := List.getElem?_of_mem h
  rcases kys_mem.mp (ho.key (fun t h => (ht t h).1) hi) with h | ⟨q, hq, h⟩
  · exact kys_mem.mpr (.inl h)
  · exact kys_mem.mpr (.inr ⟨q, List.mem_of_mem_take hq, h⟩)
/-- the keys, shorter ones first -/
structure Ord' (hs ls : List (List Nat)) : Prop where
  perm : ls.Perm (kys hs)
  ord : ls.Pairwise fun a b => a.length ≤ b.length
theorem Ord'.seen {n : Nat} {ts hs ls : List (List Nat)} (o : Ord' hs ls) (ho : Hold ts hs) (ht : ∀ t ∈ ts, M.BL t ∧ t.length ≤ n) {i : Nat} {s : List Nat} (e : ls[i]? = some s) : s ∈ kys (ls.take i) := by
  have hk : s ∈ kys hs := o.perm.mem_iff.mp (List.mem_of_getElem? e)
  rcases kys_mem.mp hk with h | ⟨p, hp, h⟩
  · exact kys_mem.mpr (.inl h)
  refine kys_mem.mpr (.inr ⟨p, ?_, h⟩)
  obtain ⟨j, hj⟩ := List.getElem?_of_mem (o.perm.mem_iff.mpr (hold_key ho ht hp))
  have l : p.length < s.length := by rcases h with rfl | rfl <;> (rw [List.length_append]; exact Nat.lt_succ_self _)
  have lt : j < i := by
    rcases Nat.lt_trichotomy j i with g | g | g
    · exact g
    · subst g
      rw [hj] at e
      cases e
      omega
    · obtain ⟨h1, e1⟩ := List.getElem?_eq_some_iff.mp e
      obtain ⟨h2, e2⟩ := List.getElem?_eq_some_iff.mp hj
      have := List.pairwise_iff_getElem.mp o.ord i j h1 h2 g
      rw [e1, e2] at this
      omega
  refine List.mem_of_getElem? (i := j) ?_
  rw [List.getElem?_take, if_pos lt]
  exact hj
@[irreducible] def spSp (K : PySem.W.Frag) (C : Addr) : Sp := fun vs H Q _ => ∃ (a F : Addr) (n : Nat) (m : List (Str × Str)) (fs : List (List Nat)), vs = [.ref a, .ref F] ∧ TF K C H a F n m fs ∧ ∀ a' d H', Same H H' → H a' = none → Due n (SN n m fs) d → TabAt C H' a' n (srt d) → Q (.ref a') H'
section
variable {K : PySem.W.Frag} {C a F : Addr} {n : Nat} {m : List (Str × Str)} {fs : List (List Nat)} {H : Hp} {Q : VK} {E : XK}
theorem sp_go (tf : TF K C H a F n m fs) (k : ∀ a' d H', Same H H' → H a' = none → Due n (SN n m fs) d → TabAt C H' a' n (srt d) → Q (.ref a') H') : spSp K C [.ref a, .ref F] H Q E := by
  unfold spSp
  exact ⟨a, F, n, m, fs, rfl, tf, k⟩
end
section
variable {P : Program} {w : World} {K : PySem.W.Frag} {mg : Str → Option Value} {base : Heap} {f C : Addr} {fd' : FuncData}
theorem ok_spare {params : Arguments} {dvs : List V} {kws : List (Str × V)} (F : FunD K "spare" "spare" params (defBody s_spare) (defScope s_spare) dvs kws f fd') (T : Txt K mg) (TC : TabC K C) (cA : ∃ u, mg "ALL" = some u ∧ RelV (.str "all") u) (c_sets_and_needs : Nm P w K mg base CX0 6 "sets_and_needs" s_sets_and_needs ["table", "free"] (spSN K C))
    (c_Table_width : Prp P w K mg base CX0 1 C "width" "Table.width" s_Table_width ["self"] (spWidth C))
    (b_Table : BndI P w K mg base CX0 6 "Table" C ["self", "width", "rows"] (spInit C) 2 [] (fun us _ => us)) : FnG P w K mg base CX0 8 f fd' ["table", "free"] (spSp K C) := by
  obtain ⟨oc, od, dV, kV, doc, pm, an, cdv, ct, osl, rfl, lk, hcd, _, _⟩ := F.ex
  refine fnG_core0 lk hcd sc_spare (fun vs H Q E h => ?_) fun A outer s H vs Q E hr h => ?_
  · unfold spSp at h
    obtain ⟨a, F, n, m, fs, rfl, _⟩ := h
    rfl
  unfold spSp at h
  obtain ⟨a, F, n, m, fs, rfl, tf, k⟩ := h
  refine ⟨_, (C8.pss_cut (ps_set (i := 2) sc_spare.nd rfl (by first | exact Or.inl rfl | exact Or.inr rfl) (pe_g c_sets_and_needs hr (by decide) L2.pass0 bp_sets_and_needs (by rfl) (pa_cons (pv 0) (pa_cons (pv 1) pa_nil))))
      (C8.pss_cut (ps_set (i := 3) sc_spare.nd rfl (by first | exact Or.inl rfl | exact Or.inr rfl) (pe_disp (pps_cons pe_str pe_str pps_nil) (by rfl) (by rfl) (fun z => by cases z) (by decide)))
      (C8.pss_cut (ps_set (i := 4) sc_spare.nd rfl (by first | exact Or.inl rfl | exact Or.inr rfl) pe_dnewK)
      (C8.pss_cut (ps_for PassesOwn.never rfl (pi_listK (K := K) rfl (pe_sortLen (by rfl) T.b_sorted (by rfl) T.b_len hr.u rfl (pv 2))) (pg_name (i := 5) sc_spare.nd rfl (by first | exact Or.inl rfl | exact Or.inr rfl)) (pss_cons (ps_asg (pe_dget hr.u1 (pv 2) (pv 5) (fun _ _ => rfl)) (pg_tup (by rfl) (pgs_cons (pg_name (i := 6) sc_spare.nd rfl (by first | exact Or.inl rfl | exact Or.inr rfl)) (pgs_cons (pg_name (i := 7) sc_spare.nd rfl (by first | exact Or.inl rfl | exact Or.inr rfl)) pgs_nil))))
      (pss_cons (ps_set (i := 8) sc_spare.nd rfl (by first | exact Or.inl rfl | exact Or.inr rfl) (pe_dget hr.u1 (pv 3) (pv 5) (fun _ _ => rfl)))
      (C8.pss_cut (ps_if (PW.pt (pw_and (pt_cmpR (op_neDK (K := K) rfl hr.u64) (pv 6) (pe_cst (by rfl) cA) (nomark _)) (pw_and1 (pt_cmpR (op_notInK (K := K) rfl) (pv 8) (pv 6) rfl)))) (pss_cons (ps_set (i := 8) sc_spare.nd rfl (by first | exact Or.inl rfl | exact Or.inr rfl) (pe_ix (ix_seqK (K := K) rfl) (pv 6) pe_int (fun _ _ => rfl)))
      (pss_one (ps_asg (pv 8) (pg_sub (pv 4) (pv 5) (set_dict hr.u1))))) pss_nil)
      (pss_cons (ps_asg (pv 8) (pg_sub (pv 3) (pe_op op_add_str (pv 5) pe_str) (set_dict hr.u1)))
      (pss_one (ps_asg (pv 8) (pg_sub (pv 3) (pe_op op_add_str (pv 5) pe_str) (set_dict hr.u1)))))))))
      (pss_one (ps_ret (pe_mk b_Table hr (by decide) L2.pass0 (by rfl) (pa_cons (pe_p c_Table_width TC.cl hr (by decide) L2.pass0 bm_Table_width (pv 0)) (pa_cons (pv 4) pa_nil)) pk_nil))))))), ?_⟩
  have rk := tf.ok.rows
  have h0 : 1 ≤ n := by have := tf.ok.w0; omega
  have h1 : n ≤ 100 := by have := tf.ok.w1; omega
  obtain ⟨dx, Dm, ha, hDm, hne⟩ := tf.ht
  have hts : ∀ t ∈ kz m ++ fs, M.BL t ∧ t.length ≤ n := fun t ht => by
    rcases List.mem_append.mp ht with h | h
    · exact kz_fits rk t h
    · exact tf.ff t h
  refine ⟨fun σ' H' => ∃ D, σ' = [some (.ref a), some (.ref F), some (.ref D), none, none, none, none, none, none] ∧ Same H H' ∧ KnAt H' D n m fs, ?_, ?_⟩
  · refine ⟨_, rfl, ⟨_, rfl, ?_⟩⟩
    exact sn_go tf.ht tf.ok tf.hF tf.ff tf.nd tf.lf fun D H1 s1 nD hk => ⟨D, rfl, s1, hk⟩
  rintro σ' H1 ⟨D, rfl, s1, hs, ad, ho, eD, hev⟩
  have hlen : hs.length ≤ 6000 := by
    have := ho.len
    have h2 : (kz m ++ fs).length ≤ 60 := by
      rw [List.length_append, kz_len]
      have := tf.ok.few
      have := tf.lf
      omega
    omega
  have klen := kys_len hs
  have knd := kys_nd ho.nd
  refine ⟨fun σ' H' => ∃ I, σ' = [some (.ref a), some (.ref F), some (.ref D), some (.ref I), none, none, none, none, none] ∧ Same H1 H' ∧ H1 I = none ∧ H' I = some (.dK (fd (kys []) fun t => .str (inh (SN n m fs) t))), ?_, ?_⟩
  · intro I nI
    have es : SX.S [] = ("" : Str) := by decide +kernel
    have ef : fd (kys []) (fun t => V.str (inh (SN n m fs) t)) = tk [("", "hole")] := by
      show [(skey [], V.str (inh (SN n m fs) []))] = [((Sum.inr ("" : Str) : Key), V.str "hole")]
      rw [inh_nil]
      unfold skey
      rw [es]
    refine ⟨upd_same, tk [("", "hole")], rfl, by decide, ?_⟩
    rw [mrg_nil (m := [("", "hole")]) (by decide), ef]
    exact ⟨I, rfl, fun b o e => updn (nonn nI e) (updn (nonn nI e) e), nI, upd_same⟩
  rintro σ' H2 ⟨I, rfl, s2, nI, eI⟩
  refine ⟨fun σ' H' => ∃ R, σ' = [some (.ref a), some (.ref F), some (.ref D), some (.ref I), some (.ref R), none, none, none, none] ∧ Same H1 H' ∧ H1 R = none ∧ I ≠ R ∧ H' I = some (.dK (fd (kys []) fun t => .str (inh (SN n m fs) t))) ∧ H' R = some (.dK (tk [])), ?_, ?_⟩
  · intro R nR
    have e2 := updn (o := HO.dK []) (nonn nR eI) eI
    exact ⟨R, rfl, s2.new nR, s2.back nR, nonn nR eI, e2, upd_same⟩
  rintro σ' H3 ⟨R, rfl, s3, nR, nIR, eI3, eR3⟩
  clear s2 eI
  have nIH := s1.back nI
  have nRH := s1.back nR
  have nDI : D ≠ I := nonn nI eD
  have nDR : D ≠ R := nonn nR eD
  refine ⟨fun σ' H' => ∃ (d : List (Str × Str)) (x5 x6 x7 x8 : Option V), σ' = [some (.ref a), some (.ref F), some (.ref D), some (.ref I), some (.ref R), x5, x6, x7, x8] ∧ Same H H' ∧ H' R = some (.dK (tk d)) ∧ Due n (SN n m fs) d, ?_, ?_⟩
  · refine ⟨_, rfl, ⟨D, _, (kys hs).map SX.S, rfl, .inl (s3 _ _ eD), fd_keys _ _, fun x hx => ?_, fun p np => ?_⟩⟩
    · obtain ⟨t, ht, rfl⟩ := List.mem_map.mp hx
      have := (kys_fit ho hts ht).2
      exact szl (by rw [sx_len]; omega)
    have hm : ((lsort ((kys hs).map SX.S)).map fun z => z.cps.toList).map sx = (lsort ((kys hs).map SX.S)).map V.str := by
      rw [List.map_map]
      exact List.map_congr_left fun z _ => sx_tl z
    have hp := lsort_perm ((kys hs).map SX.S)
    have od : Ord' hs ((lsort ((kys hs).map SX.S)).map fun z => z.cps.toList) := by
      refine ⟨?_, ?_⟩
      · have h1 := hp.map fun z : Str => z.cps.toList
        rw [List.map_map] at h1
        have e : (kys hs).map ((fun z : Str => z.cps.toList) ∘ SX.S) = kys hs := by
          rw [show ((fun z : Str => z.cps.toList) ∘ SX.S) = id from funext fun t => tl_S t, List.map_id]
        rw [e] at h1
        exact h1
      · rw [List.pairwise_map]
        refine (lsort_ord ((kys hs).map SX.S)).imp fun {a b} h => ?_
        rw [len_tl, len_tl]
        exact h
    rw [← hm]
    generalize (lsort ((kys hs).map SX.S)).map (fun z => z.cps.toList) = ls at od
    clear hm hp
    have ndl : ls.Nodup := od.perm.nodup_iff.mpr knd
    have s4 := s3.new (o := HO.lst (ls.map sx)) np
    have eL : upd H3 p (.lst (ls.map sx)) p = some (.lst (ls.map sx)) := upd_same
    have eI4 := updn (o := HO.lst (ls.map sx)) (nonn np eI3) eI3
    have eR4 := updn (o := HO.lst (ls.map sx)) (nonn np eR3) eR3
    have nLI : p ≠ I := (nonn np eI3).symm
    have nLR : p ≠ R := (nonn np eR3).symm
    generalize upd H3 p (.lst (ls.map sx)) = H4 at s4 eL eI4 eR4 ⊢
    refine ⟨p, rfl, ⟨_, SqL.of eL⟩, ?_⟩
    refine for_it (walk_list (xs := ls.map sx)) (fun i σ' H' => ∃ (d : List (Str × Str)) (x5 x6 x7 x8 : Option V), σ' = [some (.ref a), some (.ref F), some (.ref D), some (.ref I), some (.ref R), x5, x6, x7, x8] ∧ (∀ b o, b ≠ I → b ≠ R → H4 b = some o → H' b = some o) ∧ H' I = some (.dK (fd (kys (ls.take i)) fun t => .str (inh (SN n m fs) t))) ∧ H' R = some (.dK (tk d)) ∧ (d.map (·.1)).Nodup ∧ d.length ≤ i ∧ ∀ t, look d (SX.S t) = if t ∈ ls.take i then rowT n (SN n m fs) t else none)
      ⟨[], _, _, _, _, rfl, fun b o _ _ e => e, eI4, eR4, .nil, Nat.le_refl _, fun t => by rw [List.take_zero, if_neg (by simp)]; rfl⟩ (fun i σ' H' _ h => let ⟨_, _, _, _, _, _, k, _⟩ := h; SqL.of (k _ _ nLI nLR eL)) ?_ ?_
    · rintro i x σ' H5 H6 hi ⟨d, x5, x6, x7, x8, rfl, kp, eI5, eR5, ndd, ld, hd⟩ ⟨rfl, hx⟩
      rw [List.length_map] at hi
      obtain ⟨t, ht, rfl⟩ := sx_at hx
      have htk : t ∈ kys hs := od.perm.mem_iff.mp (List.mem_of_getElem? ht)
      have htf := kys_fit ho hts htk
      have nw : t ∉ ls.take i := take_new ndl ht
      have seen := od.seen ho hts ht
      obtain ⟨v, ec, hv⟩ := hev t htk
      have kp1 : ∀ b o, H1 b = some o → H6 b = some o := fun b o e => kp b o (nonn nI e) (nonn nR e) (s4 _ _ e)
      have eD6 := kp1 _ _ eD
      have ec6 := kp1 _ _ ec
      have hv6 := hv.to (H' := H6) kp1
      have eI6 : H6 I = some (.dK (fd (kys (ls.take i)) fun t => .str (inh (SN n m fs) t))) := eI5
      have eR6 : H6 R = some (.dK (tk d)) := eR5
      refine ⟨_, rfl, ⟨_, rfl, ?_⟩⟩
      refine ⟨D, .ref (ad t), rfl, .inl ⟨_, skey t, .inl eD6, rfl, by rw [fd_val, if_pos htk]⟩, ?_⟩
      refine ⟨ad t, _, rfl, SqT.of ec6, rfl, ⟨_, _, rfl, ⟨_, _, rfl, ⟨rfl, ?_⟩⟩⟩⟩
      refine ⟨_, rfl, ⟨_, rfl, ?_⟩⟩
      refine ⟨I, .str (inh (SN n m fs) t), rfl, .inl ⟨_, skey t, .inl eI6, rfl, by rw [fd_val, if_pos seen]⟩, ?_⟩
      refine ⟨fun σ' H' => ∃ d', σ' = [some (.ref a), some (.ref F), some (.ref D), some (.ref I), some (.ref R), some (sx t), some v, some (.int ((SN n m fs t).2 : Nat)), some (.str (gl (SN n m fs) t))] ∧ (∀ b o, b ≠ I → b ≠ R → H4 b = some o → H' b = some o) ∧ H' I = some (.dK (fd (kys (ls.take i)) fun t => .str (inh (SN n m fs) t))) ∧ H' R = some (.dK (tk d')) ∧ (d'.map (·.1)).Nodup ∧ d'.length ≤ i + 1 ∧ ∀ t, look d' (SX.S t) = if t ∈ ls.take (i + 1) then rowT n (SN n m fs) t else none, ?_, ?_⟩
      · have hz := SN_sz (t := t) (fs := fs) tf.ok
        have hne := SN_ne (n := n) (m := m) (fs := fs) (t := t)
        have dA : Dp K H6 (.str "all") (.str "all") := .str _
        have sA : SeqAt.shaped (.str "all") = true := (show Fit 200 0 (.str "all") from Fit.str (by decide +kernel) (by decide +kernel)).shp (by decide)
        have eA : PyData.eqv (.str "all") (.str "all") = true := by simp [PyData.eqv]
        have eL : ∀ zs : List Str, PyData.eqv (.list (zs.map PyData.str)) (.str "all") = false := fun zs => by simp [PyData.eqv]
        have old : inS (SN n m fs t) (inh (SN n m fs) t) = true → ∀ u, look d (SX.S u) = if u ∈ ls.take (i + 1) then rowT n (SN n m fs) u else none := fun q u => by
          rw [hd, List.take_add_one, ht]
          by_cases e : u = t
          · subst e
            rw [if_neg nw, if_pos (by simp), rowT, if_neg (by rw [q]; simp)]
          · have : (u ∈ ls.take i ++ (some t).toList) ↔ u ∈ ls.take i := by
              rw [List.mem_append]
              exact ⟨fun z => z.resolve_right fun y => e (by simpa using y), .inl⟩
            by_cases c : u ∈ ls.take i
            · rw [if_pos c, if_pos (this.mpr c)]
            · rw [if_neg c, if_neg fun z => c (this.mp z)]
        have hgl : inS (SN n m fs t) (inh (SN n m fs) t) = true → gl (SN n m fs) t = inh (SN n m fs) t := pick_yes
        have new : inS (SN n m fs t) (inh (SN n m fs) t) = false → putT d (SX.S t) (gl (SN n m fs) t) = d ++ [(SX.S t, gl (SN n m fs) t)] ∧ ∀ u, look (putT d (SX.S t) (gl (SN n m fs) t)) (SX.S u) = if u ∈ ls.take (i + 1) then rowT n (SN n m fs) u else none := fun q => by
          refine ⟨put_new fun z => ?_, fun u => ?_⟩
          · have h2 := hd t
            rw [if_neg nw] at h2
            have h3 : (look d (SX.S t)).isSome = true := by rw [look_key, decide_eq_true_iff]; exact z
            rw [h2] at h3
            cases h3
          · rw [look_put, List.take_add_one, ht]
            by_cases e : u = t
            · subst e
              rw [if_pos rfl, if_pos (by simp), rowT, if_pos ⟨htf.1, htf.2, q⟩]
            · have : (u ∈ ls.take i ++ (some t).toList) ↔ u ∈ ls.take i := by
                rw [List.mem_append]
                exact ⟨fun z => z.resolve_right fun y => e (by simpa using y), .inl⟩
              rw [if_neg fun z => e (S_inj z), hd]
              by_cases c : u ∈ ls.take i
              · rw [if_pos c, if_pos (this.mpr c)]
              · rw [if_neg c, if_neg fun z => c (this.mp z)]
        have hg0 : ∀ x, (SN n m fs t).1 = some x → inS (SN n m fs t) (inh (SN n m fs) t) = decide (inh (SN n m fs) t ∈ x) := fun x e => by unfold inS; rw [e]
        have hg1 : ∀ x, (SN n m fs t).1 = some x → inS (SN n m fs t) (inh (SN n m fs) t) = false → gl (SN n m fs) t = x.headD Str.empty := fun x e q => by
          unfold gl pick
          rw [if_neg (by rw [q]; simp), e]
          rfl
        cases e : (SN n m fs t).1 with
        | none =>
          rw [e] at hv6
          obtain rfl : v = .str "all" := hv6
          have q : inS (SN n m fs t) (inh (SN n m fs) t) = true := by unfold inS; rw [e]
          refine ⟨_, rfl, ⟨_, _, dA, dA, sA, sA, ?_⟩⟩
          refine ⟨_, rfl, ?_⟩
          rw [eA]
          refine iteF (iteF ?_)
          exact ⟨d, by rw [hgl q]; rfl, kp, eI6, eR6, ndd, by omega, old q⟩
        | some xs =>
          rw [e] at hv6
          obtain ⟨A1, rfl, hA⟩ := hv6
          obtain ⟨lx, gx⟩ := hz xs e
          have hx0 := hne xs e
          refine ⟨_, rfl, ⟨_, _, .lst (SqL.of hA) (dps xs), dA, (strs_fit gx).shp (by decide), sA, ?_⟩⟩
          refine ⟨_, rfl, ?_⟩
          rw [eL]
          refine iteT ?_
          refine ⟨_, rfl, ⟨_, rfl, ⟨A1, _, rfl, .inl (SqL.of hA), rfl, flat_strs _, ?_⟩⟩⟩
          refine ⟨_, rfl, ?_⟩
          rw [inV_strs]
          by_cases q : inh (SN n m fs) t ∈ xs
          · rw [decide_eq_true q]
            refine iteF ?_
            have q' := hg0 xs e
            rw [decide_eq_true q] at q'
            exact ⟨d, by rw [hgl q']; rfl, kp, eI6, eR6, ndd, by omega, old q'⟩
          · rw [decide_eq_false q]
            refine iteT ?_
            have q' := hg0 xs e
            rw [decide_eq_false q] at q'
            obtain ⟨y, ys, rfl⟩ := List.exists_cons_of_ne_nil hx0.1
            have hy : gl (SN n m fs) t = y := hg1 _ e q'
            obtain ⟨n1, n2⟩ := new q'
            rw [hy] at n1 n2
            refine ⟨_, rfl, ?_⟩
            refine .inl ⟨A1, _, 0, .str y, rfl, rfl, SqL.of hA, by unfold atI ixN; simp, ?_⟩
            refine ⟨_, rfl, ⟨_, rfl, ⟨_, rfl, ⟨R, _, rfl, .inl ⟨_, skey t, eR6, rfl, szt (by rw [tk_len]; have := od.perm.length_eq; omega), rfl⟩, ?_⟩⟩⟩⟩
            rw [show putK (tk d) (skey t) (.str y) = tk (putT d (SX.S t) y) from tk_put d (SX.S t) y]
            refine ⟨putT d (SX.S t) y, by rw [hy]; rfl, fun b o q1 q2 q3 => updn q2 (kp b o q1 q2 q3), updn nIR eI6, upd_same, put_nodup ndd, ?_, n2⟩
            rw [n1, List.length_append]
            exact Nat.succ_le_succ ld
      rintro σ' H7 ⟨d', rfl, kp7, eI7, eR7, ndd', ld', hd'⟩
      have lk : (kys (ls.take i)).length ≤ 30000 := by
        have h1 := kys_len (ls.take i)
        have h2 := od.perm.length_eq
        rw [List.length_take] at h1
        omega
      have n48 := kys_new nw 48
      have n49 := kys_new nw 49
      refine ⟨_, rfl, ⟨_, rfl, ⟨_, rfl, ⟨_, _, rfl, rfl, szl (by rw [sx_len]; show t.length + 1 ≤ 1000000; omega), ?_⟩⟩⟩⟩
      rw [str0]
      refine ⟨I, _, rfl, .inl ⟨_, skey (t ++ [48]), eI7, rfl, szt (by rw [fd_len]; omega), rfl⟩, ?_⟩
      rw [fd_put, if_neg n48]
      refine ⟨_, rfl, ⟨_, rfl, ⟨_, rfl, ⟨_, _, rfl, rfl, szl (by rw [sx_len]; show t.length + 1 ≤ 1000000; omega), ?_⟩⟩⟩⟩
      rw [str1]
      refine ⟨I, _, rfl, .inl ⟨_, skey (t ++ [49]), upd_same, rfl, szt (by rw [fd_len, List.length_append, List.length_singleton]; omega), rfl⟩, ?_⟩
      rw [fd_put, if_neg (show t ++ [49] ∉ kys (ls.take i) ++ [t ++ [48]] from fun z => by
        rcases List.mem_append.mp z with q | q
        · exact n49 q
        · simp at q)]
      refine ⟨d', _, _, _, _, rfl, fun b o q1 q2 q3 => updn q1 (updn q1 (kp7 b o q1 q2 q3)), ?_, updn nIR.symm (updn nIR.symm eR7), ndd', ld', hd'⟩
      have ek : kys (ls.take (i + 1)) = (kys (ls.take i) ++ [t ++ [48]]) ++ [t ++ [49]] := by
        rw [List.take_add_one, ht]
        show kys (ls.take i ++ [t]) = _
        rw [kys_snoc, List.append_assoc]
        rfl
      rw [upd_same, ek]
      refine congrArg (fun z => some (HO.dK z)) (fd_congr fun x _ => ?_)
      by_cases q1 : x = t ++ [49]
      · rw [q1, fup_at, inh_snoc]
      · rw [fup_ne q1]
        by_cases q0 : x = t ++ [48]
        · rw [q0, fup_at, inh_snoc]
        · rw [fup_ne q0]
    · rintro σ' H5 ⟨d, x5, x6, x7, x8, rfl, kp, eI5, eR5, ndd, ld, hd⟩
      rw [List.length_map, List.take_length] at hd
      refine ⟨d, _, _, _, _, rfl, fun b o e => kp b o (fun z => by rw [z, nIH] at e; cases e) (fun z => by rw [z, nRH] at e; cases e) (s4 _ _ (s1 _ _ e)), eR5, ndd, fun t => ?_⟩
      rw [hd]
      by_cases q : t ∈ ls
      · exact if_pos q
      · rw [if_neg q, row_out rk ho fun z => q (od.perm.mem_iff.mpr z)]
  rintro σ' H4 ⟨d, x5, x6, x7, x8, rfl, s4, eR4, du⟩
  have okd := du.ok tf.ok
  refine ⟨_, rfl, ⟨a, dx, _, rfl, s4 _ _ ha, width_go (tf.ht.to s4) ?_⟩⟩
  refine ⟨_, rfl, ⟨rfl, rfl, fun x dx' hx hdx hxx => ?_⟩⟩
  have hRx : R ≠ x := nonn hx eR4
  have hRd : R ≠ dx' := nonn hdx eR4
  refine init_go upd_same (updn hRx (updn hRd eR4)) okd fun H7 kp tb => ⟨rfl, ?_⟩
  have s6 : Same H4 H7 := fun c o q => kp c o (nonn hx q) (updn (nonn hx q) (updn (nonn hdx q) q))
  exact k x d H7 (s4.trans s6) (s4.back hx) du tb
end
open PySem PySem.Spec PyProof.Rows
open L2 hiding pass0
/-- a pair: where it begins (none: outside), where it ends -/
abbrev Pr := Option (List Nat) × List Nat
/-- the border of s is passed downwards, upwards -/
def dnP (q : Pr) (s : List Nat) : Prop := s <+: q.2 ∧ ∀ z, q.1 = some z → ¬ s <+: z
def upP (q : Pr) (s : List Nat) : Prop := ∃ z, q.1 = some z ∧ s <+: z ∧ ¬ s <+: q.2
/-- two pairs keep clear of each other -/
def Clear (G : List Nat → Str) (q r : Pr) : Prop := ∀ s, ¬ (dnP q s ∧ upP r s) ∧ ¬ (upP q s ∧ dnP r s) ∧ (dnP q s ∧ dnP r s → G q.2 ≠ G r.2) ∧ (upP q s ∧ upP r s → G q.2 ≠ G r.2)
/-- the goal of each stretch by a table's rows -/
def gT (d : List (Str × Str)) (t : List Nat) : Str := goalT (look d) (SX.S t)
open PySem PySem.Spec PyProof.Rows
open L2 hiding pass0
abbrev s_is_used_address : Stmt := top 68
theorem sc_is_used_address : FnScope ["width", "free", "value"] ["width", "free", "value"] (defScope s_is_used_address) := ⟨rfl, rfl, rfl, by decide +kernel, rfl, by decide +kernel, by decide +kernel⟩
theorem bp_is_used_address : BndP "_is_used_address" s_is_used_address ["width", "free", "value"] := fun _ _ _ _ _ _ us h => match us, h with | [_, _, _], _ => rfl
abbrev s_is_pair : Stmt := top 67
theorem sc_is_pair : FnScope ["table", "free", "pair", "begin", "end"] ["table", "free", "pair"] (defScope s_is_pair) := ⟨rfl, rfl, rfl, by decide +kernel, rfl, by decide +kernel, by decide +kernel⟩
theorem bp_is_pair : BndP "_is_pair" s_is_pair ["table", "free", "pair"] := fun _ _ _ _ _ _ us h => match us, h with | [_, _, _], _ => rfl
/-- a pair as a tuple's fields -/
def oB : Option (List Nat) → V
  | none => .non
  | some z => sx z
/-- both ends are used, and lead apart -/
def okP (d : List (Str × Str)) (fs : List (List Nat)) (q : Pr) : Bool := !M.frB fs q.2 && (match q.1 with
  | none => !decide (gT d q.2 = "hole")
  | some z => !M.frB fs z && !decide (gT d z = gT d q.2))
/-- its ends are addresses -/
def PrOk (n : Nat) (q : Pr) : Prop := (M.BL q.2 ∧ q.2.length = n) ∧ ∀ z, q.1 = some z → M.BL z ∧ z.length = n
/-- what stands in a tuple: a pair, or nothing -/
def oT : Option Pr → List V
  | none => []
  | some q => [oB q.1, sx q.2]
def okO (d : List (Str × Str)) (fs : List (List Nat)) : Option Pr → Bool
  | none => false
  | some q => okP d fs q
def PoOk (n : Nat) (o : Option Pr) : Prop := ∀ q, o = some q → PrOk n q
@[irreducible] def spUA (K : PySem.W.Frag) : Sp := fun vs H Q _ => ∃ (F : Addr) (n : Nat) (fs : List (List Nat)) (z : List Nat), vs = [.int n, .ref F, sx z] ∧ 1 ≤ n ∧ n ≤ 100 ∧ FrA K H F fs ∧ fs.length ≤ 20 ∧ M.BL z ∧ z.length = n ∧ ∀ H', Same H H' → Q (.bl (!M.frB fs z)) H'
@[irreducible] def spIP (K : PySem.W.Frag) (C : Addr) : Sp := fun vs H Q _ => ∃ (a F t : Addr) (n : Nat) (d : List (Str × Str)) (fs : List (List Nat)) (o : Option Pr), vs = [.ref a, .ref F, .ref t] ∧ TF K C H a F n d fs ∧ H t = some (.tup (oT o)) ∧ PoOk n o ∧ ∀ H', Same H H' → Q (.bl (okO d fs o)) H'
section
variable {K : PySem.W.Frag} {C a F t : Addr} {n : Nat} {d : List (Str × Str)} {fs : List (List Nat)} {H : Hp} {Q : VK} {E : XK}
theorem ua_go {z : List Nat} (h0 : 1 ≤ n) (h1 : n ≤ 100) (hF : FrA K H F fs) (lf : fs.length ≤ 20) (zb : M.BL z) (zl : z.length = n) (k : ∀ H', Same H H' → Q (.bl (!M.frB fs z)) H') : spUA K [.int n, .ref F, sx z] H Q E := by
  unfold spUA
  exact ⟨F, n, fs, z, rfl, h0, h1, hF, lf, zb, zl, k⟩
theorem ip_go {q : Option Pr} (tf : TF K C H a F n d fs) (ht : H t = some (.tup (oT q))) (hq : PoOk n q) (k : ∀ H', Same H H' → Q (.bl (okO d fs q)) H') : spIP K C [.ref a, .ref F, .ref t] H Q E := by
  unfold spIP
  exact ⟨a, F, t, n, d, fs, q, rfl, tf, ht, hq, k⟩
end
section
variable {P : Program} {w : World} {K : PySem.W.Frag} {mg : Str → Option Value} {base : Heap} {f C : Addr} {fd : FuncData}
theorem ok_used_address (F : Fun K "_is_used_address" "_is_used_address" s_is_used_address f fd) (hm : mg "_is_used_address" = some (.ref f)) (T : Txt K mg) (c_is_address : Nm P w K mg base CX0 5 "is_address" s_is_address ["width", "value"] (spIT adrB)) (c_is_free : Nm P w K mg base CX0 1 "is_free" s_is_free ["free", "bits"] (spIF K)) : Nm P w K mg base CX0 6 "_is_used_address" s_is_used_address ["width", "free", "value"] (spUA K) := by
  refine nm_of F hm sc_is_used_address (fun vs H Q E h => ?_) fun cdv A outer s H vs Q E hr h => ?_
  · unfold spUA at h
    obtain ⟨G, n, fs, z, rfl, h0, h1, hF, lf, zb, zl, k⟩ := h
    subst_vars
    rfl
  unfold spUA at h
  obtain ⟨G, n, fs, z, rfl, h0, h1, hF, lf, zb, zl, k⟩ := h
  refine ⟨_, (pss_one (ps_ret (pe_and (pe_g c_is_address hr (by decide) L2.pass0 bp_is_address (by rfl) (pa_cons (pv 0) (pa_cons (pv 2) pa_nil))) (pe_one (pe_not (pe_g c_is_free hr (by decide) L2.pass0 bp_is_free (by rfl) (pa_cons (pv 1) (pa_cons (pv 2) pa_nil)))))))), ?_⟩
  refine ⟨_, rfl, ⟨_, rfl, ?_⟩⟩
  refine it_go (by omega) (by omega) (by rw [sx_len]; omega) fun H1 s1 => ?_
  rw [adr_ok (sx_bits zb) (by rw [sx_len]; exact zl)]
  refine ⟨_, rfl, iteT ?_⟩
  refine ⟨_, rfl, ⟨_, rfl, ?_⟩⟩
  refine if_go (hF.same s1) (by omega) (by omega) fun H2 s2 => ?_
  refine ⟨_, rfl, ?_⟩
  exact k H2 (s1.trans s2)
theorem ok_is_pair (F : Fun K "_is_pair" "_is_pair" s_is_pair f fd) (hm : mg "_is_pair" = some (.ref f)) (T : Txt K mg) (TC : TabC K C) (c_is_used_address : Nm P w K mg base CX0 6 "_is_used_address" s_is_used_address ["width", "free", "value"] (spUA K))
    (c_Table_width : Prp P w K mg base CX0 1 C "width" "Table.width" s_Table_width ["self"] (spWidth C)) (c_Table__call__ : Mth P w K mg base CX0 8 C "__call__" "Table.__call__" s_Table__call__ ["self", "address"] (spCall C)) : Nm P w K mg base CX0 9 "_is_pair" s_is_pair ["table", "free", "pair"] (spIP K C) := by
  refine nm_of F hm sc_is_pair (fun vs H Q E h => ?_) fun cdv A outer s H vs Q E hr h => ?_
  · unfold spIP at h
    obtain ⟨a, G, t, n, d, fs, o, rfl, tf, ht, hq', k⟩ := h
    subst_vars
    rfl
  unfold spIP at h
  obtain ⟨a, G, t, n, d, fs, o, rfl, tf, ht, hq', k⟩ := h
  refine ⟨_, (pss_cons (ps_if (PW.pt (pw_or (pt_not (pt_val (pe_callB (call_isiK' (K := K) rfl) (by rfl) T.b_isinstance (by decide +kernel) (pa_cons (pv 2) (pa_cons (pe_ty "tuple" (by rfl) T.b_tuple (by decide +kernel)) pa_nil))))) (pw_or1 (pt_cmpR op_ne (pe_callB (call_lenK (K := K) rfl) (by rfl) T.b_len PySem.boot_len (pa_cons (pv 2) pa_nil)) pe_int (nomark _))))) (pss_one (ps_ret pe_bl)) pss_nil)
      (pss_cons (ps_asg (pv 2) (pg_tup (by rfl) (pgs_cons (pg_name (i := 3) sc_is_pair.nd rfl (by first | exact Or.inl rfl | exact Or.inr rfl)) (pgs_cons (pg_name (i := 4) sc_is_pair.nd rfl (by first | exact Or.inl rfl | exact Or.inr rfl)) pgs_nil))))
      (pss_cons (ps_if (pt_not (pt_val (pe_g c_is_used_address hr (by decide) L2.pass0 bp_is_used_address (by rfl) (pa_cons (pe_p c_Table_width TC.cl hr (by decide) L2.pass0 bm_Table_width (pv 0)) (pa_cons (pv 1) (pa_cons (pv 4) pa_nil)))))) (pss_one (ps_ret pe_bl)) pss_nil)
      (pss_cons (ps_if (pt_cmpR op_isN (pv 3) pe_non (nomark _)) (pss_one (ps_ret (pe_cmpR op_ne (pe_o c_Table__call__ hr (by decide) L2.pass0 bm_Table__call__ (pv 0) (pa_cons (pv 4) pa_nil)) pe_str (nomark _)))) pss_nil)
      (pss_one (ps_ret (pe_and (pe_g c_is_used_address hr (by decide) L2.pass0 bp_is_used_address (by rfl) (pa_cons (pe_p c_Table_width TC.cl hr (by decide) L2.pass0 bm_Table_width (pv 0)) (pa_cons (pv 1) (pa_cons (pv 3) pa_nil)))) (pe_one (pe_cmpR op_ne (pe_o c_Table__call__ hr (by decide) L2.pass0 bm_Table__call__ (pv 0) (pa_cons (pv 3) pa_nil)) (pe_o c_Table__call__ hr (by decide) L2.pass0 bm_Table__call__ (pv 0) (pa_cons (pv 4) pa_nil)) (nomark _)))))))))), ?_⟩
  have h0 : 1 ≤ n := by have := tf.ok.w0; omega
  have h1 : n ≤ 100 := by have := tf.ok.w1; omega
  have lf := tf.lf
  obtain ⟨dx, Dm, ha, hDm, hne⟩ := tf.ht
  refine ⟨_, rfl, ?_⟩
  refine ⟨_, _, _, _, _, rfl, .ty _, .base (.tup ht), kit_ty (show kitB "tuple" "tuple" = some true by decide +kernel), ?_⟩
  refine ⟨_, rfl, ?_⟩
  refine iteF ?_
  refine ⟨_, rfl, ⟨_, _, rfl, .inr ⟨_, SqT.of ht, rfl⟩, ?_⟩⟩
  refine ⟨rfl, ⟨_, rfl, ?_⟩⟩
  cases o with
  | none =>
    rw [decide_eq_false (show ¬ V.int ((oT none).length : Int) = V.int 2 from fun q => by injection q with q; cases q)]
    refine iteT ?_
    exact k H (Same.refl H)
  | some q =>
  obtain ⟨b, e⟩ := q
  obtain ⟨⟨eb, el⟩, hz⟩ := hq' _ rfl
  have ht : H t = some (.tup [oB b, sx e]) := ht
  have k : ∀ H', Same H H' → Q (.bl (okP d fs (b, e))) H' := k
  rw [decide_eq_true (show V.int ((oT (some (b, e))).length : Int) = V.int 2 from rfl)]
  refine iteF ?_
  refine ⟨_, rfl, ⟨t, _, rfl, SqT.of ht, rfl, ⟨_, _, rfl, ⟨_, _, rfl, ⟨rfl, ?_⟩⟩⟩⟩⟩
  refine ⟨_, rfl, ⟨a, dx, _, rfl, ha, width_go tf.ht ?_⟩⟩
  refine ⟨_, rfl, ⟨_, rfl, ?_⟩⟩
  refine ua_go h0 h1 tf.hF lf eb el fun H1 s1 => ?_
  refine ⟨_, rfl, ?_⟩
  have tf1 := tf.to s1
  cases ce : M.frB fs e with
  | true =>
    refine iteT ?_
    have := k H1 s1
    unfold okP at this
    rw [ce] at this
    exact this
  | false =>
    refine iteF ?_
    refine ⟨_, rfl, ⟨rfl, ⟨_, rfl, ?_⟩⟩⟩
    cases b with
    | none =>
      rw [decide_eq_true (show oB none = V.non from rfl)]
      refine iteT ?_
      refine ⟨_, rfl, ⟨_, rfl, ?_⟩⟩
      refine ⟨_, rfl, ⟨⟨dx, _, s1 _ _ ha⟩, ?_⟩⟩
      refine call_go tf1.ht h0 h1 (sx_bits eb) (by rw [sx_len]; exact el) fun H2 s2 => ?_
      refine ⟨rfl, ?_⟩
      have := k H2 (s1.trans s2)
      unfold okP at this
      rw [ce] at this
      rw [show decide (V.str (goalT (look d) (SX.S e)) = V.str "hole") = decide (gT d e = "hole") from decide_eq_decide.mpr ⟨fun q => V.str.inj q, fun q => congrArg V.str q⟩]
      exact this
    | some z =>
      rw [decide_eq_false (show ¬ oB (some z) = V.non from fun q => nomatch q)]
      refine iteF ?_
      obtain ⟨zb, zl⟩ := hz z rfl
      refine ⟨_, rfl, ⟨a, dx, _, rfl, s1 _ _ ha, width_go tf1.ht ?_⟩⟩
      refine ⟨_, rfl, ⟨_, rfl, ?_⟩⟩
      refine ua_go h0 h1 tf1.hF lf zb zl fun H2 s2 => ?_
      have s12 := s1.trans s2
      refine ⟨_, rfl, ?_⟩
      cases cz : M.frB fs z with
      | true =>
        refine iteF ?_
        have := k H2 s12
        unfold okP at this
        rw [ce] at this
        dsimp only at this
        rw [cz] at this
        exact this
      | false =>
        refine iteT ?_
        refine ⟨_, rfl, ⟨_, rfl, ⟨_, rfl, ⟨⟨dx, _, s12 _ _ ha⟩, ?_⟩⟩⟩⟩
        refine call_go (tf.ht.to s12) h0 h1 (sx_bits zb) (by rw [sx_len]; exact zl) fun H3 s3 => ?_
        refine ⟨_, rfl, ⟨_, rfl, ⟨_, rfl, ⟨⟨dx, _, s3 _ _ (s12 _ _ ha)⟩, ?_⟩⟩⟩⟩
        refine call_go ((tf.ht.to s12).to s3) h0 h1 (sx_bits eb) (by rw [sx_len]; exact el) fun H4 s4 => ?_
        refine ⟨rfl, ?_⟩
        have := k H4 ((s12.trans s3).trans s4)
        unfold okP at this
        rw [ce] at this
        dsimp only at this
        rw [cz] at this
        rw [show decide (V.str (goalT (look d) (SX.S z)) = V.str (goalT (look d) (SX.S e))) = decide (gT d z = gT d e) from decide_eq_decide.mpr ⟨fun q => V.str.inj q, fun q => congrArg V.str q⟩]
        exact this
end
open PySem PySem.Spec PyProof.Rows
open L2 hiding pass0
abbrev s_common : Stmt := top 32
theorem sc_common : FnScope ["one", "other", "bits", "length", "left", "right"] ["one", "other"] (defScope s_common) := ⟨rfl, rfl, rfl, by decide +kernel, rfl, by decide +kernel, by decide +kernel⟩
theorem bp_common : BndP "common" s_common ["one", "other"] := fun _ _ _ _ _ _ us h => match us, h with | [_, _], _ => rfl
abbrev s_path : Stmt := top 57
theorem sc_path : FnScope ["width", "begin", "end", "shared", "ups", "downs", "length"] ["width", "begin", "end"] (defScope s_path) := ⟨rfl, rfl, rfl, by decide +kernel, rfl, by decide +kernel, by decide +kernel⟩
theorem bp_path : BndP "path" s_path ["width", "begin", "end"] := fun _ _ _ _ _ _ us h => match us, h with | [_, _, _], _ => rfl
def cpl : List Nat → List Nat → Nat
  | c :: z, d :: e => if c = d then cpl z e + 1 else 0
  | [], _ => 0
  | _ :: _, [] => 0
theorem cpl_le : ∀ z e, cpl z e ≤ z.length ∧ cpl z e ≤ e.length
  | [], _ => ⟨Nat.zero_le _, Nat.zero_le _⟩
  | _ :: _, [] => ⟨Nat.zero_le _, Nat.zero_le _⟩
  | c :: z, d :: e => by
    have h := cpl_le z e
    show (if c = d then cpl z e + 1 else 0) ≤ z.length + 1 ∧ (if c = d then cpl z e + 1 else 0) ≤ e.length + 1
    split <;> omega
theorem take_cpl : ∀ (z e : List Nat) (k : Nat), k ≤ z.length → k ≤ e.length → (z.take k = e.take k ↔ k ≤ cpl z e)
  | _, _, 0, _, _ => by simp
  | c :: z, d :: e, k + 1, h1, h2 => by
    have h := take_cpl z e k (Nat.le_of_succ_le_succ h1) (Nat.le_of_succ_le_succ h2)
    show c :: z.take k = d :: e.take k ↔ k + 1 ≤ (if c = d then cpl z e + 1 else 0)
    rw [List.cons.injEq, h]
    split <;> rename_i q <;> simp [q]
  | [], _, k + 1, h1, _ => by cases h1
  | _ :: _, [], k + 1, _, h2 => by cases h2
theorem cpl_step : ∀ {z e : List Nat} {i c d : Nat}, i ≤ cpl z e → z[i]? = some c → e[i]? = some d → (c = d → i + 1 ≤ cpl z e) ∧ (c ≠ d → cpl z e = i)
  | x :: z, y :: e, 0, c, d, _, hc, hd => by
    cases hc; cases hd
    show (x = y → 0 + 1 ≤ (if x = y then cpl z e + 1 else 0)) ∧ (x ≠ y → (if x = y then cpl z e + 1 else 0) = 0)
    exact ⟨fun q => by rw [if_pos q]; omega, fun q => if_neg q⟩
  | x :: z, y :: e, i + 1, c, d, h, hc, hd => by
    have h' : i + 1 ≤ (if x = y then cpl z e + 1 else 0) := h
    show (c = d → i + 1 + 1 ≤ (if x = y then cpl z e + 1 else 0)) ∧ (c ≠ d → (if x = y then cpl z e + 1 else 0) = i + 1)
    by_cases q : x = y
    · rw [if_pos q] at h' ⊢
      have r := cpl_step (z := z) (e := e) (i := i) (c := c) (d := d) (by omega) (by simpa using hc) (by simpa using hd)
      exact ⟨fun a => by have := r.1 a; omega, fun a => by have := r.2 a; omega⟩
    · rw [if_neg q] at h'
      omega
  | [], _, _, _, _, _, hc, _ => by simp at hc
  | _ :: _, [], _, _, _, _, _, hd => by simp at hd
def cpS (z e : Str) : Nat := cpl z.cps.toList e.cps.toList
theorem cpS_le (z e : Str) : cpS z e ≤ z.length ∧ cpS z e ≤ e.length := by
  have h := cpl_le z.cps.toList e.cps.toList
  rw [Array.length_toList, Array.length_toList] at h
  exact h
def pathN (e : Str) (n : Nat) : List (Str × Str) := (List.range n).map fun i => (px e i, "down")
def pathU (z : Str) (w n : Nat) : List (Str × Str) := (List.range n).map fun i => (px z (w - i), "up")
def pathD (e : Str) (s n : Nat) : List (Str × Str) := (List.range n).map fun i => (px e (s + 1 + i), "down")
def pathP (z e : Str) (w : Nat) : List (Str × Str) := pathU z w (w - cpS z e) ++ pathD e (cpS z e) (w - cpS z e)
def pathOf (b : V) (e : Str) (w : Nat) : List (Str × Str) := match b with
  | .str z => pathP z e w
  | _ => pathN e (w + 1)
theorem range_snoc {α : Type} (f : Nat → α) (n : Nat) : (List.range (n + 1)).map f = (List.range n).map f ++ [f n] := by
  rw [List.range_succ, List.map_append]; rfl
/-- tuples of two texts -/
inductive Tp (H : Hp) : List V → List (Str × Str) → Prop
  | nil : Tp H [] []
  | cons {a : Addr} {x y : Str} {vs : List V} {ps : List (Str × Str)} : H a = some (.tup [.str x, .str y]) → Tp H vs ps → Tp H (.ref a :: vs) ((x, y) :: ps)
theorem Tp.mono {H H' : Hp} (k : ∀ a l, H a = some (.tup l) → H' a = some (.tup l)) : ∀ {vs : List V} {ps : List (Str × Str)}, Tp H vs ps → Tp H' vs ps
  | _, _, .nil => .nil
  | _, _, .cons h r => .cons (k _ _ h) (r.mono k)
theorem Tp.same {H H' : Hp} {vs : List V} {ps : List (Str × Str)} (t : Tp H vs ps) (s : Same H H') : Tp H' vs ps := t.mono fun a l e => s a _ e
theorem Tp.put {H : Hp} {D : Addr} {o o' : List V} {vs : List V} {ps : List (Str × Str)} (t : Tp H vs ps) (h : H D = some (.lst o)) : Tp (upd H D (.lst o')) vs ps :=
  t.mono fun a l e => by
    have n : a ≠ D := fun q => by subst q; rw [e] at h; cases h
    exact updn n e
theorem Tp.len {H : Hp} : ∀ {vs : List V} {ps : List (Str × Str)}, Tp H vs ps → vs.length = ps.length
  | _, _, .nil => rfl
  | _, _, .cons _ r => congrArg (· + 1) r.len
theorem Tp.app {H : Hp} {us : List V} {qs : List (Str × Str)} (u : Tp H us qs) : ∀ {vs : List V} {ps : List (Str × Str)}, Tp H vs ps → Tp H (vs ++ us) (ps ++ qs)
  | _, _, .nil => u
  | _, _, .cons h r => .cons h (Tp.app u r)
theorem Tp.snoc {H : Hp} {a : Addr} {x y : Str} {vs : List V} {ps : List (Str × Str)} (t : Tp H vs ps) (h : H a = some (.tup [.str x, .str y])) : Tp H (vs ++ [.ref a]) (ps ++ [(x, y)]) := Tp.app (Tp.cons h .nil) t
theorem Tp.at {H : Hp} : ∀ {vs : List V} {ps : List (Str × Str)} {i : Nat} {v : V}, Tp H vs ps → vs[i]? = some v → ∃ a x y, v = .ref a ∧ H a = some (.tup [.str x, .str y]) ∧ ps[i]? = some (x, y)
  | _, _, _, _, .nil, e => by simp at e
  | _, _, 0, _, .cons h r, e => by cases e; exact ⟨_, _, _, rfl, h, rfl⟩
  | _, _, i + 1, _, .cons h r, e => r.at (i := i) (by simpa using e)
def prD (q : Str × Str) : PyData := .tuple [.str q.1, .str q.2]
theorem Tp.dp {K : PySem.W.Frag} {H : Hp} : ∀ {vs : List V} {ps : List (Str × Str)}, Tp H vs ps → DpAll K H vs (ps.map prD)
  | _, _, .nil => .nil
  | _, _, .cons h r => .cons (.tup (SqT.of h) (.cons (.str _) (.cons (.str _) .nil))) r.dp
@[irreducible] def spCommon : Sp := fun vs H Q _ => ∃ a b : Str, vs = [.str a, .str b] ∧ Bits a ∧ Bits b ∧ a.length ≤ 1000 ∧ b.length ≤ 1000 ∧ ∀ H', Same H H' → Q (.str (px a (cpS a b))) H'
def PathArg (b : V) (w : Nat) : Prop := b = .non ∨ ∃ z : Str, b = .str z ∧ Bits z ∧ z.length = w
@[irreducible] def spPath : Sp := fun vs H Q _ => ∃ (w : Nat) (b : V) (e : Str), vs = [.int w, b, .str e] ∧ 1 ≤ w ∧ w ≤ 100 ∧ Bits e ∧ e.length = w ∧ PathArg b w ∧
  ∀ a ts H', H a = none → Same H H' → H' a = some (.lst ts) → Tp H' ts (pathOf b e w) → Q (.ref a) H'
section
variable {H : Hp} {Q : VK} {E : XK} {a b e : Str} {x : V} {w : Nat}
theorem common_go (ha : Bits a) (hb : Bits b) (h0 : a.length ≤ 1000) (h1 : b.length ≤ 1000) (q : ∀ H', Same H H' → Q (.str (px a (cpS a b))) H') : spCommon [.str a, .str b] H Q E := by
  unfold spCommon
  exact ⟨a, b, rfl, ha, hb, h0, h1, q⟩
theorem path_go (h0 : 1 ≤ w) (h1 : w ≤ 100) (he : Bits e) (hl : e.length = w) (hx : PathArg x w) (q : ∀ a ts H', H a = none → Same H H' → H' a = some (.lst ts) → Tp H' ts (pathOf x e w) → Q (.ref a) H') : spPath [.int w, x, .str e] H Q E := by
  unfold spPath
  exact ⟨w, x, e, rfl, h0, h1, he, hl, hx, q⟩
end
section
variable {P : Program} {w : World} {K : PySem.W.Frag} {mg : Str → Option Value} {base : Heap} {f : Addr} {fd : FuncData}
theorem ok_common (F : Fun K "common" "common" s_common f fd) (hm : mg "common" = some (.ref f)) (T : Txt K mg) (c_is_bits : Nm P w K mg base CX0 1 "is_bits" s_is_bits ["value"] (spT bitsB)) : Nm P w K mg base CX0 2 "common" s_common ["one", "other"] (spCommon) := by
  refine nm_of0 F hm sc_common (fun vs H Q E h => ?_) fun cdv A outer s H vs Q E hr h => ?_
  · unfold spCommon at h
    obtain ⟨a, b, rfl, ha, hb, h0, h1, k⟩ := h
    subst_vars
    rfl
  unfold spCommon at h
  obtain ⟨a, b, rfl, ha, hb, h0, h1, k⟩ := h
  refine ⟨_, (pss_cons (ps_for PassesOwn.never rfl (pi_tup (pe_tup (pa_cons (pv 0) (pa_cons (pv 1) pa_nil)))) (pg_name (i := 2) sc_common.nd rfl (by first | exact Or.inl rfl | exact Or.inr rfl)) (pss_one (ps_if (pt_not (pt_val (pe_g c_is_bits hr (by decide) L2.pass0 bp_is_bits (by rfl) (pa_cons (pv 2) pa_nil)))) (pss_one ps_never) pss_nil)))
      (pss_cons (ps_set (i := 3) sc_common.nd rfl (by first | exact Or.inl rfl | exact Or.inr rfl) pe_int)
      (pss_cons (ps_for PassesOwn.never rfl (pi_zipS (by rfl) T.b_zip (pa_cons (pv 0) (pa_cons (pv 1) pa_nil))) (pg_tup (by rfl) (pgs_cons (pg_name (i := 4) sc_common.nd rfl (by first | exact Or.inl rfl | exact Or.inr rfl)) (pgs_cons (pg_name (i := 5) sc_common.nd rfl (by first | exact Or.inl rfl | exact Or.inr rfl)) pgs_nil))) (pss_cons (ps_if (pt_cmpR op_ne (pv 4) (pv 5) (nomark _)) (pss_one ps_break) pss_nil)
      (pss_one (ps_set (i := 3) sc_common.nd rfl (by first | exact Or.inl rfl | exact Or.inr rfl) (pe_op op_add (pv 3) pe_int)))))
      (pss_one (ps_ret (pe_slice sl_str (pv 0) po_none (po_some (pv 3)))))))), ?_⟩
  repeat walk_at "s1"
  rename_i t nt
  have sm0 : Same H (upd H t (.tup [.str a, .str b])) := fun c o e => updn (nonn nt e) e
  refine ⟨⟨_, SqT.of upd_same⟩, for_it (walk_tup (xs := [.str a, .str b])) (fun i σ H1 => (∃ x2, σ = [some (.str a), some (.str b), x2, none, none, none]) ∧ Same (upd H t (.tup [.str a, .str b])) H1) ⟨⟨_, rfl⟩, Same.refl _⟩ (fun i σ H1 _ h => SqT.of (h.2 _ _ upd_same)) ?_ ?_⟩
  · rintro i x σ H1 H2 hi ⟨⟨x2, rfl⟩, sm⟩ ⟨rfl, hx⟩
    have hx' : x = .str a ∨ x = .str b := by
      have := List.mem_of_getElem? hx
      simpa using this
    refine ⟨_, rfl, ?_⟩
    rcases hx' with rfl | rfl
    · refine t_go h0 fun H3 sm3 => ?_
      rw [bitsB_of ha]
      refine ⟨_, rfl, iteF ?_⟩
      exact ⟨⟨_, rfl⟩, sm.trans sm3⟩
    · refine t_go h1 fun H3 sm3 => ?_
      rw [bitsB_of hb]
      refine ⟨_, rfl, iteF ?_⟩
      exact ⟨⟨_, rfl⟩, sm.trans sm3⟩
  · rintro σ H1 ⟨⟨x2, rfl⟩, sm⟩
    have lea := cpl_le a.cps.toList b.cps.toList
    have la : a.cps.toList.length = a.length := Array.length_toList
    have lb : b.cps.toList.length = b.length := Array.length_toList
    have fin : ∀ (H2 : Hp) (i : Nat), Same H1 H2 → cpS a b = i → Q (.str (cutS a none (some (i : Int)))) H2 := fun H2 i s2 e => by
      rw [cut_px a rfl, ← e]
      exact k H2 (sm0.trans (sm.trans s2))
    repeat walk_at "s1"
    refine ⟨ha.low.small, hb.low.small, for_it walk_zipS (fun i σ H2 => (∃ x4 x5, σ = [some (.str a), some (.str b), x2, some (.int i), x4, x5]) ∧ Same H1 H2 ∧ i ≤ cpS a b) ⟨⟨_, _, rfl⟩, Same.refl _, Nat.zero_le _⟩ (fun _ _ _ _ _ => trivial) ?_ ?_⟩
    · rintro i x σ H2 H3 hi ⟨⟨x4, x5, rfl⟩, sm2, hle⟩ ⟨t1, c, d, rfl, nT, rfl, hc, hd⟩
      have sm3 : Same H1 (upd H2 t1 (.tup [.str ⟨#[c]⟩, .str ⟨#[d]⟩])) := fun c o e => updn (nonn nT (sm2 c o e)) (sm2 c o e)
      refine ⟨t1, _, rfl, SqT.of upd_same, rfl, ⟨_, _, rfl, ⟨_, _, rfl, ⟨rfl, ?_⟩⟩⟩⟩
      have st := cpl_step hle hc hd
      repeat walk_at "s1"
      refine ite2 (fun hq => ?_) fun hq => ?_
      · have hne : c ≠ d := fun q => by subst q; simp at hq
        repeat walk_at "s1"
        refine fin _ i sm3 (st.2 hne)
      · have heq : c = d := by
          have h5 : (V.str ⟨#[c]⟩ : V) = V.str ⟨#[d]⟩ := by
            by_cases q : (V.str ⟨#[c]⟩ : V) = V.str ⟨#[d]⟩
            · exact q
            · exact absurd (by rw [decide_eq_false q]; rfl) hq
          injection h5 with h5
          injection h5 with h5
          simpa using h5
        repeat walk_at "s1"
        exact ⟨⟨_, _, rfl⟩, sm3, st.1 heq⟩
    · rintro σ H2 ⟨⟨x4, x5, rfl⟩, sm2, hle⟩
      repeat walk_at "s1"
      have hle' : min a.length b.length ≤ cpl a.cps.toList b.cps.toList := hle
      refine fin _ _ sm2 ?_
      show cpl a.cps.toList b.cps.toList = _
      omega
/-- a list at D, made since H0, of such tuples -/
def LI (H0 : Hp) (D : Addr) (ps : List (Str × Str)) (H : Hp) : Prop := (∃ ts, H D = some (.lst ts) ∧ Tp H ts ps) ∧ Same H0 H
theorem LI.nil {H0 : Hp} {D : Addr} (nD : H0 D = none) : LI H0 D [] (upd H0 D (.lst [])) := ⟨⟨[], upd_same, .nil⟩, fun b u e => updn (nonn nD e) e⟩
theorem LI.turn {H0 H1 : Hp} {D t : Addr} {x y : Str} {ps : List (Str × Str)} {Pv : Hp → Prop} (nD : H0 D = none) (h : LI H0 D ps H1) (nt : H1 t = none) (hl : ps.length ≤ 100000) (hp : ∀ H, LI H0 D (ps ++ [(x, y)]) H → Pv H) :
    ∃ acc, upd H1 t (.tup [.str x, .str y]) D = some (.lst acc) ∧ acc.length < sizeLine ∧ Pv (upd (upd H1 t (.tup [.str x, .str y])) D (.lst (acc ++ [.ref t]))) := by
  obtain ⟨⟨ts, hD, tp⟩, sm⟩ := h
  have nt' : D ≠ t := nonn nt hD
  refine ⟨ts, updn nt' hD, szt (by rw [tp.len]; omega), hp _ ⟨⟨_, upd_same, ?_⟩, fun b u e => updn (nonn nD e) (updn (nonn nt (sm b u e)) (sm b u e))⟩⟩
  have tp2 : Tp (upd H1 t (.tup [.str x, .str y])) ts ps := tp.mono fun a l e => updn (nonn nt e) e
  exact (tp2.snoc (a := t) (x := x) (y := y) upd_same).put (updn nt' hD)
theorem LI.end {H0 H1 : Hp} {D : Addr} {ps : List (Str × Str)} (h : LI H0 D ps H1) : ∃ ts, H1 D = some (.lst ts) ∧ Tp H1 ts ps ∧ Same H0 H1 := let ⟨⟨ts, a, b⟩, c⟩ := h; ⟨ts, a, b, c⟩
theorem sm_fresh {H H1 : Hp} {a : Addr} (s : Same H H1) (n : H1 a = none) : H a = none := by
  cases e : H a with
  | none => rfl
  | some o => rw [s a o e] at n; cases n
theorem ok_path (F : Fun K "path" "path" s_path f fd) (hm : mg "path" = some (.ref f)) (T : Txt K mg) (c_check_width : Nm P w K mg base CX0 3 "check_width" s_check_width ["width"] (spCW)) (c_is_address : Nm P w K mg base CX0 5 "is_address" s_is_address ["width", "value"] (spIT adrB)) (c_check_address : Nm P w K mg base CX0 6 "check_address" s_check_address ["width", "address"] (spCT adrB)) (c_common : Nm P w K mg base CX0 2 "common" s_common ["one", "other"] (spCommon)) : Nm P w K mg base CX0 7 "path" s_path ["width", "begin", "end"] (spPath) := by
  refine nm_of F hm sc_path (fun vs H Q E h => ?_) fun cdv A outer s H vs Q E hr h => ?_
  · unfold spPath at h
    obtain ⟨n, x, e, rfl, h0, h1, he, hl, hx, k⟩ := h
    subst_vars
    rfl
  unfold spPath at h
  obtain ⟨n, x, e, rfl, h0, h1, he, hl, hx, k⟩ := h
  refine ⟨_, (pss_cons (ps_expr (pe_g c_check_width hr (by decide) L2.pass0 bp_check_width (by rfl) (pa_cons (pv 0) pa_nil)))
      (pss_cons (ps_if (PW.pt (pw_and (pt_cmpR op_notN (pv 1) pe_non (nomark _)) (pw_and1 (pt_not (pt_val (pe_g c_is_address hr (by decide) L2.pass0 bp_is_address (by rfl) (pa_cons (pv 0) (pa_cons (pv 1) pa_nil)))))))) (pss_one ps_never) pss_nil)
      (pss_cons (ps_expr (pe_g c_check_address hr (by decide) L2.pass0 bp_check_address (by rfl) (pa_cons (pv 0) (pa_cons (pv 2) pa_nil))))
      (pss_cons (ps_if (pt_cmpR op_isN (pv 1) pe_non (nomark _)) (pss_one (ps_ret (pe_lc (own := [("length", 6)]) (g := (gName 6)) (by rfl) sc_path.nd (pi_range1 (by rfl) T.b_range (pa_cons (pe_op op_add (pv 0) pe_int) pa_nil)) (blkOk_by (own := [("length", 6)]) (N := ["width", "begin", "end", "shared", "ups", "downs", "length"]) (sc := defScope s_path) (by decide +kernel)) (fun _ _ _ _ _ => (pg_name (i := 6) sc_path.nd rfl (by first | exact Or.inl rfl | exact Or.inr rfl))) (fun _ _ _ _ _ => pts_nil) (fun _ _ _ _ _ => (pe_tup (pa_cons (pe_slice sl_str (pv 2) po_none (po_some (pv 6))) (pa_cons pe_str pa_nil))))))) pss_nil)
      (pss_cons (ps_set (i := 3) sc_path.nd rfl (by first | exact Or.inl rfl | exact Or.inr rfl) (pe_callB (call_lenK (K := K) rfl) (by rfl) T.b_len PySem.boot_len (pa_cons (pe_g c_common hr (by decide) L2.pass0 bp_common (by rfl) (pa_cons (pv 1) (pa_cons (pv 2) pa_nil))) pa_nil)))
      (pss_cons (ps_setLc (i := 4) (own := [("length", 6)]) (g := (gName 6)) (by rfl) sc_path.nd rfl rfl (sw_true rfl rfl rfl (by decide +kernel)) (pi_range3 (by rfl) T.b_range (pa_cons (pv 0) (pa_cons (pv 3) (pa_cons (pe_un un_neg pe_int) pa_nil)))) (blkOk_by (own := [("length", 6)]) (N := ["width", "begin", "end", "shared", "ups", "downs", "length"]) (sc := defScope s_path) (by decide +kernel)) (fun _ _ _ _ _ => (pg_name (i := 6) sc_path.nd rfl (by first | exact Or.inl rfl | exact Or.inr rfl))) (fun _ _ _ _ _ => pts_nil) (fun _ _ _ _ _ => (pe_tup (pa_cons (pe_slice sl_str (pv 1) po_none (po_some (pv 6))) (pa_cons pe_str pa_nil)))))
      (pss_cons (ps_setLc (i := 5) (own := [("length", 6)]) (g := (gName 6)) (by rfl) sc_path.nd rfl rfl (sw_true rfl rfl rfl (by decide +kernel)) (pi_range2 (by rfl) T.b_range (pa_cons (pe_op op_add (pv 3) pe_int) (pa_cons (pe_op op_add (pv 0) pe_int) pa_nil))) (blkOk_by (own := [("length", 6)]) (N := ["width", "begin", "end", "shared", "ups", "downs", "length"]) (sc := defScope s_path) (by decide +kernel)) (fun _ _ _ _ _ => (pg_name (i := 6) sc_path.nd rfl (by first | exact Or.inl rfl | exact Or.inr rfl))) (fun _ _ _ _ _ => pts_nil) (fun _ _ _ _ _ => (pe_tup (pa_cons (pe_slice sl_str (pv 2) po_none (po_some (pv 6))) (pa_cons pe_str pa_nil)))))
      (pss_one (ps_ret (pe_lst (StX.pa_star (pv 4) (StX.pa_star (pv 5) pa_nil)))))))))))), ?_⟩
  have adr : ∀ {z : Str}, Bits z → z.length = n → adrB n z = true := fun {z} hz lz => by
    show (bitsB z && decide ((z.length : Int) = n)) = true
    rw [bitsB_of hz, lz, decide_eq_true rfl]
    rfl
  repeat walk_at "s1"
  refine cw_go (by omega) (by omega) fun H1 sm1 => ?_
  repeat walk_at "s1"
  rcases hx with rfl | ⟨z, rfl, hz, lz⟩
  · refine iteF ?_
    repeat walk_at "s1"
    refine ct_go (by omega) (by omega) (by omega) (adr he hl) fun H2 sm2 => ?_
    repeat walk_at "s1"
    rename_i D nD
    refine lc_it walk_range (fun i => LI H2 D (pathN e i)) (LI.nil nD) (fun _ _ _ _ => trivial) ?_ ?_
    · rintro i x H3 H4 hi hI ⟨rfl, rfl⟩
      refine ⟨rfl, ?_⟩
      dsimp only [tYes]
      rw [if_pos rfl]
      repeat walk_at "s1"
      rename_i t nt
      rw [cut_px e (k := i) (by omega)]
      refine hI.turn nD nt (by unfold pathN; rw [List.length_map, List.length_range]; omega) fun H h => ?_
      show LI H2 D (pathN e (i + 1)) H
      unfold pathN
      rw [range_snoc]
      exact h
    · intro H3 hI
      obtain ⟨ts, hD, tp, sm⟩ := hI.end
      have e1 : (((n : Nat) : Int) + 1 - 0).toNat = n + 1 := by omega
      refine k _ ts _ (sm_fresh (sm1.trans sm2) nD) ((sm1.trans sm2).trans sm) hD ?_
      exact tp
  · refine iteT ?_
    repeat walk_at "s1"
    refine it_go (by omega) (by omega) (by omega) fun H2 sm2 => ?_
    rw [adr hz lz]
    refine ⟨_, rfl, iteF ?_⟩
    repeat walk_at "s1"
    refine ct_go (by omega) (by omega) (by omega) (adr he hl) fun H3 sm3 => ?_
    repeat walk_at "s1"
    refine common_go hz he (by omega) (by omega) fun H4 sm4 => ?_
    have hsm : Same H H4 := ((sm1.trans sm2).trans sm3).trans sm4
    have cl := cpS_le z e
    have tl := px_len z (cpS z e)
    refine ⟨_, _, rfl, ⟨szl (by omega), rfl⟩, ?_⟩
    rw [show (px z (cpS z e)).length = cpS z e by omega]
    generalize hs : cpS z e = c at cl tl ⊢
    repeat walk_at "s1"
    refine ⟨_, _, _, _, rfl, RgC.neg (by omega) (by omega) (by omega) (by omega), fun D nD => ?_⟩
    have en : ((n : Int) - (c : Int)).toNat = n - c := by omega
    rw [en]
    refine lc_it walk_rangeC (fun i => LI H4 D (pathU z n i)) (LI.nil nD) (fun _ _ _ _ => trivial) ?_ ?_
    · rintro i x H5 H6 hi hI ⟨rfl, rfl⟩
      refine ⟨rfl, ?_⟩
      dsimp only [tYes]
      rw [if_pos rfl]
      repeat walk_at "s1"
      rename_i t nt
      rw [cut_px z (k := n - i) (by omega)]
      refine hI.turn nD nt (by unfold pathU; rw [List.length_map, List.length_range]; omega) fun H h => ?_
      show LI H4 D (pathU z n (i + 1)) H
      unfold pathU
      rw [range_snoc]
      exact h
    · intro H5 hI
      obtain ⟨us, hD, tpu, sm5⟩ := hI.end
      repeat walk_at "s1"
      rename_i B nB
      have en2 : ((n : Int) + 1 - ((c : Int) + 1)).toNat = n - c := by omega
      rw [en2]
      refine lc_it walk_range (fun i => LI H5 B (pathD e c i)) (LI.nil nB) (fun _ _ _ _ => trivial) ?_ ?_
      · rintro i x H6 H7 hi hI ⟨rfl, rfl⟩
        refine ⟨rfl, ?_⟩
        dsimp only [tYes]
        rw [if_pos rfl]
        repeat walk_at "s1"
        rename_i t nt
        rw [cut_px e (k := c + 1 + i) (by omega)]
        refine hI.turn nB nt (by unfold pathD; rw [List.length_map, List.length_range]; omega) fun H h => ?_
        show LI H5 B (pathD e c (i + 1)) H
        unfold pathD
        rw [range_snoc]
        exact h
      · intro H6 hI
        obtain ⟨ds, hB, tpd, sm6⟩ := hI.end
        repeat walk_at "s1"
        refine ⟨D, us, rfl, Or.inr (SqL.of (sm6 _ _ hD)), ?_⟩
        refine ⟨_, rfl, ⟨B, ds, rfl, Or.inr (SqL.of hB), ?_⟩⟩
        have l1 : us.length = n - c := by rw [tpu.len]; unfold pathU; rw [List.length_map, List.length_range]
        have l2 : ds.length = n - c := by rw [tpd.len]; unfold pathD; rw [List.length_map, List.length_range]
        refine ⟨szl (by rw [List.length_append, List.append_nil]; omega), fun L nL => ?_⟩
        have sL : Same H4 H6 := sm5.trans sm6
        have hall : Same H H6 := hsm.trans sL
        refine k L (us ++ (ds ++ [])) _ (sm_fresh hall nL) (fun b u q => updn (nonn nL (hall b u q)) (hall b u q)) upd_same ?_
        rw [List.append_nil]
        have tpu6 : Tp (upd H6 L (.lst (us ++ ds))) us (pathU z n (n - c)) := tpu.mono fun a l q => updn (nonn nL (sm6 _ _ q)) (sm6 _ _ q)
        have tpd6 : Tp (upd H6 L (.lst (us ++ ds))) ds (pathD e c (n - c)) := tpd.mono fun a l q => updn (nonn nL q) q
        have := Tp.app tpd6 tpu6
        show Tp _ _ (pathU z n (n - cpS z e) ++ pathD e (cpS z e) (n - cpS z e))
        rw [hs]
        exact this
end
open PySem PySem.Spec PyProof.Rows
open L2 hiding pass0
theorem dn_ne_up : ("down" : Str) ≠ "up" := by decide +kernel
theorem pre_of_take {s e : List Nat} (h : s <+: e) : s = e.take s.length := List.prefix_iff_eq_take.mp h
theorem path_dn {n : Nat} {q : Pr} (hq : PrOk n q) (s : List Nat) : (SX.S s, ("down" : Str)) ∈ pathOf (oB q.1) (SX.S q.2) n ↔ dnP q s := by
  obtain ⟨b, e⟩ := q
  obtain ⟨⟨eb, el⟩, hz⟩ := hq
  cases b with
  | none =>
    show (SX.S s, ("down" : Str)) ∈ pathN (SX.S e) (n + 1) ↔ _
    unfold pathN
    rw [List.mem_map]
    constructor
    · rintro ⟨i, _, h⟩
      have h1 := (Prod.mk.inj h).1
      rw [px_S] at h1
      have h2 := S_inj h1
      exact ⟨h2 ▸ List.take_prefix i e, fun z hz => nomatch hz⟩
    · rintro ⟨h, _⟩
      have hl := h.length_le
      exact ⟨s.length, List.mem_range.mpr (by dsimp only at hl el; omega), by rw [px_S, ← pre_of_take h]⟩
  | some z =>
    obtain ⟨zb, zl⟩ := hz z rfl
    have el : e.length = n := el
    show (SX.S s, ("down" : Str)) ∈ pathP (SX.S z) (SX.S e) n ↔ _
    unfold pathP pathU pathD cpS
    rw [tl_S, tl_S, List.mem_append, List.mem_map, List.mem_map]
    have hc := cpl_le z e
    constructor
    · rintro (⟨i, _, h⟩ | ⟨i, hi, h⟩)
      · exact absurd (Prod.mk.inj h).2.symm dn_ne_up
      · have h1 := (Prod.mk.inj h).1
        rw [px_S] at h1
        have h2 := S_inj h1
        have hi := List.mem_range.mp hi
        refine ⟨h2 ▸ List.take_prefix _ e, fun z' hz' q => ?_⟩
        cases hz'
        have h3 := pre_of_take q
        have hl : s.length = cpl z e + 1 + i := by rw [← h2, List.length_take]; omega
        have := (take_cpl z e (cpl z e + 1 + i) (by omega) (by omega)).mp (by rw [← hl, ← h3, hl, h2])
        omega
    · rintro ⟨h, hn⟩
      have h : s <+: e := h
      have hl := h.length_le
      have hk : ¬ s.length ≤ cpl z e := fun c => by
        have := (take_cpl z e s.length (by omega) (by omega)).mpr c
        rw [← pre_of_take h] at this
        exact hn z rfl (this ▸ List.take_prefix _ z)
      refine .inr ⟨s.length - cpl z e - 1, List.mem_range.mpr (by omega), ?_⟩
      rw [px_S, show cpl z e + 1 + (s.length - cpl z e - 1) = s.length by omega, ← pre_of_take h]
theorem path_up {n : Nat} {q : Pr} (hq : PrOk n q) (s : List Nat) : (SX.S s, ("up" : Str)) ∈ pathOf (oB q.1) (SX.S q.2) n ↔ upP q s := by
  obtain ⟨b, e⟩ := q
  obtain ⟨⟨eb, el⟩, hz⟩ := hq
  cases b with
  | none =>
    show (SX.S s, ("up" : Str)) ∈ pathN (SX.S e) (n + 1) ↔ _
    unfold pathN
    rw [List.mem_map]
    constructor
    · rintro ⟨i, _, h⟩
      exact absurd (Prod.mk.inj h).2 dn_ne_up
    · rintro ⟨z, hz, _⟩
      cases hz
  | some z =>
    obtain ⟨zb, zl⟩ := hz z rfl
    have el : e.length = n := el
    show (SX.S s, ("up" : Str)) ∈ pathP (SX.S z) (SX.S e) n ↔ _
    unfold pathP pathU pathD cpS
    rw [tl_S, tl_S, List.mem_append, List.mem_map, List.mem_map]
    have hc := cpl_le z e
    constructor
    · rintro (⟨i, hi, h⟩ | ⟨i, _, h⟩)
      · have h1 := (Prod.mk.inj h).1
        rw [px_S] at h1
        have h2 := S_inj h1
        have hi := List.mem_range.mp hi
        refine ⟨z, rfl, h2 ▸ List.take_prefix _ z, fun q => ?_⟩
        have h3 := pre_of_take q
        have hl : s.length = n - i := by rw [← h2, List.length_take]; omega
        have := (take_cpl z e (n - i) (by omega) (by omega)).mp (by rw [← hl, ← h3, hl, h2])
        omega
      · exact absurd (Prod.mk.inj h).2 dn_ne_up
    · rintro ⟨z', hz', h, hn⟩
      cases hz'
      have hl := h.length_le
      have hk : ¬ s.length ≤ cpl z e := fun c => by
        have := (take_cpl z e s.length (by omega) (by omega)).mpr c
        rw [← pre_of_take h] at this
        exact hn (this ▸ List.take_prefix _ e)
      refine .inl ⟨n - s.length, List.mem_range.mpr (by omega), ?_⟩
      rw [px_S, show n - (n - s.length) = s.length by omega, ← pre_of_take h]
open PySem PySem.Spec PyProof.Rows
open L2 hiding pass0
/-- a border, the way, the goal of the end -/
abbrev En := Str × Str × Str
def ents (n : Nat) (G : List Nat → Str) (q : Pr) : List En := (pathOf (oB q.1) (SX.S q.2) n).map fun p => (p.1, p.2, G q.2)
/-- they may both be there -/
def RB (e x : En) : Bool := !decide (e.1 = x.1) || (decide (e.2.1 = x.2.1) && !decide (e.2.2 = x.2.2))
def fit1 (E : List En) (x : En) : Bool := E.all fun e => RB e x
abbrev Keep (E : List En) : Prop := E.Pairwise fun e x => RB e x = true
theorem RB_iff {e x : En} : RB e x = true ↔ (e.1 = x.1 → e.2.1 = x.2.1 ∧ e.2.2 ≠ x.2.2) := by
  unfold RB
  by_cases a : e.1 = x.1 <;> by_cases b : e.2.1 = x.2.1 <;> by_cases c : e.2.2 = x.2.2 <;> simp [a, b, c]
theorem keep_snoc {E : List En} {x : En} : Keep (E ++ [x]) ↔ Keep E ∧ fit1 E x = true := by
  unfold Keep fit1
  rw [List.pairwise_append, List.all_eq_true]
  constructor
  · rintro ⟨a, _, c⟩
    exact ⟨a, fun e he => c e he x (List.mem_singleton.mpr rfl)⟩
  · rintro ⟨a, c⟩
    exact ⟨a, List.pairwise_singleton _ _, fun e he y hy => by rw [List.mem_singleton.mp hy]; exact c e he⟩
theorem keep_pre {E F : List En} (h : Keep (E ++ F)) : Keep E := (List.pairwise_append.mp h).1
def flat (n : Nat) (G : List Nat → Str) (qs : List Pr) : List En := qs.flatMap (ents n G)
theorem flat_snoc (n : Nat) (G : List Nat → Str) (qs : List Pr) (q : Pr) : flat n G (qs ++ [q]) = flat n G qs ++ ents n G q := by
  unfold flat
  rw [List.flatMap_append]
  simp
/-- whether a list of pairs is a pack -/
def packB (n : Nat) (d : List (Str × Str)) (fs : List (List Nat)) (qs : List Pr) : Bool := qs.all (okP d fs) && decide (Keep (flat n (gT d) qs))
theorem nd_map {α β : Type} {f : α → β} : ∀ {l : List α}, l.Nodup → (∀ a ∈ l, ∀ b ∈ l, f a = f b → a = b) → (l.map f).Nodup
  | [], _, _ => List.nodup_nil
  | a :: l, h, k => by
    obtain ⟨h1, h2⟩ := List.nodup_cons.mp h
    rw [List.map_cons, List.nodup_cons]
    refine ⟨fun q => ?_, nd_map h2 fun x hx y hy => k x (List.mem_cons_of_mem _ hx) y (List.mem_cons_of_mem _ hy)⟩
    obtain ⟨y, hy, e⟩ := List.mem_map.mp q
    have := k y (List.mem_cons_of_mem _ hy) a List.mem_cons_self e
    exact h1 (this ▸ hy)
theorem px_inj_len {z : List Nat} {i j : Nat} (hi : i ≤ z.length) (hj : j ≤ z.length) (e : px (SX.S z) i = px (SX.S z) j) : i = j := by
  rw [px_S, px_S] at e
  have := congrArg List.length (S_inj e)
  rw [List.length_take, List.length_take] at this
  omega
/-- a path passes each border once -/
theorem path_nd {n : Nat} {q : Pr} (hq : PrOk n q) : ((pathOf (oB q.1) (SX.S q.2) n).map (·.1)).Nodup := by
  obtain ⟨b, e⟩ := q
  obtain ⟨⟨eb, el⟩, hz⟩ := hq
  have el : e.length = n := el
  cases b with
  | none =>
    show ((pathN (SX.S e) (n + 1)).map (·.1)).Nodup
    unfold pathN
    rw [List.map_map]
    refine nd_map List.nodup_range fun i hi j hj h => ?_
    have hi := List.mem_range.mp hi
    have hj := List.mem_range.mp hj
    exact px_inj_len (by omega) (by omega) h
  | some z =>
    obtain ⟨zb, zl⟩ := hz z rfl
    show ((pathP (SX.S z) (SX.S e) n).map (·.1)).Nodup
    unfold pathP pathU pathD cpS
    rw [tl_S, tl_S, List.map_append, List.map_map, List.map_map, List.nodup_append]
    have hc := cpl_le z e
    refine ⟨nd_map List.nodup_range fun i hi j hj h => ?_, nd_map List.nodup_range fun i hi j hj h => ?_, fun a ha b hb h => ?_⟩
    · have hi := List.mem_range.mp hi
      have hj := List.mem_range.mp hj
      have := px_inj_len (z := z) (i := n - i) (j := n - j) (by omega) (by omega) h
      omega
    · have hi := List.mem_range.mp hi
      have hj := List.mem_range.mp hj
      have := px_inj_len (z := e) (i := cpl z e + 1 + i) (j := cpl z e + 1 + j) (by omega) (by omega) h
      omega
    · subst h
      obtain ⟨i, hi, h1⟩ := List.mem_map.mp ha
      obtain ⟨j, hj, h2⟩ := List.mem_map.mp hb
      have hi := List.mem_range.mp hi
      have hj := List.mem_range.mp hj
      have h3 : px (SX.S z) (n - i) = px (SX.S e) (cpl z e + 1 + j) := h1.trans h2.symm
      rw [px_S, px_S] at h3
      have h4 := S_inj h3
      have h5 := congrArg List.length h4
      rw [List.length_take, List.length_take] at h5
      have h6 : n - i = cpl z e + 1 + j := by omega
      rw [h6] at h4
      have := (take_cpl z e (cpl z e + 1 + j) (by omega) (by omega)).mp h4
      omega
theorem ents_keep {n : Nat} {G : List Nat → Str} {q : Pr} (hq : PrOk n q) : Keep (ents n G q) := by
  have h := path_nd hq
  unfold Keep ents
  rw [List.pairwise_map]
  unfold List.Nodup at h
  rw [List.pairwise_map] at h
  exact h.imp fun {a b} h => RB_iff.mpr fun e => absurd e h
theorem mem_flat {n : Nat} {G : List Nat → Str} {qs : List Pr} {e : En} : e ∈ flat n G qs ↔ ∃ q ∈ qs, e ∈ ents n G q := by
  unfold flat
  rw [List.mem_flatMap]
theorem mem_ents {n : Nat} {G : List Nat → Str} {q : Pr} (s w g : Str) : (s, w, g) ∈ ents n G q ↔ (s, w) ∈ pathOf (oB q.1) (SX.S q.2) n ∧ g = G q.2 := by
  unfold ents
  rw [List.mem_map]
  constructor
  · rintro ⟨p, hp, e⟩
    have e1 := (Prod.mk.inj e).1
    obtain ⟨e2, e3⟩ := Prod.mk.inj (Prod.mk.inj e).2
    exact ⟨by rw [← e1, ← e2]; exact hp, e3.symm⟩
  · rintro ⟨h, rfl⟩
    exact ⟨(s, w), h, rfl⟩
/-- pairs that stand beside one another -/
def Off (n : Nat) (G : List Nat → Str) (q r : Pr) : Prop := ∀ e ∈ ents n G q, ∀ x ∈ ents n G r, RB e x = true
theorem keep_flat {n : Nat} {G : List Nat → Str} : ∀ {qs : List Pr}, (∀ q ∈ qs, PrOk n q) → (Keep (flat n G qs) ↔ qs.Pairwise (Off n G))
  | [], _ => ⟨fun _ => .nil, fun _ => .nil⟩
  | q :: qs, h => by
    have e : flat n G (q :: qs) = ents n G q ++ flat n G qs := rfl
    unfold Keep
    rw [e, List.pairwise_append, List.pairwise_cons, show List.Pairwise (fun e x => RB e x = true) (flat n G qs) ↔ qs.Pairwise (Off n G) from keep_flat fun r hr => h r (List.mem_cons_of_mem _ hr)]
    constructor
    · rintro ⟨_, b, c⟩
      exact ⟨fun r hr e he x hx => c e he x (mem_flat.mpr ⟨r, hr, hx⟩), b⟩
    · rintro ⟨a, b⟩
      refine ⟨ents_keep (h q List.mem_cons_self), b, fun e he x hx => ?_⟩
      obtain ⟨r, hr, hx⟩ := mem_flat.mp hx
      exact a r hr e he x hx
open PySem PySem.Spec PyProof.Rows
open L2 hiding pass0
def apB (x y : List Str) : Bool := decide (shr x y = [])
/-- whether the half b lets paths in -/
def nx (f : List Nat → SNd) (t : List Nat) (m : Bool) (b : Nat) : Bool := match (f (t ++ [48])).1, (f (t ++ [49])).1 with
  | some x, some y => if m = apB x y then m else decide (b = 48)
  | _, _ => m
/-- whether a path to g crosses here -/
def crB (f : List Nat → SNd) (t : List Nat) (m : Bool) (g : Str) : Bool := match (f (t ++ [48])).1, (f (t ++ [49])).1 with
  | some x, some y => !decide (m = apB x y) && (decide (g ∈ x) && !decide (g ∈ y))
  | _, _ => false
def mdA (f : List Nat → SNd) : List Nat → Bool → List Nat → Bool
  | _, m, [] => m
  | p, m, b :: r => mdA f (p ++ [b]) (nx f p m b) r
def md (f : List Nat → SNd) (m0 : Bool) (t : List Nat) : Bool := mdA f [] m0 t
def ogA (f : List Nat → SNd) (g : Str) : List Nat → Bool → Option (List Nat) → List Nat → Option (List Nat)
  | _, _, o, [] => o
  | p, m, o, b :: r => ogA f g (p ++ [b]) (nx f p m b) (if crB f p m g = true then some p else o) r
/-- where a path to g that passes here has crossed -/
def og (f : List Nat → SNd) (m0 : Bool) (g : Str) (t : List Nat) : Option (List Nat) := ogA f g [] m0 none t
theorem mdA_snoc (f : List Nat → SNd) : ∀ (r p : List Nat) (m : Bool) (b : Nat), mdA f p m (r ++ [b]) = nx f (p ++ r) (mdA f p m r) b
  | [], p, m, b => by rw [List.append_nil]; rfl
  | c :: r, p, m, b => by
    show mdA f (p ++ [c]) (nx f p m c) (r ++ [b]) = nx f (p ++ c :: r) (mdA f (p ++ [c]) (nx f p m c) r) b
    rw [mdA_snoc f r, List.append_assoc]
    rfl
theorem md_snoc (f : List Nat → SNd) (m0 : Bool) (t : List Nat) (b : Nat) : md f m0 (t ++ [b]) = nx f t (md f m0 t) b := by
  unfold md
  rw [mdA_snoc, List.nil_append]
theorem ogA_snoc (f : List Nat → SNd) (g : Str) : ∀ (r p : List Nat) (m : Bool) (o : Option (List Nat)) (b : Nat), ogA f g p m o (r ++ [b]) = if crB f (p ++ r) (mdA f p m r) g = true then some (p ++ r) else ogA f g p m o r
  | [], p, m, o, b => by rw [List.append_nil]; rfl
  | c :: r, p, m, o, b => by
    show ogA f g (p ++ [c]) (nx f p m c) (if crB f p m g = true then some p else o) (r ++ [b]) = _
    rw [ogA_snoc f g r, List.append_assoc]
    rfl
theorem og_snoc (f : List Nat → SNd) (m0 : Bool) (g : Str) (t : List Nat) (b : Nat) : og f m0 g (t ++ [b]) = if crB f t (md f m0 t) g = true then some t else og f m0 g t := by
  unfold og
  rw [ogA_snoc, List.nil_append]
  rfl
/-- a path to g may be here -/
def Cn (f : List Nat → SNd) (m0 : Bool) (t : List Nat) (g : Str) : Prop := ∃ x, (f t).1 = some x ∧ (g ∈ x ↔ md f m0 t = true)
section
variable {f : List Nat → SNd} {m0 : Bool} {t : List Nat} {g : Str} {n : Nat}
theorem st_none0 (h : f t = both2 (f (t ++ [48])) (f (t ++ [49]))) (c : Cn f m0 t g) (e : (f (t ++ [48])).1 = none) : Cn f m0 (t ++ [49]) g ∧ og f m0 g (t ++ [49]) = og f m0 g t ∧ md f m0 (t ++ [49]) = md f m0 t := by
  have hm : md f m0 (t ++ [49]) = md f m0 t := by rw [md_snoc]; unfold nx; rw [e]
  have ho : og f m0 g (t ++ [49]) = og f m0 g t := by rw [og_snoc]; unfold crB; rw [e]; rfl
  refine ⟨?_, ho, hm⟩
  obtain ⟨x, ex, hx⟩ := c
  refine ⟨x, ?_, by rw [hm]; exact hx⟩
  rw [h] at ex
  unfold both2 at ex
  rw [e] at ex
  exact ex
theorem st_none1 (h : f t = both2 (f (t ++ [48])) (f (t ++ [49]))) (c : Cn f m0 t g) (e0 : (f (t ++ [48])).1 ≠ none) (e : (f (t ++ [49])).1 = none) : Cn f m0 (t ++ [48]) g ∧ og f m0 g (t ++ [48]) = og f m0 g t ∧ md f m0 (t ++ [48]) = md f m0 t := by
  cases e1 : (f (t ++ [48])).1 with
  | none => exact absurd e1 e0
  | some y =>
  have hm : md f m0 (t ++ [48]) = md f m0 t := by rw [md_snoc]; unfold nx; rw [e1, e]
  have ho : og f m0 g (t ++ [48]) = og f m0 g t := by rw [og_snoc]; unfold crB; rw [e1, e]; rfl
  refine ⟨?_, ho, hm⟩
  obtain ⟨x, ex, hx⟩ := c
  refine ⟨y, e1, ?_⟩
  rw [hm]
  rw [h] at ex
  unfold both2 at ex
  rw [e1, e] at ex
  cases ex
  exact hx
theorem st_half {x y : List Str} (h : f t = both2 (f (t ++ [48])) (f (t ++ [49]))) (c : Cn f m0 t g) (e0 : (f (t ++ [48])).1 = some x) (e1 : (f (t ++ [49])).1 = some y) (b : Nat)
    (hb : b = if decide (g ∈ if md f m0 t = true then x else y) = true then 48 else 49) : Cn f m0 (t ++ [b]) g ∧ og f m0 g (t ++ [b]) = og f m0 g t ∧ md f m0 (t ++ [b]) = md f m0 t := by
  obtain ⟨z, ez, hz⟩ := c
  have ez2 : z = if shr x y = [] then tsort (x ++ y) else shr x y := by
    rw [h] at ez
    generalize hA : f (t ++ [48]) = A at ez e0
    generalize hB : f (t ++ [49]) = B at ez e1
    obtain ⟨a, i⟩ := A
    obtain ⟨b', j⟩ := B
    cases e0
    cases e1
    rw [both_ss] at ez
    split at ez
    · rw [if_pos (by assumption)]; exact (Option.some.inj ez).symm
    · rw [if_neg (by assumption)]; exact (Option.some.inj ez).symm
  have mem : g ∈ z ↔ if shr x y = [] then g ∈ x ∨ g ∈ y else g ∈ x ∧ g ∈ y := by
    rw [ez2]
    split
    · rw [mem_tsort, List.mem_append]
    · rw [mem_shr]
  rw [mem] at hz
  have nxe : ∀ b, md f m0 (t ++ [b]) = if md f m0 t = apB x y then md f m0 t else decide (b = 48) := fun b => by
    rw [md_snoc]
    unfold nx
    rw [e0, e1]
  have cre : crB f t (md f m0 t) g = (!decide (md f m0 t = apB x y) && (decide (g ∈ x) && !decide (g ∈ y))) := by
    unfold crB
    rw [e0, e1]
  have key : crB f t (md f m0 t) g = false ∧ md f m0 (t ++ [b]) = md f m0 t ∧ (g ∈ (if b = 48 then x else y) ↔ md f m0 t = true) ∧ (b = 48 ∨ b = 49) := by
    rw [cre, nxe, hb]
    unfold apB
    have sn := @shr_nil x y
    by_cases ap : shr x y = []
    · have sn := sn ap g
      rw [if_pos ap] at hz
      cases hm : md f m0 t with
      | true =>
        rw [hm] at hz
        by_cases gx : g ∈ x
        · simp [ap, gx]
        · have gy : g ∈ y := (hz.mpr rfl).resolve_left gx
          simp [ap, gx, gy]
      | false =>
        rw [hm] at hz
        have gx : ¬ g ∈ x := fun q => by have := hz.mp (.inl q); cases this
        have gy : ¬ g ∈ y := fun q => by have := hz.mp (.inr q); cases this
        simp [ap, gx, gy]
    · rw [if_neg ap] at hz
      cases hm : md f m0 t with
      | true =>
        rw [hm] at hz
        obtain ⟨gx, gy⟩ := hz.mpr rfl
        simp [ap, gx, gy]
      | false =>
        rw [hm] at hz
        by_cases gy : g ∈ y
        · have gx : ¬ g ∈ x := fun q => by have := hz.mp ⟨q, gy⟩; cases this
          simp [ap, gx, gy]
        · simp [ap, gy]
  obtain ⟨k1, k2, k3, k4⟩ := key
  refine ⟨?_, by rw [og_snoc, k1]; rfl, k2⟩
  unfold Cn
  rw [k2]
  rcases k4 with rfl | rfl
  · exact ⟨x, e0, k3⟩
  · exact ⟨y, e1, k3⟩
theorem st_zero {v : Str} (c : Cn f m0 t g) (e : (f t).1 = some [v]) (e0 : (f (t ++ [48])).1 = some [v]) (e1 : (f (t ++ [49])).1 = some [v]) : Cn f m0 (t ++ [48]) g ∧ og f m0 g (t ++ [48]) = og f m0 g t ∧ md f m0 (t ++ [48]) = md f m0 t := by
  obtain ⟨x, ex, hx⟩ := c
  rw [e] at ex
  cases ex
  have na : apB [v] [v] = false := by
    unfold apB
    rw [decide_eq_false]
    intro q
    exact shr_nil q v ⟨List.mem_singleton.mpr rfl, List.mem_singleton.mpr rfl⟩
  have hm : md f m0 (t ++ [48]) = md f m0 t := by
    rw [md_snoc]
    unfold nx
    rw [e0, e1]
    dsimp only
    rw [na]
    cases md f m0 t <;> rfl
  have ho : og f m0 g (t ++ [48]) = og f m0 g t := by
    rw [og_snoc]
    unfold crB
    rw [e0, e1]
    dsimp only
    refine if_neg fun z => ?_
    have z : (!decide (md f m0 t = apB [v] [v]) && (decide (g ∈ [v]) && !decide (g ∈ [v]))) = true := z
    rw [Bool.and_eq_true, Bool.and_eq_true] at z
    have z2 := z.2.1
    have z3 := z.2.2
    rw [z2] at z3
    cases z3
  exact ⟨⟨_, e0, by rw [hm]; exact hx⟩, ho, hm⟩
/-- a path to g goes down from t to z -/
structure Way (f : List Nat → SNd) (m0 : Bool) (g : Str) (t z : List Nat) : Prop where
  pre : t <+: z
  all : ∀ s, t <+: s → s <+: z → Cn f m0 s g ∧ og f m0 g s = og f m0 g t ∧ md f m0 s = md f m0 t
theorem Way.refl (c : Cn f m0 t g) : Way f m0 g t t := ⟨List.prefix_refl _, fun s h1 h2 => by
  have := h1.eq_of_length (Nat.le_antisymm h1.length_le h2.length_le)
  subst this
  exact ⟨c, rfl, rfl⟩⟩
theorem pre_snoc {s z : List Nat} {b : Nat} (h : s <+: z ++ [b]) : s <+: z ∨ s = z ++ [b] := by
  rcases List.prefix_concat_iff.mp h with h | h
  · exact .inr h
  · exact .inl h
theorem Way.snoc {u : List Nat} {b : Nat} (w : Way f m0 g t u) (c : Cn f m0 (u ++ [b]) g ∧ og f m0 g (u ++ [b]) = og f m0 g u ∧ md f m0 (u ++ [b]) = md f m0 u) : Way f m0 g t (u ++ [b]) := ⟨w.pre.trans (List.prefix_append _ _), fun s h1 h2 => by
  rcases pre_snoc h2 with h | rfl
  · exact w.all s h1 h
  · have := w.all u w.pre (List.prefix_refl _)
    exact ⟨c.1, c.2.1.trans this.2.1, c.2.2.trans this.2.2⟩⟩
theorem Way.end {z : List Nat} (w : Way f m0 g t z) : Cn f m0 z g ∧ og f m0 g z = og f m0 g t ∧ md f m0 z = md f m0 t := w.all z w.pre (List.prefix_refl _)
theorem Way.trans {u z : List Nat} (w : Way f m0 g t u) (v : Way f m0 g u z) : Way f m0 g t z := ⟨w.pre.trans v.pre, fun s h1 h2 => by
  rcases List.prefix_or_prefix_of_prefix h2 v.pre with h | h
  · exact w.all s h1 h
  · have a := v.all s h h2
    have b := w.end
    exact ⟨a.1, a.2.1.trans b.2.1, a.2.2.trans b.2.2⟩⟩
end
/-- where a pair crosses (none: it comes from outside), and its goal -/
abbrev Og := Option (List Nat) × Str
/-- a pair of the pack -/
structure IsP (n : Nat) (m : List (Str × Str)) (fs : List (List Nat)) (m0 : Bool) (o : Og) (q : Pr) : Prop where
  ok : PrOk n q
  used : okP m fs q = true
  goal : gT m q.2 = o.2
  dn : ∀ s, dnP q s → md (SN n m fs) m0 s = true ∧ og (SN n m fs) m0 o.2 s = o.1
  up : ∀ s, upP q s → md (SN n m fs) m0 s = false ∧ og (SN n m fs) m0 o.2 s = o.1
theorem ways_two {n : Nat} {q : Pr} (hq : PrOk n q) {s w : Str} (h : (s, w) ∈ pathOf (oB q.1) (SX.S q.2) n) : ∃ t, s = SX.S t ∧ (w = "down" ∧ dnP q t ∨ w = "up" ∧ upP q t) := by
  have e : s = SX.S s.cps.toList := (S_cp s).symm
  refine ⟨s.cps.toList, e, ?_⟩
  rw [e] at h
  have hw : w = "down" ∨ w = "up" := by
    obtain ⟨b, z⟩ := q
    cases b with
    | none =>
      have h : (_, w) ∈ pathN (SX.S z) (n + 1) := h
      unfold pathN at h
      obtain ⟨i, _, e⟩ := List.mem_map.mp h
      exact .inl (Prod.mk.inj e).2.symm
    | some y =>
      have h : (_, w) ∈ pathP (SX.S y) (SX.S z) n := h
      unfold pathP pathU pathD at h
      rcases List.mem_append.mp h with h | h
      · obtain ⟨i, _, e⟩ := List.mem_map.mp h
        exact .inr (Prod.mk.inj e).2.symm
      · obtain ⟨i, _, e⟩ := List.mem_map.mp h
        exact .inl (Prod.mk.inj e).2.symm
  rcases hw with rfl | rfl
  · exact .inl ⟨rfl, (path_dn hq _).mp h⟩
  · exact .inr ⟨rfl, (path_up hq _).mp h⟩
theorem off_of {n : Nat} {m : List (Str × Str)} {fs : List (List Nat)} {m0 : Bool} {o o' : Og} {q r : Pr} (h : IsP n m fs m0 o q) (k : IsP n m fs m0 o' r) (ne : o ≠ o') : Off n (gT m) q r := fun e he x hx => by
  obtain ⟨s, w, g⟩ := e
  obtain ⟨s', w', g'⟩ := x
  obtain ⟨h1, rfl⟩ := (mem_ents s w g).mp he
  obtain ⟨h2, rfl⟩ := (mem_ents s' w' g').mp hx
  refine RB_iff.mpr fun es => ?_
  have es : s = s' := es
  subst es
  obtain ⟨t, rfl, a⟩ := ways_two h.ok h1
  obtain ⟨t', et, b⟩ := ways_two k.ok h2
  have et := S_inj et
  subst et
  have same : ∀ g, og (SN n m fs) m0 g t = o.1 → og (SN n m fs) m0 g t = o'.1 → o.2 = g → o'.2 = g → False := fun g x y z w => ne (Prod.ext (x.symm.trans y) (z.trans w.symm))
  rcases a with ⟨rfl, a⟩ | ⟨rfl, a⟩ <;> rcases b with ⟨rfl, b⟩ | ⟨rfl, b⟩
  · have x := h.dn t a
    have y := k.dn t b
    refine ⟨rfl, fun c => ?_⟩
    have c : gT m q.2 = gT m r.2 := c
    rw [h.goal, k.goal] at c
    exact same o.2 x.2 (c ▸ y.2) rfl c.symm
  · have x := h.dn t a
    have y := k.up t b
    rw [x.1] at y
    cases y.1
  · have x := h.up t a
    have y := k.dn t b
    rw [x.1] at y
    cases y.1
  · have x := h.up t a
    have y := k.up t b
    refine ⟨rfl, fun c => ?_⟩
    have c : gT m q.2 = gT m r.2 := c
    rw [h.goal, k.goal] at c
    exact same o.2 x.2 (c ▸ y.2) rfl c.symm
theorem pack_is {n : Nat} {m : List (Str × Str)} {fs : List (List Nat)} {m0 : Bool} {zs : List (Og × Pr)} (nd : (zs.map (·.1)).Nodup) (h : ∀ z ∈ zs, IsP n m fs m0 z.1 z.2) : packB n m fs (zs.map (·.2)) = true := by
  unfold packB
  rw [Bool.and_eq_true, List.all_eq_true, decide_eq_true_iff, keep_flat]
  · refine ⟨fun q hq => ?_, ?_⟩
    · obtain ⟨z, hz, rfl⟩ := List.mem_map.mp hq
      exact (h z hz).used
    · rw [List.pairwise_map]
      unfold List.Nodup at nd
      rw [List.pairwise_map] at nd
      exact nd.imp_of_mem fun {a b} ha hb ne => off_of (h a ha) (h b hb) ne
  · intro q hq
    obtain ⟨z, hz, rfl⟩ := List.mem_map.mp hq
    exact (h z hz).ok
open PySem PySem.Spec PyProof.Rows
open L2 hiding pass0
def crL (f : List Nat → SNd) (m0 : Bool) (t : List Nat) : List Og := match (f (t ++ [48])).1, (f (t ++ [49])).1 with
  | some x, some y => if md f m0 t = apB x y then [] else (x.filter fun g => !decide (g ∈ y)).map fun g => (some t, g)
  | _, _ => []
/-- all crossings within -/
def pk (f : List Nat → SNd) (m0 : Bool) : Nat → List Nat → List Og
  | 0, _ => []
  | k + 1, t => crL f m0 t ++ (pk f m0 k (t ++ [48]) ++ pk f m0 k (t ++ [49]))
theorem mem_crL {f : List Nat → SNd} {m0 : Bool} {t : List Nat} {o : Og} (h : o ∈ crL f m0 t) : o.1 = some t ∧ crB f t (md f m0 t) o.2 = true := by
  unfold crL at h
  unfold crB
  cases e0 : (f (t ++ [48])).1 with
  | none => rw [e0] at h; cases h
  | some x =>
    cases e1 : (f (t ++ [49])).1 with
    | none => rw [e0, e1] at h; cases h
    | some y =>
      rw [e0, e1] at h
      dsimp only at h ⊢
      by_cases c : md f m0 t = apB x y
      · rw [if_pos c] at h
        cases h
      · rw [if_neg c] at h
        obtain ⟨g, hg, rfl⟩ := List.mem_map.mp h
        obtain ⟨h1, h2⟩ := List.mem_filter.mp hg
        exact ⟨rfl, by rw [decide_eq_false c, decide_eq_true h1, h2]; rfl⟩
theorem crL_nd {f : List Nat → SNd} {m0 : Bool} {t : List Nat} (nd : ∀ t x, (f t).1 = some x → x.Nodup) : (crL f m0 t).Nodup := by
  unfold crL
  cases e0 : (f (t ++ [48])).1 with
  | none => exact .nil
  | some x =>
    cases e1 : (f (t ++ [49])).1 with
    | none => exact .nil
    | some y =>
      dsimp only
      split
      · exact .nil
      · exact nd_map ((nd _ _ e0).filter _) fun a _ b _ h => (Prod.mk.inj h).2
theorem pk_mem {f : List Nat → SNd} {m0 : Bool} : ∀ {k : Nat} {t : List Nat} {o : Og}, o ∈ pk f m0 k t → ∃ u, o.1 = some u ∧ t <+: u ∧ u.length < t.length + k ∧ crB f u (md f m0 u) o.2 = true
  | 0, t, o, h => by cases h
  | k + 1, t, o, h => by
    rcases List.mem_append.mp h with h | h
    · obtain ⟨a, b⟩ := mem_crL h
      exact ⟨t, a, List.prefix_refl _, by omega, b⟩
    · rcases List.mem_append.mp h with h | h
      · obtain ⟨u, a, b, c, d⟩ := pk_mem h
        rw [List.length_append, List.length_singleton] at c
        exact ⟨u, a, (List.prefix_append _ _).trans b, by omega, d⟩
      · obtain ⟨u, a, b, c, d⟩ := pk_mem h
        rw [List.length_append, List.length_singleton] at c
        exact ⟨u, a, (List.prefix_append _ _).trans b, by omega, d⟩
theorem pre_both {t u : List Nat} {a b : Nat} (h : t ++ [a] <+: u) (k : t ++ [b] <+: u) : a = b := by
  rcases List.prefix_or_prefix_of_prefix h k with q | q
  · have := q.eq_of_length (by simp)
    exact (snoc_inj this).2
  · have := q.eq_of_length (by simp)
    exact (snoc_inj this).2.symm
theorem pk_nd {f : List Nat → SNd} {m0 : Bool} (nd : ∀ t x, (f t).1 = some x → x.Nodup) : ∀ (k : Nat) (t : List Nat), (pk f m0 k t).Nodup
  | 0, _ => .nil
  | k + 1, t => by
    show (crL f m0 t ++ (pk f m0 k (t ++ [48]) ++ pk f m0 k (t ++ [49]))).Nodup
    rw [List.nodup_append, List.nodup_append]
    refine ⟨crL_nd nd, ⟨pk_nd nd k _, pk_nd nd k _, fun a ha b hb e => ?_⟩, fun a ha b hb e => ?_⟩
    · subst e
      obtain ⟨u, h1, h2, _⟩ := pk_mem ha
      obtain ⟨u', h1', h2', _⟩ := pk_mem hb
      rw [h1] at h1'
      cases h1'
      have := pre_both h2 h2'
      omega
    · subst e
      obtain ⟨h1, _⟩ := mem_crL ha
      rcases List.mem_append.mp hb with hb | hb
      all_goals
        obtain ⟨u', h1', h2', _⟩ := pk_mem hb
        rw [h1] at h1'
        cases h1'
        have := h2'.length_le
        rw [List.length_append, List.length_singleton] at this
        omega
theorem both_none {a b : SNd} : (both2 a b).1 = none ↔ a.1 = none ∧ b.1 = none := by
  obtain ⟨a, i⟩ := a
  obtain ⟨b, j⟩ := b
  cases a with
  | none => rw [both_nl]; simp
  | some x =>
    cases b with
    | none => rw [both_nr]; simp
    | some y =>
      rw [both_ss]
      split <;> simp
section
variable {n : Nat} {m : List (Str × Str)} {fs : List (List Nat)} {m0 : Bool}
theorem pk_none : ∀ {k : Nat} {t : List Nat}, t.length + k = n → (SN n m fs t).1 = none → pk (SN n m fs) m0 k t = [] ∧ (SN n m fs t).2 = 0
  | 0, t, h, e => ⟨rfl, by rw [SN_end (by omega)]⟩
  | k + 1, t, h, e => by
    have st := SN_in (m := m) (fs := fs) (show t.length < n by omega)
    rw [st] at e ⊢
    obtain ⟨e0, e1⟩ := both_none.mp e
    have l0 : (t ++ [48]).length + k = n := by rw [List.length_append, List.length_singleton]; omega
    have l1 : (t ++ [49]).length + k = n := by rw [List.length_append, List.length_singleton]; omega
    obtain ⟨p0, q0⟩ := pk_none (k := k) l0 e0
    obtain ⟨p1, q1⟩ := pk_none (k := k) l1 e1
    refine ⟨?_, ?_⟩
    · show crL _ _ _ ++ (pk _ _ k _ ++ pk _ _ k _) = []
      rw [p0, p1]
      unfold crL
      rw [e0]
      rfl
    · unfold both2
      rw [e0]
      show _ + _ = 0
      rw [q0, q1]
theorem filt_len2 (x y : List Str) : (x.filter fun g => !decide (g ∈ y)).length + (shr x y).length = x.length := by
  unfold shr
  induction x with
  | nil => rfl
  | cons a x ih =>
    by_cases c : a ∈ y
    · rw [List.filter_cons_of_neg (by simp [c]), List.filter_cons_of_pos (by simp [c]), List.length_cons, List.length_cons]
      omega
    · rw [List.filter_cons_of_pos (by simp [c]), List.filter_cons_of_neg (by simp [c]), List.length_cons, List.length_cons]
      omega
theorem pk_len : ∀ {k : Nat} {t : List Nat} {z : List Str}, t.length + k = n → (SN n m fs t).1 = some z → (pk (SN n m fs) m0 k t).length + (if md (SN n m fs) m0 t = true then z.length else 1) = (SN n m fs t).2 + 1
  | 0, t, z, h, e => by
    rw [SN_end (by omega)] at e ⊢
    dsimp only at e
    cases c : lab m fs t with
    | none => rw [c] at e; cases e
    | some g =>
      rw [c] at e
      cases e
      show 0 + _ = 0 + 1
      split <;> rfl
  | k + 1, t, z, h, e => by
    have st := SN_in (m := m) (fs := fs) (show t.length < n by omega)
    have l0 : (t ++ [48]).length + k = n := by rw [List.length_append, List.length_singleton]; omega
    have l1 : (t ++ [49]).length + k = n := by rw [List.length_append, List.length_singleton]; omega
    have i0 := fun z => pk_len (k := k) (z := z) l0
    have i1 := fun z => pk_len (k := k) (z := z) l1
    have n0 := pk_none (m := m) (fs := fs) (m0 := m0) (k := k) l0
    have n1 := pk_none (m := m) (fs := fs) (m0 := m0) (k := k) l1
    rw [md_snoc] at i0 i1
    unfold nx at i0 i1
    rw [st] at e ⊢
    show (crL _ _ _ ++ (pk _ _ k _ ++ pk _ _ k _)).length + _ = _
    rw [List.length_append, List.length_append]
    unfold crL
    generalize SN n m fs (t ++ [48]) = A at e i0 i1 n0 ⊢
    generalize SN n m fs (t ++ [49]) = B at e i0 i1 n1 ⊢
    obtain ⟨a, i⟩ := A
    obtain ⟨b, j⟩ := B
    cases a with
    | none =>
      obtain ⟨p, q⟩ := n0 rfl
      have q : i = 0 := q
      rw [both_nl] at e ⊢
      have e : b = some z := e
      subst e
      have := i1 z rfl
      rw [p]
      dsimp only at this ⊢
      simp only [List.length_nil]
      omega
    | some x =>
      cases b with
      | none =>
        obtain ⟨p, q⟩ := n1 rfl
        have q : j = 0 := q
        rw [both_nr] at e ⊢
        have e : some x = some z := e
        cases e
        have := i0 z rfl
        rw [p]
        dsimp only at this ⊢
        simp only [List.length_nil]
        omega
      | some y =>
        have h0 := i0 x rfl
        have h1 := i1 y rfl
        have fl := filt_len2 x y
        rw [both_ss] at e ⊢
        unfold apB at h0 h1 ⊢
        dsimp only at h0 h1 ⊢
        by_cases ap : shr x y = []
        · rw [if_pos ap] at e ⊢
          have e : tsort (x ++ y) = z := Option.some.inj e
          have lz : z.length = x.length + y.length := by rw [← e, (tsort_perm _).length_eq, List.length_append]
          simp only [decide_eq_true ap] at h0 h1 ⊢
          rw [ap, List.length_nil] at fl
          cases hm : md (SN n m fs) m0 t with
          | true => rw [hm] at h0 h1; simp at h0 h1 ⊢; omega
          | false =>
            rw [hm] at h0 h1
            have e1 : (if false = true then ([] : List Og) else (x.filter fun g => !decide (g ∈ y)).map fun g => (some t, g)).length = x.length := by
              rw [if_neg (by simp), List.length_map]
              exact fl
            rw [e1]
            simp at h0 h1 ⊢
            omega
        · rw [if_neg ap] at e ⊢
          have e : shr x y = z := Option.some.inj e
          subst e
          simp only [decide_eq_false ap] at h0 h1 ⊢
          cases hm : md (SN n m fs) m0 t with
          | true => rw [hm] at h0 h1; simp at h0 h1 fl ⊢; omega
          | false => rw [hm] at h0 h1; simp at h0 h1 ⊢; omega
end
theorem pk_even {f : List Nat → SNd} {m0 : Bool} {v : Str} : ∀ {k : Nat} {t : List Nat}, (∀ y, M.BL y → y.length ≤ k → (f (t ++ y)).1 = some [v]) → pk f m0 k t = []
  | 0, _, _ => rfl
  | k + 1, t, h => by
    have b0 : M.BL [48] := fun c hc => .inl (by simpa using hc)
    have b1 : M.BL [49] := fun c hc => .inr (by simpa using hc)
    have app : ∀ {a b : List Nat}, M.BL a → M.BL b → M.BL (a ++ b) := fun ha hb c hc => (List.mem_append.mp hc).elim (ha c) (hb c)
    show crL f m0 t ++ (pk f m0 k (t ++ [48]) ++ pk f m0 k (t ++ [49])) = []
    rw [pk_even (k := k) (t := t ++ [48]) fun y hy hl => by rw [List.append_assoc]; exact h _ (app b0 hy) (by rw [List.length_append, List.length_singleton]; omega),
      pk_even (k := k) (t := t ++ [49]) fun y hy hl => by rw [List.append_assoc]; exact h _ (app b1 hy) (by rw [List.length_append, List.length_singleton]; omega)]
    unfold crL
    rw [h [48] b0 (by show 1 ≤ _; omega), h [49] b1 (by show 1 ≤ _; omega)]
    dsimp only
    split
    · rfl
    · rw [List.filter_cons_of_neg (by simp)]
      rfl
/-- an address where a path to g may end, or begin -/
theorem cn_end {n : Nat} {m : List (Str × Str)} {fs : List (List Nat)} {m0 : Bool} {z : List Nat} {g : Str} (h : Cn (SN n m fs) m0 z g) (l : z.length = n) : M.frB fs z = false ∧ (g = gT m z ↔ md (SN n m fs) m0 z = true) := by
  obtain ⟨x, ex, hx⟩ := h
  rw [SN_end l] at ex
  unfold lab at ex
  cases c : M.frB fs z with
  | true => rw [c] at ex; cases ex
  | false =>
    rw [c] at ex
    cases ex
    refine ⟨rfl, ?_⟩
    rw [← hx, List.mem_singleton]
    exact Iff.rfl
section
variable {n : Nat} {m : List (Str × Str)} {fs : List (List Nat)} {m0 : Bool} {t b e : List Nat} {g : Str}
theorem isP_cross (h : crB (SN n m fs) t (md (SN n m fs) m0 t) g = true) (we : Way (SN n m fs) m0 g (t ++ [48]) e) (wb : Way (SN n m fs) m0 g (t ++ [49]) b) (eb : M.BL e) (el : e.length = n) (bb : M.BL b) (bl : b.length = n) : IsP n m fs m0 (some t, g) (some b, e) := by
  have o0 : og (SN n m fs) m0 g (t ++ [48]) = some t := by rw [og_snoc, if_pos h]
  have o1 : og (SN n m fs) m0 g (t ++ [49]) = some t := by rw [og_snoc, if_pos h]
  have mm : md (SN n m fs) m0 (t ++ [48]) = true ∧ md (SN n m fs) m0 (t ++ [49]) = false := by
    rw [md_snoc, md_snoc]
    unfold crB at h
    unfold nx
    cases e0 : (SN n m fs (t ++ [48])).1 with
    | none => rw [e0] at h; cases h
    | some x =>
      cases e1 : (SN n m fs (t ++ [49])).1 with
      | none => rw [e0, e1] at h; cases h
      | some y =>
        rw [e0, e1] at h
        dsimp only at h ⊢
        rw [Bool.and_eq_true, Bool.not_eq_true', decide_eq_false_iff_not] at h
        rw [if_neg h.1, if_neg h.1]
        exact ⟨rfl, rfl⟩
  have ce := we.end
  have cb := wb.end
  obtain ⟨fe, ge⟩ := cn_end ce.1 el
  obtain ⟨fb, gb⟩ := cn_end cb.1 bl
  rw [ce.2.2, mm.1] at ge
  rw [cb.2.2, mm.2] at gb
  have ge := ge.mpr rfl
  have gb : g ≠ gT m b := fun q => by have := gb.mp q; cases this
  have pe : t <+: e := (List.prefix_append _ _).trans we.pre
  have pb : t <+: b := (List.prefix_append _ _).trans wb.pre
  refine ⟨⟨⟨eb, el⟩, fun z hz => by cases hz; exact ⟨bb, bl⟩⟩, ?_, ge.symm, fun s hs => ?_, fun s hs => ?_⟩
  · unfold okP
    dsimp only
    rw [fe, fb, decide_eq_false (fun q => gb (ge.trans q.symm))]
    rfl
  · obtain ⟨h1, h2⟩ := hs
    have h2 := h2 b rfl
    have ts : t ++ [48] <+: s := by
      rcases List.prefix_or_prefix_of_prefix h1 we.pre with q | q
      · rcases pre_snoc q with q | rfl
        · exact absurd (q.trans pb) h2
        · exact List.prefix_refl _
      · exact q
    have := we.all s ts h1
    exact ⟨this.2.2.trans mm.1, this.2.1.trans o0⟩
  · obtain ⟨z, hz, h1, h2⟩ := hs
    cases hz
    have ts : t ++ [49] <+: s := by
      rcases List.prefix_or_prefix_of_prefix h1 wb.pre with q | q
      · rcases pre_snoc q with q | rfl
        · exact absurd (q.trans pe) h2
        · exact List.prefix_refl _
      · exact q
    have := wb.all s ts h1
    exact ⟨this.2.2.trans mm.2, this.2.1.trans o1⟩
theorem isP_out (we : Way (SN n m fs) true g [] e) (eb : M.BL e) (el : e.length = n) (ng : g ≠ "hole") : IsP n m fs true (none, g) (none, e) := by
  have ce := we.end
  obtain ⟨fe, ge⟩ := cn_end ce.1 el
  rw [ce.2.2] at ge
  have ge := ge.mpr rfl
  refine ⟨⟨⟨eb, el⟩, fun z hz => nomatch hz⟩, ?_, ge.symm, fun s hs => ?_, fun s hs => ?_⟩
  · unfold okP
    dsimp only
    rw [fe, decide_eq_false (fun q => ng (ge.trans q))]
    rfl
  · have := we.all s List.nil_prefix hs.1
    exact ⟨this.2.2, this.2.1⟩
  · obtain ⟨z, hz, _⟩ := hs
    cases hz
end
open PySem PySem.Spec PyProof.Rows
open L2 hiding pass0
abbrev s_is_even : Stmt := top 61
theorem sc_is_even : FnScope ["known", "stretch"] ["known", "stretch"] (defScope s_is_even) := ⟨rfl, rfl, rfl, by decide +kernel, rfl, by decide +kernel, by decide +kernel⟩
theorem bp_is_even : BndP "_is_even" s_is_even ["known", "stretch"] := fun _ _ _ _ _ _ us h => match us, h with | [_, _], _ => rfl
abbrev s_fork : Stmt := top 62
theorem sc_fork : FnScope ["known", "stretch", "zero", "one"] ["known", "stretch"] (defScope s_fork) := ⟨rfl, rfl, rfl, by decide +kernel, rfl, by decide +kernel, by decide +kernel⟩
theorem bp_fork : BndP "_fork" s_fork ["known", "stretch"] := fun _ _ _ _ _ _ us h => match us, h with | [_, _], _ => rfl
abbrev s_are_apart : Stmt := top 63
theorem sc_are_apart : FnScope ["known", "zero", "one", "goal"] ["known", "zero", "one"] (defScope s_are_apart) := ⟨rfl, rfl, rfl, by decide +kernel, rfl, by decide +kernel, by decide +kernel⟩
theorem bp_are_apart : BndP "_are_apart" s_are_apart ["known", "zero", "one"] := fun _ _ _ _ _ _ us h => match us, h with | [_, _, _], _ => rfl
/-- what sets_and_needs tells -/
structure Kno (H : Hp) (D n : Nat) (m : List (Str × Str)) (fs hs : List (List Nat)) (ad : List Nat → Addr) : Prop where
  n1 : n ≤ 100
  ok : TabOk (n : Int) m
  ff : Fits n fs
  lf : fs.length ≤ 20
  ho : Hold (kz m ++ fs) hs
  eD : H D = some (.dK (fd (kys hs) fun t => .ref (ad t)))
  ev : ∀ t ∈ kys hs, SnA (.str "all") H (ad t) (SN n m fs t)
section
variable {H H' : Hp} {D n : Nat} {m : List (Str × Str)} {fs hs : List (List Nat)} {ad : List Nat → Addr}
theorem Kno.to (h : Kno H D n m fs hs ad) (s : Same H H') : Kno H' D n m fs hs ad := ⟨h.n1, h.ok, h.ff, h.lf, h.ho, s _ _ h.eD, fun t ht => (h.ev t ht).to s⟩
theorem Kno.ts (h : Kno H D n m fs hs ad) : ∀ t ∈ kz m ++ fs, M.BL t ∧ t.length ≤ n := fun t ht => by
  rcases List.mem_append.mp ht with q | q
  · exact kz_fits h.ok.rows t q
  · exact h.ff t q
theorem Kno.fit (h : Kno H D n m fs hs ad) {t : List Nat} (ht : t ∈ kys hs) : M.BL t ∧ t.length ≤ n := kys_fit h.ho h.ts ht
theorem Kno.lt (h : Kno H D n m fs hs ad) {t : List Nat} (ht : t ∈ hs) : t.length < n := hold_lt h.ho h.ts ht
theorem kys_half {t : List Nat} : t ++ [48] ∈ kys hs ↔ t ∈ hs := by
  rw [kys_mem]
  constructor
  · rintro (h | ⟨s, hs', h⟩)
    · exact absurd h (by simp)
    · rcases h with h | h
      · exact (snoc_inj h).1 ▸ hs'
      · exact absurd (snoc_inj h).2 (by decide)
  · exact fun h => .inr ⟨t, h, .inl rfl⟩
theorem kys_one {t : List Nat} (h : t ∈ hs) : t ++ [49] ∈ kys hs := kys_mem.mpr (.inr ⟨t, h, .inr rfl⟩)
theorem Kno.step (h : Kno H D n m fs hs ad) {t : List Nat} (ht : t ∈ hs) : SN n m fs t = both2 (SN n m fs (t ++ [48])) (SN n m fs (t ++ [49])) := SN_in (h.lt ht)
/-- within a stretch that is known whole -/
theorem Kno.still (h : Kno H D n m fs hs ad) {t : List Nat} (ht : t ∉ hs) : (∃ o : Option Str, (SN n m fs t).1 = o.map fun g => [g]) ∧ ∀ y, (SN n m fs (t ++ y)).1 = (SN n m fs t).1 := by
  have rk := h.ok.rows
  have hx : ∀ q, t <+: q → q ≠ t → q ∉ kz m ++ fs := fun q hp hn z => ht ((h.ho.mem t).mpr ⟨q, z, hp, fun e => hn e.symm⟩)
  have hy : ∀ y, t ++ y ∉ hs := fun y z => ht (h.ho.up z (List.prefix_append _ _))
  have e1 : ∀ t, t ∉ hs → (SN n m fs t).1 = (if gev m fs t = "all" then none else some [gev m fs t]) := fun t ht => by
    rw [SN_leaf rk h.ho ht]
    rfl
  refine ⟨?_, fun y => ?_⟩
  · rw [e1 t ht]
    split
    · exact ⟨none, rfl⟩
    · exact ⟨some _, rfl⟩
  · obtain ⟨f1, f2⟩ := frozen_ext hx _ y rfl
    rw [e1 _ (hy y), e1 t ht]
    unfold gev
    rw [f1, f2]
end
/-- a value of a set as data -/
def dS : Option (List Str) → PyData
  | none => .str "all"
  | some xs => .list (xs.map PyData.str)
theorem setv_dp {K : PySem.W.Frag} {H : Hp} {v : V} {o : Option (List Str)} (h : SetV H (.str "all") v o) : Dp K H v (dS o) := by
  cases o with
  | none =>
    obtain rfl : v = .str "all" := h
    exact .str _
  | some xs =>
    obtain ⟨A, rfl, hA⟩ := h
    exact .lst (SqL.of hA) (dps xs)
theorem dS_eqv (o : Option (List Str)) : PyData.eqv (dS o) (.str "all") = o.isNone := by
  cases o with
  | none => simp [dS, PyData.eqv]
  | some xs => simp [dS, PyData.eqv]
theorem dS_shp {s : SNd} (h : Sz s) : SeqAt.shaped (dS s.1) = true := by
  cases e : s.1 with
  | none => exact (show Fit 200 0 (.str "all") from Fit.str (by decide +kernel) (by decide +kernel)).shp (by decide)
  | some xs => exact (strs_fit (h xs e).2).shp (by decide)
theorem all_shp : SeqAt.shaped (.str "all") = true := (show Fit 200 0 (.str "all") from Fit.str (by decide +kernel) (by decide +kernel)).shp (by decide)
/-- where the paths of a stretch part -/
inductive Fk (f : List Nat → SNd) (hs : List (List Nat)) : List Nat → List Nat → Prop
  | even {t : List Nat} : t ∉ hs → Fk f hs t t
  | both {t : List Nat} : t ∈ hs → (f (t ++ [48])).1 ≠ none → (f (t ++ [49])).1 ≠ none → Fk f hs t t
  | zero {t u : List Nat} : t ∈ hs → (f (t ++ [48])).1 = none → Fk f hs (t ++ [49]) u → Fk f hs t u
  | one {t u : List Nat} : t ∈ hs → (f (t ++ [48])).1 ≠ none → (f (t ++ [49])).1 = none → Fk f hs (t ++ [48]) u → Fk f hs t u
@[irreducible] def spIE : Sp := fun vs H Q _ => ∃ (D n : Nat) (m : List (Str × Str)) (fs hs : List (List Nat)) (ad : List Nat → Addr) (t : List Nat), vs = [.ref D, sx t] ∧ Kno H D n m fs hs ad ∧ t.length ≤ 1000 ∧ Q (.bl (!decide (t ∈ hs))) H
@[irreducible] def spFk : Sp := fun vs H Q _ => ∃ (D n : Nat) (m : List (Str × Str)) (fs hs : List (List Nat)) (ad : List Nat → Addr) (t : List Nat), vs = [.ref D, sx t] ∧ Kno H D n m fs hs ad ∧ t ∈ kys hs ∧ ∀ u H', Same H H' → u ∈ kys hs → Fk (SN n m fs) hs t u → Q (sx u) H'
@[irreducible] def spAA : Sp := fun vs H Q _ => ∃ (D n : Nat) (m : List (Str × Str)) (fs hs : List (List Nat)) (ad : List Nat → Addr) (t t' : List Nat) (x y : List Str), vs = [.ref D, sx t, sx t'] ∧ Kno H D n m fs hs ad ∧ t ∈ kys hs ∧ t' ∈ kys hs ∧ (SN n m fs t).1 = some x ∧ (SN n m fs t').1 = some y ∧ ∀ H', Same H H' → Q (.bl (apB x y)) H'
section
variable {H : Hp} {D n : Nat} {m : List (Str × Str)} {fs hs : List (List Nat)} {ad : List Nat → Addr} {t t' : List Nat} {Q : VK} {E : XK}
theorem ie_go (h : Kno H D n m fs hs ad) (l : t.length ≤ 1000) (k : Q (.bl (!decide (t ∈ hs))) H) : spIE [.ref D, sx t] H Q E := by
  unfold spIE
  exact ⟨D, n, m, fs, hs, ad, t, rfl, h, l, k⟩
theorem fk_go (h : Kno H D n m fs hs ad) (ht : t ∈ kys hs) (k : ∀ u H', Same H H' → u ∈ kys hs → Fk (SN n m fs) hs t u → Q (sx u) H') : spFk [.ref D, sx t] H Q E := by
  unfold spFk
  exact ⟨D, n, m, fs, hs, ad, t, rfl, h, ht, k⟩
theorem aa_go {x y : List Str} (h : Kno H D n m fs hs ad) (ht : t ∈ kys hs) (ht' : t' ∈ kys hs) (ex : (SN n m fs t).1 = some x) (ey : (SN n m fs t').1 = some y) (k : ∀ H', Same H H' → Q (.bl (apB x y)) H') : spAA [.ref D, sx t, sx t'] H Q E := by
  unfold spAA
  exact ⟨D, n, m, fs, hs, ad, t, t', x, y, rfl, h, ht, ht', ex, ey, k⟩
end
section
variable {P : Program} {w : World} {K : PySem.W.Frag} {mg : Str → Option Value} {base : Heap} {f C : Addr} {fd' : FuncData}
theorem ok_is_even (F : Fun K "_is_even" "_is_even" s_is_even f fd') (hm : mg "_is_even" = some (.ref f)) (T : Txt K mg) : Nm P w K mg base CX0 1 "_is_even" s_is_even ["known", "stretch"] (spIE) := by
  refine nm_of F hm sc_is_even (fun vs H Q E h => ?_) fun cdv A outer s H vs Q E hr h => ?_
  · unfold spIE at h
    obtain ⟨D, n, m, fs, hs, ad, t, rfl, kn, l, k⟩ := h
    subst_vars
    rfl
  unfold spIE at h
  obtain ⟨D, n, m, fs, hs, ad, t, rfl, kn, l, k⟩ := h
  refine ⟨_, (pss_one (ps_ret (pe_cmp (pc_dnotin hr.u1 (pe_op op_add_str (pv 1) pe_str) (pv 0))))), ?_⟩
  refine ⟨_, rfl, ⟨_, _, rfl, rfl, szl (by rw [sx_len]; show t.length + 1 ≤ 1000000; omega), ?_⟩⟩
  rw [str0]
  refine ⟨_, rfl, ⟨D, _, rfl, .inl ⟨_, skey (t ++ [48]), .inl kn.eD, rfl, rfl⟩, ?_⟩⟩
  rw [fd_has]
  rw [show decide (t ++ [48] ∈ kys hs) = decide (t ∈ hs) from decide_eq_decide.mpr kys_half]
  exact k
theorem ok_are_apart (F : Fun K "_are_apart" "_are_apart" s_are_apart f fd') (hm : mg "_are_apart" = some (.ref f)) (T : Txt K mg) : Nm P w K mg base CX0 1 "_are_apart" s_are_apart ["known", "zero", "one"] (spAA) := by
  refine nm_of F hm sc_are_apart (fun vs H Q E h => ?_) fun cdv A outer s H vs Q E hr h => ?_
  · unfold spAA at h
    obtain ⟨D, n, m, fs, hs, ad, t, t', x, y, rfl, kn, ht, ht', ex, ey, k⟩ := h
    subst_vars
    rfl
  unfold spAA at h
  obtain ⟨D, n, m, fs, hs, ad, t, t', x, y, rfl, kn, ht, ht', ex, ey, k⟩ := h
  refine ⟨_, (pss_one (ps_ret (pe_not (pe_callB (cr_any rfl) (by rfl) T.b_any (by decide +kernel) (pa_cons (pe_lc (own := [("goal", 3)]) (g := (gName 3)) (by rfl) sc_are_apart.nd (pi_listK (K := K) rfl (pe_ix (ix_seqK (K := K) rfl) (pe_dget hr.u1 (pv 0) (pv 1) (fun _ _ => rfl)) pe_int (fun _ _ => rfl))) (blkOk_by (own := [("goal", 3)]) (N := ["known", "zero", "one", "goal"]) (sc := defScope s_are_apart) (by decide +kernel)) (fun _ _ _ _ _ => (pg_name (i := 3) sc_are_apart.nd rfl (by first | exact Or.inl rfl | exact Or.inr rfl))) (fun _ _ _ _ _ => pts_nil) (fun _ _ _ _ _ => (pe_cmpR (op_inK (K := K) rfl) (pv 3) (pe_ix (ix_seqK (K := K) rfl) (pe_dget hr.u1 (pv 0) (pv 2) (fun _ _ => rfl)) pe_int (fun _ _ => rfl)) rfl))) pa_nil))))), ?_⟩
  obtain ⟨v, ec, hv⟩ := kn.ev t ht
  obtain ⟨v', ec', hv'⟩ := kn.ev t' ht'
  rw [ex] at hv
  rw [ey] at hv'
  obtain ⟨A1, rfl, hA⟩ := hv
  obtain ⟨A2, rfl, hB⟩ := hv'
  have zx := SN_sz (t := t) (fs := fs) kn.ok x ex
  refine ⟨_, rfl, ⟨_, rfl, ⟨D, .ref (ad t), rfl, .inl ⟨_, skey t, .inl kn.eD, rfl, by rw [fd_val, if_pos ht]⟩, .inr (.inl ⟨ad t, _, 0, .ref A1, rfl, rfl, SqT.of ec, rfl, ?_⟩)⟩⟩⟩
  refine ⟨A1, rfl, ⟨_, SqL.of hA⟩, fun B nB => ?_⟩
  refine lc_it (walk_list (xs := x.map V.str)) (fun i H' => H' B = some (.lst (((x.take i).map fun g => decide (g ∈ y)).map V.bl)) ∧ Same H H') ⟨upd_same, (Same.refl H).new nB⟩ (fun i H' _ h => SqL.of (h.2 _ _ hA)) ?_ ?_
  · rintro i u H1 H2 hi ⟨eB, sm⟩ ⟨rfl, hu⟩
    obtain ⟨g, hg, rfl⟩ : ∃ g, x[i]? = some g ∧ u = .str g := by
      rw [List.getElem?_map] at hu
      cases q : x[i]? with
      | none => rw [q] at hu; cases hu
      | some g => rw [q] at hu; exact ⟨g, rfl, (Option.some.inj hu).symm⟩
    refine ⟨rfl, ?_⟩
    dsimp only [tYes]
    rw [if_pos rfl]
    refine ⟨_, rfl, ⟨_, rfl, ⟨_, rfl, ⟨D, .ref (ad t'), rfl, .inl ⟨_, skey t', .inl (sm _ _ kn.eD), rfl, by rw [fd_val, if_pos ht']⟩, .inr (.inl ⟨ad t', _, 0, .ref A2, rfl, rfl, SqT.of (sm _ _ ec'), rfl, ?_⟩)⟩⟩⟩⟩
    refine ⟨A2, _, rfl, .inl (SqL.of (sm _ _ hB)), rfl, flat_strs _, ?_⟩
    rw [if_neg (by decide), inV_strs]
    refine ⟨_, eB, szt (by rw [List.length_map, List.length_map, List.length_take]; have := zx.1; omega), ?_, fun b o q => updn (nonn nB q) (sm b o q)⟩
    rw [upd_same, List.take_add_one, hg, List.map_append, List.map_append]
    rfl
  · rintro H1 ⟨eB, sm⟩
    rw [List.length_map, List.take_length] at eB
    refine ⟨_, _, rfl, SqL.of eB, ?_⟩
    have e2 : (!((x.map fun g => decide (g ∈ y)).any id)) = apB x y := by
      unfold apB shr
      rw [Bool.eq_iff_iff, decide_eq_true_iff, List.filter_eq_nil_iff, Bool.not_eq_true', Bool.eq_false_iff, List.any_map]
      constructor
      · exact fun h g hg q => h (List.any_eq_true.mpr ⟨g, hg, q⟩)
      · intro h c
        obtain ⟨g, hg, q⟩ := List.any_eq_true.mp c
        exact h g hg q
    refine ⟨_, rfl, ?_⟩
    rw [e2]
    exact k H1 sm
theorem ok_fork (F : Fun K "_fork" "_fork" s_fork f fd') (hm : mg "_fork" = some (.ref f)) (T : Txt K mg) (cA : ∃ u, mg "ALL" = some u ∧ RelV (.str "all") u) (c_is_even : Nm P w K mg base CX0 1 "_is_even" s_is_even ["known", "stretch"] (spIE)) : Nm P w K mg base CX0 2 "_fork" s_fork ["known", "stretch"] (spFk) := by
  refine nm_of0 F hm sc_fork (fun vs H Q E h => ?_) fun cdv A outer s H vs Q E hr h => ?_
  · unfold spFk at h
    obtain ⟨D, n, m, fs, hs, ad, t, rfl, kn, ht, k⟩ := h
    subst_vars
    rfl
  unfold spFk at h
  obtain ⟨D, n, m, fs, hs, ad, t, rfl, kn, ht, k⟩ := h
  refine ⟨_, (pss_cons (ps_while PassesOwn.never (pt_not (pt_val (pe_g c_is_even hr (by decide) L2.pass0 bp_is_even (by rfl) (pa_cons (pv 0) (pa_cons (pv 1) pa_nil))))) (C8.pss_cut (ps_par (i := 2) (j := 3) (by rfl) sc_fork.nd rfl rfl (by decide) rfl rfl (pa_cons (pe_op op_add_str (pv 1) pe_str) (pa_cons (pe_op op_add_str (pv 1) pe_str) pa_nil)) (by rfl))
      (C8.pss_cut (ps_if (PW.pt (pw_and (pt_cmpR (op_neDK (K := K) rfl hr.u64) (pe_ix (ix_seqK (K := K) rfl) (pe_dget hr.u1 (pv 0) (pv 2) (fun _ _ => rfl)) pe_int (fun _ _ => rfl)) (pe_cst (by rfl) cA) (nomark _)) (pw_and1 (pt_cmpR (op_neDK (K := K) rfl hr.u64) (pe_ix (ix_seqK (K := K) rfl) (pe_dget hr.u1 (pv 0) (pv 3) (fun _ _ => rfl)) pe_int (fun _ _ => rfl)) (pe_cst (by rfl) cA) (nomark _))))) (pss_one ps_break) pss_nil)
      (pss_one (ps_set (i := 1) sc_fork.nd rfl (by first | exact Or.inl rfl | exact Or.inr rfl) (pe_ifExp (pt_cmpR (op_eqDK (K := K) rfl hr.u64) (pe_ix (ix_seqK (K := K) rfl) (pe_dget hr.u1 (pv 0) (pv 2) (fun _ _ => rfl)) pe_int (fun _ _ => rfl)) (pe_cst (by rfl) cA) (nomark _)) (pv 3) (pv 2)))))))
      (pss_one (ps_ret (pv 1)))), ?_⟩
  refine ⟨fun mm σ' H' => ∃ (s : List Nat) (x2 x3 : Option V), σ' = [some (.ref D), some (sx s), x2, x3] ∧ H' = H ∧ s ∈ kys hs ∧ (∀ u, Fk (SN n m fs) hs s u → Fk (SN n m fs) hs t u) ∧ mm = n - s.length, ⟨_, t, _, _, rfl, rfl, ht, fun _ h => h, rfl⟩, ?_⟩
  rintro mm σ' H1 ⟨s, x2, x3, rfl, rfl, hs', hk, rfl⟩
  have sl := kn.fit hs'
  have n1 := kn.n1
  refine ⟨_, rfl, ⟨_, rfl, ?_⟩⟩
  refine ie_go kn (by omega) ?_
  refine ⟨_, rfl, ?_⟩
  by_cases c : s ∈ hs
  case neg =>
    rw [decide_eq_false c]
    refine iteF ?_
    exact ⟨_, rfl, k s H1 (Same.refl _) hs' (hk s (.even c))⟩
  case pos =>
  rw [decide_eq_true c]
  refine iteT ?_
  have lt := kn.lt c
  refine ⟨fun σ' H' => ∃ (s' : List Nat) (x2 x3 : Option V), σ' = [some (.ref D), some (sx s'), x2, x3] ∧ H' = H1 ∧ s' ∈ kys hs ∧ (∀ u, Fk (SN n m fs) hs s' u → Fk (SN n m fs) hs t u) ∧ s'.length = s.length + 1, fun σ' H' ⟨s', y2, y3, e1, e2, e3, e4, e5⟩ => ⟨_, (by rw [e5]; omega : n - s'.length < n - s.length), s', y2, y3, e1, e2, e3, e4, rfl⟩, ?_⟩
  refine ⟨fun σ' H' => σ' = [some (.ref D), some (sx s), some (sx (s ++ [48])), some (sx (s ++ [49]))] ∧ H' = H1, ?_, ?_⟩
  · refine ⟨_, rfl, ⟨_, _, rfl, rfl, szl (by rw [sx_len]; show s.length + 1 ≤ 1000000; omega), ?_⟩⟩
    rw [str0]
    refine ⟨_, rfl, ⟨_, _, rfl, rfl, szl (by rw [sx_len]; show s.length + 1 ≤ 1000000; omega), ?_⟩⟩
    rw [str1]
    exact ⟨_, _, rfl, rfl, rfl⟩
  rintro σ' H2 ⟨rfl, rfl⟩
  have k0 : s ++ [48] ∈ kys hs := kys_half.mpr c
  have k1 : s ++ [49] ∈ kys hs := kys_one c
  obtain ⟨v0, ec0, hv0⟩ := kn.ev _ k0
  obtain ⟨v1, ec1, hv1⟩ := kn.ev _ k1
  have z0 := SN_sz (t := s ++ [48]) (fs := fs) kn.ok
  have z1 := SN_sz (t := s ++ [49]) (fs := fs) kn.ok
  have val0 : some (V.ref (ad (s ++ [48]))) = valV (fd (kys hs) fun t => V.ref (ad t)) (skey (s ++ [48])) := by rw [fd_val, if_pos k0]
  have val1 : some (V.ref (ad (s ++ [49]))) = valV (fd (kys hs) fun t => V.ref (ad t)) (skey (s ++ [49])) := by rw [fd_val, if_pos k1]
  have dA : Dp K H2 (.str "all") (.str "all") := .str _
  refine ⟨fun σ' H' => σ' = [some (.ref D), some (sx s), some (sx (s ++ [48])), some (sx (s ++ [49]))] ∧ H' = H2 ∧ ((SN n m fs (s ++ [48])).1 = none ∨ (SN n m fs (s ++ [49])).1 = none), ?_, ?_⟩
  · refine ⟨_, rfl, ⟨_, rfl, ⟨D, .ref (ad (s ++ [48])), rfl, .inl ⟨_, skey (s ++ [48]), .inl kn.eD, rfl, val0⟩, .inr (.inl ⟨_, _, 0, v0, rfl, rfl, SqT.of ec0, rfl, ?_⟩)⟩⟩⟩
    refine ⟨_, _, setv_dp hv0, dA, dS_shp z0, all_shp, ?_⟩
    refine ⟨_, rfl, ?_⟩
    rw [dS_eqv]
    cases e0 : (SN n m fs (s ++ [48])).1 with
    | none =>
      refine iteF (iteF ?_)
      exact ⟨rfl, rfl, .inl rfl⟩
    | some x =>
      refine iteT ?_
      refine ⟨_, rfl, ⟨_, rfl, ⟨D, .ref (ad (s ++ [49])), rfl, .inl ⟨_, skey (s ++ [49]), .inl kn.eD, rfl, val1⟩, .inr (.inl ⟨_, _, 0, v1, rfl, rfl, SqT.of ec1, rfl, ?_⟩)⟩⟩⟩
      refine ⟨_, _, setv_dp hv1, dA, dS_shp z1, all_shp, ?_⟩
      refine ⟨_, rfl, ?_⟩
      rw [dS_eqv]
      cases e1 : (SN n m fs (s ++ [49])).1 with
      | none =>
        refine iteF ?_
        exact ⟨rfl, rfl, .inr rfl⟩
      | some y =>
        refine iteT ?_
        exact ⟨_, rfl, k s H2 (Same.refl _) hs' (hk s (.both c (by rw [e0]; simp) (by rw [e1]; simp)))⟩
  rintro σ' H3 ⟨rfl, rfl, hn⟩
  refine ⟨_, rfl, ⟨_, rfl, ⟨D, .ref (ad (s ++ [48])), rfl, .inl ⟨_, skey (s ++ [48]), .inl kn.eD, rfl, val0⟩, .inr (.inl ⟨_, _, 0, v0, rfl, rfl, SqT.of ec0, rfl, ?_⟩)⟩⟩⟩
  refine ⟨_, _, setv_dp hv0, dA, dS_shp z0, all_shp, ?_⟩
  refine ⟨_, rfl, ?_⟩
  rw [dS_eqv]
  cases e0 : (SN n m fs (s ++ [48])).1 with
  | none =>
    refine iteT ?_
    exact ⟨_, rfl, s ++ [49], _, _, rfl, rfl, k1, fun u h => hk u (.zero c e0 h), by rw [List.length_append]; rfl⟩
  | some x =>
    refine iteF ?_
    have e1 := hn.resolve_left (by rw [e0]; simp)
    exact ⟨_, rfl, s ++ [48], _, _, rfl, rfl, k0, fun u h => hk u (.one c (by rw [e0]; simp) e1 h), by rw [List.length_append]; rfl⟩
end
open PySem PySem.Spec PyProof.Rows
open L2 hiding pass0
abbrev s_first : Stmt := top 31
theorem sc_first : FnScope ["width", "stretch"] ["width", "stretch"] (defScope s_first) := ⟨rfl, rfl, rfl, by decide +kernel, rfl, by decide +kernel, by decide +kernel⟩
theorem bp_first : BndP "first" s_first ["width", "stretch"] := fun _ _ _ _ _ _ us h => match us, h with | [_, _], _ => rfl
abbrev s_foot : Stmt := top 66
theorem sc_foot : FnScope ["width", "known", "stretch", "goal", "asked", "half"] ["width", "known", "stretch", "goal", "asked"] (defScope s_foot) := ⟨rfl, rfl, rfl, by decide +kernel, rfl, by decide +kernel, by decide +kernel⟩
theorem bp_foot : BndP "_foot" s_foot ["width", "known", "stretch", "goal", "asked"] := fun _ _ _ _ _ _ us h => match us, h with | [_, _, _, _, _], _ => rfl
abbrev s_end : Stmt := top 64
theorem sc_end : FnScope ["width", "known", "stretch", "goal"] ["width", "known", "stretch", "goal"] (defScope s_end) := ⟨rfl, rfl, rfl, by decide +kernel, rfl, by decide +kernel, by decide +kernel⟩
theorem bp_end : BndP "_end" s_end ["width", "known", "stretch", "goal"] := fun _ _ _ _ _ _ us h => match us, h with | [_, _, _, _], _ => rfl
abbrev s_begin : Stmt := top 65
theorem sc_begin : FnScope ["width", "known", "stretch", "goal"] ["width", "known", "stretch", "goal"] (defScope s_begin) := ⟨rfl, rfl, rfl, by decide +kernel, rfl, by decide +kernel, by decide +kernel⟩
theorem bp_begin : BndP "_begin" s_begin ["width", "known", "stretch", "goal"] := fun _ _ _ _ _ _ us h => match us, h with | [_, _, _, _], _ => rfl
@[irreducible] def spFirst : Sp := fun vs H Q _ => ∃ (n : Nat) (t : List Nat), vs = [.int n, sx t] ∧ 1 ≤ n ∧ n ≤ 100 ∧ M.BL t ∧ t.length ≤ n ∧ ∀ H', Same H H' → Q (sx (t ++ List.replicate (n - t.length) 48)) H'
theorem first_go {n : Nat} {t : List Nat} {H : Hp} {Q : VK} {E : XK} (h0 : 1 ≤ n) (h1 : n ≤ 100) (hb : M.BL t) (hl : t.length ≤ n) (k : ∀ H', Same H H' → Q (sx (t ++ List.replicate (n - t.length) 48)) H') : spFirst [.int n, sx t] H Q E := by
  unfold spFirst
  exact ⟨n, t, rfl, h0, h1, hb, hl, k⟩
theorem lj_eq {n : Nat} {t : List Nat} (hl : t.length ≤ n) : Txt.ljustF (SX.S t) (n : Int) 48 = SX.S (t ++ List.replicate (n - t.length) 48) := by
  unfold Txt.ljustF
  rw [sx_len]
  split
  · rename_i h
    have : n - t.length = 0 := by omega
    rw [this, List.replicate_zero, List.append_nil]
  · rw [Int.toNat_natCast]
    unfold PySem.Builtin.Str.padded SX.S
    simp
theorem pad_ok {n : Nat} (h : n ≤ 100) : PadOk (n : Int) = true := by
  have : ∀ m : Fin 101, PadOk ((m.val : Nat) : Int) = true := by decide +kernel
  exact this ⟨n, by omega⟩
theorem fk_way {f : List Nat → SNd} {hs : List (List Nat)} {m0 : Bool} {g : Str} {t u : List Nat} (st : ∀ s ∈ hs, f s = both2 (f (s ++ [48])) (f (s ++ [49]))) (h : Fk f hs t u) : Cn f m0 t g → Way f m0 g t u := by
  induction h with
  | even _ => exact Way.refl
  | both _ _ _ => exact Way.refl
  | zero hs' e0 _ ih =>
    intro c
    have s := st_none0 (st _ hs') c e0
    exact ((Way.refl c).snoc s).trans (ih s.1)
  | one hs' e0 e1 _ ih =>
    intro c
    have s := st_none1 (st _ hs') c e0 e1
    exact ((Way.refl c).snoc s).trans (ih s.1)
theorem fk_end {f : List Nat → SNd} {hs : List (List Nat)} {t u : List Nat} (h : Fk f hs t u) : u ∉ hs ∨ (u ∈ hs ∧ (f (u ++ [48])).1 ≠ none ∧ (f (u ++ [49])).1 ≠ none) := by
  induction h with
  | even h => exact .inl h
  | both h a b => exact .inr ⟨h, a, b⟩
  | zero _ _ _ ih => exact ih
  | one _ _ _ _ ih => exact ih
theorem fk_pre {f : List Nat → SNd} {hs : List (List Nat)} {t u : List Nat} (h : Fk f hs t u) : t <+: u := by
  induction h with
  | even _ => exact List.prefix_refl _
  | both _ _ _ => exact List.prefix_refl _
  | zero _ _ _ ih => exact (List.prefix_append _ _).trans ih
  | one _ _ _ _ ih => exact (List.prefix_append _ _).trans ih
/-- the zeros behind -/
theorem way_zeros {H : Hp} {D n : Nat} {m : List (Str × Str)} {fs hs : List (List Nat)} {ad : List Nat → Addr} {m0 : Bool} {g : Str} {s : List Nat} (kn : Kno H D n m fs hs ad) (hn : s ∉ hs) (c : Cn (SN n m fs) m0 s g) : ∀ k, Way (SN n m fs) m0 g s (s ++ List.replicate k 48)
  | 0 => by rw [List.replicate_zero, List.append_nil]; exact Way.refl c
  | k + 1 => by
    have w := way_zeros kn hn c k
    obtain ⟨⟨o, eo⟩, st⟩ := kn.still hn
    obtain ⟨x, ex, _⟩ := c
    rw [eo] at ex
    cases o with
    | none => cases ex
    | some v =>
      have e : (SN n m fs s).1 = some [v] := eo
      rw [List.replicate_succ', ← List.append_assoc]
      refine w.snoc (st_zero w.end.1 (v := v) (by rw [st]; exact e) ?_ ?_)
      · rw [List.append_assoc, st]; exact e
      · rw [List.append_assoc, st]; exact e
def asked (b : Bool) : Str := if b = true then "0" else "1"
@[irreducible] def spFoot : Sp := fun vs H Q _ => ∃ (D n : Nat) (m : List (Str × Str)) (fs hs : List (List Nat)) (ad : List Nat → Addr) (m0 : Bool) (t : List Nat) (g : Str), vs = [.int n, .ref D, sx t, .str g, .str (asked (md (SN n m fs) m0 t))] ∧ Kno H D n m fs hs ad ∧ 1 ≤ n ∧ t ∈ kys hs ∧ Cn (SN n m fs) m0 t g ∧ ∀ z H', Same H H' → M.BL z → z.length = n → Way (SN n m fs) m0 g t z → Q (sx z) H'
@[irreducible] def spEB (b : Bool) : Sp := fun vs H Q _ => ∃ (D n : Nat) (m : List (Str × Str)) (fs hs : List (List Nat)) (ad : List Nat → Addr) (m0 : Bool) (t : List Nat) (g : Str), vs = [.int n, .ref D, sx t, .str g] ∧ Kno H D n m fs hs ad ∧ 1 ≤ n ∧ t ∈ kys hs ∧ Cn (SN n m fs) m0 t g ∧ md (SN n m fs) m0 t = b ∧ ∀ z H', Same H H' → M.BL z → z.length = n → Way (SN n m fs) m0 g t z → Q (sx z) H'
section
variable {H : Hp} {D n : Nat} {m : List (Str × Str)} {fs hs : List (List Nat)} {ad : List Nat → Addr} {m0 b : Bool} {t : List Nat} {g : Str} {Q : VK} {E : XK}
theorem foot_go (h : Kno H D n m fs hs ad) (n0 : 1 ≤ n) (ht : t ∈ kys hs) (c : Cn (SN n m fs) m0 t g) (k : ∀ z H', Same H H' → M.BL z → z.length = n → Way (SN n m fs) m0 g t z → Q (sx z) H') : spFoot [.int n, .ref D, sx t, .str g, .str (asked (md (SN n m fs) m0 t))] H Q E := by
  unfold spFoot
  exact ⟨D, n, m, fs, hs, ad, m0, t, g, rfl, h, n0, ht, c, k⟩
theorem eb_go (h : Kno H D n m fs hs ad) (n0 : 1 ≤ n) (ht : t ∈ kys hs) (c : Cn (SN n m fs) m0 t g) (hb : md (SN n m fs) m0 t = b) (k : ∀ z H', Same H H' → M.BL z → z.length = n → Way (SN n m fs) m0 g t z → Q (sx z) H') : spEB b [.int n, .ref D, sx t, .str g] H Q E := by
  unfold spEB
  exact ⟨D, n, m, fs, hs, ad, m0, t, g, rfl, h, n0, ht, c, hb, k⟩
end
section
variable {P : Program} {w : World} {K : PySem.W.Frag} {mg : Str → Option Value} {base : Heap} {f C : Addr} {fd : FuncData}
theorem ok_first (F : Fun K "first" "first" s_first f fd) (hm : mg "first" = some (.ref f)) (T : Txt K mg) (c_check_stretch : Nm P w K mg base CX0 5 "check_stretch" s_check_stretch ["width", "stretch"] (spCT strB)) : Nm P w K mg base CX0 6 "first" s_first ["width", "stretch"] (spFirst) := by
  refine nm_of F hm sc_first (fun vs H Q E h => ?_) fun cdv A outer s H vs Q E hr h => ?_
  · unfold spFirst at h
    obtain ⟨n, t, rfl, h0, h1, hb, hl, k⟩ := h
    subst_vars
    rfl
  unfold spFirst at h
  obtain ⟨n, t, rfl, h0, h1, hb, hl, k⟩ := h
  refine ⟨_, (pss_cons (ps_expr (pe_g c_check_stretch hr (by decide) L2.pass0 bp_check_stretch (by rfl) (pa_cons (pv 0) (pa_cons (pv 1) pa_nil))))
      (pss_one (ps_ret (pe_bm PySem.F.plainAttrs_str PySem.F.slot_str_ljust PySem.F.type_str_ljust mt_ljust2 (pv 1) (pa_cons (pv 0) (pa_cons pe_str pa_nil)))))), ?_⟩
  refine ⟨_, rfl, ?_⟩
  refine ⟨_, rfl, ?_⟩
  refine ct_go (by omega) (by omega) (by rw [sx_len]; omega) (str_ok hb hl) fun H1 sm1 => ?_
  refine ⟨_, rfl, ?_⟩
  have hp : PadOk (n : Int) = true := pad_ok h1
  refine ⟨rfl, ⟨_, rfl, ⟨SX.S t, n, "0", rfl, rfl, hp, rfl, ?_⟩⟩⟩
  have hk := k _ sm1
  unfold sx at hk
  rw [← lj_eq hl] at hk
  exact hk
theorem ok_end (F : Fun K "_end" "_end" s_end f fd) (hm : mg "_end" = some (.ref f)) (T : Txt K mg) (c_foot : Nm P w K mg base CX0 7 "_foot" s_foot ["width", "known", "stretch", "goal", "asked"] (spFoot)) : Nm P w K mg base CX0 8 "_end" s_end ["width", "known", "stretch", "goal"] (spEB true) := by
  refine nm_of F hm sc_end (fun vs H Q E h => ?_) fun cdv A outer s H vs Q E hr h => ?_
  · unfold spEB at h
    obtain ⟨D, n, m, fs, hs, ad, m0, t, g, rfl, kn, n0, ht, c, hb, k⟩ := h
    subst_vars
    rfl
  unfold spEB at h
  obtain ⟨D, n, m, fs, hs, ad, m0, t, g, rfl, kn, n0, ht, c, hb, k⟩ := h
  refine ⟨_, (pss_one (ps_ret (pe_g c_foot hr (by decide) L2.pass0 bp_foot (by rfl) (pa_cons (pv 0) (pa_cons (pv 1) (pa_cons (pv 2) (pa_cons (pv 3) (pa_cons pe_str pa_nil)))))))), ?_⟩
  refine ⟨_, rfl, ⟨_, rfl, ⟨_, rfl, ⟨_, rfl, ?_⟩⟩⟩⟩
  show spFoot [.int n, .ref D, sx t, .str g, .str "0"] _ _ _
  rw [show ("0" : Str) = asked (md (SN n m fs) m0 t) by rw [hb]; rfl]
  exact foot_go kn n0 ht c k
theorem ok_begin (F : Fun K "_begin" "_begin" s_begin f fd) (hm : mg "_begin" = some (.ref f)) (T : Txt K mg) (c_foot : Nm P w K mg base CX0 7 "_foot" s_foot ["width", "known", "stretch", "goal", "asked"] (spFoot)) : Nm P w K mg base CX0 8 "_begin" s_begin ["width", "known", "stretch", "goal"] (spEB false) := by
  refine nm_of F hm sc_begin (fun vs H Q E h => ?_) fun cdv A outer s H vs Q E hr h => ?_
  · unfold spEB at h
    obtain ⟨D, n, m, fs, hs, ad, m0, t, g, rfl, kn, n0, ht, c, hb, k⟩ := h
    subst_vars
    rfl
  unfold spEB at h
  obtain ⟨D, n, m, fs, hs, ad, m0, t, g, rfl, kn, n0, ht, c, hb, k⟩ := h
  refine ⟨_, (pss_one (ps_ret (pe_g c_foot hr (by decide) L2.pass0 bp_foot (by rfl) (pa_cons (pv 0) (pa_cons (pv 1) (pa_cons (pv 2) (pa_cons (pv 3) (pa_cons pe_str pa_nil)))))))), ?_⟩
  refine ⟨_, rfl, ⟨_, rfl, ⟨_, rfl, ⟨_, rfl, ?_⟩⟩⟩⟩
  show spFoot [.int n, .ref D, sx t, .str g, .str "1"] _ _ _
  rw [show ("1" : Str) = asked (md (SN n m fs) m0 t) by rw [hb]; rfl]
  exact foot_go kn n0 ht c k
theorem ok_foot (F : Fun K "_foot" "_foot" s_foot f fd) (hm : mg "_foot" = some (.ref f)) (T : Txt K mg) (c_is_even : Nm P w K mg base CX0 1 "_is_even" s_is_even ["known", "stretch"] (spIE)) (c_fork : Nm P w K mg base CX0 2 "_fork" s_fork ["known", "stretch"] (spFk)) (c_first : Nm P w K mg base CX0 6 "first" s_first ["width", "stretch"] (spFirst)) : Nm P w K mg base CX0 7 "_foot" s_foot ["width", "known", "stretch", "goal", "asked"] (spFoot) := by
  refine nm_of0 F hm sc_foot (fun vs H Q E h => ?_) fun cdv A outer s H vs Q E hr h => ?_
  · unfold spFoot at h
    obtain ⟨D, n, m, fs, hs, ad, m0, t, g, rfl, kn, n0, ht, cn, k⟩ := h
    subst_vars
    rfl
  unfold spFoot at h
  obtain ⟨D, n, m, fs, hs, ad, m0, t, g, rfl, kn, n0, ht, cn, k⟩ := h
  refine ⟨_, (pss_cons (ps_set (i := 2) sc_foot.nd rfl (by first | exact Or.inl rfl | exact Or.inr rfl) (pe_g c_fork hr (by decide) L2.pass0 bp_fork (by rfl) (pa_cons (pv 1) (pa_cons (pv 2) pa_nil))))
      (pss_cons (ps_while PassesOwn.never (pt_not (pt_val (pe_g c_is_even hr (by decide) L2.pass0 bp_is_even (by rfl) (pa_cons (pv 1) (pa_cons (pv 2) pa_nil))))) (C8.pss_cut (ps_set (i := 5) sc_foot.nd rfl (by first | exact Or.inl rfl | exact Or.inr rfl) (pe_ifExp (pt_cmpR (op_inK (K := K) rfl) (pv 3) (pe_ix (ix_seqK (K := K) rfl) (pe_dget hr.u1 (pv 1) (pe_op op_add_str (pv 2) (pv 4)) (fun _ _ => rfl)) pe_int (fun _ _ => rfl)) rfl) pe_str pe_str))
      (pss_one (ps_set (i := 2) sc_foot.nd rfl (by first | exact Or.inl rfl | exact Or.inr rfl) (pe_g c_fork hr (by decide) L2.pass0 bp_fork (by rfl) (pa_cons (pv 1) (pa_cons (pe_op op_add_str (pv 2) (pv 5)) pa_nil)))))))
      (pss_one (ps_ret (pe_g c_first hr (by decide) L2.pass0 bp_first (by rfl) (pa_cons (pv 0) (pa_cons (pv 2) pa_nil))))))), ?_⟩
  have n1 := kn.n1
  have stp : ∀ s ∈ hs, SN n m fs s = both2 (SN n m fs (s ++ [48])) (SN n m fs (s ++ [49])) := fun s hs' => kn.step hs'
  refine ⟨_, rfl, ⟨_, rfl, ?_⟩⟩
  refine fk_go kn ht fun u H1 s1 hu hk => ?_
  have kn1 := kn.to s1
  refine ⟨fun mm σ' H' => ∃ (s : List Nat) (x5 : Option V), σ' = [some (.int n), some (.ref D), some (sx s), some (.str g), some (.str (asked (md (SN n m fs) m0 t))), x5] ∧ Same H H' ∧ s ∈ kys hs ∧ Way (SN n m fs) m0 g t s ∧ (s ∉ hs ∨ (s ∈ hs ∧ (SN n m fs (s ++ [48])).1 ≠ none ∧ (SN n m fs (s ++ [49])).1 ≠ none)) ∧ mm = n - s.length, ⟨_, u, _, rfl, s1, hu, fk_way stp hk cn, fk_end hk, rfl⟩, ?_⟩
  clear kn1 s1 hu hk H1 u
  rintro mm σ' H1 ⟨s, x5, rfl, s1, hs', way, hend, rfl⟩
  have kn1 := kn.to s1
  obtain ⟨sb, sl⟩ := kn.fit hs'
  refine ⟨_, rfl, ⟨_, rfl, ?_⟩⟩
  refine ie_go kn1 (by omega) ?_
  refine ⟨_, rfl, ?_⟩
  have we := way.end
  by_cases c : s ∈ hs
  case neg =>
    rw [decide_eq_false c]
    refine iteF ?_
    refine ⟨_, rfl, ⟨_, rfl, ?_⟩⟩
    refine first_go n0 n1 sb sl fun H2 s2 => ?_
    refine k _ H2 (s1.trans s2) (fun x hx => ?_) (by rw [List.length_append, List.length_replicate]; omega) (way.trans (way_zeros kn c we.1 _))
    rcases List.mem_append.mp hx with h | h
    · exact sb x h
    · exact .inl (List.eq_of_mem_replicate h)
  case pos =>
  rw [decide_eq_true c]
  refine iteT ?_
  have lt := kn.lt c
  obtain ⟨_, ne0, ne1⟩ := hend.resolve_left fun z => z c
  refine ⟨fun σ' H' => ∃ (s' : List Nat) (x5 : Option V), σ' = [some (.int n), some (.ref D), some (sx s'), some (.str g), some (.str (asked (md (SN n m fs) m0 t))), x5] ∧ Same H H' ∧ s' ∈ kys hs ∧ Way (SN n m fs) m0 g t s' ∧ (s' ∉ hs ∨ (s' ∈ hs ∧ (SN n m fs (s' ++ [48])).1 ≠ none ∧ (SN n m fs (s' ++ [49])).1 ≠ none)) ∧ s.length + 1 ≤ s'.length, fun σ' H' ⟨s', y5, e1, e2, e3, e4, e5, e6⟩ => ⟨_, (by have := (kn.fit e3).2; omega : n - s'.length < n - s.length), s', y5, e1, e2, e3, e4, e5, rfl⟩, ?_⟩
  cases e0 : (SN n m fs (s ++ [48])).1 with
  | none => exact absurd e0 ne0
  | some x =>
  cases e1 : (SN n m fs (s ++ [49])).1 with
  | none => exact absurd e1 ne1
  | some y =>
  have k0 : s ++ [48] ∈ kys hs := kys_half.mpr c
  have k1 : s ++ [49] ∈ kys hs := kys_one c
  have half := st_half (stp s c) we.1 e0 e1 _ rfl
  rw [show (if md (SN n m fs) m0 s = true then x else y) = (if md (SN n m fs) m0 t = true then x else y) by rw [we.2.2]] at half
  obtain ⟨z, hz, ez, xz⟩ : ∃ z, z ∈ kys hs ∧ V.str (SX.S s ++ asked (md (SN n m fs) m0 t)) = sx z ∧ (SN n m fs z).1 = some (if md (SN n m fs) m0 t = true then x else y) := by
    unfold asked
    cases md (SN n m fs) m0 t with
    | true => exact ⟨_, k0, str0 s, e0⟩
    | false => exact ⟨_, k1, str1 s, e1⟩
  generalize hw : (if md (SN n m fs) m0 t = true then x else y) = ws at half xz
  obtain ⟨v, ec, hv⟩ := kn1.ev z hz
  rw [xz] at hv
  obtain ⟨A1, rfl, hA⟩ := hv
  have la : (asked (md (SN n m fs) m0 t)).length = 1 := by unfold asked; cases md (SN n m fs) m0 t <;> decide +kernel
  refine ⟨fun σ' H' => σ' = [some (.int n), some (.ref D), some (sx s), some (.str g), some (.str (asked (md (SN n m fs) m0 t))), some (sx [if decide (g ∈ ws) = true then 48 else 49])] ∧ H' = H1, ?_, ?_⟩
  · refine ⟨_, rfl, ⟨_, rfl, ⟨_, rfl, ⟨_, rfl, ⟨_, _, rfl, rfl, szl (by rw [sx_len, la]; omega), ?_⟩⟩⟩⟩⟩
    rw [ez]
    refine ⟨D, .ref (ad z), rfl, .inl ⟨_, skey z, .inl kn1.eD, rfl, by rw [fd_val, if_pos hz]⟩, .inr (.inl ⟨ad z, _, 0, .ref A1, rfl, rfl, SqT.of ec, rfl, ?_⟩)⟩
    refine ⟨A1, _, rfl, .inl (SqL.of hA), rfl, flat_strs _, ?_⟩
    refine ⟨_, rfl, ?_⟩
    have ei : (if (false : Bool) = true then !inV (.str g) (ws.map V.str) else inV (.str g) (ws.map V.str)) = decide (g ∈ ws) := by rw [if_neg (by simp), inV_strs]
    rw [ei]
    by_cases q : g ∈ ws
    · rw [decide_eq_true q]
      refine iteT ?_
      exact ⟨by rw [if_pos rfl]; rfl, rfl⟩
    · rw [decide_eq_false q]
      refine iteF ?_
      exact ⟨by rw [if_neg (by decide)]; rfl, rfl⟩
  rintro σ' H2 ⟨rfl, rfl⟩
  generalize hb : (if decide (g ∈ ws) = true then 48 else 49) = b at half ⊢
  have kb : s ++ [b] ∈ kys hs := by
    rw [← hb]
    split
    · exact k0
    · exact k1
  refine ⟨_, rfl, ⟨_, rfl, ⟨_, rfl, ⟨_, _, rfl, rfl, szl (by rw [sx_len, sx_len]; show s.length + 1 ≤ 1000000; omega), ?_⟩⟩⟩⟩
  rw [S_app]
  refine fk_go kn1 kb fun u H3 s3 hu hk => ?_
  have wb := way.snoc half
  refine ⟨u, _, rfl, s1.trans s3, hu, wb.trans (fk_way stp hk half.1), fk_end hk, ?_⟩
  have := (fk_pre hk).length_le
  rw [List.length_append] at this
  exact this
end
open PySem PySem.Spec PyProof.Rows
open L2 hiding pass0
abbrev s_keep_clear : Stmt := top 69
theorem sc_keep_clear : FnScope ["table", "pairs", "directions", "passed", "begin", "end", "goal", "stretch", "direction"] ["table", "pairs"] (defScope s_keep_clear) := ⟨rfl, rfl, rfl, by decide +kernel, rfl, by decide +kernel, by decide +kernel⟩
theorem bp_keep_clear : BndP "_keep_clear" s_keep_clear ["table", "pairs"] := fun _ _ _ _ _ _ us h => match us, h with | [_, _], _ => rfl
/-- the first way at each border -/
def DirAt (H : Hp) (D : Addr) (E : List En) : Prop := ∃ kvs, H D = some (.dK kvs) ∧ kvs.length ≤ E.length ∧ ∀ s, valV kvs (Sum.inr s) = (E.find? fun e => decide (e.1 = s)).map fun e => V.str e.2.1
/-- goals at each border -/
def PasAt (H : Hp) (D : Addr) (E : List En) : Prop := ∃ kvs : List (List Key × V), H D = some (.dT kvs) ∧ kvs.length ≤ E.length ∧ ∀ s g : Str, valV kvs [Sum.inr s, Sum.inr g] = if (E.any fun e => decide (e.1 = s ∧ e.2.2 = g)) = true then some (.bl true) else none
/-- the values of a row of tuples -/
def vz {α : Type} (zs : List (Addr × α)) : List V := zs.map fun z => V.ref z.1
theorem vz_len {α : Type} (zs : List (Addr × α)) : (vz zs).length = zs.length := List.length_map ..
theorem vz_at {α : Type} {zs : List (Addr × α)} {i : Nat} {x : V} (h : (vz zs)[i]? = some x) : ∃ z, zs[i]? = some z ∧ x = .ref z.1 := by
  unfold vz at h
  rw [List.getElem?_map] at h
  cases e : zs[i]? with
  | none => rw [e] at h; cases h
  | some z => rw [e] at h; exact ⟨z, rfl, (Option.some.inj h).symm⟩
def Pz (H : Hp) (zs : List (Addr × Option Pr)) : Prop := ∀ z ∈ zs, H z.1 = some (.tup (oT z.2))
def LT (H : Hp) (v : Addr) (xs : List V) : Prop := H v = some (.lst xs) ∨ H v = some (.tup xs)
theorem LT.to {H H' : Hp} {v : Addr} {xs : List V} (h : LT H v xs) (s : Same H H') : LT H' v xs := h.elim (fun e => .inl (s _ _ e)) fun e => .inr (s _ _ e)
/-- a walk over a list or a tuple -/
theorem for_seqA {K : PySem.W.Frag} {j : Nat} {σ : L2.St} {H0 H1 : Hp} {v : Addr} {xs : List V} {g : TG} {tb : L2.TS} {D : Ends} (h : LT H0 v xs) (s : Same H0 H1) (Pv : Nat → L2.St → Hp → Prop) (p0 : Pv 0 σ H1) (hσ : σ[j]? = some (some (.ref v))) (hS : ∀ i σ H, Pv i σ H → Same H0 H)
    (hs : ∀ i x σ H, xs[i]? = some x → Pv i σ H → g x σ H fun σ2 H2 => tb { D with nx := Pv (i + 1), ct := Pv (i + 1), bk := D.nx } σ2 H2) (hd : ∀ σ H, Pv xs.length σ H → D.nx σ H) : tFor (iSeqA K (tVar j)) g tb D σ H1 := by
  refine ⟨_, hσ, v, xs, rfl, ?_⟩
  rcases h with e | e
  · exact .inl ⟨SqL.of (s _ _ e), for_it walk_list Pv p0 (fun i σ H' _ h => SqL.of (hS i σ H' h _ _ e)) (fun i x σ H H' _ h y => by obtain ⟨rfl, hx⟩ := y; exact hs i x σ _ hx h) hd⟩
  · exact .inr ⟨SqT.of (s _ _ e), for_it walk_tup Pv p0 (fun i σ H' _ h => SqT.of (hS i σ H' h _ _ e)) (fun i x σ H H' _ h y => by obtain ⟨rfl, hx⟩ := y; exact hs i x σ _ hx h) hd⟩
theorem lc_seqA {K : PySem.W.Frag} {j : Nat} {σ : L2.St} {H0 H1 : Hp} {v : Addr} {xs : List V} {g : TG} {te : TE} {vs : List Nat} {Q : VK} (h : LT H0 v xs) (s : Same H0 H1) (hσ : σ[j]? = some (some (.ref v))) (Pv : Addr → Nat → Hp → Prop) (p0 : ∀ D, H1 D = none → Pv D 0 (upd H1 D (.lst []))) (hS : ∀ D i H, Pv D i H → Same H0 H)
    (hs : ∀ D i x H, xs[i]? = some x → Pv D i H → g x (wipe σ vs) H fun σ2 H2 => wipe σ2 vs = wipe σ vs ∧ tYes σ2 H2 fun b H3 => if b = true then te σ2 H3 fun y H4 => ∃ acc, H4 D = some (.lst acc) ∧ acc.length < sizeLine ∧ Pv D (i + 1) (upd H4 D (.lst (acc ++ [y]))) else Pv D (i + 1) H3) (hd : ∀ D H, Pv D xs.length H → Q (.ref D) H) : tLc (iSeqA K (tVar j)) g tYes te vs σ H1 Q := by
  refine ⟨_, hσ, v, xs, rfl, ?_⟩
  rcases h with e | e
  · exact .inl ⟨SqL.of (s _ _ e), fun D nD => lc_it walk_list (Pv D) (p0 D nD) (fun i H' _ h => SqL.of (hS D i H' h _ _ e)) (fun i x H H' _ h y => by obtain ⟨rfl, hx⟩ := y; exact hs D i x _ hx h) (hd D)⟩
  · exact .inr ⟨SqT.of (s _ _ e), fun D nD => lc_it walk_tup (Pv D) (p0 D nD) (fun i H' _ h => SqT.of (hS D i H' h _ _ e)) (fun i x H H' _ h y => by obtain ⟨rfl, hx⟩ := y; exact hs D i x _ hx h) (hd D)⟩
def prs (zs : List (Addr × Option Pr)) : List Pr := zs.filterMap (·.2)
theorem prs_snoc {zs : List (Addr × Option Pr)} {i : Nat} {t : Addr} {q : Pr} (h : zs[i]? = some (t, some q)) : prs (zs.take (i + 1)) = prs (zs.take i) ++ [q] := by
  unfold prs
  rw [List.take_add_one, h, List.filterMap_append]
  rfl
theorem prs_split {zs : List (Addr × Option Pr)} {i : Nat} {t : Addr} {q : Pr} (h : zs[i]? = some (t, some q)) : prs zs = prs (zs.take i) ++ [q] ++ prs (zs.drop (i + 1)) := by
  rw [← prs_snoc h]
  unfold prs
  rw [← List.filterMap_append, List.take_append_drop]
@[irreducible] def spKC (C : Addr) : Sp := fun vs H Q _ => ∃ (a v : Addr) (n : Nat) (d : List (Str × Str)) (zs : List (Addr × Option Pr)), vs = [.ref a, .ref v] ∧ TabAt C H a n d ∧ 1 ≤ n ∧ n ≤ 100 ∧ LT H v (vz zs) ∧ Pz H zs ∧ (∀ z ∈ zs, ∃ q, z.2 = some q ∧ PrOk n q) ∧ zs.length ≤ 400 ∧ ∀ H', Same H H' → Q (.bl (decide (Keep (flat n (gT d) (prs zs))))) H'
@[irreducible] def spIPk (K : PySem.W.Frag) (C : Addr) : Sp := fun vs H Q _ => ∃ (a v F : Addr) (n : Nat) (d : List (Str × Str)) (fs : List (List Nat)) (zs : List (Addr × Option Pr)), vs = [.ref a, .ref v, .ref F] ∧ TF K C H a F n d fs ∧ LT H v (vz zs) ∧ Pz H zs ∧ (∀ z ∈ zs, PoOk n z.2) ∧ zs.length ≤ 400 ∧ ∀ H', Same H H' → Q (.bl ((zs.all fun z => okO d fs z.2) && decide (Keep (flat n (gT d) (prs zs))))) H'
section
variable {K : PySem.W.Frag} {C a v F : Addr} {n : Nat} {d : List (Str × Str)} {fs : List (List Nat)} {zs : List (Addr × Option Pr)} {H : Hp} {Q : VK} {E : XK}
theorem kc_go (ht : TabAt C H a n d) (h0 : 1 ≤ n) (h1 : n ≤ 100) (hv : LT H v (vz zs)) (pz : Pz H zs) (hz : ∀ z ∈ zs, ∃ q, z.2 = some q ∧ PrOk n q) (l : zs.length ≤ 400) (k : ∀ H', Same H H' → Q (.bl (decide (Keep (flat n (gT d) (prs zs))))) H') : spKC C [.ref a, .ref v] H Q E := by
  unfold spKC
  exact ⟨a, v, n, d, zs, rfl, ht, h0, h1, hv, pz, hz, l, k⟩
theorem ipk_go (tf : TF K C H a F n d fs) (hv : LT H v (vz zs)) (pz : Pz H zs) (hz : ∀ z ∈ zs, PoOk n z.2) (l : zs.length ≤ 400) (k : ∀ H', Same H H' → Q (.bl ((zs.all fun z => okO d fs z.2) && decide (Keep (flat n (gT d) (prs zs))))) H') : spIPk K C [.ref a, .ref v, .ref F] H Q E := by
  unfold spIPk
  exact ⟨a, v, F, n, d, fs, zs, rfl, tf, hv, pz, hz, l, k⟩
end
theorem path_len {n : Nat} {q : Pr} (hq : PrOk n q) (h1 : n ≤ 100) : (pathOf (oB q.1) (SX.S q.2) n).length ≤ 200 := by
  obtain ⟨b, e⟩ := q
  cases b with
  | none =>
    show (pathN (SX.S e) (n + 1)).length ≤ 200
    unfold pathN
    rw [List.length_map, List.length_range]
    omega
  | some z =>
    show (pathP (SX.S z) (SX.S e) n).length ≤ 200
    unfold pathP pathU pathD
    rw [List.length_append, List.length_map, List.length_map, List.length_range]
    omega
theorem oB_arg {n : Nat} {q : Pr} (hq : PrOk n q) : PathArg (oB q.1) n := by
  obtain ⟨b, e⟩ := q
  cases b with
  | none => exact .inl rfl
  | some z => exact .inr ⟨SX.S z, rfl, sx_bits (hq.2 z rfl).1, by rw [sx_len]; exact (hq.2 z rfl).2⟩
theorem DirAt.put {H : Hp} {D : Addr} {kvs : List (Key × V)} {E : List En} {s w g : Str} (hl : kvs.length ≤ E.length) (hv : ∀ s, valV kvs (Sum.inr s) = (E.find? fun e => decide (e.1 = s)).map fun e => V.str e.2.1) (hn : valV kvs (Sum.inr s) = none) (h : H D = some (.dK (putK kvs (Sum.inr s) (.str w)))) : DirAt H D (E ++ [(s, w, g)]) := by
  refine ⟨_, h, ?_, fun s' => ?_⟩
  · have := length_putK kvs (Sum.inr s : Key) (V.str w)
    rw [List.length_append, List.length_singleton]
    omega
  · rw [valV_put, List.find?_append, hv]
    by_cases c : s' = s
    · subst c
      rw [if_pos rfl]
      rw [hv] at hn
      cases e : E.find? fun e => decide (e.1 = s') with
      | some z => rw [e] at hn; cases hn
      | none => simp
    · rw [if_neg fun z => c (Sum.inr.inj z)]
      cases e : E.find? fun e => decide (e.1 = s') with
      | some z => simp
      | none => simp; exact fun z => c z.symm
theorem DirAt.more {H : Hp} {D : Addr} {kvs : List (Key × V)} {E : List En} {s w g v : Str} (hl : kvs.length ≤ E.length) (hv : ∀ s, valV kvs (Sum.inr s) = (E.find? fun e => decide (e.1 = s)).map fun e => V.str e.2.1) (hn : valV kvs (Sum.inr s) = some (.str v)) (h : H D = some (.dK kvs)) : DirAt H D (E ++ [(s, w, g)]) := by
  refine ⟨_, h, by rw [List.length_append]; omega, fun s' => ?_⟩
  rw [List.find?_append, hv]
  by_cases c : s' = s
  · subst c
    rw [hv] at hn
    cases e : E.find? fun e => decide (e.1 = s') with
    | some z => simp
    | none => rw [e] at hn; cases hn
  · cases e : E.find? fun e => decide (e.1 = s') with
    | some z => simp
    | none => simp; exact fun z => c z.symm
theorem PasAt.put {H : Hp} {D : Addr} {kvs : List (List Key × V)} {E : List En} {s w g : Str} (hl : kvs.length ≤ E.length) (hv : ∀ s g : Str, valV kvs [Sum.inr s, Sum.inr g] = if (E.any fun e => decide (e.1 = s ∧ e.2.2 = g)) = true then some (.bl true) else none) (h : H D = some (.dT (putK kvs [Sum.inr s, Sum.inr g] (.bl true)))) : PasAt H D (E ++ [(s, w, g)]) := by
  refine ⟨_, h, ?_, fun s' g' => ?_⟩
  · have := length_putK kvs ([Sum.inr s, Sum.inr g] : List Key) (V.bl true)
    rw [List.length_append, List.length_singleton]
    omega
  · rw [valV_put, hv, List.any_append]
    by_cases c : s' = s ∧ g' = g
    · obtain ⟨rfl, rfl⟩ := c
      rw [if_pos rfl]
      simp
    · rw [if_neg fun z => c ⟨Sum.inr.inj (List.cons.inj z).1, Sum.inr.inj (List.cons.inj (List.cons.inj z).2).1⟩]
      have : (List.any [((s, w, g) : En)] fun e => decide (e.1 = s' ∧ e.2.2 = g')) = false := by
        simp
        exact fun a b => c ⟨a.symm, b.symm⟩
      rw [this, Bool.or_false]
section
variable {P : Program} {w : World} {K : PySem.W.Frag} {mg : Str → Option Value} {base : Heap} {f C : Addr} {fd : FuncData}
theorem ok_keep_clear (F : Fun K "_keep_clear" "_keep_clear" s_keep_clear f fd) (hm : mg "_keep_clear" = some (.ref f)) (T : Txt K mg) (TC : TabC K C) (c_path : Nm P w K mg base CX0 7 "path" s_path ["width", "begin", "end"] (spPath))
    (c_Table_width : Prp P w K mg base CX0 1 C "width" "Table.width" s_Table_width ["self"] (spWidth C)) (c_Table__call__ : Mth P w K mg base CX0 8 C "__call__" "Table.__call__" s_Table__call__ ["self", "address"] (spCall C)) : Nm P w K mg base CX0 9 "_keep_clear" s_keep_clear ["table", "pairs"] (spKC C) := by
  refine nm_of0 F hm sc_keep_clear (fun vs H Q E h => ?_) fun cdv A outer s H vs Q E hr h => ?_
  · unfold spKC at h
    obtain ⟨a, v, n, d, zs, rfl, ht, h0, h1, hv, pz, hz, l, k⟩ := h
    subst_vars
    rfl
  unfold spKC at h
  obtain ⟨a, v, n, d, zs, rfl, ht, h0, h1, hv, pz, hz, l, k⟩ := h
  refine ⟨_, (C8.pss_cut (ps_set (i := 2) sc_keep_clear.nd rfl (by first | exact Or.inl rfl | exact Or.inr rfl) pe_dnewK)
      (C8.pss_cut (ps_set (i := 3) sc_keep_clear.nd rfl (by first | exact Or.inl rfl | exact Or.inr rfl) pe_dnewT)
      (pss_cons (ps_for PassesOwn.never rfl (pi_seqAK (K := K) rfl (pv 1)) (pg_tup (by rfl) (pgs_cons (pg_name (i := 4) sc_keep_clear.nd rfl (by first | exact Or.inl rfl | exact Or.inr rfl)) (pgs_cons (pg_name (i := 5) sc_keep_clear.nd rfl (by first | exact Or.inl rfl | exact Or.inr rfl)) pgs_nil))) (pss_cons (ps_set (i := 6) sc_keep_clear.nd rfl (by first | exact Or.inl rfl | exact Or.inr rfl) (pe_o c_Table__call__ hr (by decide) L2.pass0 bm_Table__call__ (pv 0) (pa_cons (pv 5) pa_nil)))
      (pss_one (ps_for PassesOwn.never rfl (pi_listK (K := K) rfl (pe_g c_path hr (by decide) L2.pass0 bp_path (by rfl) (pa_cons (pe_p c_Table_width TC.cl hr (by decide) L2.pass0 bm_Table_width (pv 0)) (pa_cons (pv 4) (pa_cons (pv 5) pa_nil))))) (pg_tup (by rfl) (pgs_cons (pg_name (i := 7) sc_keep_clear.nd rfl (by first | exact Or.inl rfl | exact Or.inr rfl)) (pgs_cons (pg_name (i := 8) sc_keep_clear.nd rfl (by first | exact Or.inl rfl | exact Or.inr rfl)) pgs_nil))) (pss_cons (ps_if (PW.pt (pw_or (by refine pt_cmpR op_ne (ta := tDSetd (tVar 2) (tVar 7) (tVar 8)) ?_ (pv 8) (nomark _); refine pe_dsetd ?_ ?_ ?_ ?_; exact pv 2; exact pv 7; exact pv 8; exact ⟨by rfl, by rfl, by rfl, by rfl⟩) (pw_or1 (pt_cmp (pc_din hr.u1 (pe_tup (pa_cons (pv 7) (pa_cons (pv 6) pa_nil))) (pv 3)))))) (pss_one (ps_ret pe_bl)) pss_nil)
      (pss_one (ps_asg pe_bl (pg_sub (pv 3) (pe_tup (pa_cons (pv 7) (pa_cons (pv 6) pa_nil))) (set_dict hr.u1)))))))))
      (pss_one (ps_ret pe_bl))))), ?_⟩
  obtain ⟨dx, Dm, ha, hDm, hne⟩ := ht
  have ht : TabAt C H a n d := ⟨dx, Dm, ha, hDm, hne⟩
  refine ⟨fun σ' H' => ∃ D, σ' = [some (.ref a), some (.ref v), some (.ref D), none, none, none, none, none, none] ∧ Same H H' ∧ H D = none ∧ H' D = some (.dK []), ?_, ?_⟩
  · intro D nD
    exact ⟨D, rfl, fun b o e => updn (nonn nD e) e, nD, upd_same⟩
  rintro σ' H1 ⟨D, rfl, s1, nD, eD⟩
  refine ⟨fun σ' H' => ∃ M, σ' = [some (.ref a), some (.ref v), some (.ref D), some (.ref M), none, none, none, none, none] ∧ Same H H' ∧ H M = none ∧ D ≠ M ∧ H' D = some (.dK []) ∧ H' M = some (.dT []), ?_, ?_⟩
  · intro M nM
    exact ⟨M, rfl, s1.new nM, s1.back nM, nonn nM eD, updn (nonn nM eD) eD, upd_same⟩
  clear s1 eD H1
  rintro σ' H1 ⟨M, rfl, s1, nM, nDM, eD, eM⟩
  have hv1 := hv.to s1
  -- behind all
  have fin : ∀ (σ' : L2.St) (H' : Hp), Same H H' → Keep (flat n (gT d) (prs zs)) → Q (.bl true) H' := fun _ H' s' kp => by
    have := k H' s'
    rw [decide_eq_true kp] at this
    exact this
  have bad : ∀ H', Same H H' → ¬ Keep (flat n (gT d) (prs zs)) → Q (.bl false) H' := fun H' s' kp => by
    have := k H' s'
    rw [decide_eq_false kp] at this
    exact this
  have eE : ∀ i t q, zs[i]? = some (t, some q) → flat n (gT d) (prs (zs.take (i + 1))) = flat n (gT d) (prs (zs.take i)) ++ ents n (gT d) q := fun i t q h => by rw [prs_snoc h, flat_snoc]
  refine for_seqA hv s1 (fun i σ' H' => ∃ x4 x5 x6 x7 x8, σ' = [some (.ref a), some (.ref v), some (.ref D), some (.ref M), x4, x5, x6, x7, x8] ∧ Same H H' ∧ Keep (flat n (gT d) (prs (zs.take i))) ∧ (flat n (gT d) (prs (zs.take i))).length ≤ 200 * i ∧ DirAt H' D (flat n (gT d) (prs (zs.take i))) ∧ PasAt H' M (flat n (gT d) (prs (zs.take i))))
    ⟨_, _, _, _, _, rfl, s1, .nil, Nat.le_refl _, ⟨[], eD, Nat.le_refl _, fun s => rfl⟩, ⟨[], eM, Nat.le_refl _, fun s g => rfl⟩⟩ rfl (fun i σ' H' h => let ⟨_, _, _, _, _, _, s, _⟩ := h; s) ?_ ?_
  · rintro i x σ' H2 hx ⟨x4, x5, x6, x7, x8, rfl, s2, kp, lE, hD, hM⟩
    obtain ⟨⟨t, o⟩, hz1, rfl⟩ := vz_at hx
    obtain ⟨q, rfl, hq⟩ := hz _ (List.mem_of_getElem? hz1)
    have ht1 : H t = some (.tup [oB q.1, sx q.2]) := pz _ (List.mem_of_getElem? hz1)
    obtain ⟨⟨eb, el⟩, _⟩ := id hq
    have li : i < zs.length := (List.getElem?_eq_some_iff.mp hz1).1
    refine ⟨t, _, rfl, SqT.of (s2 _ _ ht1), rfl, ⟨_, _, rfl, ⟨_, _, rfl, ⟨rfl, ?_⟩⟩⟩⟩
    refine ⟨_, rfl, ⟨_, rfl, ⟨_, rfl, ⟨⟨dx, _, s2 _ _ ha⟩, ?_⟩⟩⟩⟩
    refine call_go (ht.to s2) h0 h1 (sx_bits eb) (by rw [sx_len]; exact el) fun H4 s4 => ?_
    refine ⟨_, rfl, ⟨a, dx, _, rfl, s4 _ _ (s2 _ _ ha), width_go ((ht.to s2).to s4) ?_⟩⟩
    refine ⟨_, rfl, ⟨_, rfl, ?_⟩⟩
    refine path_go h0 h1 (sx_bits eb) (by rw [sx_len]; exact el) (oB_arg hq) fun L ts H5 nL s5 hL tp => ?_
    refine ⟨L, rfl, ⟨_, SqL.of hL⟩, ?_⟩
    have s25 : Same H H5 := s2.trans (s4.trans s5)
    have lF : (ents n (gT d) q).length ≤ 200 := by
      unfold ents
      rw [List.length_map]
      exact path_len hq h1
    have tot : ∀ j x, (ents n (gT d) q)[j]? = some x → Keep (flat n (gT d) (prs zs)) → Keep (flat n (gT d) (prs (zs.take i)) ++ (ents n (gT d) q).take j ++ [x]) := fun j x hx kk => by
      have e1 : flat n (gT d) (prs zs) = flat n (gT d) (prs (zs.take i)) ++ ents n (gT d) q ++ flat n (gT d) (prs (zs.drop (i + 1))) := by
        rw [prs_split hz1, ← flat_snoc]
        unfold flat
        rw [List.flatMap_append]
      rw [e1] at kk
      have kk := keep_pre kk
      rw [← List.take_append_drop (j + 1) (ents n (gT d) q), ← List.append_assoc] at kk
      have kk := keep_pre kk
      rw [List.take_add_one, hx, ← List.append_assoc] at kk
      exact kk
    have eN := eE i t q hz1
    generalize hE0 : flat n (gT d) (prs (zs.take i)) = E0 at kp lE hD hM tot eN
    generalize hF : ents n (gT d) q = F at lF tot eN
    have hD5 : DirAt H5 D E0 := let ⟨kv, e, r⟩ := hD; ⟨kv, s5 _ _ (s4 _ _ e), r⟩
    have hM5 : PasAt H5 M E0 := let ⟨kv, e, r⟩ := hM; ⟨kv, s5 _ _ (s4 _ _ e), r⟩
    have nLD : L ≠ D := fun z => by obtain ⟨kv, e, _⟩ := hD5; rw [z, e] at hL; cases hL
    have nLM : L ≠ M := fun z => by obtain ⟨kv, e, _⟩ := hM5; rw [z, e] at hL; cases hL
    refine for_it (walk_list (xs := ts)) (fun j σ' H' => ∃ x7 x8, σ' = [some (.ref a), some (.ref v), some (.ref D), some (.ref M), some (oB q.1), some (sx q.2), some (.str (gT d q.2)), x7, x8] ∧ (∀ b o, b ≠ D → b ≠ M → H5 b = some o → H' b = some o) ∧ Keep (E0 ++ F.take j) ∧ DirAt H' D (E0 ++ F.take j) ∧ PasAt H' M (E0 ++ F.take j))
      ⟨_, _, rfl, fun _ _ _ _ e => e, by rw [List.take_zero, List.append_nil]; exact kp, by rw [List.take_zero, List.append_nil]; exact hD5, by rw [List.take_zero, List.append_nil]; exact hM5⟩ (fun j σ' H' _ h => let ⟨_, _, _, kk, _⟩ := h; SqL.of (kk _ _ nLD nLM hL)) ?_ ?_
    · rintro j x σ' Hx H6 hj ⟨x7, x8, rfl, k6, kp6, ⟨kv, eD6, lv, hv6⟩, ⟨km, eM6, lm, hm6⟩⟩ ⟨rfl, hx⟩
      obtain ⟨t2, s, w', rfl, ht2, hp⟩ := tp.at hx
      have hx2 : F[j]? = some (s, w', gT d q.2) := by
        rw [← hF]
        unfold ents
        rw [List.getElem?_map, hp]
        rfl
      have lj : j < F.length := (List.getElem?_eq_some_iff.mp hx2).1
      have lT : (E0 ++ F.take j).length < 100000 := by
        rw [List.length_append, List.length_take]
        omega
      have nt2D : t2 ≠ D := fun z => by obtain ⟨kv, e, _⟩ := hD5; rw [z, e] at ht2; cases ht2
      have nt2M : t2 ≠ M := fun z => by obtain ⟨kv, e, _⟩ := hM5; rw [z, e] at ht2; cases ht2
      have sv : Same H H6 := fun b o e => k6 b o (fun z => by rw [z, nD] at e; cases e) (fun z => by rw [z, nM] at e; cases e) (s25 _ _ e)
      have eT : E0 ++ F.take (j + 1) = E0 ++ F.take j ++ [(s, w', gT d q.2)] := by
        rw [List.take_add_one, hx2, ← List.append_assoc]
        rfl
      have tot2 := tot j _ hx2
      generalize hE1 : E0 ++ F.take j = E1 at kp6 lv hv6 lm hm6 lT eT tot2
      refine ⟨t2, _, rfl, SqT.of (k6 _ _ nt2D nt2M ht2), rfl, ⟨_, _, rfl, ⟨_, _, rfl, ⟨rfl, ?_⟩⟩⟩⟩
      have nMD : M ≠ D := fun z => nDM z.symm
      have lkv : kv.length < sizeLine := szt (by omega)
      have lkm : km.length < sizeLine := szt (by omega)
      refine ⟨_, rfl, ⟨D, rfl, .inl ⟨_, .inl eD6⟩, ?_⟩⟩
      refine ⟨_, rfl, ⟨_, rfl, ?_⟩⟩
      refine ⟨kv, Sum.inr s, eD6, rfl, lkv, fun v0 hv0 => ?_, fun hn => ?_⟩
      · have hf := hv6 s
        rw [hv0] at hf
        cases ef : E1.find? fun e => decide (e.1 = s) with
        | none => rw [ef] at hf; cases hf
        | some e0 =>
        rw [ef] at hf
        have hf : v0 = V.str e0.2.1 := Option.some.inj hf
        subst hf
        have m0 := List.mem_of_find?_eq_some ef
        have k0 : e0.1 = s := by have := List.find?_some ef; simpa using this
        refine ⟨_, rfl, ⟨rfl, ⟨_, rfl, ?_⟩⟩⟩
        by_cases cw : e0.2.1 = w'
        case neg =>
          rw [decide_eq_false (show ¬ V.str e0.2.1 = V.str w' from fun z => cw (V.str.inj z))]
          refine iteT (iteT ?_)
          refine bad _ sv fun kk => ?_
          have := List.all_eq_true.mp (keep_snoc.mp (tot2 kk)).2 e0 m0
          exact cw (RB_iff.mp this k0).1
        case pos =>
        rw [decide_eq_true (show V.str e0.2.1 = V.str w' from congrArg V.str cw)]
        refine iteF ?_
        have eM8 : H6 M = some (.dT km) := eM6
        have hD8 : DirAt H6 D (E1 ++ [(s, w', gT d q.2)]) := DirAt.more lv hv6 hv0 eD6
        have aw : ∀ e ∈ E1, e.1 = s → e.2.1 = w' := fun e he e1 => by
          have sym := List.pairwise_iff_getElem.mp kp6
          by_cases ee : e = e0
          · rw [ee]; exact cw
          · obtain ⟨i1, h1, r1⟩ := List.getElem_of_mem he
            obtain ⟨i2, h2, r2⟩ := List.getElem_of_mem m0
            rcases Nat.lt_trichotomy i1 i2 with g | g | g
            · have := sym i1 i2 h1 h2 g
              rw [r1, r2] at this
              rw [(RB_iff.mp this (e1.trans k0.symm)).1]
              exact cw
            · subst g
              exact absurd (r1.symm.trans r2) ee
            · have := sym i2 i1 h2 h1 g
              rw [r1, r2] at this
              rw [← (RB_iff.mp this (k0.trans e1.symm)).1]
              exact cw
        obtain ⟨H8, hH8⟩ : ∃ H8, H8 = H6 := ⟨_, rfl⟩
        have k8 : ∀ b o, b ≠ D → b ≠ M → H6 b = some o → H8 b = some o := fun _ _ _ _ e => by rw [hH8]; exact e
        rw [← hH8] at eM8 hD8 ⊢
        have sv8 : Same H H8 := fun b o e => k8 b o (fun z => by rw [z, nD] at e; cases e) (fun z => by rw [z, nM] at e; cases e) (sv _ _ e)
        refine ⟨_, rfl, ⟨_, rfl, ⟨szl (by show 2 ≤ 1000000; decide), fun t3 nt3 => ?_⟩⟩⟩
        have eM9 := updn (o := HO.tup [.str s, .str (gT d q.2)]) (nonn nt3 eM8) eM8
        have sv9 := sv8.new (o := HO.tup [.str s, .str (gT d q.2)]) nt3
        refine ⟨_, rfl, ?_⟩
        refine ⟨M, _, rfl, DGet.t (k := [Sum.inr s, Sum.inr (gT d q.2)]) eM9 upd_same, ?_⟩
        refine ⟨_, rfl, ?_⟩
        rw [hm6]
        by_cases cp : (E1.any fun e => decide (e.1 = s ∧ e.2.2 = gT d q.2)) = true
        · rw [if_pos cp]
          refine iteT ?_
          refine bad _ sv9 fun kk => ?_
          obtain ⟨e0, m0, c0⟩ := List.any_eq_true.mp cp
          have c0 := of_decide_eq_true c0
          have := List.all_eq_true.mp (keep_snoc.mp (tot2 kk)).2 e0 m0
          exact (RB_iff.mp this c0.1).2 c0.2
        · rw [if_neg cp]
          refine iteF ?_
          have kn : Keep (E1 ++ [(s, w', gT d q.2)]) := keep_snoc.mpr ⟨kp6, List.all_eq_true.mpr fun e he => RB_iff.mpr fun e1 => ⟨aw e he e1, fun e2 => cp (List.any_eq_true.mpr ⟨e, he, decide_eq_true ⟨e1, e2⟩⟩)⟩⟩
          refine ⟨_, rfl, ⟨_, rfl, ⟨_, rfl, ⟨szl (by show 2 ≤ 1000000; decide), fun t4 nt4 => ?_⟩⟩⟩⟩
          have eM10 := updn (o := HO.tup [.str s, .str (gT d q.2)]) (nonn nt4 eM9) eM9
          refine ⟨M, _, rfl, .inr ⟨km, [Sum.inr s, Sum.inr (gT d q.2)], t4, eM10, rfl, upd_same, lkm, rfl⟩, ?_⟩
          refine ⟨_, _, rfl, fun b o n1 n2 e => ?_, eT ▸ kn, ?_, ?_⟩
          · have e8 := k8 b o n1 n2 (k6 b o n1 n2 e)
            have e9 := updn (o := HO.tup [.str s, .str (gT d q.2)]) (nonn nt3 e8) e8
            exact updn n2 (updn (nonn nt4 e9) e9)
          · rw [eT]
            obtain ⟨kv8, e8, r8⟩ := hD8
            have e9 := updn (o := HO.tup [.str s, .str (gT d q.2)]) (nonn nt3 e8) e8
            exact ⟨kv8, updn nDM (updn (nonn nt4 e9) e9), r8⟩
          · rw [eT]
            exact PasAt.put lm hm6 upd_same
      · have none : ∀ e ∈ E1, e.1 ≠ s := fun e he e1 => by
          have h2 := hv6 s
          rw [hn] at h2
          cases ef : E1.find? fun e => decide (e.1 = s) with
          | none => exact absurd (decide_eq_true e1) (by simpa using (List.find?_eq_none.mp ef) e he)
          | some z => rw [ef] at h2; cases h2
        refine ⟨_, rfl, ⟨rfl, ⟨_, rfl, ?_⟩⟩⟩
        rw [decide_eq_true (show V.str w' = V.str w' from rfl)]
        refine iteF ?_
        have aw : ∀ e ∈ E1, e.1 = s → e.2.1 = w' := fun e he e1 => absurd e1 (none e he)
        have k8 : ∀ b o, b ≠ D → b ≠ M → H6 b = some o → upd H6 D (.dK (putK kv (Sum.inr s) (.str w'))) b = some o := fun b o n1 _ e => updn n1 e
        have eM8 : upd H6 D (.dK (putK kv (Sum.inr s) (.str w'))) M = some (.dT km) := updn nMD eM6
        have hD8 : DirAt (upd H6 D (.dK (putK kv (Sum.inr s) (.str w')))) D (E1 ++ [(s, w', gT d q.2)]) := DirAt.put lv hv6 hn upd_same
        generalize upd H6 D (.dK (putK kv (Sum.inr s) (.str w'))) = H8 at k8 eM8 hD8 ⊢
        have sv8 : Same H H8 := fun b o e => k8 b o (fun z => by rw [z, nD] at e; cases e) (fun z => by rw [z, nM] at e; cases e) (sv _ _ e)
        refine ⟨_, rfl, ⟨_, rfl, ⟨szl (by show 2 ≤ 1000000; decide), fun t3 nt3 => ?_⟩⟩⟩
        have eM9 := updn (o := HO.tup [.str s, .str (gT d q.2)]) (nonn nt3 eM8) eM8
        have sv9 := sv8.new (o := HO.tup [.str s, .str (gT d q.2)]) nt3
        refine ⟨_, rfl, ?_⟩
        refine ⟨M, _, rfl, DGet.t (k := [Sum.inr s, Sum.inr (gT d q.2)]) eM9 upd_same, ?_⟩
        refine ⟨_, rfl, ?_⟩
        rw [hm6]
        by_cases cp : (E1.any fun e => decide (e.1 = s ∧ e.2.2 = gT d q.2)) = true
        · rw [if_pos cp]
          refine iteT ?_
          refine bad _ sv9 fun kk => ?_
          obtain ⟨e0, m0, c0⟩ := List.any_eq_true.mp cp
          have c0 := of_decide_eq_true c0
          have := List.all_eq_true.mp (keep_snoc.mp (tot2 kk)).2 e0 m0
          exact (RB_iff.mp this c0.1).2 c0.2
        · rw [if_neg cp]
          refine iteF ?_
          have kn : Keep (E1 ++ [(s, w', gT d q.2)]) := keep_snoc.mpr ⟨kp6, List.all_eq_true.mpr fun e he => RB_iff.mpr fun e1 => ⟨aw e he e1, fun e2 => cp (List.any_eq_true.mpr ⟨e, he, decide_eq_true ⟨e1, e2⟩⟩)⟩⟩
          refine ⟨_, rfl, ⟨_, rfl, ⟨_, rfl, ⟨szl (by show 2 ≤ 1000000; decide), fun t4 nt4 => ?_⟩⟩⟩⟩
          have eM10 := updn (o := HO.tup [.str s, .str (gT d q.2)]) (nonn nt4 eM9) eM9
          refine ⟨M, _, rfl, .inr ⟨km, [Sum.inr s, Sum.inr (gT d q.2)], t4, eM10, rfl, upd_same, lkm, rfl⟩, ?_⟩
          refine ⟨_, _, rfl, fun b o n1 n2 e => ?_, eT ▸ kn, ?_, ?_⟩
          · have e8 := k8 b o n1 n2 (k6 b o n1 n2 e)
            have e9 := updn (o := HO.tup [.str s, .str (gT d q.2)]) (nonn nt3 e8) e8
            exact updn n2 (updn (nonn nt4 e9) e9)
          · rw [eT]
            obtain ⟨kv8, e8, r8⟩ := hD8
            have e9 := updn (o := HO.tup [.str s, .str (gT d q.2)]) (nonn nt3 e8) e8
            exact ⟨kv8, updn nDM (updn (nonn nt4 e9) e9), r8⟩
          · rw [eT]
            exact PasAt.put lm hm6 upd_same
    · rintro σ' H6 ⟨x7, x8, rfl, k6, kp6, hD6, hM6⟩
      have lts : ts.length = F.length := by
        rw [tp.len, ← hF]
        unfold ents
        rw [List.length_map]
      rw [lts, List.take_length] at kp6 hD6 hM6
      have sv : Same H H6 := fun b o e => k6 b o (fun z => by rw [z, nD] at e; cases e) (fun z => by rw [z, nM] at e; cases e) (s25 _ _ e)
      exact ⟨_, _, _, _, _, rfl, sv, eN ▸ kp6, by rw [eN, List.length_append]; omega, eN ▸ hD6, eN ▸ hM6⟩
  · rintro σ' H2 ⟨x4, x5, x6, x7, x8, rfl, s2, kp, _, _⟩
    rw [vz_len, List.take_length] at kp
    exact fin [] H2 s2 kp
end
open PySem PySem.Spec PyProof.Rows
open L2 hiding pass0
abbrev s_is_pack : Stmt := top 59
theorem sc_is_pack : FnScope ["table", "value", "free", "pair"] ["table", "value", "free"] (defScope s_is_pack) := ⟨rfl, rfl, rfl, by decide +kernel, rfl, by decide +kernel, by decide +kernel⟩
theorem LT.ty {K : PySem.W.Frag} {H : Hp} {a : Addr} {xs : List V} (h : LT H a xs) : ∃ t, TyX K H (.ref a) t ∧ PySem.W.kitAny K t [.type "list", .type "tuple"] = some true := by
  have e2 : kitB "tuple" "list" = some false := by decide +kernel
  have e3 : kitB "tuple" "tuple" = some true := by decide +kernel
  have e1 : kitB "list" "list" = some true := by decide +kernel
  rcases h with e | e
  · exact ⟨_, .base (.lst e), kitAny_cons (kit_ty e1) (fun z => nomatch z) fun _ => rfl⟩
  · exact ⟨_, .base (.tup e), kitAny_cons (kit_ty e2) (fun _ => kitAny_cons (kit_ty e3) (fun z => nomatch z) fun _ => rfl) fun z => nomatch z⟩
section
variable {P : Program} {w : World} {K : PySem.W.Frag} {mg : Str → Option Value} {base : Heap} {f C : Addr} {fd : FuncData}
theorem ok_is_pack {params : Arguments} {dvs : List V} {kws : List (Str × V)} (F : FunD K "is_pack" "is_pack" params (defBody s_is_pack) (defScope s_is_pack) dvs kws f fd) (T : Txt K mg) (TC : TabC K C) (c_check_free : Nm P w K mg base CX0 5 "check_free" s_check_free ["width", "free"] (spCF K)) (c_is_pair : Nm P w K mg base CX0 9 "_is_pair" s_is_pair ["table", "free", "pair"] (spIP K C)) (c_keep_clear : Nm P w K mg base CX0 9 "_keep_clear" s_keep_clear ["table", "pairs"] (spKC C))
    (c_Table_width : Prp P w K mg base CX0 1 C "width" "Table.width" s_Table_width ["self"] (spWidth C)) : FnG P w K mg base CX0 10 f fd ["table", "value", "free"] (spIPk K C) := by
  obtain ⟨oc, od, dV, kV, doc, pm, an, cdv, ct, osl, rfl, lk, hcd, _, _⟩ := F.ex
  refine fnG_core0 lk hcd sc_is_pack (fun vs H Q E h => ?_) fun A outer s H vs Q E hr h => ?_
  · unfold spIPk at h
    obtain ⟨a, v, F, n, d, fs, zs, rfl, _⟩ := h
    rfl
  unfold spIPk at h
  obtain ⟨a, v, F, n, d, fs, zs, rfl, tf, hv, pz, hz, l, k⟩ := h
  refine ⟨_, (pss_cons (ps_expr (pe_g c_check_free hr (by decide) L2.pass0 bp_check_free (by rfl) (pa_cons (pe_p c_Table_width TC.cl hr (by decide) L2.pass0 bm_Table_width (pv 0)) (pa_cons (pv 2) pa_nil))))
      (pss_cons (ps_if (pt_not (pt_val (pe_callB call_isiT (by rfl) T.b_isinstance (by decide +kernel) (pa_cons (pv 1) (pa_cons (pe_tup (pa_cons (pe_ty "list" (by rfl) T.b_list (by decide +kernel)) (pa_cons (pe_ty "tuple" (by rfl) T.b_tuple (by decide +kernel)) pa_nil))) pa_nil))))) (pss_one (ps_ret pe_bl)) pss_nil)
      (pss_cons (ps_if (pt_not (pt_val (pe_callB (call_allK (K := K) rfl rfl) (by rfl) T.b_all (by decide +kernel) (pa_cons (pe_lc (own := [("pair", 3)]) (g := (gName 3)) (by rfl) sc_is_pack.nd (pi_seqAK (K := K) rfl (pv 1)) (blkOk_by (own := [("pair", 3)]) (N := ["table", "value", "free", "pair"]) (sc := defScope s_is_pack) (by decide +kernel)) (fun _ _ _ _ _ => (pg_name (i := 3) sc_is_pack.nd rfl (by first | exact Or.inl rfl | exact Or.inr rfl))) (fun _ _ _ _ _ => pts_nil) (fun _ _ _ _ _ => (pe_g c_is_pair hr (by decide) L2.pass0 bp_is_pair (by rfl) (pa_cons (pv 0) (pa_cons (pv 2) (pa_cons (pv 3) pa_nil)))))) pa_nil)))) (pss_one (ps_ret pe_bl)) pss_nil)
      (pss_one (ps_ret (pe_g c_keep_clear hr (by decide) L2.pass0 bp_keep_clear (by rfl) (pa_cons (pv 0) (pa_cons (pv 1) pa_nil)))))))), ?_⟩
  have h0 : 1 ≤ n := by have := tf.ok.w0; omega
  have h1 : n ≤ 100 := by have := tf.ok.w1; omega
  obtain ⟨dx, Dm, ha, hDm, hne⟩ := tf.ht
  refine ⟨_, rfl, ⟨a, dx, _, rfl, ha, width_go tf.ht ?_⟩⟩
  refine ⟨_, rfl, ?_⟩
  refine cf_go h0 h1 tf.hF tf.ff tf.nd tf.lf fun H1 s1 => ?_
  refine ⟨_, rfl, ?_⟩
  refine ⟨szl (by show 2 ≤ 1000000; decide), fun T nT => ?_⟩
  have s2 : Same H (upd H1 T (.tup [.ty "list", .ty "tuple"])) := s1.new nT
  obtain ⟨ty, hty, hk⟩ := (hv.to s2).ty (K := K)
  refine ⟨_, T, _, ty, _, true, rfl, upd_same, .cons (.ty _) (.cons (.ty _) .nil), hty, hk, ?_⟩
  refine ⟨_, rfl, ?_⟩
  refine iteF ?_
  generalize upd H1 T (.tup [.ty "list", .ty "tuple"]) = H2 at s2 hty ⊢
  clear hty hk nT s1
  unfold tNext tSeq tIfS tNot tB tCB tCons
  dsimp only
  refine lc_seqA hv s2 rfl (fun D i H' => H' D = some (.lst (((zs.take i).map fun z => okO d fs z.2).map V.bl)) ∧ Same H H' ∧ H D = none) (fun D nD => ⟨upd_same, s2.new nD, s2.back nD⟩) (fun D i H' h => h.2.1) ?_ ?_
  · rintro D i x H3 hx ⟨hD, s3, nD⟩
    obtain ⟨⟨t, o⟩, hz1, rfl⟩ := vz_at hx
    have li : i < zs.length := (List.getElem?_eq_some_iff.mp hz1).1
    refine ⟨rfl, ?_⟩
    refine ⟨_, rfl, ⟨_, rfl, ⟨_, rfl, ?_⟩⟩⟩
    refine ip_go (tf.to s3) (s3 _ _ (pz _ (List.mem_of_getElem? hz1))) (hz _ (List.mem_of_getElem? hz1)) fun H4 s4 => ?_
    refine ⟨_, s4 _ _ hD, szt (by rw [List.length_map, List.length_map, List.length_take]; omega), ?_, fun b o q => updn (nonn nD q) (s4 _ _ (s3 b o q)), nD⟩
    rw [upd_same, List.take_add_one, hz1, List.map_append, List.map_append]
    rfl
  · rintro D H3 ⟨hD, s3, nD⟩
    rw [vz_len, List.take_length] at hD
    refine ⟨_, _, rfl, SqL.of hD, ?_⟩
    rw [show ((zs.map fun z => okO d fs z.2).all id) = zs.all fun z => okO d fs z.2 by rw [List.all_map]; rfl]
    refine ⟨_, rfl, ?_⟩
    cases c : zs.all fun z => okO d fs z.2 with
    | false =>
      refine iteT ?_
      have := k H3 s3
      rw [c] at this
      exact this
    | true =>
      refine iteF ?_
      refine ⟨_, rfl, ⟨_, rfl, ?_⟩⟩
      refine kc_go (tf.ht.to s3) h0 h1 (hv.to s3) (fun z hz' => s3 _ _ (pz z hz')) (fun z hz' => ?_) l fun H4 s4 => ?_
      · have := List.all_eq_true.mp c z hz'
        cases e : z.2 with
        | none => rw [e] at this; cases this
        | some q => exact ⟨q, rfl, hz z hz' q e⟩
      · have := k H4 (s3.trans s4)
        rw [c] at this
        exact this
end
open PySem PySem.Spec PyProof.Rows
open L2 hiding pass0
abbrev s_pairs : Stmt := top 60
theorem sc_pairs : FnScope ["width", "known", "lets_in", "pairs", "waiting", "stretch", "zero", "one", "crossing", "goal"] ["width", "known", "lets_in"] (defScope s_pairs) := ⟨rfl, rfl, rfl, by decide +kernel, rfl, by decide +kernel, by decide +kernel⟩
theorem bp_pairs : BndP "_pairs" s_pairs ["width", "known", "lets_in"] := fun _ _ _ _ _ _ us h => match us, h with | [_, _, _], _ => rfl
theorem fk_pk {H : Hp} {D n : Nat} {m : List (Str × Str)} {fs hs : List (List Nat)} {ad : List Nat → Addr} {m0 : Bool} (kn : Kno H D n m fs hs ad) {t u : List Nat} (h : Fk (SN n m fs) hs t u) : pk (SN n m fs) m0 (n - t.length) t = pk (SN n m fs) m0 (n - u.length) u ∧ md (SN n m fs) m0 u = md (SN n m fs) m0 t := by
  induction h with
  | even _ => exact ⟨rfl, rfl⟩
  | both _ _ _ => exact ⟨rfl, rfl⟩
  | @zero t u ht e0 _ ih =>
    have lt := kn.lt ht
    obtain ⟨k, hk⟩ : ∃ k, n - t.length = k + 1 := ⟨n - t.length - 1, by omega⟩
    have hk1 : n - (t ++ [49]).length = k := by rw [List.length_append, List.length_singleton]; omega
    have z := (pk_none (m0 := m0) (k := k) (t := t ++ [48]) (by rw [List.length_append, List.length_singleton]; omega) e0).1
    rw [hk1] at ih
    refine ⟨?_, ih.2.trans (by rw [md_snoc]; unfold nx; rw [e0])⟩
    rw [hk, ← ih.1]
    show crL _ _ _ ++ (pk _ _ k _ ++ pk _ _ k _) = _
    rw [z]
    unfold crL
    rw [e0]
    rfl
  | @one t u ht e0 e1 _ ih =>
    have lt := kn.lt ht
    obtain ⟨k, hk⟩ : ∃ k, n - t.length = k + 1 := ⟨n - t.length - 1, by omega⟩
    have hk1 : n - (t ++ [48]).length = k := by rw [List.length_append, List.length_singleton]; omega
    have z := (pk_none (m0 := m0) (k := k) (t := t ++ [49]) (by rw [List.length_append, List.length_singleton]; omega) e1).1
    rw [hk1] at ih
    cases ex : (SN n m fs (t ++ [48])).1 with
    | none => exact absurd ex e0
    | some x =>
      refine ⟨?_, ih.2.trans (by rw [md_snoc]; unfold nx; rw [ex, e1])⟩
      rw [hk, ← ih.1]
      show crL _ _ _ ++ (pk _ _ k _ ++ pk _ _ k _) = _
      rw [z]
      unfold crL
      rw [ex, e1]
      show [] ++ (_ ++ []) = _
      rw [List.append_nil]
      rfl
theorem even_pk {H : Hp} {D n : Nat} {m : List (Str × Str)} {fs hs : List (List Nat)} {ad : List Nat → Addr} {m0 : Bool} (kn : Kno H D n m fs hs ad) {u : List Nat} (hu : u ∉ hs) (l : u.length ≤ n) : pk (SN n m fs) m0 (n - u.length) u = [] := by
  obtain ⟨⟨o, eo⟩, st⟩ := kn.still hu
  cases o with
  | none => exact (pk_none (by omega) eo).1
  | some v => exact pk_even (v := v) fun y _ _ => (st y).trans eo
/-- pairs that are made -/
def Mz (H : Hp) (n : Nat) (m : List (Str × Str)) (fs : List (List Nat)) (m0 : Bool) (zs : List (Addr × (Og × Pr))) : Prop := ∀ z ∈ zs, H z.1 = some (.tup [oB z.2.2.1, sx z.2.2.2]) ∧ IsP n m fs m0 z.2.1 z.2.2
theorem Mz.to {H H' : Hp} {n : Nat} {m : List (Str × Str)} {fs : List (List Nat)} {m0 : Bool} {zs : List (Addr × (Og × Pr))} (h : Mz H n m fs m0 zs) (s : ∀ a l, H a = some (.tup l) → H' a = some (.tup l)) : Mz H' n m fs m0 zs := fun z hz => ⟨s _ _ (h z hz).1, (h z hz).2⟩
/-- what waits -/
def Wz (H : Hp) (f : List Nat → SNd) (m0 : Bool) (hs : List (List Nat)) (ws : List (Addr × List Nat)) : Prop := (∀ z ∈ ws, H z.1 = some (.tup [sx z.2, .bl (md f m0 z.2)]) ∧ z.2 ∈ kys hs) ∧ ∀ (i : Nat) (z : Addr × List Nat), ws[i]? = some z → i ≤ z.2.length
theorem Wz.to {H H' : Hp} {f : List Nat → SNd} {m0 : Bool} {hs : List (List Nat)} {ws : List (Addr × List Nat)} (h : Wz H f m0 hs ws) (s : ∀ a l, H a = some (.tup l) → H' a = some (.tup l)) : Wz H' f m0 hs ws := ⟨fun z hz => ⟨s _ _ (h.1 z hz).1, (h.1 z hz).2⟩, h.2⟩
def wms (n : Nat) (ws : List (Addr × List Nat)) : Nat := (ws.map fun w => 2 ^ (n + 1 - w.2.length) - 1).sum
theorem wms_app (n : Nat) (a b : List (Addr × List Nat)) : wms n (a ++ b) = wms n a + wms n b := by
  unfold wms
  rw [List.map_append, List.sum_append]
theorem wms_two {n l : Nat} (h : l + 1 ≤ n) : (2 ^ (n + 1 - (l + 1)) - 1) + (2 ^ (n + 1 - (l + 1)) - 1) < 2 ^ (n + 1 - l) - 1 := by
  obtain ⟨k, hk⟩ : ∃ k, n + 1 - (l + 1) = k := ⟨_, rfl⟩
  have : n + 1 - l = k + 1 := by omega
  rw [hk, this, Nat.pow_succ]
  have := Nat.two_pow_pos k
  omega
theorem wms_le {n l l' : Nat} (h : l ≤ l') : 2 ^ (n + 1 - l') - 1 ≤ 2 ^ (n + 1 - l) - 1 := by
  have : 2 ^ (n + 1 - l') ≤ 2 ^ (n + 1 - l) := Nat.pow_le_pow_right (by decide) (by omega)
  omega
@[irreducible] def spPs : Sp := fun vs H Q _ => ∃ (D n : Nat) (m : List (Str × Str)) (fs hs : List (List Nat)) (ad : List Nat → Addr) (m0 : Bool), vs = [.int n, .ref D, .bl m0] ∧ Kno H D n m fs hs ad ∧ 1 ≤ n ∧ ∀ L zs H', Same H H' → H L = none → H' L = some (.lst (vz zs)) → Mz H' n m fs m0 zs → (zs.map (·.2.1)).Perm (pk (SN n m fs) m0 n []) → Q (.ref L) H'
theorem ps_go {H : Hp} {D n : Nat} {m : List (Str × Str)} {fs hs : List (List Nat)} {ad : List Nat → Addr} {m0 : Bool} {Q : VK} {E : XK} (kn : Kno H D n m fs hs ad) (n0 : 1 ≤ n) (k : ∀ L zs H', Same H H' → H L = none → H' L = some (.lst (vz zs)) → Mz H' n m fs m0 zs → (zs.map (·.2.1)).Perm (pk (SN n m fs) m0 n []) → Q (.ref L) H') : spPs [.int n, .ref D, .bl m0] H Q E := by
  unfold spPs
  exact ⟨D, n, m, fs, hs, ad, m0, rfl, kn, n0, k⟩
theorem pk_few {n : Nat} {m : List (Str × Str)} {fs : List (List Nat)} {m0 : Bool} (few : m.length ≤ 40) : (pk (SN n m fs) m0 n []).length ≤ 41 := by
  cases e : (SN n m fs []).1 with
  | none => rw [(pk_none (k := n) (t := []) (by show 0 + n = n; omega) e).1]; decide
  | some z =>
    have := pk_len (m0 := m0) (k := n) (t := []) (by show 0 + n = n; omega) e
    have h2 := cst_need (SN n m fs []) "hole"
    have h3 := few_le (n := n) (m := m) (fs := fs)
    omega
section
variable {P : Program} {w : World} {K : PySem.W.Frag} {mg : Str → Option Value} {base : Heap} {f C : Addr} {fd' : FuncData}
theorem ok_pairs (F : Fun K "_pairs" "_pairs" s_pairs f fd') (hm : mg "_pairs" = some (.ref f)) (T : Txt K mg) (c_fork : Nm P w K mg base CX0 2 "_fork" s_fork ["known", "stretch"] (spFk)) (c_is_even : Nm P w K mg base CX0 1 "_is_even" s_is_even ["known", "stretch"] (spIE)) (c_are_apart : Nm P w K mg base CX0 1 "_are_apart" s_are_apart ["known", "zero", "one"] (spAA)) (c_begin : Nm P w K mg base CX0 8 "_begin" s_begin ["width", "known", "stretch", "goal"] (spEB false)) (c_end : Nm P w K mg base CX0 8 "_end" s_end ["width", "known", "stretch", "goal"] (spEB true)) : Nm P w K mg base CX0 9 "_pairs" s_pairs ["width", "known", "lets_in"] (spPs) := by
  refine nm_of0 F hm sc_pairs (fun vs H Q E h => ?_) fun cdv A outer s H vs Q E hr h => ?_
  · unfold spPs at h
    obtain ⟨D, n, m, fs, hs, ad, m0, rfl, kn, n0, k⟩ := h
    subst_vars
    rfl
  unfold spPs at h
  obtain ⟨D, n, m, fs, hs, ad, m0, rfl, kn, n0, k⟩ := h
  refine ⟨_, (C8.pss_cut (ps_set (i := 3) sc_pairs.nd rfl (by first | exact Or.inl rfl | exact Or.inr rfl) (pe_lst pa_nil))
      (C8.pss_cut (ps_set (i := 4) sc_pairs.nd rfl (by first | exact Or.inl rfl | exact Or.inr rfl) (pe_lst (pa_cons (pe_tup (pa_cons pe_str (pa_cons (pv 2) pa_nil))) pa_nil)))
      (pss_cons (ps_while PassesOwn.never (pt_truth (pv 4) (by intro _; rfl)) (C8.pss_cut (ps_asg (pe_bm0 PySem.F.plainAttrs_list PySem.F.slot_list_pop PySem.F.type_list_pop mt_pop (pv 4)) (pg_tup (by rfl) (pgs_cons (pg_name (i := 5) sc_pairs.nd rfl (by first | exact Or.inl rfl | exact Or.inr rfl)) (pgs_cons (pg_name (i := 2) sc_pairs.nd rfl (by first | exact Or.inl rfl | exact Or.inr rfl)) pgs_nil))))
      (C8.pss_cut (ps_set (i := 5) sc_pairs.nd rfl (by first | exact Or.inl rfl | exact Or.inr rfl) (pe_g c_fork hr (by decide) L2.pass0 bp_fork (by rfl) (pa_cons (pv 1) (pa_cons (pv 5) pa_nil))))
      (C8.pss_cut (ps_if (pt_val (pe_g c_is_even hr (by decide) L2.pass0 bp_is_even (by rfl) (pa_cons (pv 1) (pa_cons (pv 5) pa_nil)))) (pss_one ps_continue) pss_nil)
      (C8.pss_cut (ps_asg (pe_tup (pa_cons (pe_op op_add_str (pv 5) pe_str) (pa_cons (pe_op op_add_str (pv 5) pe_str) pa_nil))) (pg_tup (by rfl) (pgs_cons (pg_name (i := 6) sc_pairs.nd rfl (by first | exact Or.inl rfl | exact Or.inr rfl)) (pgs_cons (pg_name (i := 7) sc_pairs.nd rfl (by first | exact Or.inl rfl | exact Or.inr rfl)) pgs_nil))))
      (C8.pss_cut (ps_if (pt_cmpR op_eq (pv 2) (pe_g c_are_apart hr (by decide) L2.pass0 bp_are_apart (by rfl) (pa_cons (pv 1) (pa_cons (pv 6) (pa_cons (pv 7) pa_nil)))) (nomark _)) (pss_cons (ps_expr (pe_bm PySem.F.plainAttrs_list PySem.F.slot_list_extend PySem.F.type_list_extend mt_extend (pv 4) (pa_cons (pe_lst (pa_cons (pe_tup (pa_cons (pv 6) (pa_cons (pv 2) pa_nil))) (pa_cons (pe_tup (pa_cons (pv 7) (pa_cons (pv 2) pa_nil))) pa_nil))) pa_nil)))
      (pss_one ps_continue)) pss_nil)
      (C8.pss_cut (ps_expr (pe_bm PySem.F.plainAttrs_list PySem.F.slot_list_extend PySem.F.type_list_extend mt_extend (pv 4) (pa_cons (pe_lst (pa_cons (pe_tup (pa_cons (pv 6) (pa_cons pe_bl pa_nil))) (pa_cons (pe_tup (pa_cons (pv 7) (pa_cons pe_bl pa_nil))) pa_nil))) pa_nil)))
      (C8.pss_cut (ps_setLc (i := 8) (own := [("goal", 9)]) (g := (gName 9)) (by rfl) sc_pairs.nd rfl rfl (sw_true rfl rfl rfl (by decide +kernel)) (pi_listK (K := K) rfl (pe_ix (ix_seqK (K := K) rfl) (pe_dget hr.u1 (pv 1) (pv 6) (fun _ _ => rfl)) pe_int (fun _ _ => rfl))) (blkOk_by (own := [("goal", 9)]) (N := ["width", "known", "lets_in", "pairs", "waiting", "stretch", "zero", "one", "crossing", "goal"]) (sc := defScope s_pairs) (by decide +kernel)) (fun _ _ _ _ _ => (pg_name (i := 9) sc_pairs.nd rfl (by first | exact Or.inl rfl | exact Or.inr rfl))) (fun _ _ _ _ _ => (pts_one (pt_cmpR (op_notInK (K := K) rfl) (pv 9) (pe_ix (ix_seqK (K := K) rfl) (pe_dget hr.u1 (pv 1) (pv 7) (fun _ _ => rfl)) pe_int (fun _ _ => rfl)) rfl))) (fun _ _ _ _ _ => (pv 9)))
      (pss_one (ps_expr (pe_bm PySem.F.plainAttrs_list PySem.F.slot_list_extend PySem.F.type_list_extend mt_extend (pv 3) (pa_cons (pe_lc (own := [("goal", 9)]) (g := (gName 9)) (by rfl) sc_pairs.nd (pi_listK (K := K) rfl (pv 8)) (blkOk_by (own := [("goal", 9)]) (N := ["width", "known", "lets_in", "pairs", "waiting", "stretch", "zero", "one", "crossing", "goal"]) (sc := defScope s_pairs) (by decide +kernel)) (fun _ _ _ _ _ => (pg_name (i := 9) sc_pairs.nd rfl (by first | exact Or.inl rfl | exact Or.inr rfl))) (fun _ _ _ _ _ => pts_nil) (fun _ _ _ _ _ => (pe_tup (pa_cons (pe_g c_begin hr (by decide) L2.pass0 bp_begin (by rfl) (pa_cons (pv 0) (pa_cons (pv 1) (pa_cons (pv 7) (pa_cons (pv 9) pa_nil))))) (pa_cons (pe_g c_end hr (by decide) L2.pass0 bp_end (by rfl) (pa_cons (pv 0) (pa_cons (pv 1) (pa_cons (pv 6) (pa_cons (pv 9) pa_nil))))) pa_nil))))) pa_nil))))))))))))
      (pss_one (ps_ret (pv 3)))))), ?_⟩
  have n1 := kn.n1
  refine ⟨fun σ' H' => ∃ L, σ' = [some (.int n), some (.ref D), some (.bl m0), some (.ref L), none, none, none, none, none, none] ∧ Same H H' ∧ H L = none ∧ H' L = some (.lst []), ?_, ?_⟩
  · refine ⟨szl (Nat.zero_le _), fun L nL => ?_⟩
    exact ⟨L, rfl, (Same.refl H).new nL, nL, upd_same⟩
  rintro σ' H1 ⟨L, rfl, s1, nL, eL⟩
  refine ⟨fun σ' H' => ∃ W t0, σ' = [some (.int n), some (.ref D), some (.bl m0), some (.ref L), some (.ref W), none, none, none, none, none] ∧ Same H H' ∧ H W = none ∧ L ≠ W ∧ H' L = some (.lst []) ∧ H' W = some (.lst [.ref t0]) ∧ H' t0 = some (.tup [sx [], .bl m0]), ?_, ?_⟩
  · refine ⟨_, rfl, ⟨szl (by show 2 ≤ 1000000; decide), fun t0 nt => ?_⟩⟩
    have e1 := updn (o := HO.tup [.str "", .bl m0]) (nonn nt eL) eL
    have s2 := s1.new (o := HO.tup [.str "", .bl m0]) nt
    have et : upd H1 t0 (.tup [.str "", .bl m0]) t0 = some (.tup [sx [], .bl m0]) := by
      rw [upd_same, show sx [] = V.str "" from by show V.str (SX.S []) = _; decide +kernel]
    generalize upd H1 t0 (.tup [.str "", .bl m0]) = H2 at e1 s2 et ⊢
    refine ⟨szl (by show 1 ≤ 1000000; decide), fun W nW => ?_⟩
    exact ⟨W, t0, rfl, s2.new nW, s2.back nW, nonn nW e1, updn (nonn nW e1) e1, upd_same, updn (nonn nW et) et⟩
  clear s1 eL H1
  rintro σ' H1 ⟨W, t0, rfl, s1, nW, nLW, eL, eW, et⟩
  have hnil : [] ∈ kys hs := kys_mem.mpr (.inl rfl)
  refine ⟨fun mm σ' H' => ∃ (zs : List (Addr × (Og × Pr))) (ws : List (Addr × List Nat)) (x2 x5 x6 x7 x8 : Option V), σ' = [some (.int n), some (.ref D), x2, some (.ref L), some (.ref W), x5, x6, x7, x8, none] ∧ Same H H' ∧ H' L = some (.lst (vz zs)) ∧ H' W = some (.lst (vz ws)) ∧ Mz H' n m fs m0 zs ∧ Wz H' (SN n m fs) m0 hs ws ∧ (zs.map (·.2.1) ++ ws.flatMap fun w => pk (SN n m fs) m0 (n - w.2.length) w.2).Perm (pk (SN n m fs) m0 n []) ∧ mm = wms n ws,
    ⟨_, [], [(t0, [])], _, _, _, _, _, rfl, s1, eL, eW, fun z hz => (by cases hz), ⟨fun z hz => by rw [List.mem_singleton.mp hz]; exact ⟨et, hnil⟩, fun i z hz => by
      cases i with
      | zero => exact Nat.zero_le _
      | succ i => simp at hz⟩, by
        show (([] : List Og) ++ (pk (SN n m fs) m0 (n - 0) [] ++ [])).Perm _
        rw [List.nil_append, List.append_nil, Nat.sub_zero], rfl⟩, ?_⟩
  clear s1 eL eW et
  rintro mm σ' H3 ⟨zs, ws, x2, x5, x6, x7, x8, rfl, s3, eL3, eW3, mz, wz, pm, rfl⟩
  refine ⟨_, rfl, ⟨_, .inl ⟨vz ws, SqL.of eW3, rfl⟩, ?_⟩⟩
  rcases List.eq_nil_or_concat ws with rfl | ⟨ws, ⟨a, t⟩, rfl⟩
  · refine iteF ?_
    refine ⟨_, rfl, ?_⟩
    rw [show (([] : List (Addr × List Nat)).flatMap fun w => pk (SN n m fs) m0 (n - w.2.length) w.2) = [] from rfl, List.append_nil] at pm
    exact k L zs H3 s3 nL eL3 mz pm
  rw [List.concat_eq_append] at *
  have vzs : vz (ws ++ [(a, t)]) = vz ws ++ [V.ref a] := by unfold vz; rw [List.map_append]; rfl
  rw [show (!(vz (ws ++ [(a, t)])).isEmpty) = true by rw [vzs]; simp]
  refine iteT ?_
  have hat := wz.1 (a, t) (by simp)
  have kt : t ∈ kys hs := hat.2
  have ktf : M.BL t ∧ t.length ≤ n := kn.fit hat.2
  have wz' : Wz H3 (SN n m fs) m0 hs ws := ⟨fun z hz => wz.1 z (List.mem_append.mpr (.inl hz)), fun i z hz => wz.2 i z (by rw [List.getElem?_append_left (List.getElem?_eq_some_iff.mp hz).1]; exact hz)⟩
  have dep : ws.length ≤ t.length := wz.2 ws.length (a, t) (by simp)
  have lows : wms n (ws ++ [(a, t)]) = wms n ws + (2 ^ (n + 1 - t.length) - 1) := by
    rw [wms_app]
    show _ + ((_ - 1) + 0) = _
    rw [Nat.add_zero]
  have pos1 : 1 ≤ 2 ^ (n + 1 - t.length) - 1 := by
    obtain ⟨k, hk⟩ : ∃ k, n + 1 - t.length = k + 1 := ⟨n - t.length, by omega⟩
    rw [hk, Nat.pow_succ]
    have := Nat.two_pow_pos k
    omega
  have lz : zs.length ≤ 41 := by
    have := pm.length_eq
    have h2 := pk_few (n := n) (m := m) (fs := fs) (m0 := m0) kn.ok.few
    rw [List.length_append, List.length_map] at this
    omega
  refine ⟨fun σ' H' => ∃ (zs : List (Addr × (Og × Pr))) (ws2 : List (Addr × List Nat)) (x2 x5 x6 x7 x8 : Option V), σ' = [some (.int n), some (.ref D), x2, some (.ref L), some (.ref W), x5, x6, x7, x8, none] ∧ Same H H' ∧ H' L = some (.lst (vz zs)) ∧ H' W = some (.lst (vz ws2)) ∧ Mz H' n m fs m0 zs ∧ Wz H' (SN n m fs) m0 hs ws2 ∧ (zs.map (·.2.1) ++ ws2.flatMap fun w => pk (SN n m fs) m0 (n - w.2.length) w.2).Perm (pk (SN n m fs) m0 n []) ∧ wms n ws2 < wms n (ws ++ [(a, t)]),
    fun σ' H' ⟨zs, ws2, a1, a2, a3, a4, a5, b1, b2, b3, b4, b5, b6, b7, b8⟩ => ⟨_, b8, zs, ws2, a1, a2, a3, a4, a5, b1, b2, b3, b4, b5, b6, b7, rfl⟩, ?_⟩
  refine ⟨fun σ' H' => σ' = [some (.int n), some (.ref D), some (.bl (md (SN n m fs) m0 t)), some (.ref L), some (.ref W), some (sx t), x6, x7, x8, none] ∧ Same H H' ∧ H' L = some (.lst (vz zs)) ∧ H' W = some (.lst (vz ws)) ∧ Mz H' n m fs m0 zs ∧ Wz H' (SN n m fs) m0 hs ws, ?_, ?_⟩
  · refine ⟨_, rfl, ⟨.inl ⟨rfl, _, SqL.of eW3⟩, ⟨W, _, .ref a, rfl, rfl, eW3, by rw [vzs]; simp, ?_⟩⟩⟩
    rw [vzs, List.dropLast_concat]
    have tu : ∀ b l, H3 b = some (.tup l) → upd H3 W (.lst (vz ws)) b = some (.tup l) := fun b l e => updn (fun z => by rw [z, eW3] at e; cases e) e
    refine ⟨a, [sx t, .bl (md (SN n m fs) m0 t)], rfl, SqT.of (tu _ _ hat.1), rfl, ⟨_, _, rfl, ⟨_, _, rfl, ⟨rfl, ?_⟩⟩⟩⟩
    exact ⟨rfl, fun b o e => updn (nonn nW e) (s3 _ _ e), updn nLW eL3, upd_same, mz.to tu, wz'.to tu⟩
  clear s3 eL3 eW3 mz wz wz' hat
  rintro σ' H4 ⟨rfl, s4, eL, eW, mz, wz⟩
  refine ⟨fun σ' H' => ∃ u, σ' = [some (.int n), some (.ref D), some (.bl (md (SN n m fs) m0 t)), some (.ref L), some (.ref W), some (sx u), x6, x7, x8, none] ∧ Same H4 H' ∧ u ∈ kys hs ∧ Fk (SN n m fs) hs t u, ?_, ?_⟩
  · refine ⟨_, rfl, ⟨_, rfl, ?_⟩⟩
    exact fk_go (kn.to s4) kt fun u H5 s5 hu hk => ⟨u, rfl, s5, hu, hk⟩
  rintro σ' H5 ⟨u, rfl, s5, hu, hk⟩
  have s45 := s4.trans s5
  have mz5 := mz.to fun b l e => s5 _ _ e
  have wz5 := wz.to fun b l e => s5 _ _ e
  have kn5 := kn.to s45
  obtain ⟨ep, em⟩ := fk_pk (m0 := m0) kn hk
  have ul := kn.fit hu
  have tu := (fk_pre hk).length_le
  have fm : (ws ++ [(a, t)]).flatMap (fun w => pk (SN n m fs) m0 (n - w.2.length) w.2) = (ws.flatMap fun w => pk (SN n m fs) m0 (n - w.2.length) w.2) ++ pk (SN n m fs) m0 (n - u.length) u := by
    rw [List.flatMap_append, ← ep]
    show _ ++ (_ ++ []) = _
    rw [List.append_nil]
  rw [fm] at pm
  refine ⟨fun σ' H' => σ' = [some (.int n), some (.ref D), some (.bl (md (SN n m fs) m0 t)), some (.ref L), some (.ref W), some (sx u), x6, x7, x8, none] ∧ H' = H5 ∧ u ∈ hs, ?_, ?_⟩
  · refine ⟨_, rfl, ⟨_, rfl, ?_⟩⟩
    refine ie_go kn5 (by omega) ?_
    refine ⟨_, rfl, ?_⟩
    by_cases c : u ∈ hs
    · rw [decide_eq_true c]
      exact iteF ⟨rfl, rfl, c⟩
    · rw [decide_eq_false c]
      refine iteT ?_
      rw [even_pk kn c ul.2, List.append_nil] at pm
      exact ⟨zs, ws, _, _, _, _, _, rfl, s45, s5 _ _ eL, s5 _ _ eW, mz5, wz5, pm, by rw [lows]; omega⟩
  rintro σ' H6 ⟨rfl, rfl, c⟩
  have lt := kn.lt c
  have k0 : u ++ [48] ∈ kys hs := kys_half.mpr c
  have k1 : u ++ [49] ∈ kys hs := kys_one c
  obtain ⟨_, ne0, ne1⟩ := (fk_end hk).resolve_left fun z => z c
  cases e0 : (SN n m fs (u ++ [48])).1 with
  | none => exact absurd e0 ne0
  | some x =>
  cases e1 : (SN n m fs (u ++ [49])).1 with
  | none => exact absurd e1 ne1
  | some y =>
  have md0 : md (SN n m fs) m0 (u ++ [48]) = if md (SN n m fs) m0 t = apB x y then md (SN n m fs) m0 t else true := by
    rw [md_snoc, em]
    unfold nx
    rw [e0, e1]
    rfl
  have md1 : md (SN n m fs) m0 (u ++ [49]) = if md (SN n m fs) m0 t = apB x y then md (SN n m fs) m0 t else false := by
    rw [md_snoc, em]
    unfold nx
    rw [e0, e1]
    rfl
  have pku : pk (SN n m fs) m0 (n - u.length) u = crL (SN n m fs) m0 u ++ (pk (SN n m fs) m0 (n - (u ++ [48]).length) (u ++ [48]) ++ pk (SN n m fs) m0 (n - (u ++ [49]).length) (u ++ [49])) := by
    obtain ⟨k', hk'⟩ : ∃ k', n - u.length = k' + 1 := ⟨n - u.length - 1, by omega⟩
    have l0 : n - (u ++ [48]).length = k' := by rw [List.length_append, List.length_singleton]; omega
    have l1 : n - (u ++ [49]).length = k' := by rw [List.length_append, List.length_singleton]; omega
    rw [hk', l0, l1]
    rfl
  have cru : crL (SN n m fs) m0 u = if md (SN n m fs) m0 t = apB x y then [] else (x.filter fun g => !decide (g ∈ y)).map fun g => (some u, g) := by
    unfold crL
    rw [e0, e1, em]
  rw [pku, cru] at pm
  have lw2 : ∀ a1 a2 : Addr, wms n (ws ++ [(a1, u ++ [48]), (a2, u ++ [49])]) < wms n (ws ++ [(a, t)]) := fun a1 a2 => by
    rw [lows, wms_app]
    show wms n ws + ((2 ^ (n + 1 - (u ++ [48]).length) - 1) + ((2 ^ (n + 1 - (u ++ [49]).length) - 1) + 0)) < _
    rw [List.length_append, List.length_append, List.length_singleton, List.length_singleton]
    have h1 := wms_two (n := n) (l := u.length) lt
    have h2 := wms_le (n := n) tu
    omega
  have wz2 : ∀ {H' : Hp} {a1 a2 : Addr} {b1 b2 : Bool}, (∀ b l, H6 b = some (.tup l) → H' b = some (.tup l)) → H' a1 = some (.tup [sx (u ++ [48]), .bl b1]) → H' a2 = some (.tup [sx (u ++ [49]), .bl b2]) → md (SN n m fs) m0 (u ++ [48]) = b1 → md (SN n m fs) m0 (u ++ [49]) = b2 → Wz H' (SN n m fs) m0 hs (ws ++ [(a1, u ++ [48]), (a2, u ++ [49])]) := fun {H' a1 a2 b1 b2} tu' h1 h2 q1 q2 => by
    refine ⟨fun z hz => ?_, fun i z hz => ?_⟩
    · rcases List.mem_append.mp hz with h | h
      · exact (wz5.to tu').1 z h
      · simp only [List.mem_cons, List.not_mem_nil, or_false] at h
        rcases h with rfl | rfl
        · exact ⟨by rw [q1]; exact h1, k0⟩
        · exact ⟨by rw [q2]; exact h2, k1⟩
    · by_cases hi : i < ws.length
      · rw [List.getElem?_append_left hi] at hz
        exact wz.2 i z hz
      · rw [List.getElem?_append_right (by omega)] at hz
        obtain ⟨j, hj⟩ : ∃ j, i - ws.length = j := ⟨_, rfl⟩
        rw [hj] at hz
        match j, hz with
        | 0, hz =>
          cases hz
          show i ≤ (u ++ [48]).length
          rw [List.length_append]
          omega
        | 1, hz =>
          cases hz
          show i ≤ (u ++ [49]).length
          rw [List.length_append, List.length_singleton]
          omega
        | j + 2, hz => simp at hz
  have vz2 : ∀ a1 a2 : Addr, vz ws ++ [V.ref a1, V.ref a2] = vz (ws ++ [(a1, u ++ [48]), (a2, u ++ [49])]) := fun a1 a2 => by
    unfold vz
    rw [List.map_append]
    rfl
  refine ⟨fun σ' H' => σ' = [some (.int n), some (.ref D), some (.bl (md (SN n m fs) m0 t)), some (.ref L), some (.ref W), some (sx u), some (sx (u ++ [48])), some (sx (u ++ [49])), x8, none] ∧ Same H6 H', ?_, ?_⟩
  · refine ⟨_, rfl, ⟨_, _, rfl, rfl, szl (by rw [sx_len]; show u.length + 1 ≤ 1000000; omega), ?_⟩⟩
    rw [str0]
    refine ⟨_, rfl, ⟨_, _, rfl, rfl, szl (by rw [sx_len]; show u.length + 1 ≤ 1000000; omega), ?_⟩⟩
    rw [str1]
    refine ⟨szl (by show 2 ≤ 1000000; decide), fun T nT => ?_⟩
    refine ⟨T, _, rfl, SqT.of upd_same, rfl, ⟨_, _, rfl, ⟨_, _, rfl, ⟨rfl, ?_⟩⟩⟩⟩
    exact ⟨rfl, (Same.refl H6).new nT⟩
  rintro σ' H7 ⟨rfl, s7⟩
  have s67 := s45.trans s7
  have tup7 : ∀ b l, H6 b = some (.tup l) → H7 b = some (.tup l) := fun b l e => s7 _ _ e
  have eL7 := s7 _ _ (s5 _ _ eL)
  have eW7 := s7 _ _ (s5 _ _ eW)
  have lws : ws.length ≤ 100 := by omega
  -- both halves wait
  have ext : ∀ (b1 b2 : Bool) (H8 : Hp), Same H7 H8 → ∀ a1, H8 a1 = none → ∀ a2, upd H8 a1 (.tup [sx (u ++ [48]), .bl b1]) a2 = none → ∀ l, upd (upd H8 a1 (.tup [sx (u ++ [48]), .bl b1])) a2 (.tup [sx (u ++ [49]), .bl b2]) l = none →
      md (SN n m fs) m0 (u ++ [48]) = b1 → md (SN n m fs) m0 (u ++ [49]) = b2 →
      ∃ H9, upd (upd (upd H8 a1 (.tup [sx (u ++ [48]), .bl b1])) a2 (.tup [sx (u ++ [49]), .bl b2])) l (.lst [.ref a1, .ref a2]) = H9 ∧ Same H7 H9 ∧ H9 l = some (.lst [.ref a1, .ref a2]) ∧ H9 W = some (.lst (vz ws)) ∧ Same H (upd H9 W (.lst (vz (ws ++ [(a1, u ++ [48]), (a2, u ++ [49])])))) ∧ upd H9 W (.lst (vz (ws ++ [(a1, u ++ [48]), (a2, u ++ [49])]))) L = some (.lst (vz zs)) ∧ Mz (upd H9 W (.lst (vz (ws ++ [(a1, u ++ [48]), (a2, u ++ [49])])))) n m fs m0 zs ∧ Wz (upd H9 W (.lst (vz (ws ++ [(a1, u ++ [48]), (a2, u ++ [49])])))) (SN n m fs) m0 hs (ws ++ [(a1, u ++ [48]), (a2, u ++ [49])]) := fun b1 b2 H8 s8 a1 n1' a2 n2' l nl q1 q2 => by
    have t1 : upd H8 a1 (.tup [sx (u ++ [48]), .bl b1]) a1 = some (.tup [sx (u ++ [48]), .bl b1]) := upd_same
    have s9 := s8.new (o := HO.tup [sx (u ++ [48]), .bl b1]) n1'
    generalize upd H8 a1 (.tup [sx (u ++ [48]), .bl b1]) = Ha at t1 s9 n2' nl ⊢
    have t2 := updn (o := HO.tup [sx (u ++ [49]), .bl b2]) (nonn n2' t1) t1
    have t3 : upd Ha a2 (.tup [sx (u ++ [49]), .bl b2]) a2 = some (.tup [sx (u ++ [49]), .bl b2]) := upd_same
    have sa := s9.new (o := HO.tup [sx (u ++ [49]), .bl b2]) n2'
    generalize upd Ha a2 (.tup [sx (u ++ [49]), .bl b2]) = Hb at t2 t3 sa nl ⊢
    have t4 := updn (o := HO.lst [.ref a1, .ref a2]) (nonn nl t2) t2
    have t5 := updn (o := HO.lst [.ref a1, .ref a2]) (nonn nl t3) t3
    have sb := sa.new (o := HO.lst [.ref a1, .ref a2]) nl
    have el : upd Hb l (.lst [.ref a1, .ref a2]) l = some (.lst [.ref a1, .ref a2]) := upd_same
    refine ⟨_, rfl, sb, el, sb _ _ eW7, fun b o e => updn (nonn nW e) (sb _ _ (s67 _ _ e)), updn nLW (sb _ _ eL7), ?_, ?_⟩
    · exact mz5.to fun b l e => updn (fun z => by rw [z, s5 _ _ eW] at e; cases e) (sb _ _ (s7 _ _ e))
    · refine wz2 (b1 := b1) (b2 := b2) (fun b l e => updn (fun z => by rw [z, s5 _ _ eW] at e; cases e) (sb _ _ (s7 _ _ e))) ?_ ?_ q1 q2
      · exact updn (ne_of t4 (sb _ _ eW7) fun z => nomatch z) t4
      · exact updn (ne_of t5 (sb _ _ eW7) fun z => nomatch z) t5
  refine ⟨fun σ' H' => σ' = [some (.int n), some (.ref D), some (.bl (md (SN n m fs) m0 t)), some (.ref L), some (.ref W), some (sx u), some (sx (u ++ [48])), some (sx (u ++ [49])), x8, none] ∧ Same H7 H' ∧ md (SN n m fs) m0 t ≠ apB x y, ?_, ?_⟩
  · refine ⟨_, rfl, ⟨_, rfl, ⟨_, rfl, ⟨_, rfl, ?_⟩⟩⟩⟩
    refine aa_go (kn.to s67) k0 k1 e0 e1 fun H8 s8 => ?_
    refine ⟨rfl, ⟨_, rfl, ?_⟩⟩
    by_cases q : md (SN n m fs) m0 t = apB x y
    case neg =>
      rw [decide_eq_false (show ¬ V.bl (md (SN n m fs) m0 t) = V.bl (apB x y) from fun z => q (V.bl.inj z))]
      exact iteF ⟨rfl, s8, q⟩
    case pos =>
    rw [decide_eq_true (show V.bl (md (SN n m fs) m0 t) = V.bl (apB x y) from congrArg V.bl q)]
    refine iteT ?_
    rw [if_pos q] at md0 md1 pm
    refine ⟨_, rfl, ⟨.inl ⟨rfl, _, SqL.of (s8 _ _ eW7)⟩, ?_⟩⟩
    refine ⟨_, rfl, ⟨_, rfl, ⟨szl (by show 2 ≤ 1000000; decide), fun a1 na1 => ?_⟩⟩⟩
    refine ⟨_, rfl, ⟨_, rfl, ⟨szl (by show 2 ≤ 1000000; decide), fun a2 na2 => ?_⟩⟩⟩
    refine ⟨szl (by show 2 ≤ 1000000; decide), fun l nl => ?_⟩
    obtain ⟨H9, h9, s9, el, eW9, f1, f2, f3, f4⟩ := ext _ _ H8 s8 a1 na1 a2 na2 l nl md0 md1
    have h9' : upd (upd (upd H8 a1 (.tup [sx (u ++ [48]), .bl (md (SN n m fs) m0 t)])) a2 (.tup [sx (u ++ [49]), .bl (md (SN n m fs) m0 t)])) l (.lst [.ref a1, .ref a2]) = H9 := h9
    rw [h9']
    refine ⟨W, l, vz ws, _, rfl, rfl, eW9, el, szl (by rw [vz_len]; show ws.length + 2 ≤ 1000000; omega), ?_⟩
    rw [vz2]
    refine ⟨zs, ws ++ [(a1, u ++ [48]), (a2, u ++ [49])], _, _, _, _, _, rfl, f1, f2, upd_same, f3, f4, ?_, lw2 a1 a2⟩
    rw [List.flatMap_append]
    show (_ ++ (_ ++ (_ ++ (_ ++ [])))).Perm _
    rw [List.append_nil]
    exact pm
  rintro σ' H8 ⟨rfl, s8, q⟩
  rw [if_neg q] at md0 md1 pm
  have cx : ∀ g, g ∈ x.filter (fun g => !decide (g ∈ y)) → crB (SN n m fs) u (md (SN n m fs) m0 u) g = true ∧ Cn (SN n m fs) m0 (u ++ [48]) g ∧ Cn (SN n m fs) m0 (u ++ [49]) g := fun g hg => by
    obtain ⟨gx, gy⟩ := List.mem_filter.mp hg
    have gy' : ¬ g ∈ y := by simpa using gy
    refine ⟨?_, ⟨x, e0, ?_⟩, ⟨y, e1, ?_⟩⟩
    · unfold crB
      rw [e0, e1, em]
      dsimp only
      rw [decide_eq_false q, decide_eq_true gx, decide_eq_false gy']
      rfl
    · rw [md0]
      exact ⟨fun _ => rfl, fun _ => gx⟩
    · rw [md1]
      exact ⟨fun h => absurd h gy', fun h => by cases h⟩
  generalize hcr : x.filter (fun g => !decide (g ∈ y)) = cr at pm cx
  have zx := SN_sz (t := u ++ [48]) (fs := fs) kn.ok x e0
  have lcr : cr.length ≤ 1000 := by
    rw [← hcr]
    exact Nat.le_trans (List.length_filter_le _ _) zx.1
  refine ⟨fun σ' H' => ∃ a1 a2, σ' = [some (.int n), some (.ref D), some (.bl (md (SN n m fs) m0 t)), some (.ref L), some (.ref W), some (sx u), some (sx (u ++ [48])), some (sx (u ++ [49])), x8, none] ∧ Same H H' ∧ H' L = some (.lst (vz zs)) ∧ H' W = some (.lst (vz (ws ++ [(a1, u ++ [48]), (a2, u ++ [49])]))) ∧ Mz H' n m fs m0 zs ∧ Wz H' (SN n m fs) m0 hs (ws ++ [(a1, u ++ [48]), (a2, u ++ [49])]), ?_, ?_⟩
  · refine ⟨_, rfl, ⟨.inl ⟨rfl, _, SqL.of (s8 _ _ eW7)⟩, ?_⟩⟩
    refine ⟨_, rfl, ⟨szl (by show 2 ≤ 1000000; decide), fun a1 na1 => ?_⟩⟩
    refine ⟨_, rfl, ⟨szl (by show 2 ≤ 1000000; decide), fun a2 na2 => ?_⟩⟩
    refine ⟨szl (by show 2 ≤ 1000000; decide), fun l nl => ?_⟩
    obtain ⟨H9, h9, s9, el, eW9, f1, f2, f3, f4⟩ := ext _ _ H8 s8 a1 na1 a2 na2 l nl md0 md1
    have h9' : upd (upd (upd H8 a1 (.tup [sx (u ++ [48]), .bl true])) a2 (.tup [sx (u ++ [49]), .bl false])) l (.lst [.ref a1, .ref a2]) = H9 := h9
    rw [h9']
    refine ⟨W, l, vz ws, _, rfl, rfl, eW9, el, szl (by rw [vz_len]; show ws.length + 2 ≤ 1000000; omega), ?_⟩
    rw [vz2]
    exact ⟨a1, a2, rfl, f1, f2, upd_same, f3, f4⟩
  clear s8 eL7 eW7 ext tup7 s67 s7 H7 H8
  rintro σ' H7 ⟨a1, a2, rfl, s7, eL7, eW7, mz7, wz7⟩
  have kn7 := kn.to s7
  obtain ⟨v0, ec0, hv0⟩ := kn7.ev _ k0
  obtain ⟨v1, ec1, hv1⟩ := kn7.ev _ k1
  rw [e0] at hv0
  rw [e1] at hv1
  obtain ⟨A1, rfl, hA⟩ := hv0
  obtain ⟨A2, rfl, hB⟩ := hv1
  have val0 : some (V.ref (ad (u ++ [48]))) = valV (fd (kys hs) fun t => V.ref (ad t)) (skey (u ++ [48])) := by rw [fd_val, if_pos k0]
  have val1 : some (V.ref (ad (u ++ [49]))) = valV (fd (kys hs) fun t => V.ref (ad t)) (skey (u ++ [49])) := by rw [fd_val, if_pos k1]
  refine ⟨fun σ' H' => ∃ Cr, σ' = [some (.int n), some (.ref D), some (.bl (md (SN n m fs) m0 t)), some (.ref L), some (.ref W), some (sx u), some (sx (u ++ [48])), some (sx (u ++ [49])), some (.ref Cr), none] ∧ Same H7 H' ∧ H' Cr = some (.lst (cr.map V.str)), ?_, ?_⟩
  · refine ⟨_, rfl, ⟨_, rfl, ⟨D, .ref (ad (u ++ [48])), rfl, .inl ⟨_, skey (u ++ [48]), .inl kn7.eD, rfl, val0⟩, .inr (.inl ⟨_, _, 0, .ref A1, rfl, rfl, SqT.of ec0, rfl, ?_⟩)⟩⟩⟩
    refine ⟨A1, rfl, ⟨_, SqL.of hA⟩, fun B nB => ?_⟩
    refine lc_it (walk_list (xs := x.map V.str)) (fun i H' => H' B = some (.lst (((x.take i).filter fun g => !decide (g ∈ y)).map V.str)) ∧ Same H7 H') ⟨upd_same, (Same.refl H7).new nB⟩ (fun i H' _ h => SqL.of (h.2 _ _ hA)) ?_ ?_
    · rintro i w Ha Hb hi ⟨eB, sm⟩ ⟨rfl, hw⟩
      obtain ⟨g, hg, rfl⟩ : ∃ g, x[i]? = some g ∧ w = .str g := by
        rw [List.getElem?_map] at hw
        cases q : x[i]? with
        | none => rw [q] at hw; cases hw
        | some g => rw [q] at hw; exact ⟨g, rfl, (Option.some.inj hw).symm⟩
      refine ⟨rfl, ?_⟩
      refine ⟨_, rfl, ⟨_, rfl, ⟨_, rfl, ⟨D, .ref (ad (u ++ [49])), rfl, .inl ⟨_, skey (u ++ [49]), .inl (sm _ _ kn7.eD), rfl, val1⟩, .inr (.inl ⟨_, _, 0, .ref A2, rfl, rfl, SqT.of (sm _ _ ec1), rfl, ?_⟩)⟩⟩⟩⟩
      refine ⟨A2, _, rfl, .inl (SqL.of (sm _ _ hB)), rfl, flat_strs _, ?_⟩
      refine ⟨_, rfl, ?_⟩
      have ei : (if (true : Bool) = true then !inV (.str g) (y.map V.str) else inV (.str g) (y.map V.str)) = !decide (g ∈ y) := by rw [if_pos rfl, inV_strs]
      rw [ei]
      have more : (x.take (i + 1)).filter (fun g => !decide (g ∈ y)) = (x.take i).filter (fun g => !decide (g ∈ y)) ++ if g ∈ y then [] else [g] := by
        rw [List.take_add_one, hg, List.filter_append]
        by_cases c : g ∈ y <;> simp [c]
      by_cases c : g ∈ y
      · rw [decide_eq_true c]
        refine iteF ?_
        rw [more, if_pos c, List.append_nil]
        exact ⟨eB, sm⟩
      · rw [decide_eq_false c]
        refine iteT ?_
        refine ⟨_, rfl, _, eB, szt (by have := List.length_filter_le (fun g => !decide (g ∈ y)) (x.take i); rw [List.length_take] at this; have := zx.1; rw [List.length_map]; omega), ?_, fun b o e => updn (nonn nB e) (sm _ _ e)⟩
        rw [upd_same, more, if_neg c, List.map_append]
        rfl
    · rintro Ha ⟨eB, sm⟩
      rw [List.length_map, List.take_length, hcr] at eB
      exact ⟨B, rfl, sm, eB⟩
  rintro σ' H8 ⟨Cr, rfl, s8, eC⟩
  have s78 := s7.trans s8
  have eL8 := s8 _ _ eL7
  refine ⟨_, rfl, ⟨.inl ⟨rfl, _, SqL.of eL8⟩, ?_⟩⟩
  refine ⟨_, rfl, ⟨Cr, rfl, ⟨_, SqL.of eC⟩, fun B nB => ?_⟩⟩
  refine lc_it (walk_list (xs := cr.map V.str)) (fun i H' => ∃ us : List (Addr × (Og × Pr)), H' B = some (.lst (vz us)) ∧ Mz H' n m fs m0 us ∧ us.map (·.2.1) = (cr.take i).map (fun g => ((some u, g) : Og)) ∧ Same H8 H') ⟨[], upd_same, fun z hz => (by cases hz), rfl, (Same.refl H8).new nB⟩ (fun i H' _ h => let ⟨_, _, _, _, s⟩ := h; SqL.of (s _ _ eC)) ?_ ?_
  · rintro i w Ha Hb hi ⟨us, eB, mu, eu, sm⟩ ⟨rfl, hw⟩
    obtain ⟨g, hg, rfl⟩ : ∃ g, cr[i]? = some g ∧ w = .str g := by
      rw [List.getElem?_map] at hw
      cases q : cr[i]? with
      | none => rw [q] at hw; cases hw
      | some g => rw [q] at hw; exact ⟨g, rfl, (Option.some.inj hw).symm⟩
    obtain ⟨c1, c2, c3⟩ := cx g (List.mem_of_getElem? hg)
    refine ⟨rfl, ?_⟩
    dsimp only [tYes]
    rw [if_pos rfl]
    refine ⟨_, rfl, ⟨_, rfl, ⟨_, rfl, ⟨_, rfl, ?_⟩⟩⟩⟩
    refine eb_go (kn.to (s78.trans sm)) n0 k1 c3 md1 fun zb H9 s9 bb bl wb => ?_
    have sm9 := sm.trans s9
    refine ⟨_, rfl, ⟨_, rfl, ⟨_, rfl, ⟨_, rfl, ?_⟩⟩⟩⟩
    refine eb_go (kn.to (s78.trans sm9)) n0 k0 c2 md0 fun ze Hc sc eb' el we => ?_
    have smc := sm9.trans sc
    refine ⟨szl (by show 2 ≤ 1000000; decide), fun t1 nt1 => ?_⟩
    have eBc := sc _ _ (s9 _ _ eB)
    have lus : us.length ≤ 1000 := by
      have := congrArg List.length eu
      rw [List.length_map, List.length_map, List.length_take] at this
      omega
    have isp := isP_cross c1 we wb eb' el bb bl
    refine ⟨vz us, updn (nonn nt1 eBc) eBc, szt (by rw [vz_len]; omega), us ++ [(t1, ((some u, g), (some zb, ze)))], ?_, ?_, ?_, fun b o e => updn (nonn nB e) (updn (nonn nt1 (smc _ _ e)) (smc _ _ e))⟩
    · rw [upd_same]
      unfold vz
      rw [List.map_append]
      rfl
    · intro z hz
      have nBt : ∀ {b l}, upd Hc t1 (.tup [sx zb, sx ze]) b = some (.tup l) → upd (upd Hc t1 (.tup [sx zb, sx ze])) B (.lst (vz us ++ [.ref t1])) b = some (.tup l) := fun {b l} e => updn (fun z => by rw [z, updn (nonn nt1 eBc) eBc] at e; cases e) e
      rcases List.mem_append.mp hz with h | h
      · have := sc _ _ (s9 _ _ (mu z h).1)
        exact ⟨nBt (updn (nonn nt1 this) this), (mu z h).2⟩
      · rw [List.mem_singleton.mp h]
        exact ⟨nBt upd_same, isp⟩
    · rw [List.map_append, eu, List.take_add_one, hg, List.map_append]
      rfl
  · rintro H9 ⟨us, eB, mu, eu, s9⟩
    rw [List.length_map, List.take_length] at eu
    have lus : us.length ≤ 1000 := by
      have := congrArg List.length eu
      rw [List.length_map, List.length_map] at this
      omega
    have eL9 := s9 _ _ eL8
    have nLB : L ≠ B := nonn nB eL8
    refine ⟨L, B, vz zs, vz us, rfl, rfl, eL9, eB, szl (by rw [vz_len, vz_len]; omega), ?_⟩
    have tuL : ∀ b l, H9 b = some (.tup l) → upd H9 L (.lst (vz zs ++ vz us)) b = some (.tup l) := fun b l e => updn (fun z => by rw [z, eL9] at e; cases e) e
    refine ⟨zs ++ us, ws ++ [(a1, u ++ [48]), (a2, u ++ [49])], _, _, _, _, _, rfl, fun b o e => updn (nonn nL e) (s9 _ _ (s78 _ _ e)), ?_, updn (Ne.symm nLW) (s9 _ _ (s8 _ _ eW7)), fun z hz => ?_, (wz7.to fun b l e => s9 _ _ (s8 _ _ e)).to tuL, ?_, lw2 a1 a2⟩
    · rw [upd_same]
      unfold vz
      rw [List.map_append]
    · rcases List.mem_append.mp hz with h | h
      · exact ⟨tuL _ _ (s9 _ _ (s8 _ _ (mz7 z h).1)), (mz7 z h).2⟩
      · exact ⟨tuL _ _ (mu z h).1, (mu z h).2⟩
    · rw [List.map_append, eu, List.flatMap_append]
      refine List.Perm.trans ?_ pm
      show (_ ++ _ ++ (_ ++ (_ ++ (_ ++ [])))).Perm _
      rw [List.append_nil, List.append_assoc]
      refine List.Perm.append_left _ ?_
      exact List.perm_append_comm_assoc _ _ _
end
open PySem PySem.Spec PyProof.Rows
open L2 hiding pass0
abbrev s_pack : Stmt := top 58
theorem sc_pack : FnScope ["table", "free", "known", "goals", "_", "outer", "goal"] ["table", "free"] (defScope s_pack) := ⟨rfl, rfl, rfl, by decide +kernel, rfl, by decide +kernel, by decide +kernel⟩
/-- a row of tuples that are pairs -/
def Ps (H : Hp) (n : Nat) (ys : List (Addr × Pr)) : Prop := ∀ y ∈ ys, H y.1 = some (.tup [oB y.2.1, sx y.2.2]) ∧ PrOk n y.2
theorem Ps.to {H H' : Hp} {n : Nat} {ys : List (Addr × Pr)} (h : Ps H n ys) (s : Same H H') : Ps H' n ys := fun y hy => ⟨s _ _ (h y hy).1, (h y hy).2⟩
@[irreducible] def spPk (K : PySem.W.Frag) (C : Addr) : Sp := fun vs H Q _ => ∃ (a F : Addr) (n : Nat) (m : List (Str × Str)) (fs : List (List Nat)), vs = [.ref a, .ref F] ∧ TF K C H a F n m fs ∧ ∀ L ys H', Same H H' → H L = none → H' L = some (.lst (vz ys)) → Ps H' n ys → packB n m fs (ys.map (·.2)) = true → ys.length = cst (SN n m fs []) "hole" → Q (.ref L) H'
theorem pk_go {K : PySem.W.Frag} {C a F : Addr} {n : Nat} {m : List (Str × Str)} {fs : List (List Nat)} {H : Hp} {Q : VK} {E : XK} (tf : TF K C H a F n m fs) (k : ∀ L ys H', Same H H' → H L = none → H' L = some (.lst (vz ys)) → Ps H' n ys → packB n m fs (ys.map (·.2)) = true → ys.length = cst (SN n m fs []) "hole" → Q (.ref L) H') : spPk K C [.ref a, .ref F] H Q E := by
  unfold spPk
  exact ⟨a, F, n, m, fs, rfl, tf, k⟩
def ymz (zs : List (Addr × (Og × Pr))) : List (Addr × Pr) := zs.map fun z => (z.1, z.2.2)
theorem ymz_vz (zs : List (Addr × (Og × Pr))) : vz (ymz zs) = vz zs := by
  unfold vz ymz
  rw [List.map_map]
  rfl
theorem ymz_pr (zs : List (Addr × (Og × Pr))) : (ymz zs).map (·.2) = (zs.map (·.2)).map (·.2) := by
  unfold ymz
  rw [List.map_map, List.map_map]
  rfl
theorem ymz_ps {H : Hp} {n : Nat} {m : List (Str × Str)} {fs : List (List Nat)} {m0 : Bool} {zs : List (Addr × (Og × Pr))} (h : Mz H n m fs m0 zs) : Ps H n (ymz zs) := fun y hy => by
  obtain ⟨z, hz, rfl⟩ := List.mem_map.mp hy
  exact ⟨(h z hz).1, (h z hz).2.ok⟩
theorem ymz_pack {H : Hp} {n : Nat} {m : List (Str × Str)} {fs : List (List Nat)} {m0 : Bool} {zs : List (Addr × (Og × Pr))} (h : Mz H n m fs m0 zs) (nd : (zs.map (·.2.1)).Nodup) : packB n m fs ((ymz zs).map (·.2)) = true := by
  rw [ymz_pr]
  refine pack_is (m0 := m0) (by rw [List.map_map]; exact nd) fun z hz => ?_
  obtain ⟨y, hy, rfl⟩ := List.mem_map.mp hz
  exact (h y hy).2
section
variable {P : Program} {w : World} {K : PySem.W.Frag} {mg : Str → Option Value} {base : Heap} {f C : Addr} {fd' : FuncData}
theorem ok_pack {params : Arguments} {dvs : List V} {kws : List (Str × V)} (F : FunD K "pack" "pack" params (defBody s_pack) (defScope s_pack) dvs kws f fd') (T : Txt K mg) (TC : TabC K C) (cA : ∃ u, mg "ALL" = some u ∧ RelV (.str "all") u) (c_sets_and_needs : Nm P w K mg base CX0 6 "sets_and_needs" s_sets_and_needs ["table", "free"] (spSN K C)) (c_end : Nm P w K mg base CX0 8 "_end" s_end ["width", "known", "stretch", "goal"] (spEB true)) (c_pairs : Nm P w K mg base CX0 9 "_pairs" s_pairs ["width", "known", "lets_in"] (spPs))
    (c_Table_width : Prp P w K mg base CX0 1 C "width" "Table.width" s_Table_width ["self"] (spWidth C)) : FnG P w K mg base CX0 10 f fd' ["table", "free"] (spPk K C) := by
  obtain ⟨oc, od, dV, kV, doc, pm, an, cdv, ct, osl, rfl, lk, hcd, _, _⟩ := F.ex
  refine fnG_core0 lk hcd sc_pack (fun vs H Q E h => ?_) fun A outer s H vs Q E hr h => ?_
  · unfold spPk at h
    obtain ⟨a, F, n, m, fs, rfl, _⟩ := h
    rfl
  unfold spPk at h
  obtain ⟨a, F, n, m, fs, rfl, tf, k⟩ := h
  refine ⟨_, (C8.pss_cut (ps_set (i := 2) sc_pack.nd rfl (by first | exact Or.inl rfl | exact Or.inr rfl) (pe_g c_sets_and_needs hr (by decide) L2.pass0 bp_sets_and_needs (by rfl) (pa_cons (pv 0) (pa_cons (pv 1) pa_nil))))
      (C8.pss_cut (ps_asg (pe_dget hr.u1 (pv 2) pe_str (fun _ _ => rfl)) (pg_tup (by rfl) (pgs_cons (pg_name (i := 3) sc_pack.nd rfl (by first | exact Or.inl rfl | exact Or.inr rfl)) (pgs_cons (pg_name (i := 4) sc_pack.nd rfl (by first | exact Or.inl rfl | exact Or.inr rfl)) pgs_nil))))
      (pss_cons (ps_if (pt_cmpR (op_eqDK (K := K) rfl hr.u64) (pv 3) (pe_cst (by rfl) cA) (nomark _)) (pss_one (ps_ret (pe_lst pa_nil))) pss_nil)
      (pss_cons (ps_if (pt_cmpR (op_inK (K := K) rfl) pe_str (pv 3) rfl) (pss_one (ps_ret (pe_g c_pairs hr (by decide) L2.pass0 bp_pairs (by rfl) (pa_cons (pe_p c_Table_width TC.cl hr (by decide) L2.pass0 bm_Table_width (pv 0)) (pa_cons (pv 2) (pa_cons pe_bl pa_nil)))))) pss_nil)
      (C8.pss_cut (ps_setLc (i := 5) (own := [("goal", 6)]) (g := (gName 6)) (by rfl) sc_pack.nd rfl rfl (sw_true rfl rfl rfl (by decide +kernel)) (pi_listK (K := K) rfl (pv 3)) (blkOk_by (own := [("goal", 6)]) (N := ["table", "free", "known", "goals", "_", "outer", "goal"]) (sc := defScope s_pack) (by decide +kernel)) (fun _ _ _ _ _ => (pg_name (i := 6) sc_pack.nd rfl (by first | exact Or.inl rfl | exact Or.inr rfl))) (fun _ _ _ _ _ => pts_nil) (fun _ _ _ _ _ => (pe_tup (pa_cons pe_non (pa_cons (pe_g c_end hr (by decide) L2.pass0 bp_end (by rfl) (pa_cons (pe_p c_Table_width TC.cl hr (by decide) L2.pass0 bm_Table_width (pv 0)) (pa_cons (pv 2) (pa_cons pe_str (pa_cons (pv 6) pa_nil))))) pa_nil)))))
      (pss_one (ps_ret (pe_lst (StX.pa_star (pv 5) (StX.pa_star (pe_g c_pairs hr (by decide) L2.pass0 bp_pairs (by rfl) (pa_cons (pe_p c_Table_width TC.cl hr (by decide) L2.pass0 bm_Table_width (pv 0)) (pa_cons (pv 2) (pa_cons pe_bl pa_nil)))) pa_nil)))))))))), ?_⟩
  have n0 : 1 ≤ n := by have := tf.ok.w0; omega
  have n1 : n ≤ 100 := by have := tf.ok.w1; omega
  obtain ⟨dx, Dm, ha, hDm, hne⟩ := tf.ht
  have nds : ∀ t x, (SN n m fs t).1 = some x → x.Nodup := fun t x e => by
    unfold SN at e
    exact (SNk_sub (GS := ("hole" : Str) :: m.map (·.2)) (fun y g _ _ h => by
      unfold lab at h
      split at h
      · cases h
      · cases h
        exact goal_in m _) x e).1
  refine ⟨fun σ' H' => ∃ D hs ad, σ' = [some (.ref a), some (.ref F), some (.ref D), none, none, none, none] ∧ Same H H' ∧ Kno H' D n m fs hs ad, ?_, ?_⟩
  · refine ⟨_, rfl, ⟨_, rfl, ?_⟩⟩
    exact sn_go tf.ht tf.ok tf.hF tf.ff tf.nd tf.lf fun D H1 s1 nD ⟨hs, ad, ho, eD, ev⟩ => ⟨D, hs, ad, rfl, s1, n1, tf.ok, tf.ff, tf.lf, ho, eD, ev⟩
  rintro σ' H1 ⟨D, hs, ad, rfl, s1, kn⟩
  have hnil : [] ∈ kys hs := kys_mem.mpr (.inl rfl)
  obtain ⟨v, ec, hv⟩ := kn.ev [] hnil
  have zs0 := SN_sz (t := []) (fs := fs) tf.ok
  refine ⟨fun σ' H' => σ' = [some (.ref a), some (.ref F), some (.ref D), some v, some (.int ((SN n m fs []).2 : Nat)), none, none] ∧ H' = H1, ?_, ?_⟩
  · refine ⟨_, rfl, ⟨D, .ref (ad []), rfl, .inl ⟨_, skey [], .inl kn.eD, (by show V.str "" = V.str (SX.S []); decide +kernel), by rw [fd_val, if_pos hnil]⟩, ?_⟩⟩
    refine ⟨ad [], _, rfl, SqT.of ec, rfl, ⟨_, _, rfl, ⟨_, _, rfl, ⟨rfl, ?_⟩⟩⟩⟩
    exact ⟨rfl, rfl⟩
  rintro σ' H2 ⟨rfl, rfl⟩
  refine ⟨_, rfl, ⟨_, _, setv_dp hv, .str _, dS_shp zs0, all_shp, ?_⟩⟩
  refine ⟨_, rfl, ?_⟩
  rw [dS_eqv]
  have l0 : ([] : List Nat).length + n = n := Nat.zero_add n
  cases e : (SN n m fs []).1 with
  | none =>
    refine iteT ?_
    refine ⟨szl (Nat.zero_le _), fun L nL => ?_⟩
    refine k L [] _ (s1.new nL) (s1.back nL) upd_same (fun y hy => by cases hy) (decide_eq_true (show Keep [] from .nil)) ?_
    have := (pk_none (m0 := true) l0 e).2
    show 0 = _
    unfold cst inS
    rw [this, e]
    rfl
  | some z =>
    refine iteF ?_
    rw [e] at hv
    obtain ⟨A1, rfl, hA⟩ := hv
    obtain ⟨lz, gz⟩ := zs0 z e
    refine ⟨_, rfl, ⟨A1, _, rfl, .inl (SqL.of hA), rfl, flat_strs _, ?_⟩⟩
    refine ⟨_, rfl, ?_⟩
    have ei : (if (false : Bool) = true then !inV (.str "hole") (z.map V.str) else inV (.str "hole") (z.map V.str)) = decide (("hole" : Str) ∈ z) := by rw [if_neg (by simp), inV_strs]
    rw [ei]
    have ecst : cst (SN n m fs []) "hole" = (SN n m fs []).2 + (if ("hole" : Str) ∈ z then 0 else 1) := by
      have e2 : SN n m fs [] = (some z, (SN n m fs []).2) := Prod.ext e rfl
      exact (congrArg (fun s => cst s "hole") e2).trans (cst_some z _ _)
    by_cases hh : ("hole" : Str) ∈ z
    · rw [decide_eq_true hh]
      refine iteT ?_
      refine ⟨_, rfl, ⟨a, dx, _, rfl, s1 _ _ ha, width_go (tf.ht.to s1) ?_⟩⟩
      refine ⟨_, rfl, ?_⟩
      refine ps_go kn n0 fun L zs H3 s3 nL eL mz pm => ?_
      have nd : (zs.map (·.2.1)).Nodup := pm.nodup_iff.mpr (pk_nd nds n [])
      refine k L (ymz zs) H3 (s1.trans s3) (s1.back nL) (by rw [ymz_vz]; exact eL) (ymz_ps mz) (ymz_pack mz nd) ?_
      have h1 := pk_len (m0 := false) l0 e
      have h2 := pm.length_eq
      rw [List.length_map] at h2
      unfold ymz
      rw [List.length_map, h2]
      have h3 : md (SN n m fs) false [] = false := rfl
      rw [h3, if_neg (by simp)] at h1
      rw [ecst, if_pos hh]
      omega
    · rw [decide_eq_false hh]
      refine iteF ?_
      have k0 : ∀ g ∈ z, Cn (SN n m fs) true [] g := fun g hg => ⟨z, e, fun _ => rfl, fun _ => hg⟩
      refine ⟨fun σ' H' => ∃ O us, σ' = [some (.ref a), some (.ref F), some (.ref D), some (.ref A1), some (.int ((SN n m fs []).2 : Nat)), some (.ref O), none] ∧ Same H2 H' ∧ H' O = some (.lst (vz us)) ∧ Mz H' n m fs true us ∧ us.map (·.2.1) = z.map (fun g => ((none, g) : Og)), ?_, ?_⟩
      · refine ⟨_, rfl, ⟨A1, rfl, ⟨_, SqL.of hA⟩, fun B nB => ?_⟩⟩
        refine lc_it (walk_list (xs := z.map V.str)) (fun i H' => ∃ us : List (Addr × (Og × Pr)), H' B = some (.lst (vz us)) ∧ Mz H' n m fs true us ∧ us.map (·.2.1) = (z.take i).map (fun g => ((none, g) : Og)) ∧ Same H2 H') ⟨[], upd_same, fun y hy => (by cases hy), rfl, (Same.refl H2).new nB⟩ (fun i H' _ h => let ⟨_, _, _, _, s⟩ := h; SqL.of (s _ _ hA)) ?_ ?_
        · rintro i w Ha Hb hi ⟨us, eB, mu, eu, sm⟩ ⟨rfl, hw⟩
          obtain ⟨g, hg, rfl⟩ : ∃ g, z[i]? = some g ∧ w = .str g := by
            rw [List.getElem?_map] at hw
            cases q : z[i]? with
            | none => rw [q] at hw; cases hw
            | some g => rw [q] at hw; exact ⟨g, rfl, (Option.some.inj hw).symm⟩
          have gm := List.mem_of_getElem? hg
          refine ⟨rfl, ?_⟩
          dsimp only [tYes]
          rw [if_pos rfl]
          have sm1 := s1.trans sm
          refine ⟨_, rfl, ⟨a, dx, _, rfl, sm1 _ _ ha, width_go (tf.ht.to sm1) ?_⟩⟩
          refine ⟨_, rfl, ⟨_, rfl, ?_⟩⟩
          rw [show V.str "" = sx [] by show V.str "" = V.str (SX.S []); decide +kernel]
          refine eb_go (m0 := true) (kn.to sm) n0 hnil (k0 g gm) rfl fun ze Hc sc eb' el we => ?_
          have smc := sm.trans sc
          refine ⟨szl (by show 2 ≤ 1000000; decide), fun t1 nt1 => ?_⟩
          have eBc := sc _ _ eB
          have lus : us.length ≤ 1000 := by
            have := congrArg List.length eu
            rw [List.length_map, List.length_map, List.length_take] at this
            omega
          have isp := isP_out we eb' el (fun q => hh (q ▸ gm))
          refine ⟨vz us, updn (nonn nt1 eBc) eBc, szt (by rw [vz_len]; omega), us ++ [(t1, ((none, g), (none, ze)))], ?_, ?_, ?_, fun b o e => updn (nonn nB e) (updn (nonn nt1 (smc _ _ e)) (smc _ _ e))⟩
          · rw [upd_same]
            unfold vz
            rw [List.map_append]
            rfl
          · intro y hy
            have nBt : ∀ {b l}, upd Hc t1 (.tup [.non, sx ze]) b = some (.tup l) → upd (upd Hc t1 (.tup [.non, sx ze])) B (.lst (vz us ++ [.ref t1])) b = some (.tup l) := fun {b l} e => updn (fun z => by rw [z, updn (nonn nt1 eBc) eBc] at e; cases e) e
            rcases List.mem_append.mp hy with h | h
            · have := sc _ _ (mu y h).1
              exact ⟨nBt (updn (nonn nt1 this) this), (mu y h).2⟩
            · rw [List.mem_singleton.mp h]
              exact ⟨nBt upd_same, isp⟩
          · rw [List.map_append, eu, List.take_add_one, hg, List.map_append]
            rfl
        · rintro H3 ⟨us, eB, mu, eu, sm⟩
          rw [List.length_map, List.take_length] at eu
          exact ⟨B, us, rfl, sm, eB, mu, eu⟩
      rintro σ' H3 ⟨O, us, rfl, s3, eO, mu, eu⟩
      have s13 := s1.trans s3
      refine ⟨_, rfl, ⟨O, vz us, rfl, Or.inr (SqL.of eO), ?_⟩⟩
      refine ⟨_, rfl, ⟨a, dx, _, rfl, s13 _ _ ha, width_go (tf.ht.to s13) ?_⟩⟩
      refine ⟨_, rfl, ?_⟩
      refine ps_go (kn.to s3) n0 fun L zs H4 s4 nL eL mz pm => ?_
      refine ⟨L, vz zs, rfl, Or.inr (SqL.of eL), ?_⟩
      have eO4 := s4 _ _ eO
      have lus : us.length = z.length := by
        have := congrArg List.length eu
        rw [List.length_map, List.length_map] at this
        exact this
      have h1 := pk_len (m0 := true) l0 e
      have h2 := pm.length_eq
      rw [List.length_map] at h2
      have h3 : md (SN n m fs) true [] = true := rfl
      rw [h3, if_pos rfl] at h1
      have few := pk_few (n := n) (m := m) (fs := fs) (m0 := true) tf.ok.few
      have mu4 := mu.to fun b l e => s4 _ _ e
      have mall : Mz H4 n m fs true (us ++ zs) := fun y hy => (List.mem_append.mp hy).elim (mu4 y) (mz y)
      have nd : ((us ++ zs).map (·.2.1)).Nodup := by
        rw [List.map_append, eu, List.nodup_append]
        refine ⟨nd_map (nds _ _ e) fun a _ b _ h => (Prod.mk.inj h).2, pm.nodup_iff.mpr (pk_nd nds n []), fun x hx y hy q => ?_⟩
        subst q
        obtain ⟨g, _, rfl⟩ := List.mem_map.mp hx
        obtain ⟨u, h, _⟩ := pk_mem (pm.mem_iff.mp hy)
        cases h
      refine ⟨szl (by rw [List.length_append, List.append_nil, vz_len, vz_len]; omega), fun L2 nL2 => ?_⟩
      have s5 := (s13.trans s4).new (o := HO.lst (vz us ++ (vz zs ++ []))) nL2
      refine k L2 (ymz (us ++ zs)) _ s5 ((s13.trans s4).back nL2) ?_ ?_ (ymz_pack mall nd) ?_
      · rw [upd_same, ymz_vz, List.append_nil]
        unfold vz
        rw [List.map_append]
      · exact fun y hy => ⟨updn (nonn nL2 (ymz_ps mall y hy).1) (ymz_ps mall y hy).1, (ymz_ps mall y hy).2⟩
      · unfold ymz
        rw [List.length_map, List.length_append, ecst, if_neg hh]
        omega
end
open PySem PySem.Spec PyProof.Rows
open L2 hiding pass0
def fb (c : Nat) : Nat := if c = 48 then 49 else if c = 49 then 48 else c
theorem fb_fb (c : Nat) : fb (fb c) = c := by
  unfold fb
  by_cases a : c = 48
  · subst a; rfl
  by_cases b : c = 49
  · subst b; rfl
  rw [if_neg a, if_neg b, if_neg a, if_neg b]
def fl (t : List Nat) : List Nat := t.map fb
theorem fl_fl (t : List Nat) : fl (fl t) = t := by
  unfold fl
  rw [List.map_map, show fb ∘ fb = id from funext fb_fb, List.map_id]
theorem fl_len (t : List Nat) : (fl t).length = t.length := List.length_map ..
theorem fl_app (s t : List Nat) : fl (s ++ t) = fl s ++ fl t := List.map_append
theorem fl_take (t : List Nat) (k : Nat) : (fl t).take k = fl (t.take k) := by unfold fl; rw [List.map_take]
theorem fl_bl {t : List Nat} (h : M.BL t) : M.BL (fl t) := fun c hc => by
  obtain ⟨d, hd, rfl⟩ := List.mem_map.mp hc
  rcases h d hd with rfl | rfl
  · exact .inr rfl
  · exact .inl rfl
theorem fl_bl' {t : List Nat} (h : M.BL (fl t)) : M.BL t := by have := fl_bl h; rwa [fl_fl] at this
theorem fl_inj {s t : List Nat} (h : fl s = fl t) : s = t := by rw [← fl_fl s, h, fl_fl]
theorem fl_pre1 {s t : List Nat} (h : s <+: t) : fl s <+: fl t := by
  obtain ⟨u, rfl⟩ := h
  exact ⟨fl u, (fl_app _ _).symm⟩
theorem fl_pre {s t : List Nat} : fl s <+: fl t ↔ s <+: t := ⟨fun h => by have := fl_pre1 h; rwa [fl_fl, fl_fl] at this, fl_pre1⟩
theorem frB_fl (fs : List (List Nat)) (z : List Nat) : M.frB (fs.map fl) (fl z) = M.frB fs z := by
  unfold M.frB
  rw [List.any_map]
  congr 1
  funext f
  exact decide_eq_decide.mpr fl_pre
/-- a text turned -/
def fS (s : Str) : Str := SX.S (fl s.cps.toList)
theorem fS_S (t : List Nat) : fS (SX.S t) = SX.S (fl t) := by unfold fS; rw [tl_S]
theorem fS_fS (s : Str) : fS (fS s) = s := by unfold fS; rw [tl_S, fl_fl, SX.S_tl]
theorem fS_inj {s t : Str} (h : fS s = fS t) : s = t := by rw [← fS_fS s, h, fS_fS]
def flm (m : List (Str × Str)) : List (Str × Str) := m.map fun q => (fS q.1, q.2)
theorem flm_len (m : List (Str × Str)) : (flm m).length = m.length := List.length_map ..
theorem look_flm : ∀ (m : List (Str × Str)) (x : Str), look (flm m) (fS x) = look m x
  | [], _ => rfl
  | p :: m, x => by
    have ih := look_flm m x
    unfold look flm at ih ⊢
    by_cases c : p.1 = x
    · rw [List.map_cons, List.find?_cons_of_pos (by rw [c]; exact decide_eq_true rfl), List.find?_cons_of_pos (p := fun p : Str × Str => decide (p.1 = x)) (decide_eq_true c)]
      rfl
    · rw [List.map_cons, List.find?_cons_of_neg, List.find?_cons_of_neg (by simpa using c)]
      · exact ih
      · exact fun e => c (fS_inj (of_decide_eq_true e))
theorem look_flS (m : List (Str × Str)) (t : List Nat) : look (flm m) (SX.S (fl t)) = look m (SX.S t) := by rw [← fS_S, look_flm]
theorem flm_keys (m : List (Str × Str)) : (flm m).map (·.1) = (m.map (·.1)).map fS := by
  unfold flm
  rw [List.map_map, List.map_map]
  rfl
theorem flm_nd {m : List (Str × Str)} (h : (m.map (·.1)).Nodup) : ((flm m).map (·.1)).Nodup := by
  rw [flm_keys]
  exact nd_map h fun a _ b _ e => fS_inj e
theorem gv_fl (m : List (Str × Str)) (z : List Nat) : ∀ i, gv (look (flm m)) (SX.S (fl z)) i = gv (look m) (SX.S z) i
  | 0 => rfl
  | i + 1 => by rw [gv_succ, gv_succ, px_S, px_S, fl_take, look_flS, gv_fl m z i]
theorem gT_fl (m : List (Str × Str)) (z : List Nat) : gT (flm m) (fl z) = gT m z := by
  unfold gT
  rw [goal_gv, goal_gv, gv_fl, sx_len, sx_len, fl_len]
theorem lab_fl (m : List (Str × Str)) (fs : List (List Nat)) (z : List Nat) : lab (flm m) (fs.map fl) (fl z) = lab m fs z := by
  unfold lab
  rw [frB_fl]
  have := gT_fl m z
  unfold gT at this
  rw [this]
theorem shr_ts {x y : List Str} (h : TS x ∧ x.Nodup) : TS (shr x y) ∧ (shr x y).Nodup := ⟨h.1.filter _, h.2.filter _⟩
theorem shr_comm {x y : List Str} (h : TS x ∧ x.Nodup) (g : TS y ∧ y.Nodup) : shr x y = shr y x := by
  refine ts_uniq ((List.perm_ext_iff_of_nodup (shr_ts h).2 (shr_ts g).2).mpr fun z => ?_) (shr_ts h).1 (shr_ts g).1
  rw [mem_shr, mem_shr]
  exact And.comm
theorem both_comm {a b : SNd} (h : ∀ x, a.1 = some x → TS x ∧ x.Nodup) (g : ∀ x, b.1 = some x → TS x ∧ x.Nodup) : both2 a b = both2 b a := by
  obtain ⟨a, i⟩ := a
  obtain ⟨b, j⟩ := b
  cases a with
  | none => rw [both_nl, both_nr, Nat.add_comm]
  | some x =>
    cases b with
    | none => rw [both_nl, both_nr, Nat.add_comm]
    | some y =>
      rw [both_ss, both_ss, shr_comm (h x rfl) (g y rfl), Nat.add_comm i j, tsort_uniq ((tsort_perm (x ++ y)).trans List.perm_append_comm) (tsort_ts (x ++ y))]
theorem SNk_ts (lab : List Nat → Option Str) : ∀ (k : Nat) (t : List Nat) (x : List Str), (SNk lab k t).1 = some x → TS x ∧ x.Nodup
  | 0, t, x, e => by
    unfold SNk at e
    dsimp only at e
    cases c : lab t with
    | none => rw [c] at e; cases e
    | some g =>
      rw [c] at e
      obtain rfl : [g] = x := Option.some.inj e
      exact ⟨List.pairwise_singleton _ _, by simp⟩
  | k + 1, t, z, e => by
    have h := SNk_ts lab k (t ++ [48])
    have g := SNk_ts lab k (t ++ [49])
    unfold SNk at e
    generalize SNk lab k (t ++ [48]) = a at h e
    generalize SNk lab k (t ++ [49]) = b at g e
    obtain ⟨a, i⟩ := a
    obtain ⟨b, j⟩ := b
    cases a with
    | none => rw [both_nl] at e; exact g z e
    | some x =>
      cases b with
      | none => rw [both_nr] at e; exact h z e
      | some y =>
        rw [both_ss] at e
        split at e
        · rename_i q
          obtain rfl := Option.some.inj e
          refine ⟨tsort_ts _, (tsort_perm _).nodup_iff.mpr (List.nodup_append.mpr ⟨(h x rfl).2, (g y rfl).2, fun u hu v hv c => ?_⟩)⟩
          subst c
          have := mem_shr.mpr ⟨hu, hv⟩
          rw [q] at this
          cases this
        · obtain rfl := Option.some.inj e
          exact shr_ts (h x rfl)
theorem SNk_fl {lab lab' : List Nat → Option Str} (h : ∀ z, lab' (fl z) = lab z) : ∀ (k : Nat) (t : List Nat), SNk lab' k (fl t) = SNk lab k t
  | 0, t => by unfold SNk; rw [h]
  | k + 1, t => by
    show both2 (SNk lab' k (fl t ++ [48])) (SNk lab' k (fl t ++ [49])) = both2 (SNk lab k (t ++ [48])) (SNk lab k (t ++ [49]))
    rw [show fl t ++ [48] = fl (t ++ [49]) from (fl_app t [49]).symm, show fl t ++ [49] = fl (t ++ [48]) from (fl_app t [48]).symm, SNk_fl h k, SNk_fl h k]
    exact both_comm (SNk_ts lab k _) (SNk_ts lab k _)
theorem SN_fl (n : Nat) (m : List (Str × Str)) (fs : List (List Nat)) (t : List Nat) : SN n (flm m) (fs.map fl) (fl t) = SN n m fs t := by
  unfold SN
  rw [fl_len]
  exact SNk_fl (lab_fl m fs) _ _
theorem inh_fl {f f' : List Nat → SNd} (h : ∀ s, f' (fl s) = f s) (t : List Nat) : inh f' (fl t) = inh f t := by
  unfold inh
  rw [fl_len]
  exact fold_same fun k _ g => by rw [fl_take, h]
theorem rowT_fl {n : Nat} {f f' : List Nat → SNd} (h : ∀ s, f' (fl s) = f s) (t : List Nat) : rowT n f' (fl t) = rowT n f t := by
  unfold rowT gl
  rw [h, inh_fl h, fl_len]
  have e : (M.BL (fl t) ∧ t.length ≤ n ∧ inS (f t) (inh f t) = false) ↔ (M.BL t ∧ t.length ≤ n ∧ inS (f t) (inh f t) = false) := ⟨fun q => ⟨fl_bl' q.1, q.2⟩, fun q => ⟨fl_bl q.1, q.2⟩⟩
  by_cases q : M.BL t ∧ t.length ≤ n ∧ inS (f t) (inh f t) = false
  · rw [if_pos q, if_pos (e.mpr q)]
  · rw [if_neg q, if_neg fun z => q (e.mp z)]
theorem Due.fl {n : Nat} {m d : List (Str × Str)} {fs : List (List Nat)} (h : Due n (SN n m fs) d) : Due n (SN n (flm m) (fs.map fl)) (flm d) := ⟨flm_nd h.nd, fun t => by
  have e : t = Cov.fl (Cov.fl t) := (fl_fl t).symm
  rw [e, look_flS, h.at', ← rowT_fl (SN_fl n m fs)]⟩
def flP (q : Pr) : Pr := (q.1.map fl, fl q.2)
def flE (e : Str × Str) : Str × Str := (fS e.1, e.2)
theorem okP_fl (d : List (Str × Str)) (fs : List (List Nat)) (q : Pr) : okP (flm d) (fs.map fl) (flP q) = okP d fs q := by
  obtain ⟨b, e⟩ := q
  unfold okP flP
  cases b with
  | none => simp only [Option.map_none, frB_fl, gT_fl]
  | some z => simp only [Option.map_some, frB_fl, gT_fl]
theorem px_fl (e : List Nat) (i : Nat) : px (SX.S (fl e)) i = fS (px (SX.S e) i) := by rw [px_S, px_S, fS_S, fl_take]
theorem cpl_fl : ∀ (a b : List Nat), cpl (fl a) (fl b) = cpl a b
  | [], b => by cases b <;> rfl
  | a :: x, [] => rfl
  | a :: x, b :: y => by
    have ih := cpl_fl x y
    show cpl (fb a :: fl x) (fb b :: fl y) = cpl (a :: x) (b :: y)
    unfold cpl
    rw [ih]
    by_cases q : a = b
    · subst q; simp
    · rw [if_neg q, if_neg fun e => q (by rw [← fb_fb a, e, fb_fb])]
theorem path_fl (b : Option (List Nat)) (e : List Nat) (n : Nat) : pathOf (oB (b.map fl)) (SX.S (fl e)) n = (pathOf (oB b) (SX.S e) n).map flE := by
  cases b with
  | none =>
    show pathN _ _ = (pathN _ _).map flE
    unfold pathN
    rw [List.map_map]
    exact List.map_congr_left fun i _ => by rw [px_fl]; rfl
  | some z =>
    show pathP (SX.S (fl z)) (SX.S (fl e)) n = (pathP (SX.S z) (SX.S e) n).map flE
    have hc : cpS (SX.S (fl z)) (SX.S (fl e)) = cpS (SX.S z) (SX.S e) := by
      unfold cpS
      rw [tl_S, tl_S, tl_S, tl_S, cpl_fl]
    unfold pathP
    rw [hc, List.map_append]
    unfold pathU pathD
    rw [List.map_map, List.map_map]
    congr 1
    · exact List.map_congr_left fun i _ => by rw [px_fl]; rfl
    · exact List.map_congr_left fun i _ => by rw [px_fl]; rfl
def flN (x : En) : En := (fS x.1, x.2)
theorem ents_fl (n : Nat) (d : List (Str × Str)) (q : Pr) : ents n (gT (flm d)) (flP q) = (ents n (gT d) q).map flN := by
  unfold ents
  rw [show (flP q).2 = fl q.2 from rfl, gT_fl, show (flP q).1 = q.1.map fl from rfl, path_fl, List.map_map, List.map_map]
  rfl
theorem RB_fl (e x : En) : RB (flN e) (flN x) = RB e x := by
  unfold RB flN
  dsimp only
  rw [show decide (fS e.1 = fS x.1) = decide (e.1 = x.1) from decide_eq_decide.mpr ⟨fS_inj, fun q => by rw [q]⟩]
theorem flat_fl (n : Nat) (d : List (Str × Str)) : ∀ qs : List Pr, flat n (gT (flm d)) (qs.map flP) = (flat n (gT d) qs).map flN
  | [] => rfl
  | q :: qs => by
    have ih := flat_fl n d qs
    unfold flat at ih ⊢
    rw [List.map_cons, List.flatMap_cons, List.flatMap_cons, ih, ents_fl, List.map_append]
theorem pack_fl (n : Nat) (d : List (Str × Str)) (fs : List (List Nat)) (qs : List Pr) : packB n (flm d) (fs.map fl) (qs.map flP) = packB n d fs qs := by
  unfold packB
  rw [flat_fl, List.all_map]
  congr 1
  · exact congrArg (fun p => qs.all p) (funext fun q => okP_fl d fs q)
  · refine decide_eq_decide.mpr ?_
    unfold Keep
    rw [List.pairwise_map]
    simp only [RB_fl]
open PySem PySem.Spec PyProof.Rows
open L2 hiding pass0
theorem goal_gS (m : List (Str × Str)) (z : List Nat) : goalT (look m) (SX.S z) = SX.S (gS m z) := by unfold gS; rw [SX.S_tl]
theorem lab_0 {m r : List (Str × Str)} (h : (r.map (·.1)).Nodup) (f g : List (List Nat)) (z : List Nat) : lab (jn m r) (fa f g) (48 :: z) = lab m f z := by
  unfold lab
  rw [frB_0, goal_gS, goal_gS, gS_j0 h]
theorem lab_1 {m r : List (Str × Str)} (h : (r.map (·.1)).Nodup) (f g : List (List Nat)) (z : List Nat) : lab (jn m r) (fa f g) (49 :: z) = lab r g z := by
  unfold lab
  rw [frB_1, goal_gS, goal_gS, gS_j1 h]
theorem SNk_cons {lab lab' : List Nat → Option Str} {b : Nat} (h : ∀ z, lab' (b :: z) = lab z) : ∀ (k : Nat) (t : List Nat), SNk lab' k (b :: t) = SNk lab k t
  | 0, t => by unfold SNk; rw [h]
  | k + 1, t => by
    show both2 (SNk lab' k (b :: (t ++ [48]))) (SNk lab' k (b :: (t ++ [49]))) = both2 (SNk lab k (t ++ [48])) (SNk lab k (t ++ [49]))
    rw [SNk_cons h k, SNk_cons h k]
theorem SN_0 {n : Nat} {m r : List (Str × Str)} (h : (r.map (·.1)).Nodup) (f g : List (List Nat)) (t : List Nat) : SN (n + 1) (jn m r) (fa f g) (48 :: t) = SN n m f t := by
  unfold SN
  rw [List.length_cons, Nat.add_sub_add_right]
  exact SNk_cons (lab_0 h f g) _ _
theorem SN_1 {n : Nat} {m r : List (Str × Str)} (h : (r.map (·.1)).Nodup) (f g : List (List Nat)) (t : List Nat) : SN (n + 1) (jn m r) (fa f g) (49 :: t) = SN n r g t := by
  unfold SN
  rw [List.length_cons, Nat.add_sub_add_right]
  exact SNk_cons (lab_1 h f g) _ _
theorem SN_jn {n : Nat} {m r : List (Str × Str)} (h : (r.map (·.1)).Nodup) (f g : List (List Nat)) : SN (n + 1) (jn m r) (fa f g) [] = both2 (SN n m f []) (SN n r g []) := by
  rw [← SN_0 (n := n) h f g [], ← SN_1 (n := n) h f g []]
  unfold SN
  rw [List.length_nil, Nat.sub_zero, List.length_singleton, List.length_singleton, Nat.add_sub_cancel]
  rfl
theorem like_back {n : Nat} {m r d : List (Str × Str)} {f g : List (List Nat)} (h : (r.map (·.1)).Nodup) (hd : (d.map (·.1)).Nodup) (lk : Like (n + 1) (jn m r) d (fa f g)) : Like n r (wi d (SX.S [49])) g := fun z zb zl nf => by
  have e := lk (49 :: z) (fun c hc => (List.mem_cons.mp hc).elim (fun q => .inr q) (zb c)) (by rw [List.length_cons, zl]) (by rw [frB_1]; exact nf)
  rw [goal_gS, goal_gS, gS_j1 h] at e
  rw [goal_gS, goal_gS, gS_wi hd]
  exact e
theorem all_free {n : Nat} (m m2 : List (Str × Str)) : Like n m m2 [[]] := fun z _ _ nf => by
  unfold M.frB at nf
  rw [List.any_cons, Bool.or_eq_false_iff] at nf
  exact absurd (List.nil_prefix) (of_decide_eq_false nf.1)
theorem cst_free {n : Nat} (m : List (Str × Str)) : cst (SN n m [[]] []) "hole" = 0 := by
  have e : SN n m [[]] [] = SN n [] [[]] [] := (all_free m []).sn [] (fun c hc => by cases hc) (Nat.zero_le _)
  rw [e]
  exact Nat.le_zero.mp few_le
theorem due_free {n : Nat} {m d : List (Str × Str)} (du : Due n (SN n m [[]]) d) : d = [] := by
  have := du.len
  rw [cst_free] at this
  exact List.length_eq_zero_iff.mp this
open PySem PySem.Spec PyProof.Rows
open L2 hiding pass0
abbrev s_law_flip : Stmt := top 78
theorem sc_law_flip : FnScope ["_law_spot", "_law_bit"] ["_law_spot"] (defScope s_law_flip) := ⟨rfl, rfl, rfl, by decide +kernel, rfl, by decide +kernel, by decide +kernel⟩
theorem bp_law_flip : BndP "_law_flip" s_law_flip ["_law_spot"] := fun _ _ _ _ _ _ us h => match us, h with | [_], _ => rfl
abbrev s_law_flipped : Stmt := top 79
theorem sc_law_flipped : FnScope ["_law_rows", "_law_spot"] ["_law_rows"] (defScope s_law_flipped) := ⟨rfl, rfl, rfl, by decide +kernel, rfl, by decide +kernel, by decide +kernel⟩
theorem bp_law_flipped : BndP "_law_flipped" s_law_flipped ["_law_rows"] := fun _ _ _ _ _ _ us h => match us, h with | [_], _ => rfl
@[irreducible] def spFlip : Sp := fun vs H Q _ => ∃ t : List Nat, vs = [sx t] ∧ M.BL t ∧ t.length ≤ 1000 ∧ ∀ H', Same H H' → Q (sx (fl t)) H'
theorem flip_go {t : List Nat} {H : Hp} {Q : VK} {E : XK} (h : M.BL t) (l : t.length ≤ 1000) (k : ∀ H', Same H H' → Q (sx (fl t)) H') : spFlip [sx t] H Q E := by
  unfold spFlip
  exact ⟨t, rfl, h, l, k⟩
@[irreducible] def spFld : Sp := fun vs H Q _ => ∃ (D : Addr) (m : List (Str × Str)), vs = [.ref D] ∧ H D = some (.dK (tk m)) ∧ (m.map (·.1)).Nodup ∧ m.length ≤ 1000 ∧ (∀ q ∈ m, M.BL q.1.cps.toList ∧ q.1.length ≤ 1000) ∧ ∀ R H', Same H H' → H R = none → H' R = some (.dK (tk (flm m))) → Q (.ref R) H'
theorem fld_go {D : Addr} {m : List (Str × Str)} {H : Hp} {Q : VK} {E : XK} (hD : H D = some (.dK (tk m))) (nd : (m.map (·.1)).Nodup) (lm : m.length ≤ 1000) (rk : ∀ q ∈ m, M.BL q.1.cps.toList ∧ q.1.length ≤ 1000) (k : ∀ R H', Same H H' → H R = none → H' R = some (.dK (tk (flm m))) → Q (.ref R) H') : spFld [.ref D] H Q E := by
  unfold spFld
  exact ⟨D, m, rfl, hD, nd, lm, rk, k⟩
def nb2 : List (Str × Str) := [("0", "1"), ("1", "0")]
/-- a list of tuples of two texts, made since -/
def LS (H0 : Hp) (B : Addr) (m : List (Str × Str)) (H : Hp) : Prop := (∃ ts : List Addr, H B = some (.lst (ts.map V.ref)) ∧ Tq H ts m) ∧ Same H0 H
theorem LS.nil {B : Addr} {H0 : Hp} (nB : H0 B = none) : LS H0 B [] (upd H0 B (.lst [])) := ⟨⟨[], upd_same, .nil⟩, fun b o e => updn (nonn nB e) e⟩
theorem LS.turn {B t : Addr} {H0 H1 H2 : Hp} {x y : Str} {m : List (Str × Str)} (h : LS H0 B m H1) (nB : H0 B = none) (s : Same H1 H2) (nt : H2 t = none) (hl : m.length ≤ 100000) :
    ∃ acc, upd H2 t (.tup [.str x, .str y]) B = some (.lst acc) ∧ acc.length < sizeLine ∧ LS H0 B (m ++ [(x, y)]) (upd (upd H2 t (.tup [.str x, .str y])) B (.lst (acc ++ [.ref t]))) := by
  obtain ⟨⟨ts, hB, tq⟩, sm⟩ := h
  have hB2 := s _ _ hB
  have nBt : B ≠ t := nonn nt hB2
  refine ⟨ts.map V.ref, updn nBt hB2, szt (by rw [List.length_map, tq.len]; omega), ⟨ts ++ [t], by rw [upd_same, List.map_append]; rfl, ?_⟩, fun b o e => updn (nonn nB e) (updn (nonn nt (s _ _ (sm _ _ e))) (s _ _ (sm _ _ e)))⟩
  have t2 : Tq (upd H2 t (.tup [.str x, .str y])) (ts ++ [t]) (m ++ [(x, y)]) := Tq.app (.cons (q := (x, y)) upd_same .nil) (tq.mono fun a l e => updn (nonn nt (s _ _ e)) (s _ _ e))
  refine t2.mono fun a l e => updn (fun z => ?_) e
  rw [z, updn nBt hB2] at e
  cases e
section
variable {P : Program} {w : World} {K : PySem.W.Frag} {mg : Str → Option Value} {base : Heap} {f : Addr} {fd' : FuncData}
theorem ok_flip (F : Fun K "_law_flip" "_law_flip" s_law_flip f fd') (hm : mg "_law_flip" = some (.ref f)) (T : Txt K mg) : Nm P w K mg base CX0 1 "_law_flip" s_law_flip ["_law_spot"] (spFlip) := by
  refine nm_of F hm sc_law_flip (fun vs H Q E h => ?_) fun cdv A outer s H vs Q E hr h => ?_
  · unfold spFlip at h
    obtain ⟨t, rfl, hb, hl, k⟩ := h
    subst_vars
    rfl
  unfold spFlip at h
  obtain ⟨t, rfl, hb, hl, k⟩ := h
  refine ⟨_, (pss_one (ps_ret (pe_join pe_str (pe_lc (own := [("_law_bit", 1)]) (g := (gName 1)) (by rfl) sc_law_flip.nd (pi_str (pv 0)) (blkOk_by (own := [("_law_bit", 1)]) (N := ["_law_spot", "_law_bit"]) (sc := defScope s_law_flip) (by decide +kernel)) (fun _ _ _ _ _ => (pg_name (i := 1) sc_law_flip.nd rfl (by first | exact Or.inl rfl | exact Or.inr rfl))) (fun _ _ _ _ _ => pts_nil) (fun _ _ _ _ _ => (pe_dget hr.u1 (pe_disp (pps_cons pe_str pe_str (pps_cons pe_str pe_str pps_nil)) (by rfl) (by rfl) (fun z => by cases z) (by decide)) (pv 1) (fun _ _ => rfl))))))), ?_⟩
  refine ⟨⟨_, rfl⟩, ⟨_, rfl, ⟨_, rfl, fun B nB => ?_⟩⟩⟩
  have hcp : ∀ i, (SX.S t).cps[i]? = t[i]? := fun i => List.getElem?_toArray (xs := t)
  have hsz : (SX.S t).cps.size = t.length := sx_len t
  refine lc_it (walk_str (z := SX.S t)) (fun i H' => H' B = some (.lst (((fl (t.take i)).map sg).map V.str)) ∧ Same H H') ⟨upd_same, (Same.refl H).new nB⟩ (fun _ _ _ _ => trivial) ?_ ?_
  · rintro i x H1 H2 hi ⟨eB, sm⟩ ⟨rfl, c, hc, rfl⟩
    rw [hcp] at hc
    have hcm := hb c (List.mem_of_getElem? hc)
    refine ⟨rfl, ?_⟩
    dsimp only [tYes]
    rw [if_pos rfl]
    intro N nN
    refine ⟨upd_same, tk nb2, rfl, by decide, ?_⟩
    rw [mrg_nil (m := nb2) (by decide)]
    have eB2 := updn (o := HO.dK (tk nb2)) (nonn nN eB) (updn (o := HO.dK []) (nonn nN eB) eB)
    have eN : upd (upd H2 N (.dK [])) N (.dK (tk nb2)) N = some (.dK (tk nb2)) := upd_same
    have s2 : Same H (upd (upd H2 N (.dK [])) N (.dK (tk nb2))) := fun b o e => updn (nonn nN (sm _ _ e)) (updn (nonn nN (sm _ _ e)) (sm _ _ e))
    generalize upd (upd H2 N (.dK [])) N (.dK (tk nb2)) = H3 at eB2 eN s2 ⊢
    have hv : valV (tk nb2) (Sum.inr (sg c)) = some (.str (sg (fb c))) := by
      rcases hcm with rfl | rfl <;> decide +kernel
    refine ⟨_, rfl, ⟨N, .str (sg (fb c)), rfl, .inl ⟨tk nb2, Sum.inr (sg c), .inl eN, rfl, hv.symm⟩, ?_⟩⟩
    refine ⟨_, eB2, szt (by rw [List.length_map, List.length_map, fl_len, List.length_take]; omega), ?_, fun b o e => updn (nonn nB e) (s2 _ _ e)⟩
    rw [upd_same, List.take_add_one, hc, fl_app, List.map_append, List.map_append]
    rfl
  · rintro H1 ⟨eB, sm⟩
    rw [hsz, List.take_length] at eB
    refine ⟨_, _, (fl t).map sg, rfl, rfl, Or.inl (SqL.of eB), ?_, ?_⟩
    · rw [sum_sg, List.length_map]
      show (fl t).length + (fl t).length * 0 ≤ _
      rw [fl_len]
      omega
    · show Q (.str (Txt.join "" ((fl t).map sg))) H1
      rw [join_sg]
      exact k _ sm
theorem ok_flipped (F : Fun K "_law_flipped" "_law_flipped" s_law_flipped f fd') (hm : mg "_law_flipped" = some (.ref f)) (T : Txt K mg) (c_law_flip : Nm P w K mg base CX0 1 "_law_flip" s_law_flip ["_law_spot"] (spFlip)) : Nm P w K mg base CX0 2 "_law_flipped" s_law_flipped ["_law_rows"] (spFld) := by
  refine nm_of F hm sc_law_flipped (fun vs H Q E h => ?_) fun cdv A outer s H vs Q E hr h => ?_
  · unfold spFld at h
    obtain ⟨D, m, rfl, hD, nd, lm, rk, k⟩ := h
    subst_vars
    rfl
  unfold spFld at h
  obtain ⟨D, m, rfl, hD, nd, lm, rk, k⟩ := h
  refine ⟨_, (pss_one (ps_ret (pe_callTy (call_dictP rfl) (by rfl) T.b_dict (by decide +kernel) (pa_cons (pe_lock (pe_lc (own := [("_law_spot", 1)]) (g := (gName 1)) (by rfl) sc_law_flipped.nd (pi_keys (pv 0)) (blkOk_by (own := [("_law_spot", 1)]) (N := ["_law_rows", "_law_spot"]) (sc := defScope s_law_flipped) (by decide +kernel)) (fun _ _ _ _ _ => (pg_name (i := 1) sc_law_flipped.nd rfl (by first | exact Or.inl rfl | exact Or.inr rfl))) (fun _ _ _ _ _ => pts_nil) (fun _ _ _ _ _ => (pe_tup (pa_cons (pe_g c_law_flip hr (by decide) L2.pass0 bp_law_flip (by rfl) (pa_cons (pv 1) pa_nil)) (pa_cons (pe_dget hr.u1 (pv 0) (pv 1) (fun _ _ => rfl)) pa_nil)))))) pa_nil)))), ?_⟩
  refine ⟨D, _, hD, trivial, fun od => ?_⟩
  refine ⟨_, rfl, ?_⟩
  refine ⟨D, od, rfl, Or.inl ⟨tk m, upd_same, fun B nB => ?_⟩⟩
  have hBD : B ≠ D := fun z => by rw [z, upd_same] at nB; cases nB
  refine lc_it walk_keys (fun i H' => LS (upd H D (.frz od (.dK (tk m)))) B (flm (m.take i)) H') (LS.nil nB) (fun i H' _ h => h.2 _ _ upd_same) ?_ ?_
  · rintro i xk HA HB hi hq ⟨rfl, kk, vv, hkv, rfl⟩
    obtain ⟨p, hm1, rfl, rfl⟩ : ∃ p, m[i]? = some p ∧ kk = Sum.inr p.1 ∧ vv = .str p.2 := by
      unfold tk at hkv
      rw [List.getElem?_map] at hkv
      cases hx : m[i]? with
      | none => rw [hx] at hkv; cases hkv
      | some p =>
        rw [hx] at hkv
        have e := Option.some.inj hkv
        exact ⟨p, rfl, (Prod.mk.inj e).1.symm, (Prod.mk.inj e).2.symm⟩
    have hv := tk_val m (List.mem_map_of_mem (f := (·.1)) (List.mem_of_getElem? hm1))
    rw [get_of nd (List.mem_of_getElem? hm1)] at hv
    have hD2 := hq.2 _ _ (upd_same (H := H) (a := D) (o := HO.frz od (.dK (tk m))))
    obtain ⟨r1, r2⟩ := rk p (List.mem_of_getElem? hm1)
    refine ⟨rfl, ?_⟩
    dsimp only [tYes]
    rw [if_pos rfl]
    refine ⟨_, rfl, ?_⟩
    rw [show kV (Sum.inr p.1) = sx p.1.cps.toList from (sx_tl p.1).symm]
    refine flip_go r1 (by rw [len_tl]; exact r2) fun HC sC => ?_
    refine ⟨_, rfl, ⟨_, rfl, ⟨D, .str p.2, rfl, .inl ⟨tk m, Sum.inr p.1, .inr ⟨od, sC _ _ hD2⟩, sx_tl p.1, hv.symm⟩, ?_⟩⟩⟩
    refine ⟨szl (by show 2 ≤ 1000000; decide), fun t nt => ?_⟩
    have et : flm (m.take (i + 1)) = flm (m.take i) ++ [(fS p.1, p.2)] := by
      unfold flm
      rw [List.take_add_one, hm1, List.map_append]
      rfl
    rw [et]
    refine LS.turn hq nB sC nt ?_
    rw [flm_len, List.length_take]
    omega
  · rintro HA ⟨⟨ts, hB, tq⟩, sm⟩
    rw [tk_len, List.take_length] at tq
    refine ⟨sm _ _ upd_same, ?_⟩
    have s1 : Same H (upd HA D (.dK (tk m))) := fun c o e => by
      by_cases q : c = D
      · rw [q] at e ⊢
        rw [hD] at e
        rw [upd_same]
        exact e
      · exact updn q (sm c o (updn q e))
    have tqA : Tq (upd HA D (.dK (tk m))) ts (flm m) := tq.mono fun a l e => updn (fun z => by rw [z, sm _ _ upd_same] at e; cases e) e
    refine ⟨B, ts, _, rfl, SqL.of (updn hBD hB), tqA.pair, fun R nR => ?_⟩
    have nR0 := s1.back nR
    rw [mrg_nil (flm_nd nd)]
    exact k R _ (s1.new nR) nR0 upd_same
end
open PySem PySem.Spec PyProof.Rows
open L2 hiding pass0
abbrev s_law_world : Stmt := top 76
theorem sc_law_world : FnScope ["_law_pot_here", "_law_most", "_law_wide", "_law_aims", "_law_rows", "_law_spots", "_law_turn", "_law_idle", "_law_spot"] ["_law_pot_here", "_law_most"] (defScope s_law_world) := ⟨rfl, rfl, rfl, by decide +kernel, rfl, by decide +kernel, by decide +kernel⟩
theorem bp_law_world : BndP "_law_world" s_law_world ["_law_pot_here", "_law_most"] := fun _ _ _ _ _ _ us h => match us, h with | [_, _], _ => rfl
/-- a list at B, made since H0, of such tuples; there are draws -/
def LQ (p : Addr) (H0 : Hp) (B : Addr) (m : List (Str × Str)) (H : Hp) : Prop := (∃ ts : List Addr, H B = some (.lst (ts.map V.ref)) ∧ Tq H ts m) ∧ Go p H0 H
theorem LQ.nil {p B : Addr} {H0 : Hp} (hp : PotAt H0 p) (nB : H0 B = none) : LQ p H0 B [] (upd H0 B (.lst [])) := ⟨⟨[], upd_same, .nil⟩, (Go.refl hp).new nB⟩
theorem LQ.turn {p B t : Addr} {H0 H1 H2 : Hp} {x y : Str} {m : List (Str × Str)} (hp : PotAt H0 p) (h : LQ p H0 B m H1) (nB : H0 B = none) (g : Go p H1 H2) (nt : H2 t = none) (hl : m.length ≤ 100000) :
    ∃ acc, upd H2 t (.tup [.str x, .str y]) B = some (.lst acc) ∧ acc.length < sizeLine ∧ LQ p H0 B (m ++ [(x, y)]) (upd (upd H2 t (.tup [.str x, .str y])) B (.lst (acc ++ [.ref t]))) := by
  obtain ⟨⟨ts, hB, tq⟩, g1⟩ := h
  have npB : B ≠ p := hp.ne nB
  have hB2 := g.kp hB npB
  have nt' : B ≠ t := nonn nt hB2
  have tq2 : Tq (upd H2 t (.tup [.str x, .str y])) ts m := tq.mono fun a l e => by
    have e2 := g.tp g1.pot e
    exact updn (nonn nt e2) e2
  refine ⟨_, updn nt' hB2, szt (by rw [List.length_map, tq.len]; omega), ⟨ts ++ [t], by rw [upd_same, List.map_append]; rfl, ?_⟩, ?_⟩
  · have t3 : Tq (upd H2 t (.tup [.str x, .str y])) (ts ++ [t]) (m ++ [(x, y)]) := Tq.app (.cons (q := (x, y)) upd_same .nil) tq2
    refine t3.mono fun a l e => ?_
    have n : a ≠ B := fun q => by
      subst q
      rw [updn nt' hB2] at e
      cases e
    exact updn n e
  · exact ((g1.trans g).new nt).mut nB npB
structure GsAt (H : Hp) (p G : Addr) (gs : List Str) : Prop where
  e : H G = some (.lst (gs.map V.str))
  np : G ≠ p
  l0 : 0 < gs.length
  l5 : gs.length ≤ 5
  ok : ∀ g ∈ gs, GoalG g
theorem GsAt.via {H H' : Hp} {p G : Addr} {gs : List Str} (h : GsAt H p G gs) (g : Go p H H') : GsAt H' p G gs := ⟨g.kp h.e h.np, h.np, h.l0, h.l5, h.ok⟩
theorem cut_from (xs : List V) (k : Nat) : cutV xs (some (k : Int)) none = xs.drop k := by
  unfold cutV
  rw [HT.sIx_nat, HT.sIx_none]
  by_cases h : k ≤ xs.length
  · rw [Nat.min_eq_left h, List.take_of_length_le (by rw [List.length_drop]; exact Nat.le_refl _)]
  · rw [Nat.min_eq_right (by omega), Nat.sub_self, List.take_zero, List.drop_eq_nil_of_le (by omega)]
@[irreducible] def spWo : Sp := fun vs H Q _ => ∃ p, vs = [.ref p, .int 5] ∧ PotAt H p ∧ ∀ t D F (n : Nat) m fs H', Go p H H' → H' t = some (.tup [.int n, .ref D, .ref F]) → 1 ≤ n → n ≤ 5 → H' D = some (.dK (tk m)) → D ≠ p → TabOk (n : Int) m → H' F = some (.lst (fs.map sx)) → F ≠ p → Fits n fs → fs.Nodup → fs.length ≤ 4 → Q (.ref t) H'
theorem wo_go {p : Addr} {H : Hp} {Q : VK} {E : XK} (hp : PotAt H p) (k : ∀ t D F (n : Nat) m fs H', Go p H H' → H' t = some (.tup [.int n, .ref D, .ref F]) → 1 ≤ n → n ≤ 5 → H' D = some (.dK (tk m)) → D ≠ p → TabOk (n : Int) m → H' F = some (.lst (fs.map sx)) → F ≠ p → Fits n fs → fs.Nodup → fs.length ≤ 4 → Q (.ref t) H') : spWo [.ref p, .int 5] H Q E := by
  unfold spWo
  exact ⟨p, rfl, hp, k⟩
section
variable {P : Program} {w : World} {K : PySem.W.Frag} {mg : Str → Option Value} {base : Heap} {f : Addr} {fd' : FuncData}
theorem ok_world (F : Fun K "_law_world" "_law_world" s_law_world f fd') (hm : mg "_law_world" = some (.ref f)) (T : Txt K mg) (c_law_draw : Nm P w K mg base CX0 1 "_law_draw" s_law_draw ["_law_pot_here", "_law_many"] (spDraw)) (c_law_pick : Nm P w K mg base CX0 2 "_law_pick" s_law_pick ["_law_pot_here", "_law_some"] (spAmong K)) (c_law_bits : Nm P w K mg base CX0 1 "_law_bits" s_law_bits ["_law_many"] (spLB2)) (c_law_stretches : Nm P w K mg base CX0 2 "_law_stretches" s_law_stretches ["_law_wide"] (spLS)) : Nm P w K mg base CX0 3 "_law_world" s_law_world ["_law_pot_here", "_law_most"] (spWo) := by
  refine nm_of0 F hm sc_law_world (fun vs H Q E h => ?_) fun cdv A outer s H vs Q E hr h => ?_
  · unfold spWo at h
    obtain ⟨p, rfl, hp, k⟩ := h
    subst_vars
    rfl
  unfold spWo at h
  obtain ⟨p, rfl, hp, k⟩ := h
  refine ⟨_, (C8.pss_cut (ps_set (i := 2) sc_law_world.nd rfl (by first | exact Or.inl rfl | exact Or.inr rfl) (pe_op op_add pe_int (pe_g c_law_draw hr (by decide) L2.pass0 bp_law_draw (by rfl) (pa_cons (pv 0) (pa_cons (pv 1) pa_nil)))))
      (C8.pss_cut (ps_set (i := 3) sc_law_world.nd rfl (by first | exact Or.inl rfl | exact Or.inr rfl) (pe_g c_law_pick hr (by decide) L2.pass0 bp_law_pick (by rfl) (pa_cons (pv 0) (pa_cons (pe_lst (pa_cons (pe_lst (pa_cons pe_str (pa_cons pe_str pa_nil))) (pa_cons (pe_lst (pa_cons pe_str (pa_cons pe_str (pa_cons pe_str pa_nil)))) (pa_cons (pe_lst (pa_cons pe_str (pa_cons pe_str pa_nil))) (pa_cons (pe_lst (pa_cons pe_str (pa_cons pe_str (pa_cons pe_str (pa_cons pe_str pa_nil))))) (pa_cons (pe_lst (pa_cons pe_str (pa_cons pe_str (pa_cons pe_str (pa_cons pe_str pa_nil))))) pa_nil)))))) pa_nil))))
      (C8.pss_cut (ps_par (i := 4) (j := 5) (by rfl) sc_law_world.nd rfl rfl (by decide) rfl rfl (pa_cons pe_dnewK (pa_cons (pe_g c_law_stretches hr (by decide) L2.pass0 bp_law_stretches (by rfl) (pa_cons (pv 2) pa_nil)) pa_nil)) (by rfl))
      (C8.pss_cut (ps_if (pt_cmpR op_eq (pe_g c_law_draw hr (by decide) L2.pass0 bp_law_draw (by rfl) (pa_cons (pv 0) (pa_cons pe_int pa_nil))) pe_int (nomark _)) (pss_cons (ps_set (i := 5) sc_law_world.nd rfl (by first | exact Or.inl rfl | exact Or.inr rfl) (pe_g c_law_bits hr (by decide) L2.pass0 bp_law_bits (by rfl) (pa_cons (pv 2) pa_nil)))
      (pss_one (ps_set (i := 4) sc_law_world.nd rfl (by first | exact Or.inl rfl | exact Or.inr rfl) (pe_callTy (call_dictP rfl) (by rfl) T.b_dict (by decide +kernel) (pa_cons (pe_lc (own := [("_law_spot", 8)]) (g := (gName 8)) (by rfl) sc_law_world.nd (pi_listK (K := K) rfl (pe_slice sl_list (pv 5) po_none (po_some pe_int))) (blkOk_by (own := [("_law_spot", 8)]) (N := ["_law_pot_here", "_law_most", "_law_wide", "_law_aims", "_law_rows", "_law_spots", "_law_turn", "_law_idle", "_law_spot"]) (sc := defScope s_law_world) (by decide +kernel)) (fun _ _ _ _ _ => (pg_name (i := 8) sc_law_world.nd rfl (by first | exact Or.inl rfl | exact Or.inr rfl))) (fun _ _ _ _ _ => pts_nil) (fun _ _ _ _ _ => (pe_tup (pa_cons (pv 8) (pa_cons (pe_g c_law_pick hr (by decide) L2.pass0 bp_law_pick (by rfl) (pa_cons (pv 0) (pa_cons (pv 3) pa_nil))) pa_nil))))) pa_nil))))) pss_nil)
      (C8.pss_cut (ps_for PassesOwn.never rfl (pi_range1 (by rfl) T.b_range (pa_cons (pe_g c_law_draw hr (by decide) L2.pass0 bp_law_draw (by rfl) (pa_cons (pv 0) (pa_cons pe_int pa_nil))) pa_nil)) (pg_name (i := 6) sc_law_world.nd rfl (by first | exact Or.inl rfl | exact Or.inr rfl)) (pss_one (ps_if (pt_cmpR op_lt (pe_callB call_lenD (by rfl) T.b_len PySem.boot_len (pa_cons (pv 4) pa_nil)) pe_int (nomark _)) (pss_one (ps_asg (pe_g c_law_pick hr (by decide) L2.pass0 bp_law_pick (by rfl) (pa_cons (pv 0) (pa_cons (pv 3) pa_nil))) (pg_sub (pv 4) (pe_g c_law_pick hr (by decide) L2.pass0 bp_law_pick (by rfl) (pa_cons (pv 0) (pa_cons (pv 5) pa_nil))) (set_dict hr.u1)))) pss_nil)))
      (C8.pss_cut (ps_set (i := 7) sc_law_world.nd rfl (by first | exact Or.inl rfl | exact Or.inr rfl) (pe_lst pa_nil))
      (C8.pss_cut (ps_for PassesOwn.never rfl (pi_range1 (by rfl) T.b_range (pa_cons (pe_g c_law_pick hr (by decide) L2.pass0 bp_law_pick (by rfl) (pa_cons (pv 0) (pa_cons (pe_lst (pa_cons pe_int (pa_cons pe_int (pa_cons pe_int (pa_cons pe_int (pa_cons pe_int (pa_cons pe_int pa_nil))))))) pa_nil))) pa_nil)) (pg_name (i := 6) sc_law_world.nd rfl (by first | exact Or.inl rfl | exact Or.inr rfl)) (C8.pss_cut (ps_set (i := 8) sc_law_world.nd rfl (by first | exact Or.inl rfl | exact Or.inr rfl) (pe_g c_law_pick hr (by decide) L2.pass0 bp_law_pick (by rfl) (pa_cons (pv 0) (pa_cons (pe_slice sl_list (pe_g c_law_stretches hr (by decide) L2.pass0 bp_law_stretches (by rfl) (pa_cons (pv 2) pa_nil)) (po_some (pe_callTy call_int1 (by rfl) T.b_int (by decide +kernel) (pa_cons (pe_cmpR op_gt (pe_g c_law_draw hr (by decide) L2.pass0 bp_law_draw (by rfl) (pa_cons (pv 0) (pa_cons pe_int pa_nil))) pe_int (nomark _)) pa_nil))) po_none) pa_nil))))
      (pss_one (ps_if (pt_cmpR (op_notInK (K := K) rfl) (pv 8) (pv 7) rfl) (pss_one (ps_expr (pe_bm PySem.F.plainAttrs_list PySem.F.slot_list_append PySem.F.type_list_append mt_append (pv 7) (pa_cons (pv 8) pa_nil)))) pss_nil))))
      (pss_one (ps_ret (pe_tup (pa_cons (pv 2) (pa_cons (pv 4) (pa_cons (pv 7) pa_nil))))))))))))), ?_⟩
  refine ⟨fun σ' H' => ∃ n : Nat, σ' = [some (.ref p), some (.int 5), some (.int n), none, none, none, none, none, none] ∧ 1 ≤ n ∧ n ≤ 5 ∧ Go p H H', ?_, ?_⟩
  · refine ⟨_, rfl, ⟨_, rfl, ?_⟩⟩
    refine draw_go hp (by decide) (by decide) fun d H1 d0 d1 g1 => ?_
    obtain ⟨j, rfl⟩ := Int.eq_ofNat_of_zero_le d0
    refine ⟨_, _, rfl, rfl, ?_⟩
    refine ⟨1 + j, ?_, by omega, by omega, g1⟩
    rw [show ((1 + j : Nat) : Int) = 1 + (j : Int) by omega]
    rfl
  rintro σ' H1 ⟨n, rfl, h0, h1, g1⟩
  refine ⟨fun σ' H' => ∃ (A : Addr) (as : List Str), σ' = [some (.ref p), some (.int 5), some (.int n), some (.ref A), none, none, none, none, none] ∧ Go p H H' ∧ GsAt H' p A as, ?_, ?_⟩
  · refine ⟨_, rfl, ?_⟩
    have s0 := Same.refl H1
    refine ⟨szl (by decide), fun A1 nA1 => ?_⟩
    have s1 := s0.new (o := HO.lst [V.str "a", V.str "b"]) nA1
    have eA1 : upd H1 A1 (HO.lst [V.str "a", V.str "b"]) A1 = some (.lst ((["a", "b"] : List Str).map V.str)) := upd_same
    generalize upd H1 A1 (HO.lst [V.str "a", V.str "b"]) = Hh0 at s1 eA1 ⊢
    refine ⟨szl (by decide), fun A2 nA2 => ?_⟩
    have s2 := s1.new (o := HO.lst [V.str "b", V.str "a", V.str "c"]) nA2
    have eA2 : upd Hh0 A2 (HO.lst [V.str "b", V.str "a", V.str "c"]) A2 = some (.lst ((["b", "a", "c"] : List Str).map V.str)) := upd_same
    have eA1 := updn (o := HO.lst [V.str "b", V.str "a", V.str "c"]) (nonn nA2 eA1) eA1
    generalize upd Hh0 A2 (HO.lst [V.str "b", V.str "a", V.str "c"]) = Hh1 at s2 eA1 eA2 ⊢
    refine ⟨szl (by decide), fun A3 nA3 => ?_⟩
    have s3 := s2.new (o := HO.lst [V.str "hole", V.str "a"]) nA3
    have eA3 : upd Hh1 A3 (HO.lst [V.str "hole", V.str "a"]) A3 = some (.lst ((["hole", "a"] : List Str).map V.str)) := upd_same
    have eA1 := updn (o := HO.lst [V.str "hole", V.str "a"]) (nonn nA3 eA1) eA1
    have eA2 := updn (o := HO.lst [V.str "hole", V.str "a"]) (nonn nA3 eA2) eA2
    generalize upd Hh1 A3 (HO.lst [V.str "hole", V.str "a"]) = Hh2 at s3 eA1 eA2 eA3 ⊢
    refine ⟨szl (by decide), fun A4 nA4 => ?_⟩
    have s4 := s3.new (o := HO.lst [V.str "home", V.str "b", V.str "hole", V.str "a"]) nA4
    have eA4 : upd Hh2 A4 (HO.lst [V.str "home", V.str "b", V.str "hole", V.str "a"]) A4 = some (.lst ((["home", "b", "hole", "a"] : List Str).map V.str)) := upd_same
    have eA1 := updn (o := HO.lst [V.str "home", V.str "b", V.str "hole", V.str "a"]) (nonn nA4 eA1) eA1
    have eA2 := updn (o := HO.lst [V.str "home", V.str "b", V.str "hole", V.str "a"]) (nonn nA4 eA2) eA2
    have eA3 := updn (o := HO.lst [V.str "home", V.str "b", V.str "hole", V.str "a"]) (nonn nA4 eA3) eA3
    generalize upd Hh2 A4 (HO.lst [V.str "home", V.str "b", V.str "hole", V.str "a"]) = Hh3 at s4 eA1 eA2 eA3 eA4 ⊢
    refine ⟨szl (by decide), fun A5 nA5 => ?_⟩
    have s5 := s4.new (o := HO.lst [V.str "c", V.str "d", V.str "b", V.str "a"]) nA5
    have eA5 : upd Hh3 A5 (HO.lst [V.str "c", V.str "d", V.str "b", V.str "a"]) A5 = some (.lst ((["c", "d", "b", "a"] : List Str).map V.str)) := upd_same
    have eA1 := updn (o := HO.lst [V.str "c", V.str "d", V.str "b", V.str "a"]) (nonn nA5 eA1) eA1
    have eA2 := updn (o := HO.lst [V.str "c", V.str "d", V.str "b", V.str "a"]) (nonn nA5 eA2) eA2
    have eA3 := updn (o := HO.lst [V.str "c", V.str "d", V.str "b", V.str "a"]) (nonn nA5 eA3) eA3
    have eA4 := updn (o := HO.lst [V.str "c", V.str "d", V.str "b", V.str "a"]) (nonn nA5 eA4) eA4
    generalize upd Hh3 A5 (HO.lst [V.str "c", V.str "d", V.str "b", V.str "a"]) = Hh4 at s5 eA1 eA2 eA3 eA4 eA5 ⊢
    refine ⟨szl (by show 5 ≤ 1000000; decide), fun L nL => ?_⟩
    have gL : Go p H1 (upd Hh4 L (.lst [.ref A1, .ref A2, .ref A3, .ref A4, .ref A5])) := (Go.of g1.pot s5).new nL
    have eA1 := updn (o := HO.lst [.ref A1, .ref A2, .ref A3, .ref A4, .ref A5]) (nonn nL eA1) eA1
    have eA2 := updn (o := HO.lst [.ref A1, .ref A2, .ref A3, .ref A4, .ref A5]) (nonn nL eA2) eA2
    have eA3 := updn (o := HO.lst [.ref A1, .ref A2, .ref A3, .ref A4, .ref A5]) (nonn nL eA3) eA3
    have eA4 := updn (o := HO.lst [.ref A1, .ref A2, .ref A3, .ref A4, .ref A5]) (nonn nL eA4) eA4
    have eA5 := updn (o := HO.lst [.ref A1, .ref A2, .ref A3, .ref A4, .ref A5]) (nonn nL eA5) eA5
    have nnA1 : A1 ≠ p := fun q => by obtain ⟨_, _, e, _⟩ := gL.pot; have e' := e; rw [← q] at e'; rw [eA1] at e'; cases e'
    have nnA2 : A2 ≠ p := fun q => by obtain ⟨_, _, e, _⟩ := gL.pot; have e' := e; rw [← q] at e'; rw [eA2] at e'; cases e'
    have nnA3 : A3 ≠ p := fun q => by obtain ⟨_, _, e, _⟩ := gL.pot; have e' := e; rw [← q] at e'; rw [eA3] at e'; cases e'
    have nnA4 : A4 ≠ p := fun q => by obtain ⟨_, _, e, _⟩ := gL.pot; have e' := e; rw [← q] at e'; rw [eA4] at e'; cases e'
    have nnA5 : A5 ≠ p := fun q => by obtain ⟨_, _, e, _⟩ := gL.pot; have e' := e; rw [← q] at e'; rw [eA5] at e'; cases e'
    refine among_l gL.pot (((Go.of g1.pot s5).pot).ne nL) (SqL.of upd_same) (by show 0 < 5; decide) (by show 5 ≤ 1000; decide) fun v hv H2 g2 => ?_
    have gz := (g1.trans gL).trans g2
    simp only [List.mem_cons, List.not_mem_nil, or_false] at hv
    rcases hv with rfl | rfl | rfl | rfl | rfl
    · exact ⟨A1, ["a", "b"], rfl, gz, ⟨g2.kp eA1 nnA1, nnA1, by decide, by decide, fun g hg => by
        simp only [List.mem_cons, List.not_mem_nil, or_false] at hg
        rcases hg with rfl | rfl
        · exact gg_a
        · exact gg_b⟩⟩
    · exact ⟨A2, ["b", "a", "c"], rfl, gz, ⟨g2.kp eA2 nnA2, nnA2, by decide, by decide, fun g hg => by
        simp only [List.mem_cons, List.not_mem_nil, or_false] at hg
        rcases hg with rfl | rfl | rfl
        · exact gg_b
        · exact gg_a
        · exact gg_c⟩⟩
    · exact ⟨A3, ["hole", "a"], rfl, gz, ⟨g2.kp eA3 nnA3, nnA3, by decide, by decide, fun g hg => by
        simp only [List.mem_cons, List.not_mem_nil, or_false] at hg
        rcases hg with rfl | rfl
        · exact gg_hole
        · exact gg_a⟩⟩
    · exact ⟨A4, ["home", "b", "hole", "a"], rfl, gz, ⟨g2.kp eA4 nnA4, nnA4, by decide, by decide, fun g hg => by
        simp only [List.mem_cons, List.not_mem_nil, or_false] at hg
        rcases hg with rfl | rfl | rfl | rfl
        · exact gg_home
        · exact gg_b
        · exact gg_hole
        · exact gg_a⟩⟩
    · exact ⟨A5, ["c", "d", "b", "a"], rfl, gz, ⟨g2.kp eA5 nnA5, nnA5, by decide, by decide, fun g hg => by
        simp only [List.mem_cons, List.not_mem_nil, or_false] at hg
        rcases hg with rfl | rfl | rfl | rfl
        · exact gg_c
        · exact gg_d
        · exact gg_b
        · exact gg_a⟩⟩
  rintro σ' H2 ⟨A, as, rfl, g2, hA⟩
  clear g1
  have okN : TabOk (n : Int) [] := ⟨by omega, by omega, (fun q hq => by cases hq), .nil, by decide⟩
  refine ⟨fun σ' H' => ∃ (D S : Addr) (ss : List (List Nat)), σ' = [some (.ref p), some (.int 5), some (.int n), some (.ref A), some (.ref D), some (.ref S), none, none, none] ∧ Go p H H' ∧ GsAt H' p A as ∧ H D = none ∧ H' D = some (.dK (tk [])) ∧ S ≠ p ∧ H' S = some (.lst (ss.map sx)) ∧ 0 < ss.length ∧ ss.length ≤ 1000 ∧ (∀ t ∈ ss, M.BL t ∧ t.length ≤ n), ?_, ?_⟩
  · intro D nD
    have g3 := g2.new (o := HO.dK []) nD
    have eD : upd H2 D (.dK []) D = some (.dK (tk [])) := upd_same
    have hA3 := hA.via ((Go.refl g2.pot).new (o := HO.dK []) nD)
    have nDH := g2.fresh hp nD
    generalize upd H2 D (.dK []) = H3 at g3 eD hA3 ⊢
    refine ⟨_, rfl, ?_⟩
    refine ls_go (by omega) fun L H4 s4 nL eL => ?_
    have g4 := Go.of g3.pot s4
    have ll := strL_len (n + 1)
    have l7 := pow7 (k := n + 1) (by omega)
    have l1 : 1 < 2 ^ (n + 1) := Nat.one_lt_two_pow (by omega)
    exact ⟨_, _, rfl, D, L, strL (n + 1), rfl, g3.trans g4, hA3.via g4, nDH, s4 _ _ eD, g3.pot.ne nL, eL, by omega, by omega, fun t ht => ⟨(strL_mem.mp ht).1, by have := (strL_mem.mp ht).2; omega⟩⟩
  rintro σ' H3 ⟨D, S, ss, rfl, g3, hA3, nD, eD, nSp, eS, ls0, ls1, hss⟩
  clear g2 hA
  refine ⟨fun σ' H' => ∃ (D S : Addr) (m : List (Str × Str)) (ss : List (List Nat)) (x8 : Option V), σ' = [some (.ref p), some (.int 5), some (.int n), some (.ref A), some (.ref D), some (.ref S), none, none, x8] ∧ Go p H H' ∧ GsAt H' p A as ∧ H D = none ∧ H' D = some (.dK (tk m)) ∧ TabOk (n : Int) m ∧ S ≠ p ∧ H' S = some (.lst (ss.map sx)) ∧ 0 < ss.length ∧ ss.length ≤ 1000 ∧ (∀ t ∈ ss, M.BL t ∧ t.length ≤ n), ?_, ?_⟩
  · refine ⟨_, rfl, ?_⟩
    refine draw_go g3.pot (by decide) (by decide) fun d H4 d0 d1 g4 => ?_
    have nDp := hp.ne nD
    have eD4 := g4.kp eD nDp
    have eS4 := g4.kp eS nSp
    have hA4 := hA3.via g4
    have g34 := g3.trans g4
    refine ⟨rfl, ⟨_, rfl, ?_⟩⟩
    refine ite2 (fun c => ?_) fun c => ?_
    · clear eD eS ls0 ls1 hss eD4 eS4 nD nDp
      refine ⟨_, rfl, ?_⟩
      refine lb2_go (by omega) fun S2 H5 s5 nS2 eS2 => ?_
      have g5 := g34.trans (Go.of g34.pot s5)
      have hA5 := hA4.via (Go.of g34.pot s5)
      have nS2p := g34.pot.ne nS2
      refine ⟨_, rfl, ⟨_, rfl, ⟨S2, _, rfl, SqL.of eS2, fun F nF => ?_⟩⟩⟩
      rw [show cutV ((bitsL n).map sx) none (some 40) = ((bitsL n).take 40).map sx by rw [show (40 : Int) = ((40 : Nat) : Int) from rfl, cutV_to, List.map_take]]
      have gF := (Go.refl g5.pot).new (o := HO.lst (((bitsL n).take 40).map sx)) nF
      have eF : upd H5 F (.lst (((bitsL n).take 40).map sx)) F = some (.lst (((bitsL n).take 40).map sx)) := upd_same
      have nFp := g5.pot.ne nF
      generalize upd H5 F (.lst (((bitsL n).take 40).map sx)) = H6 at gF eF ⊢
      have g6 := g5.trans gF
      have hA6 := hA5.via gF
      have eS6 := gF.kp eS2 nS2p
      generalize hus : (bitsL n).take 40 = us at eF ⊢
      have husm : ∀ u ∈ us, M.BL u ∧ u.length ≤ n := fun u hu => by
        have := bitsL_mem.mp (List.mem_of_mem_take (hus ▸ hu))
        exact ⟨this.1, by omega⟩
      have ndu : us.Nodup := by rw [← hus]; exact (List.take_sublist _ _).nodup (bitsL_nd n)
      have lu : us.length ≤ 40 := by rw [← hus, List.length_take]; omega
      refine ⟨F, rfl, ⟨_, SqL.of eF⟩, fun B nB => ?_⟩
      refine lc_it (walk_list (xs := us.map sx)) (fun j H' => ∃ m, m.map (·.1) = (us.take j).map SX.S ∧ (∀ q ∈ m, RowOk (n : Int) q) ∧ LQ p H6 B m H') ⟨[], rfl, (fun q hq => by cases hq), .nil g6.pot nB⟩ (fun j H' _ ⟨m, _, _, h⟩ => SqL.of (h.2.kp eF nFp)) ?_ ?_
      · rintro j y Hw H7 hj ⟨m, hm1, hm2, hq⟩ ⟨rfl, hy⟩
        obtain ⟨u, hu, rfl⟩ := sx_at hy
        obtain ⟨ub, ul⟩ := husm u (List.mem_of_getElem? hu)
        have hA7 := hA6.via hq.2
        refine ⟨rfl, ?_⟩
        dsimp only [tYes]
        rw [if_pos rfl]
        refine ⟨_, rfl, ⟨_, rfl, ⟨_, rfl, ?_⟩⟩⟩
        refine among_l hq.2.pot hA7.np (SqL.of hA7.e) (by rw [List.length_map]; exact hA7.l0) (by rw [List.length_map]; have := hA7.l5; omega) fun v hv H8 g8 => ?_
        obtain ⟨g, hg, rfl⟩ := List.mem_map.mp hv
        have hgo := hA7.ok g hg
        refine ⟨szl (by show 2 ≤ 1000000; decide), fun t nt => ?_⟩
        have lm : m.length ≤ 100000 := by
          have := congrArg List.length hm1
          rw [List.length_map, List.length_map, List.length_take] at this
          omega
        obtain ⟨acc, e1, e2, e3⟩ := LQ.turn (x := SX.S u) (y := g) g6.pot hq nB g8 nt lm
        refine ⟨acc, e1, e2, m ++ [(SX.S u, g)], ?_, fun q hq => ?_, e3⟩
        · rw [List.map_append, hm1, List.take_add_one, hu, List.map_append]
          rfl
        · rcases List.mem_append.mp hq with h | h
          · exact hm2 q h
          · rw [List.mem_singleton] at h
            subst h
            exact ⟨sx_bits ub, by rw [sx_len]; omega, hgo.1, hgo.2.1, hgo.2.2⟩
      · rintro H7 ⟨m, hm1, hm2, ⟨⟨tt, hB, tq⟩, g7⟩⟩
        rw [List.length_map, List.take_length] at hm1
        have ndm : (m.map (·.1)).Nodup := by
          rw [hm1]
          show List.Pairwise _ _
          rw [List.pairwise_map]
          exact ndu.imp fun {a b} h e => h (S_inj e)
        have lm : m.length ≤ 40 := by
          have := congrArg List.length hm1
          rw [List.length_map, List.length_map] at this
          omega
        refine ⟨B, tt, _, rfl, SqL.of hB, tq.pair, fun M nM => ?_⟩
        rw [mrg_nil ndm]
        have g67 := g6.trans g7
        have g8 := g67.new (o := HO.dK (tk m)) nM
        have eS7 := g7.kp eS6 nS2p
        have bl := bitsL_len n
        have b7 := pow7 (k := n) (by omega)
        have b1 : 0 < 2 ^ n := Nat.two_pow_pos n
        exact ⟨M, S2, m, bitsL n, _, rfl, g8, (hA6.via g7).via ((Go.refl g7.pot).new nM), g67.fresh hp nM, upd_same, ⟨by omega, by omega, hm2, ndm, lm⟩, nS2p, updn (nonn nM eS7) eS7, by omega, by omega, fun t ht => ⟨(bitsL_mem.mp ht).1, by have := (bitsL_mem.mp ht).2; omega⟩⟩
    · exact ⟨D, S, [], ss, _, rfl, g34, hA4, nD, eD4, okN, nSp, eS4, ls0, ls1, hss⟩
  clear g3 hA3 eD nSp eS ls0 ls1 hss nD D S ss
  rintro σ' H4 ⟨D, S, m, ss, x8, rfl, g4, hA4, nD, eD, ok, nSp, eS, ls0, ls1, hss⟩
  have nDp := hp.ne nD
  refine ⟨fun σ' H' => ∃ (m : List (Str × Str)) (x6 : Option V), σ' = [some (.ref p), some (.int 5), some (.int n), some (.ref A), some (.ref D), some (.ref S), x6, none, x8] ∧ Go p H H' ∧ H' D = some (.dK (tk m)) ∧ TabOk (n : Int) m, ?_, ?_⟩
  · refine ⟨_, rfl, ?_⟩
    refine draw_go g4.pot (by decide) (by decide) fun d H5 d0 d1 g5 => ?_
    refine ⟨_, rfl, by omega, by omega, ?_⟩
    refine for_it walk_range (fun i σ' H' => ∃ (m : List (Str × Str)) (x6 : Option V), σ' = [some (.ref p), some (.int 5), some (.int n), some (.ref A), some (.ref D), some (.ref S), x6, none, x8] ∧ Go p H H' ∧ GsAt H' p A as ∧ H' S = some (.lst (ss.map sx)) ∧ H' D = some (.dK (tk m)) ∧ TabOk (n : Int) m) ⟨m, _, rfl, g4.trans g5, hA4.via g5, g5.kp eS nSp, g5.kp eD nDp, ok⟩ (fun _ _ _ _ _ => trivial) ?_ ?_
    · clear g4 hA4 eD ok eS g5 m
      rintro i x σ' H6 H7 hi ⟨m, x6, rfl, g6, hA6, eS6, eD6, ok6⟩ ⟨rfl, rfl⟩
      have hD7 : H7 D = some (.dK (tk m)) := eD6
      refine ⟨_, rfl, ⟨D, _, rfl, hD7, ?_⟩⟩
      refine ⟨_, _, rfl, rfl, ?_⟩
      refine ⟨_, rfl, ?_⟩
      by_cases q : m.length < 40
      · rw [show decide (((tk m).length : Int) < 40) = true from decide_eq_true (by rw [tk_len]; omega)]
        refine iteT ?_
        refine ⟨_, rfl, ⟨_, rfl, ?_⟩⟩
        refine among_l g6.pot hA6.np (SqL.of hA6.e) (by rw [List.length_map]; exact hA6.l0) (by rw [List.length_map]; have := hA6.l5; omega) fun v hv H8 g8 => ?_
        obtain ⟨g, hg, rfl⟩ := List.mem_map.mp hv
        have hgo := hA6.ok g hg
        have eS8 := g8.kp eS6 nSp
        refine ⟨_, rfl, ⟨_, rfl, ⟨_, rfl, ?_⟩⟩⟩
        refine among_l g8.pot nSp (SqL.of eS8) (by rw [List.length_map]; exact ls0) (by rw [List.length_map]; exact ls1) fun u hu H9 g9 => ?_
        obtain ⟨t, ht, rfl⟩ := List.mem_map.mp hu
        have hst := hss t ht
        have g69 := g8.trans g9
        have eD9 := g69.kp hD7 nDp
        have hne : S ≠ D := fun z => by rw [z] at eS8; rw [g8.kp hD7 nDp] at eS8; cases eS8
        have hAD : A ≠ D := fun z => by have := hA6.e; rw [z] at this; rw [hD7] at this; cases this
        have hA9 := (hA6.via g8).via g9
        refine ⟨D, _, rfl, .inl ⟨_, Sum.inr (SX.S t), eD9, rfl, szt (by rw [tk_len]; omega), rfl⟩, ?_⟩
        refine ⟨putT m (SX.S t) g, _, rfl, (g6.trans g69).mut nD nDp, ⟨updn hAD hA9.e, hA9.np, hA9.l0, hA9.l5, hA9.ok⟩, updn hne (g9.kp eS8 nSp), by rw [upd_same, tk_put], ⟨by omega, by omega, put_ok ok6.rows ⟨sx_bits hst.1, by rw [sx_len]; omega, hgo.1, hgo.2.1, hgo.2.2⟩, put_nodup ok6.nd, by have := put_len m (SX.S t) g; omega⟩⟩
      · rw [show decide (((tk m).length : Int) < 40) = false from decide_eq_false (by rw [tk_len]; omega)]
        refine iteF ?_
        exact ⟨m, _, rfl, g6, hA6, eS6, hD7, ok6⟩
    · rintro σ' H6 ⟨m, x6, rfl, g6, hA6, eS6, eD6, ok6⟩
      exact ⟨m, _, rfl, g6, eD6, ok6⟩
  clear g4 hA4 eD ok nSp eS ls0 ls1 hss m
  rintro σ' H5 ⟨m, x6, rfl, g5, eD, ok⟩
  refine ⟨fun σ' H' => ∃ F, σ' = [some (.ref p), some (.int 5), some (.int n), some (.ref A), some (.ref D), some (.ref S), x6, some (.ref F), x8] ∧ Go p H H' ∧ H F = none ∧ H' F = some (.lst (([] : List (List Nat)).map sx)) ∧ H' D = some (.dK (tk m)), ?_, ?_⟩
  · refine ⟨szl (Nat.zero_le _), fun F nF => ?_⟩
    exact ⟨F, rfl, g5.new nF, g5.fresh hp nF, upd_same, updn (nonn nF eD) eD⟩
  rintro σ' H6 ⟨F, rfl, g6, nF, eF, eD6⟩
  clear g5 eD
  have nFp := hp.ne nF
  have hFD : F ≠ D := fun z => by rw [z, eD6] at eF; cases eF
  refine ⟨fun σ' H' => ∃ (x6 x8 : Option V) (fs : List (List Nat)), σ' = [some (.ref p), some (.int 5), some (.int n), some (.ref A), some (.ref D), some (.ref S), x6, some (.ref F), x8] ∧ Go p H H' ∧ H' D = some (.dK (tk m)) ∧ H' F = some (.lst (fs.map sx)) ∧ Fits n fs ∧ fs.Nodup ∧ fs.length ≤ 4, ?_, ?_⟩
  · refine ⟨_, rfl, ?_⟩
    refine ⟨szl (by show 6 ≤ 1000000; decide), fun L nL => ?_⟩
    have gL := (Go.refl g6.pot).new (o := HO.lst [.int 0, .int 0, .int 1, .int 1, .int 2, .int 4]) nL
    refine among_l gL.pot (g6.pot.ne nL) (SqL.of upd_same) (by show 0 < 6; decide) (by show 6 ≤ 1000; decide) fun v hv H7 g7 => ?_
    have g67 := gL.trans g7
    obtain ⟨c, rfl, hc⟩ : ∃ c : Nat, v = .int c ∧ c ≤ 4 := by
      simp only [List.mem_cons, List.not_mem_nil, or_false] at hv
      rcases hv with rfl | rfl | rfl | rfl | rfl | rfl
      · exact ⟨0, rfl, by decide⟩
      · exact ⟨0, rfl, by decide⟩
      · exact ⟨1, rfl, by decide⟩
      · exact ⟨1, rfl, by decide⟩
      · exact ⟨2, rfl, by decide⟩
      · exact ⟨4, rfl, by decide⟩
    refine ⟨_, rfl, by omega, by omega, ?_⟩
    rw [show ((c : Int)).toNat = c by omega]
    refine for_it walk_range (fun i σ' H' => ∃ (x6 x8 : Option V) (fs : List (List Nat)), σ' = [some (.ref p), some (.int 5), some (.int n), some (.ref A), some (.ref D), some (.ref S), x6, some (.ref F), x8] ∧ Go p H H' ∧ H' D = some (.dK (tk m)) ∧ H' F = some (.lst (fs.map sx)) ∧ Fits n fs ∧ fs.Nodup ∧ fs.length ≤ i) ⟨_, _, [], rfl, g6.trans g67, g67.kp eD6 nDp, g67.kp eF nFp, (fun t h => by cases h), .nil, Nat.le_refl _⟩ (fun _ _ _ _ _ => trivial) ?_ ?_
    · clear gL g7 g67 g6 eF eD6
      rintro i x σ' H8 H9 hi ⟨y6, y8, fs, rfl, g8, eD8, eF8, ff, nd, lf⟩ ⟨rfl, rfl⟩
      refine ⟨fun σ' H' => ∃ t : List Nat, σ' = [some (.ref p), some (.int 5), some (.int n), some (.ref A), some (.ref D), some (.ref S), some (.int (0 + (i : Int))), some (.ref F), some (sx t)] ∧ Go p H H' ∧ H' D = some (.dK (tk m)) ∧ H' F = some (.lst (fs.map sx)) ∧ M.BL t ∧ t.length ≤ n, ?_, ?_⟩
      · have g9 : Go p H H9 := g8
        have eD9 : H9 D = some (.dK (tk m)) := eD8
        have eF9 : H9 F = some (.lst (fs.map sx)) := eF8
        refine ⟨_, rfl, ⟨_, rfl, ?_⟩⟩
        refine ls_go (by omega) fun L2 Ha sa nL2 eL2 => ?_
        have ga := Go.of g9.pot sa
        have nL2p := g9.pot.ne nL2
        refine ⟨_, rfl, ?_⟩
        refine draw_go ga.pot (by decide) (by decide) fun d Hb d0 d1 gb => ?_
        refine ⟨_, _, rfl, rfl, ?_⟩
        refine .inr ⟨_, rfl, ?_⟩
        have eL3 := gb.kp eL2 nL2p
        refine ⟨_, rfl, ⟨L2, _, rfl, SqL.of eL3, fun A1 nA1 => ?_⟩⟩
        have ll := strL_len (n + 1)
        have l7 := pow7 (k := n + 1) (by omega)
        have l2 : 2 ^ 2 ≤ 2 ^ (n + 1) := Nat.pow_le_pow_right (by decide) (by omega)
        obtain ⟨kk, hk1, hk2⟩ : ∃ kk : Nat, (if decide (0 < d) = true then (1 : Int) else 0) = (kk : Int) ∧ kk ≤ 1 := by
          by_cases z : (0 : Int) < d
          · exact ⟨1, by rw [decide_eq_true z]; rfl, by decide⟩
          · exact ⟨0, by rw [decide_eq_false z]; rfl, by decide⟩
        have hk1' : (if decide ((0 : Int) < d) = true then (1 : Int) else 0) = (kk : Int) := hk1
        rw [hk1', cut_from, List.map_drop.symm]
        have gA := (ga.trans gb).new (o := HO.lst (((strL (n + 1)).drop kk).map sx)) nA1
        have lz : 3 ≤ (strL (n + 1)).length := by omega
        refine among_l gA.pot (gb.pot.ne nA1) (SqL.of upd_same) (by rw [List.length_map, List.length_drop]; omega) (by rw [List.length_map, List.length_drop]; omega) fun u hu Hc gc => ?_
        obtain ⟨t, ht, rfl⟩ := List.mem_map.mp hu
        have hst := strL_mem.mp (List.mem_of_mem_drop ht)
        have gAc := gA.trans gc
        exact ⟨t, rfl, g9.trans gAc, gAc.kp eD9 nDp, gAc.kp eF9 nFp, hst.1, by omega⟩
      clear g8 eD8 eF8
      rintro σ' Ha ⟨t, rfl, ga, eDa, eFa, tb, tl⟩
      refine ⟨_, rfl, ⟨_, rfl, ⟨F, _, rfl, .inl (SqL.of eFa), rfl, flat_sx _, ?_⟩⟩⟩
      refine ⟨_, rfl, ?_⟩
      show (fun b H1 => if b = true then _ else _) (!inV (sx t) (fs.map sx)) Ha
      rw [any_sx]
      by_cases q : t ∈ fs
      · rw [decide_eq_true q]
        refine iteF ?_
        exact ⟨_, _, fs, rfl, ga, eDa, eFa, ff, nd, by omega⟩
      · rw [decide_eq_false q]
        refine iteT ?_
        refine ⟨_, rfl, ⟨.inl ⟨rfl, _, SqL.of eFa⟩, ⟨_, rfl, ?_⟩⟩⟩
        refine ⟨F, _, _, rfl, rfl, eFa, szt (by rw [List.length_map]; omega), ?_⟩
        refine ⟨_, _, fs ++ [t], rfl, ga.mut nF nFp, updn hFD.symm eDa, by rw [upd_same, List.map_append]; rfl, fun u hu => ?_, ?_, by rw [List.length_append]; show fs.length + 1 ≤ i + 1; omega⟩
        · rcases List.mem_append.mp hu with h | h
          · exact ff u h
          · rw [List.mem_singleton] at h
            rw [h]
            exact ⟨tb, tl⟩
        · exact List.nodup_append.mpr ⟨nd, by simp, fun a ha b hb e => by rw [List.mem_singleton] at hb; subst hb; exact q (e ▸ ha)⟩
    · rintro σ' H8 ⟨y6, y8, fs, rfl, g8, eD8, eF8, ff, nd, lf⟩
      exact ⟨_, _, fs, rfl, g8, eD8, eF8, ff, nd, by omega⟩
  rintro σ' H7 ⟨y6, y8, fs, rfl, g7, eD7, eF7, ff, nd, lf⟩
  refine ⟨_, rfl, ⟨_, rfl, ⟨_, rfl, ⟨szl (by show 3 ≤ 1000000; decide), fun t nt => ?_⟩⟩⟩⟩
  exact k t D F n m fs _ (g7.new nt) upd_same h0 h1 (updn (nonn nt eD7) eD7) nDp ok (updn (nonn nt eF7) eF7) nFp ff nd lf
end
open PySem PySem.Spec PyProof.Rows
open L2 hiding pass0
abbrev s_law_drawn : Stmt := top 83
theorem sc_law_drawn : FnScope ["_law_pot_here", "_law_wide", "_law_spots", "_law_rows", "_law_turn"] ["_law_pot_here", "_law_wide"] (defScope s_law_drawn) := ⟨rfl, rfl, rfl, by decide +kernel, rfl, by decide +kernel, by decide +kernel⟩
theorem bp_law_drawn : BndP "_law_drawn" s_law_drawn ["_law_pot_here", "_law_wide"] := fun _ _ _ _ _ _ us h => match us, h with | [_, _], _ => rfl
@[irreducible] def spDr : Sp := fun vs H Q _ => ∃ (p : Addr) (n : Nat), vs = [.ref p, .int n] ∧ PotAt H p ∧ 1 ≤ n ∧ n ≤ 5 ∧ ∀ (t D F : Addr) (m : List (Str × Str)) (fs : List (List Nat)) (H' : Hp), Go p H H' → H' t = some (.tup [.ref D, .ref F]) → H' D = some (.dK (tk m)) → D ≠ p → TabOk (n : Int) m → m.length ≤ 6 → H' F = some (.lst (fs.map sx)) → F ≠ p → Fits n fs → fs.length ≤ 1 → Q (.ref t) H'
theorem dr_go {p : Addr} {n : Nat} {H : Hp} {Q : VK} {E : XK} (hp : PotAt H p) (h0 : 1 ≤ n) (h1 : n ≤ 5) (k : ∀ (t D F : Addr) (m : List (Str × Str)) (fs : List (List Nat)) (H' : Hp), Go p H H' → H' t = some (.tup [.ref D, .ref F]) → H' D = some (.dK (tk m)) → D ≠ p → TabOk (n : Int) m → m.length ≤ 6 → H' F = some (.lst (fs.map sx)) → F ≠ p → Fits n fs → fs.length ≤ 1 → Q (.ref t) H') : spDr [.ref p, .int n] H Q E := by
  unfold spDr
  exact ⟨p, n, rfl, hp, h0, h1, k⟩
section
variable {P : Program} {w : World} {K : PySem.W.Frag} {mg : Str → Option Value} {base : Heap} {f : Addr} {fd' : FuncData}
theorem ok_drawn (F : Fun K "_law_drawn" "_law_drawn" s_law_drawn f fd') (hm : mg "_law_drawn" = some (.ref f)) (T : Txt K mg) (c_law_draw : Nm P w K mg base CX0 1 "_law_draw" s_law_draw ["_law_pot_here", "_law_many"] (spDraw)) (c_law_pick : Nm P w K mg base CX0 2 "_law_pick" s_law_pick ["_law_pot_here", "_law_some"] (spAmong K)) (c_law_stretches : Nm P w K mg base CX0 2 "_law_stretches" s_law_stretches ["_law_wide"] (spLS)) : Nm P w K mg base CX0 3 "_law_drawn" s_law_drawn ["_law_pot_here", "_law_wide"] (spDr) := by
  refine nm_of F hm sc_law_drawn (fun vs H Q E h => ?_) fun cdv A outer s H vs Q E hr h => ?_
  · unfold spDr at h
    obtain ⟨p, n, rfl, hp, h0, h1, k⟩ := h
    subst_vars
    rfl
  unfold spDr at h
  obtain ⟨p, n, rfl, hp, h0, h1, k⟩ := h
  refine ⟨_, (C8.pss_cut (ps_set (i := 2) sc_law_drawn.nd rfl (by first | exact Or.inl rfl | exact Or.inr rfl) (pe_g c_law_stretches hr (by decide) L2.pass0 bp_law_stretches (by rfl) (pa_cons (pv 1) pa_nil)))
      (C8.pss_cut (ps_set (i := 3) sc_law_drawn.nd rfl (by first | exact Or.inl rfl | exact Or.inr rfl) (pe_callTy (call_dictP rfl) (by rfl) T.b_dict (by decide +kernel) (pa_cons (pe_lc (own := [("_law_turn", 4)]) (g := (gName 4)) (by rfl) sc_law_drawn.nd (pi_range1 (by rfl) T.b_range (pa_cons (pe_g c_law_draw hr (by decide) L2.pass0 bp_law_draw (by rfl) (pa_cons (pv 0) (pa_cons pe_int pa_nil))) pa_nil)) (blkOk_by (own := [("_law_turn", 4)]) (N := ["_law_pot_here", "_law_wide", "_law_spots", "_law_rows", "_law_turn"]) (sc := defScope s_law_drawn) (by decide +kernel)) (fun _ _ _ _ _ => (pg_name (i := 4) sc_law_drawn.nd rfl (by first | exact Or.inl rfl | exact Or.inr rfl))) (fun _ _ _ _ _ => pts_nil) (fun _ _ _ _ _ => (pe_tup (pa_cons (pe_g c_law_pick hr (by decide) L2.pass0 bp_law_pick (by rfl) (pa_cons (pv 0) (pa_cons (pv 2) pa_nil))) (pa_cons (pe_g c_law_pick hr (by decide) L2.pass0 bp_law_pick (by rfl) (pa_cons (pv 0) (pa_cons (pe_lst (pa_cons pe_str (pa_cons pe_str (pa_cons pe_str (pa_cons pe_str pa_nil))))) pa_nil))) pa_nil))))) pa_nil)))
      (pss_one (ps_ret (pe_tup (pa_cons (pv 3) (pa_cons (pe_slice sl_list (pe_lst (pa_cons (pe_g c_law_pick hr (by decide) L2.pass0 bp_law_pick (by rfl) (pa_cons (pv 0) (pa_cons (pe_slice sl_list (pv 2) (po_some pe_int) po_none) pa_nil))) pa_nil)) po_none (po_some (pe_g c_law_draw hr (by decide) L2.pass0 bp_law_draw (by rfl) (pa_cons (pv 0) (pa_cons pe_int pa_nil))))) pa_nil))))))), ?_⟩
  refine ⟨fun σ' H' => ∃ (S : Addr), σ' = [some (.ref p), some (.int n), some (.ref S), none, none] ∧ Go p H H' ∧ S ≠ p ∧ H' S = some (.lst ((strL (n + 1)).map sx)), ?_, ?_⟩
  · refine ⟨_, rfl, ?_⟩
    refine ls_go (by omega) fun L H4 s4 nL eL => ?_
    exact ⟨L, rfl, Go.of hp s4, hp.ne nL, eL⟩
  rintro σ' H1 ⟨S, rfl, g1, nS, eS⟩
  have ll := strL_len (n + 1)
  have l4 : 2 ^ (n + 1) ≤ 2 ^ 6 := Nat.pow_le_pow_right (by decide) (by omega)
  have l2 : 2 ^ 2 ≤ 2 ^ (n + 1) := Nat.pow_le_pow_right (by decide) (by omega)
  refine ⟨fun σ' H' => ∃ (D : Addr) (m : List (Str × Str)), σ' = [some (.ref p), some (.int n), some (.ref S), some (.ref D), none] ∧ Go p H H' ∧ H' S = some (.lst ((strL (n + 1)).map sx)) ∧ H' D = some (.dK (tk m)) ∧ D ≠ p ∧ TabOk (n : Int) m ∧ m.length ≤ 6, ?_, ?_⟩
  · refine ⟨_, rfl, ?_⟩
    refine draw_go g1.pot (by decide) (by decide) fun e0 H2 e1 e2 g2 => ?_
    have eS2 := g2.kp eS nS
    have g12 := g1.trans g2
    refine ⟨_, rfl, by omega, by omega, fun B nB => ?_⟩
    refine lc_it (walk_range (lo := 0) (n := e0.toNat)) (fun i H' => ∃ m, (∀ q ∈ m, RowOk (n : Int) q) ∧ m.length = i ∧ LQ p H2 B m H') ⟨[], (fun q hq => by cases hq), rfl, .nil g12.pot nB⟩ (fun _ _ _ _ => trivial) ?_ ?_
    · rintro i x Hx H3 hi ⟨m, hm2, lm, hq⟩ ⟨rfl, rfl⟩
      refine ⟨rfl, ?_⟩
      dsimp only [tYes]
      rw [if_pos rfl]
      refine ⟨_, rfl, ⟨_, rfl, ?_⟩⟩
      refine among_l hq.2.pot nS (SqL.of (hq.2.kp eS2 nS)) (by rw [List.length_map]; omega) (by rw [List.length_map]; omega) fun v hv H4 g4 => ?_
      obtain ⟨u, hu, rfl⟩ := List.mem_map.mp hv
      have hst := strL_mem.mp hu
      refine ⟨_, rfl, ⟨szl (by show 4 ≤ 1000000; decide), fun L nL => ?_⟩⟩
      have gL := g4.new (o := HO.lst [V.str "a", V.str "b", V.str "hole", V.str "c"]) nL
      have nLp := g4.pot.ne nL
      refine among_l gL.pot nLp (SqL.of upd_same) (by show 0 < 4; decide) (by show 4 ≤ 1000; decide) fun v hv H5 g5 => ?_
      have hgo : ∃ g : Str, v = .str g ∧ GoalG g := by
        simp only [List.mem_cons, List.not_mem_nil, or_false] at hv
        rcases hv with rfl | rfl | rfl | rfl
        · exact ⟨_, rfl, gg_a⟩
        · exact ⟨_, rfl, gg_b⟩
        · exact ⟨_, rfl, gg_hole⟩
        · exact ⟨_, rfl, gg_c⟩
      obtain ⟨g, rfl, hgo⟩ := hgo
      refine ⟨szl (by show 2 ≤ 1000000; decide), fun t nt => ?_⟩
      obtain ⟨acc, e1', e2', e3'⟩ := LQ.turn (x := SX.S u) (y := g) g12.pot hq nB (gL.trans g5) nt (by omega)
      refine ⟨acc, e1', e2', m ++ [(SX.S u, g)], fun q hq => ?_, by rw [List.length_append, lm]; rfl, e3'⟩
      rcases List.mem_append.mp hq with h | h
      · exact hm2 q h
      · rw [List.mem_singleton] at h
        subst h
        exact ⟨sx_bits hst.1, by rw [sx_len]; omega, hgo.1, hgo.2.1, hgo.2.2⟩
    · rintro H3 ⟨m, hm2, lm, ⟨⟨tt, hB, tq⟩, g3⟩⟩
      refine ⟨B, tt, _, rfl, SqL.of hB, tq.pair, fun M nM => ?_⟩
      have hl := mrg_len1 (r := m) (m := [])
      rw [show mergeK [] (tk m) = tk (mrgT [] m) from mrgT_tk m [], show (([] : List (Str × Str)).length + m.length) = m.length from Nat.zero_add _] at *
      have g13 := g12.trans g3
      have g8 := g13.new (o := HO.dK (tk (mrgT [] m))) nM
      have eS3 := g3.kp eS2 nS
      exact ⟨M, mrgT [] m, rfl, g8, updn (nonn nM eS3) eS3, upd_same, g13.pot.ne nM, ⟨by omega, by omega, mrg_rows (fun q hq => by cases hq) hm2, mrg_nd .nil, by omega⟩, by omega⟩
  rintro σ' H2 ⟨D, m, rfl, g2, eS2, eD2, nD, ok, l6⟩
  refine ⟨_, rfl, ⟨_, rfl, ⟨_, rfl, ⟨1, rfl, ⟨S, _, rfl, SqL.of eS2, fun A1 nA1 => ?_⟩⟩⟩⟩⟩
  rw [show cutV ((strL (n + 1)).map sx) (some 1) none = ((strL (n + 1)).drop 1).map sx from (cut_from _ 1).trans List.map_drop.symm]
  have gA := (Go.refl g2.pot).new (o := HO.lst (((strL (n + 1)).drop 1).map sx)) nA1
  refine among_l gA.pot (g2.pot.ne nA1) (SqL.of upd_same) (by rw [List.length_map, List.length_drop]; omega) (by rw [List.length_map, List.length_drop]; omega) fun u hu H3 g3 => ?_
  obtain ⟨t, ht, rfl⟩ := List.mem_map.mp hu
  have hst := strL_mem.mp (List.mem_of_mem_drop ht)
  have g23 := gA.trans g3
  refine ⟨szl (by show 1 ≤ 1000000; decide), fun A2 nA2 => ?_⟩
  have g24 := g23.new (o := HO.lst [sx t]) nA2
  have eA2 : upd H3 A2 (.lst [sx t]) A2 = some (.lst (([t] : List (List Nat)).map sx)) := upd_same
  have nA2p := g23.pot.ne nA2
  generalize upd H3 A2 (.lst [sx t]) = H4 at g24 eA2 ⊢
  refine ⟨_, rfl, ?_⟩
  have ga := g2.trans g24
  refine draw_go ga.pot (by decide) (by decide) fun e0 H5 e1 e2 g5 => ?_
  obtain ⟨j, rfl⟩ := Int.eq_ofNat_of_zero_le e1
  refine ⟨(j : Int), rfl, ⟨A2, _, rfl, SqL.of (g5.kp eA2 nA2p), fun A3 nA3 => ?_⟩⟩
  rw [show cutV (([t] : List (List Nat)).map sx) none (some (j : Int)) = (([t] : List (List Nat)).take j).map sx from (cutV_to _ (k := j)).trans List.map_take.symm]
  have g25 := g24.trans g5
  have g6 := g25.new (o := HO.lst ((([t] : List (List Nat)).take j).map sx)) nA3
  have eA3 : upd H5 A3 (.lst ((([t] : List (List Nat)).take j).map sx)) A3 = some (.lst ((([t] : List (List Nat)).take j).map sx)) := upd_same
  have nA3p := g25.pot.ne nA3
  generalize upd H5 A3 (.lst ((([t] : List (List Nat)).take j).map sx)) = H6 at g6 eA3 ⊢
  refine ⟨szl (by show 2 ≤ 1000000; decide), fun z nz => ?_⟩
  have g7 := g6.new (o := HO.tup [.ref D, .ref A3]) nz
  exact k z D A3 m (([t] : List (List Nat)).take j) _ (g2.trans g7) upd_same (g7.kp eD2 nD) nD ok l6 (updn (nonn nz eA3) eA3) nA3p (fun u hu => by
    rw [List.mem_singleton.mp (List.mem_of_mem_take hu)]
    exact ⟨hst.1, by omega⟩) (by rw [List.length_take]; exact Nat.min_le_right _ _)
end
open PySem PySem.Spec PyProof.Rows LamX
open L2 hiding pass0
abbrev s_law_made : Stmt := top 81
theorem sc_law_made : FnScope ["_law_one", "_law_other", "_law_shared", "_law_goal_here"] ["_law_one", "_law_other"] (defScope s_law_made) := ⟨rfl, rfl, rfl, by decide +kernel, rfl, by decide +kernel, by decide +kernel⟩
theorem bp_law_made : BndP "_law_made" s_law_made ["_law_one", "_law_other"] := fun _ _ _ _ _ _ us h => match us, h with | [_, _], _ => rfl
theorem RoomG.u65 {k : Nat} {A : Around} (x : RoomG k A) : A.units + 65 < cLine := by have := x.r.un; omega
theorem op_inDK {X : Cx} {K : PySem.W.Frag} (e : X.K = K) (hu : X.A.units + 65 < cLine) : OpR X (compareOp .In) (rInD K) := by
  subst e
  exact op_inD hu
/-- what is told of a stretch, as a list of two -/
def LnV (H : Hp) (v : V) : Option (List Str) → Prop
  | none => v = .str "all"
  | some x => ∃ L, v = .ref L ∧ H L = some (.lst (x.map V.str))
def LnA (H : Hp) (a : Addr) (s : SNd) : Prop := ∃ v, H a = some (.lst [v, .int (s.2 : Nat)]) ∧ LnV H v s.1
theorem LnV.via {H H' : Hp} {v : V} {o : Option (List Str)} (h : LnV H v o) (s : ∀ b l, H b = some (.lst l) → H' b = some (.lst l)) : LnV H' v o := by
  cases o with
  | none => exact h
  | some x =>
    obtain ⟨L, e, q⟩ := h
    exact ⟨L, e, s _ _ q⟩
theorem LnA.via {H H' : Hp} {a : Addr} {t : SNd} (h : LnA H a t) (s : ∀ b l, H b = some (.lst l) → H' b = some (.lst l)) : LnA H' a t := by
  obtain ⟨v, e, q⟩ := h
  exact ⟨v, s _ _ e, q.via s⟩
def lnD : Option (List Str) → PyData
  | none => .str "all"
  | some x => .list (x.map PyData.str)
theorem LnV.dp {K : PySem.W.Frag} {H : Hp} {v : V} {o : Option (List Str)} (h : LnV H v o) : Dp K H v (lnD o) := by
  cases o with
  | none =>
    obtain rfl : v = .str "all" := h
    exact .str _
  | some x =>
    obtain ⟨L, rfl, e⟩ := h
    exact .lst (SqL.of e) (dps x)
theorem lnD_fit {s : SNd} (z : Sz s) : Fit 201000 1 (lnD s.1) := by
  obtain ⟨o, i⟩ := s
  cases o with
  | none => exact Fit.str (by decide +kernel) (by decide +kernel)
  | some x =>
    obtain ⟨lx, gx⟩ := z x rfl
    exact (strs_fit gx).mono (Nat.mul_le_mul_left 201 lx) (Nat.le_refl _)
@[irreducible] def spMd (TT : List (Addr × Str)) : Sp := fun vs H Q _ => ∃ (a b : Addr) (s t : SNd), vs = [.ref a, .ref b] ∧ Tabs TT H ∧ LnA H a s ∧ LnA H b t ∧ Sz s ∧ Sz t ∧ ∀ c H', ExtN H H' → Tabs TT H' → LnA H' c (both2 s t) → Q (.ref c) H'
theorem md_go {TT : List (Addr × Str)} {a b : Addr} {s t : SNd} {H : Hp} {Q : VK} {E : XK} (hT : Tabs TT H) (ha : LnA H a s) (hb : LnA H b t) (zs : Sz s) (zt : Sz t) (k : ∀ c H', ExtN H H' → Tabs TT H' → LnA H' c (both2 s t) → Q (.ref c) H') : spMd TT [.ref a, .ref b] H Q E := by
  unfold spMd
  exact ⟨a, b, s, t, rfl, hT, ha, hb, zs, zt, k⟩
section
variable {P : Program} {w : World} {K : PySem.W.Frag} {mg : Str → Option Value} {base : Heap}
theorem ok_made {f c TP : Addr} {TT : List (Addr × Str)} {ocf kVf docf pmf ctf : Value} {anf odf : Option Addr} {oslf : Array (Option Value)} (lkf : K.lookup f = some ⟨ocf, odf, .func (PySem.W.fnOf "_law_made" "_law_made" (defArgs s_law_made) (defBody s_law_made) (defScope s_law_made) .none kVf docf pmf anf (.ref c) ctf), oslf⟩)
    (hcf : PySem.W.codeIn K (.ref c) "_law_made" = true) (hkf : PySem.W.keepIn K (.ref f) = true) (hmf : mg "_law_made" = some (.ref f)) (T : Txt K mg) (TB : TabB base mg c TP) (hmT : (TP, (("_law_made" : Str) ++ ".<locals>.") ++ "<lambda>") ∈ TT) (huT : ∀ p ∈ TT, p.1 = TP → p.2 = (("_law_made" : Str) ++ ".<locals>.") ++ "<lambda>") :
    Nm P w K mg base CX0 4 "_law_made" s_law_made ["_law_one", "_law_other"] (spMd TT) := by
  refine nm_ofL lkf hcf hkf hmf sc_law_made (fun vs H Q E h => ?_) fun A outer s H vs Q E hr h => ?_
  · unfold spMd at h
    obtain ⟨a, b, s, t, rfl, _⟩ := h
    rfl
  unfold spMd at h
  obtain ⟨a, b, s, t, rfl, hT, ha, hb, zs, zt, k⟩ := h
  refine ⟨_, (pss_cons (ps_if (pt_cmpR (op_inDK (K := K) rfl hr.u65) pe_str (pe_lst (pa_cons (pe_ix (ix_seqK (K := K) rfl) (pv 0) pe_int (fun _ _ => rfl)) (pa_cons (pe_ix (ix_seqK (K := K) rfl) (pv 1) pe_int (fun _ _ => rfl)) pa_nil))) rfl) (pss_one (ps_ret (pe_lst (pa_cons (pe_ifExp (pt_cmpR (op_eqDK (K := K) rfl hr.u64) (pe_ix (ix_seqK (K := K) rfl) (pv 0) pe_int (fun _ _ => rfl)) pe_str (nomark _)) (pe_ix (ix_seqK (K := K) rfl) (pv 1) pe_int (fun _ _ => rfl)) (pe_ix (ix_seqK (K := K) rfl) (pv 0) pe_int (fun _ _ => rfl))) (pa_cons (pe_op op_add (pe_ix (ix_seqK (K := K) rfl) (pv 0) pe_int (fun _ _ => rfl)) (pe_ix (ix_seqK (K := K) rfl) (pv 1) pe_int (fun _ _ => rfl))) pa_nil))))) pss_nil)
      (pss_cons (ps_setLc (i := 2) (own := [("_law_goal_here", 3)]) (g := (gName 3)) (by rfl) sc_law_made.nd rfl rfl (sw_true rfl rfl rfl (by decide +kernel)) (pi_listK (K := K) rfl (pe_ix (ix_seqK (K := K) rfl) (pv 0) pe_int (fun _ _ => rfl))) (blkOk_by (own := [("_law_goal_here", 3)]) (N := ["_law_one", "_law_other", "_law_shared", "_law_goal_here"]) (sc := defScope s_law_made) (by decide +kernel)) (fun _ _ _ _ _ => (pg_name (i := 3) sc_law_made.nd rfl (by first | exact Or.inl rfl | exact Or.inr rfl))) (fun _ _ _ _ _ => (pts_one (pt_cmpR (op_inK (K := K) rfl) (pv 3) (pe_ix (ix_seqK (K := K) rfl) (pv 1) pe_int (fun _ _ => rfl)) rfl))) (fun _ _ _ _ _ => (pv 3)))
      (pss_cons (ps_if (pt_cmpR (op_neDK (K := K) rfl hr.u64) (pv 2) (pe_lst pa_nil) (nomark _)) (pss_one (ps_ret (pe_lst (pa_cons (pv 2) (pa_cons (pe_op op_add (pe_ix (ix_seqK (K := K) rfl) (pv 0) pe_int (fun _ _ => rfl)) (pe_ix (ix_seqK (K := K) rfl) (pv 1) pe_int (fun _ _ => rfl))) pa_nil))))) pss_nil)
      (pss_one (ps_ret (pe_lst (pa_cons (pe_sortLam TB rfl hmT huT (C8.fnScope_by (N := ["_law_goal_here"]) (by decide +kernel)) (hr.mono (by decide)) (by rfl) (fun _ _ _ _ _ => by rfl) (by rfl) (by rfl) T.b_str (by rfl) (by decide) (by rfl) T.b_sorted (pe_op op_cat (pe_ix (ix_seqK (K := K) rfl) (pv 0) pe_int (fun _ _ => rfl)) (pe_ix (ix_seqK (K := K) rfl) (pv 1) pe_int (fun _ _ => rfl)))) (pa_cons (pe_op op_add (pe_op op_add (pe_ix (ix_seqK (K := K) rfl) (pv 0) pe_int (fun _ _ => rfl)) (pe_ix (ix_seqK (K := K) rfl) (pv 1) pe_int (fun _ _ => rfl))) pe_int) pa_nil)))))))), ?_⟩
  obtain ⟨x, ea, vx⟩ := ha
  obtain ⟨y, eb, vy⟩ := hb
  have sA := all_shp
  have dx := vx.dp (K := K)
  have dy := vy.dp (K := K)
  have fx := lnD_fit zs
  have fy := lnD_fit zt
  refine ⟨_, rfl, .inl ⟨a, _, 0, x, rfl, rfl, SqL.of (ea), rfl, ?_⟩⟩
  refine ⟨_, rfl, .inl ⟨b, _, 0, y, rfl, rfl, SqL.of (eb), rfl, ?_⟩⟩
  refine ⟨szl (by show 2 ≤ 1000000; decide), fun B nB => ?_⟩
  have sB := (Same.refl H).new (o := HO.lst [x, y]) nB
  have eB : upd H B (.lst [x, y]) B = some (.lst [x, y]) := upd_same
  have wx := vx.via (fun b l e => sB b _ e)
  have wy := vy.via (fun b l e => sB b _ e)
  have dx1 := wx.dp (K := K)
  have dy1 := wy.dp (K := K)
  have ea1 := sB _ _ ea
  have eb1 := sB _ _ eb
  clear dx dy vx vy ea eb
  generalize upd H B (.lst [x, y]) = H1 at sB eB wx wy dx1 dy1 ea1 eb1 ⊢
  have fl2 : Fit ((201000 + 1) * 2) 2 (.list [lnD s.1, lnD t.1]) := Fit.list (N := 201000) (D := 1) (ds := [lnD s.1, lnD t.1]) fun e he => by
    rcases List.mem_cons.mp he with rfl | h
    · exact fx
    · rw [List.mem_singleton.mp h]
      exact fy
  refine ⟨.str "all", [lnD s.1, lnD t.1], .str _, .lst (SqL.of eB) (.cons dx1 (.cons dy1 .nil)), sA, fl2.shp (by decide), ?_⟩
  have eAll : ∀ o : Option (List Str), PyData.eqv (lnD o) (.str "all") = o.isNone := fun o => by cases o <;> simp [lnD, PyData.eqv]
  rw [show ([lnD s.1, lnD t.1].any fun z => PyData.eqv z (.str "all")) = (s.1.isNone || t.1.isNone) by simp only [List.any_cons, List.any_nil, eAll, Bool.or_false]]
  refine ⟨_, rfl, ?_⟩
  obtain ⟨s1, i⟩ := s
  obtain ⟨t1, j⟩ := t
  dsimp only at wx wy dx1 dy1 ea1 eb1 zs zt fx fy ⊢
  have cast : V.int ((i : Int) + (j : Int)) = V.int ((i + j : Nat) : Int) := congrArg V.int (by omega)
  have hT1 := hT.ext sB
  cases s1 with
  | none =>
    rw [show ((none : Option (List Str)).isNone || t1.isNone) = true from rfl]
    refine iteT ?_
    refine ⟨_, rfl, .inl ⟨a, _, 0, x, rfl, rfl, SqL.of ea1, rfl, ?_⟩⟩
    refine ⟨_, _, dx1, .str _, fx.shp (by decide), sA, ?_⟩
    rw [eAll]
    refine ⟨_, rfl, iteT ?_⟩
    refine ⟨_, rfl, .inl ⟨b, _, 0, y, rfl, rfl, SqL.of eb1, rfl, ?_⟩⟩
    refine ⟨_, rfl, .inl ⟨a, _, 1, .int (i : Nat), rfl, rfl, SqL.of ea1, rfl, ?_⟩⟩
    refine ⟨_, rfl, .inl ⟨b, _, 1, .int (j : Nat), rfl, rfl, SqL.of eb1, rfl, ?_⟩⟩
    refine ⟨_, _, rfl, rfl, ?_⟩
    refine ⟨szl (by show 2 ≤ 1000000; decide), fun c nc => ?_⟩
    have sc := sB.new (o := HO.lst [y, .int ((i : Int) + (j : Int))]) nc
    have sc1 := (Same.refl H1).new (o := HO.lst [y, .int ((i : Int) + (j : Int))]) nc
    exact k c _ (ExtN.of sc) (hT.ext sc) ⟨y, upd_same.trans (congrArg (fun z => some (HO.lst [y, z])) cast), wy.via fun b l e => sc1 b _ e⟩
  | some xs =>
    obtain ⟨A1, rfl, hA⟩ := wx
    obtain ⟨lx, gx⟩ := zs xs rfl
    cases t1 with
    | none =>
      rw [show ((some xs : Option (List Str)).isNone || (none : Option (List Str)).isNone) = true from rfl]
      refine iteT ?_
      refine ⟨_, rfl, .inl ⟨a, _, 0, .ref A1, rfl, rfl, SqL.of ea1, rfl, ?_⟩⟩
      refine ⟨_, _, dx1, .str _, fx.shp (by decide), sA, ?_⟩
      rw [eAll]
      refine ⟨_, rfl, iteF ?_⟩
      refine ⟨_, rfl, .inl ⟨a, _, 0, .ref A1, rfl, rfl, SqL.of ea1, rfl, ?_⟩⟩
      refine ⟨_, rfl, .inl ⟨a, _, 1, .int (i : Nat), rfl, rfl, SqL.of ea1, rfl, ?_⟩⟩
      refine ⟨_, rfl, .inl ⟨b, _, 1, .int (j : Nat), rfl, rfl, SqL.of eb1, rfl, ?_⟩⟩
      refine ⟨_, _, rfl, rfl, ?_⟩
      refine ⟨szl (by show 2 ≤ 1000000; decide), fun c nc => ?_⟩
      have sc := sB.new (o := HO.lst [.ref A1, .int ((i : Int) + (j : Int))]) nc
      have sc1 := (Same.refl H1).new (o := HO.lst [.ref A1, .int ((i : Int) + (j : Int))]) nc
      exact k c _ (ExtN.of sc) (hT.ext sc) ⟨.ref A1, upd_same.trans (congrArg (fun z => some (HO.lst [.ref A1, z])) cast), A1, rfl, sc1 _ _ hA⟩
    | some ys =>
      obtain ⟨A2, rfl, hA2⟩ := wy
      obtain ⟨ly, gy⟩ := zt ys rfl
      rw [show ((some xs : Option (List Str)).isNone || (some ys : Option (List Str)).isNone) = false from rfl]
      refine iteF ?_
      refine ⟨_, rfl, .inl ⟨a, _, 0, .ref A1, rfl, rfl, SqL.of ea1, rfl, ⟨A1, rfl, ⟨_, SqL.of hA⟩, fun D nD => ?_⟩⟩⟩
      refine lc_it (walk_list (xs := xs.map V.str)) (fun j H2 => H2 D = some (.lst ((shr (xs.take j) ys).map V.str)) ∧ Same H1 H2) ⟨upd_same, (Same.refl H1).new nD⟩ (fun j H2 _ h => SqL.of (h.2 _ _ hA)) ?_ ?_
      · rintro l v H2 H3 hj ⟨hD, sm⟩ ⟨rfl, hv⟩
        obtain ⟨g, hg, rfl⟩ : ∃ g, xs[l]? = some g ∧ v = V.str g := by
          rw [List.getElem?_map] at hv
          cases e : xs[l]? with
          | none => rw [e] at hv; cases hv
          | some t => rw [e] at hv; exact ⟨t, rfl, (Option.some.inj hv).symm⟩
        refine ⟨rfl, ?_⟩
        refine ⟨_, rfl, ⟨_, rfl, .inl ⟨b, _, 0, .ref A2, rfl, rfl, SqL.of (sm _ _ eb1), rfl, ⟨A2, _, rfl, .inl (SqL.of (sm _ _ hA2)), rfl, flat_strs _, ?_⟩⟩⟩⟩
        rw [show inV (.str g) (ys.map V.str) = decide (g ∈ ys) from inV_strs g ys]
        refine ⟨_, rfl, ?_⟩
        have e := shr_more (ys := ys) hg
        by_cases q : g ∈ ys
        · rw [decide_eq_true q]
          refine iteT ?_
          refine ⟨_, rfl, ⟨_, hD, szt (by have := List.length_filter_le (fun g => decide (g ∈ ys)) (xs.take l); rw [List.length_map]; unfold shr; rw [List.length_take] at this; omega), ?_, fun b o h => updn (nonn nD h) (sm _ _ h)⟩⟩
          rw [upd_same, e, if_pos q, List.map_append]
          rfl
        · rw [decide_eq_false q]
          refine iteF ?_
          rw [e, if_neg q, List.append_nil]
          exact ⟨hD, sm⟩
      · rintro H2 ⟨hD, sm⟩
        rw [List.length_map, List.take_length] at hD
        refine ⟨_, rfl, ⟨szl (Nat.zero_le _), fun Z nZ => ?_⟩⟩
        have s3 := sm.new (o := HO.lst ([] : List V)) nZ
        have hD3 := updn (o := HO.lst ([] : List V)) (nonn nZ hD) hD
        have eZ : upd H2 Z (.lst []) Z = some (.lst []) := upd_same
        generalize upd H2 Z (.lst []) = H3 at s3 hD3 eZ ⊢
        have gsh : ∀ g ∈ shr xs ys, Low g ∧ g.length ≤ 200 := fun g hg => gx g (mem_shr.mp hg).1
        refine ⟨_, _, .lst (SqL.of hD3) (dps _), .lst (SqL.of eZ) .nil, (strs_fit gsh).shp (by decide), rfl, ?_⟩
        rw [eqv_nil]
        refine ⟨_, rfl, ?_⟩
        have s03 := sB.trans s3
        by_cases q : shr xs ys = []
        · rw [decide_eq_true q]
          refine iteF ?_
          refine ⟨_, rfl, .inl ⟨a, _, 0, .ref A1, rfl, rfl, SqL.of (s3 _ _ ea1), rfl, ?_⟩⟩
          refine ⟨_, rfl, .inl ⟨b, _, 0, .ref A2, rfl, rfl, SqL.of (s3 _ _ eb1), rfl, ?_⟩⟩
          refine ⟨A1, A2, _, _, rfl, rfl, s3 _ _ hA, s3 _ _ hA2, szl (by rw [List.length_map, List.length_map]; omega), fun L nL => ?_⟩
          have s4 := s3.new (o := HO.lst (xs.map V.str ++ ys.map V.str)) nL
          have s04 := s03.new (o := HO.lst (xs.map V.str ++ ys.map V.str)) nL
          have e4 : upd H3 L (.lst (xs.map V.str ++ ys.map V.str)) L = some (.lst ((xs ++ ys).map V.str)) := by rw [upd_same, List.map_append]
          generalize upd H3 L (.lst (xs.map V.str ++ ys.map V.str)) = H4 at s4 s04 e4 ⊢
          refine ⟨hT.ext s04, L, xs ++ ys, rfl, e4, fun H5 x5 t5 p np => ?_⟩
          have x6 := x5.trans (ExtN.of ((Same.refl H5).new (o := HO.lst ((tsort (xs ++ ys)).map V.str)) np))
          have t6 : Tabs TT (upd H5 p (.lst ((tsort (xs ++ ys)).map V.str))) := t5.ext ((Same.refl H5).new np)
          have e6 : upd H5 p (.lst ((tsort (xs ++ ys)).map V.str)) p = some (.lst ((tsort (xs ++ ys)).map V.str)) := upd_same
          generalize upd H5 p (.lst ((tsort (xs ++ ys)).map V.str)) = H6 at x6 t6 e6 ⊢
          have ea6 := x6 _ _ (s4 _ _ ea1) (fun _ z => nomatch z)
          have eb6 := x6 _ _ (s4 _ _ eb1) (fun _ z => nomatch z)
          refine ⟨_, rfl, .inl ⟨a, _, 1, .int (i : Nat), rfl, rfl, SqL.of ea6, rfl, ?_⟩⟩
          refine ⟨_, rfl, .inl ⟨b, _, 1, .int (j : Nat), rfl, rfl, SqL.of eb6, rfl, ?_⟩⟩
          refine ⟨_, _, rfl, rfl, ?_⟩
          refine ⟨_, _, rfl, rfl, ?_⟩
          refine ⟨szl (by show 2 ≤ 1000000; decide), fun c nc => ?_⟩
          have sc := (Same.refl H6).new (o := HO.lst [.ref p, .int ((i : Int) + (j : Int) + 1)]) nc
          refine k c _ (((ExtN.of s04).trans x6).trans (ExtN.of sc)) (t6.ext sc) ⟨.ref p, ?_, ?_⟩
          · rw [both_ss, if_pos q]
            exact upd_same.trans (congrArg (fun z => some (HO.lst [.ref p, V.int z])) (by show (i : Int) + j + 1 = ((i + j + 1 : Nat) : Int); omega))
          · rw [both_ss, if_pos q]
            exact ⟨p, rfl, sc _ _ e6⟩
        · rw [decide_eq_false q]
          refine iteT ?_
          refine ⟨_, rfl, ?_⟩
          refine ⟨_, rfl, .inl ⟨a, _, 1, .int (i : Nat), rfl, rfl, SqL.of (s3 _ _ ea1), rfl, ?_⟩⟩
          refine ⟨_, rfl, .inl ⟨b, _, 1, .int (j : Nat), rfl, rfl, SqL.of (s3 _ _ eb1), rfl, ?_⟩⟩
          refine ⟨_, _, rfl, rfl, ?_⟩
          refine ⟨szl (by show 2 ≤ 1000000; decide), fun c nc => ?_⟩
          have sc := s03.new (o := HO.lst [.ref D, .int ((i : Int) + (j : Int))]) nc
          refine k c _ (ExtN.of sc) (hT.ext sc) ⟨.ref D, ?_, ?_⟩
          · rw [both_ss, if_neg q]
            exact upd_same.trans (congrArg (fun z => some (HO.lst [.ref D, z])) cast)
          · rw [both_ss, if_neg q]
            exact ⟨D, rfl, updn (nonn nc hD3) hD3⟩
end
open PySem PySem.Spec PyProof.Rows
open L2 hiding pass0
open PySem PySem.Spec PyProof.Rows LamX
open L2 hiding pass0
theorem Like.srt {n : Nat} {m m2 : List (Str × Str)} {fs : List (List Nat)} (h : Like n m m2 fs) : Like n m (Cov.srt m2) fs := fun z a b c => by
  rw [h z a b c, look_fun fun z => look_srt (m := m2) z]
theorem Like.refl (n : Nat) (m : List (Str × Str)) (fs : List (List Nat)) : Like n m m fs := fun _ _ _ _ => rfl
theorem SN_srt {n : Nat} {m : List (Str × Str)} {fs : List (List Nat)} {t : List Nat} : SN n (srt m) fs t = SN n m fs t := by
  unfold SN lab
  rw [show look (srt m) = look m from funext fun k => look_srt k]
theorem TabAt.go {p C a : Addr} {n : Int} {m : List (Str × Str)} {H H' : Hp} (h : TabAt C H a n m) (hp : PotAt H p) (g : Go p H H') : TabAt C H' a n m := by
  obtain ⟨dx, D, ha, hD, hne⟩ := h
  obtain ⟨x, y, e, _⟩ := hp
  exact ⟨dx, D, g.kp ha (fun z => by rw [z, e] at ha; cases ha), g.kp hD (fun z => by rw [z, e] at hD; cases hD), hne⟩
/-- pairs as things that may be pairs -/
def sm (ys : List (Addr × Pr)) : List (Addr × Option Pr) := ys.map fun y => (y.1, some y.2)
theorem sm_vz (ys : List (Addr × Pr)) : vz (sm ys) = vz ys := by
  unfold vz sm
  rw [List.map_map]
  rfl
theorem sm_prs (ys : List (Addr × Pr)) : prs (sm ys) = ys.map (·.2) := by
  unfold prs sm
  rw [List.filterMap_map]
  exact congrFun (List.filterMap_eq_map (f := fun y : Addr × Pr => y.2)) ys
theorem sm_pz {H : Hp} {n : Nat} {ys : List (Addr × Pr)} (h : Ps H n ys) : Pz H (sm ys) := fun z hz => by
  obtain ⟨y, hy, rfl⟩ := List.mem_map.mp hz
  exact (h y hy).1
theorem sm_po {H : Hp} {n : Nat} {ys : List (Addr × Pr)} (h : Ps H n ys) : ∀ z ∈ sm ys, PoOk n z.2 := fun z hz => by
  obtain ⟨y, hy, rfl⟩ := List.mem_map.mp hz
  intro q hq
  cases hq
  exact (h y hy).2
theorem sm_all (d : List (Str × Str)) (fs : List (List Nat)) (ys : List (Addr × Pr)) : ((sm ys).all fun z => okO d fs z.2) = (ys.map (·.2)).all (okP d fs) := by
  unfold sm
  rw [List.all_map, List.all_map]
  rfl
theorem pack_srt (n : Nat) (m : List (Str × Str)) (fs : List (List Nat)) (qs : List Pr) : packB n (srt m) fs qs = packB n m fs qs := by
  have e : gT (srt m) = gT m := by
    unfold gT
    rw [show look (srt m) = look m from funext fun k => look_srt k]
  unfold packB okP
  rw [e]
theorem eq_look {m r : List (Str × Str)} (h1 : (m.map (·.1)).Nodup) (h2 : (r.map (·.1)).Nodup) (h : ∀ k, look m k = look r k) : ((tk m).length == (tk r).length && allEq (tk m) (tk r)) = true := by
  have hp : (m.map (·.1)).Perm (r.map (·.1)) := perm_nd h1 h2 fun x => by rw [look_mem_key, look_mem_key, h x]
  have hl := hp.length_eq
  rw [List.length_map, List.length_map] at hl
  rw [tk_len, tk_len, hl, beq_self_eq_true, Bool.true_and]
  unfold allEq
  rw [List.all_eq_true]
  intro p hp
  obtain ⟨q, hq, rfl⟩ := List.mem_map.mp hp
  have hv : valV (tk r) (Sum.inr q.1) = some (V.str q.2) := by
    rw [tk_look, ← h, look_of h1 hq]
    rfl
  show (match valV (tk r) (Sum.inr q.1) with | some v => eqV (V.str q.2) v | none => false) = true
  rw [hv]
  show decide (q.2 = q.2) = true
  exact decide_eq_true rfl
theorem nt_lst {xs : List V} (ps : Array Value) : HO.lst xs ≠ .tbl ps := fun z => nomatch z
/-- the pot, the tables; all else stands -/
structure GoN (T : List (Addr × Str)) (p : Addr) (H H' : Hp) : Prop where
  pot : PotAt H' p
  tabs : Tabs T H'
  keep : ∀ b o, H b = some o → (∀ ps, o ≠ .tbl ps) → b ≠ p → H' b = some o
theorem pot_ext {p : Addr} {H H' : Hp} (h : PotAt H p) (e : ExtN H H') : PotAt H' p := by
  obtain ⟨a, b, q, r⟩ := h
  exact ⟨a, b, e _ _ q nt_lst, r⟩
theorem GoN.refl {T : List (Addr × Str)} {p : Addr} {H : Hp} (h : PotAt H p) (t : Tabs T H) : GoN T p H H := ⟨h, t, fun _ _ e _ _ => e⟩
theorem tabs_go {T : List (Addr × Str)} {p : Addr} {H H' : Hp} (hp : PotAt H p) (t : Tabs T H) (g : Go p H H') : Tabs T H' := fun q hq => by
  obtain ⟨a, b, ep, _⟩ := hp
  obtain ⟨ps, q1, q2, q3⟩ := t q hq
  refine ⟨ps, g.keep _ _ q1 (fun z => by rw [z, ep] at q1; cases q1), q2, fun pos cv hc => ?_⟩
  obtain ⟨c, c1, c2⟩ := q3 pos cv hc
  exact ⟨c, c1, g.keep _ _ c2 (fun z => by rw [z, ep] at c2; injection c2 with c2; cases c2)⟩
theorem GoN.go {T : List (Addr × Str)} {p : Addr} {H H1 H2 : Hp} (g : GoN T p H H1) (h : Go p H1 H2) : GoN T p H H2 := ⟨h.pot, tabs_go g.pot g.tabs h, fun b o e n m => h.keep b o (g.keep b o e n m) m⟩
theorem GoN.ext {T : List (Addr × Str)} {p : Addr} {H H1 H2 : Hp} (g : GoN T p H H1) (e : ExtN H1 H2) (t : Tabs T H2) : GoN T p H H2 := ⟨pot_ext g.pot e, t, fun b o h n m => e b o (g.keep b o h n m) n⟩
theorem GoN.trans {T : List (Addr × Str)} {p : Addr} {H H1 H2 : Hp} (g : GoN T p H H1) (h : GoN T p H1 H2) : GoN T p H H2 := ⟨h.pot, h.tabs, fun b o e n m => h.keep b o (g.keep b o e n m) n m⟩
theorem TabAt.ext {C a : Addr} {n : Int} {m : List (Str × Str)} {H H' : Hp} (h : TabAt C H a n m) (s : ExtN H H') : TabAt C H' a n m := by
  obtain ⟨dx, D, ha, hD, hne⟩ := h
  exact ⟨dx, D, s _ _ ha (fun _ z => nomatch z), s _ _ hD (fun _ z => nomatch z), hne⟩
def SmP (q : Str × Str) : Prop := (Low q.1 ∧ q.1.length ≤ 100) ∧ (Low q.2 ∧ q.2.length ≤ 100)
theorem prs_fit {ps : List (Str × Str)} (h : ∀ q ∈ ps, SmP q) : Fit (203 * ps.length) 2 (.list (ps.map prD)) := by
  have := Fit.list (N := 202) (D := 1) (ds := ps.map prD) fun d hd => by
    obtain ⟨q, hq, rfl⟩ := List.mem_map.mp hd
    obtain ⟨⟨a1, a2⟩, a3, a4⟩ := h q hq
    refine Fit.tuple (N := 100) (D := 0) (ds := [.str q.1, .str q.2]) fun d hd => ?_
    simp only [List.mem_cons, List.not_mem_nil, or_false] at hd
    rcases hd with rfl | rfl
    · exact .str a1 a2
    · exact .str a3 a4
  rw [List.length_map] at this
  exact this
theorem low_tk {z : Str} {k : Nat} (h : Bits z) : Low (px z k) := fun c hc => by
  have hc' : c ∈ z.cps.toList.take k := hc
  exact h.low c (List.mem_of_mem_take hc')
theorem sm_pr {z d : Str} {k : Nat} (h : Bits z) (l : z.length ≤ 100) (hd : d = "up" ∨ d = "down") : SmP (px z k, d) := by
  refine ⟨⟨low_tk h, by rw [px_len]; omega⟩, ?_⟩
  rcases hd with rfl | rfl
  · exact ⟨by show ∀ c ∈ ("up" : Str).cps.toList, c < 128; decide +kernel, by show ("up" : Str).length ≤ 100; decide +kernel⟩
  · exact ⟨by show ∀ c ∈ ("down" : Str).cps.toList, c < 128; decide +kernel, by show ("down" : Str).length ≤ 100; decide +kernel⟩
theorem sm_pathN {e : Str} {n : Nat} (h : Bits e) (l : e.length ≤ 100) : ∀ q ∈ pathN e n, SmP q := fun q hq => by
  obtain ⟨i, _, rfl⟩ := List.mem_map.mp hq
  exact sm_pr h l (.inr rfl)
theorem sm_pathP {z e : Str} {w : Nat} (hz : Bits z) (lz : z.length ≤ 100) (he : Bits e) (le : e.length ≤ 100) : ∀ q ∈ pathP z e w, SmP q := fun q hq => by
  rcases List.mem_append.mp hq with hq | hq
  · obtain ⟨i, _, rfl⟩ := List.mem_map.mp hq
    exact sm_pr hz lz (.inl rfl)
  · obtain ⟨i, _, rfl⟩ := List.mem_map.mp hq
    exact sm_pr he le (.inr rfl)
theorem len_pathP (z e : Str) (w : Nat) : (pathP z e w).length = 2 * (w - cpS z e) := by
  unfold pathP pathU pathD
  rw [List.length_append, List.length_map, List.length_map, List.length_range]
  omega
theorem len_pathN (e : Str) (w : Nat) : (pathN e w).length = w := by
  unfold pathN
  rw [List.length_map, List.length_range]
theorem flm_ok {n : Nat} {m : List (Str × Str)} (ok : TabOk (n : Int) m) : TabOk (n : Int) (flm m) := by
  refine ⟨ok.w0, ok.w1, fun p hp => ?_, flm_nd ok.nd, by rw [flm_len]; exact ok.few⟩
  unfold flm at hp
  obtain ⟨q, hq, rfl⟩ := List.mem_map.mp hp
  obtain ⟨r1, r2⟩ := rows_in ok q hq
  have r := ok.rows q hq
  exact ⟨sx_bits (fl_bl r1), by show ((SX.S (fl q.1.cps.toList)).length : Int) ≤ n; rw [sx_len, fl_len, len_tl]; omega, r.2.2⟩
theorem fl_fits {n : Nat} {fs : List (List Nat)} (h : Fits n fs) : Fits n (fs.map fl) := fun t ht => by
  obtain ⟨u, hu, rfl⟩ := List.mem_map.mp ht
  exact ⟨fl_bl (h u hu).1, by rw [fl_len]; exact (h u hu).2⟩
theorem SN_flS (n : Nat) (m : List (Str × Str)) (fs : List (List Nat)) (t : List Nat) : SN n (srt (flm m)) (fs.map fl) (fl t) = SN n (srt m) fs t := by rw [SN_srt, SN_srt, SN_fl]
open PySem PySem.Spec PyProof.Rows
open L2 hiding pass0
abbrev s_law_flip_right : Stmt := top 80
theorem sc_law_flip_right : FnScope ["_law_pot_here", "_law_wide", "_law_rows", "_law_idle", "_law_made_here", "_law_twin", "_law_other", "_law_turn", "_law_spot", "_law_told", "_law_due", "_law_pairs", "_law_one", "_law_turned", "_law_border", "_law_way"] ["_law_pot_here", "_law_wide", "_law_rows", "_law_idle"] (defScope s_law_flip_right) := ⟨rfl, rfl, rfl, by decide +kernel, rfl, by decide +kernel, by decide +kernel⟩
theorem bp_law_flip_right : BndP "_law_flip_right" s_law_flip_right ["_law_pot_here", "_law_wide", "_law_rows", "_law_idle"] := fun _ _ _ _ _ _ us h => match us, h with | [_, _, _, _], _ => rfl
theorem sa_goV {K : PySem.W.Frag} {C a F : Addr} {n : Nat} {m : List (Str × Str)} {fs : List (List Nat)} {t : List Nat} {H : Hp} {Q : VK} {E : XK} (tf : TF K C H a F n m fs) (bl : M.BL t) (tl : t.length ≤ n) (k : ∀ v H', Same H H' → LnV H' v (SN n m fs t).1 → Q v H') : spSA K C [.ref a, sx t, .ref F] H Q E :=
  sa_go tf bl tl (fun e H' s => k _ H' s (by rw [e]; rfl)) fun x e L H' s nL eL => k _ H' s (by rw [e]; exact ⟨L, rfl, eL⟩)
theorem SN_need {n : Nat} {m : List (Str × Str)} {fs : List (List Nat)} {t : List Nat} (h : n ≤ 6) : (SN n m fs t).2 ≤ 128 := by
  unfold SN
  have h1 := SNk_need (lab := lab m fs) (k := n - t.length) (t := t)
  have h2 : 2 ^ (n - t.length) ≤ 2 ^ 6 := Nat.pow_le_pow_right (by decide) (by omega)
  omega
theorem ln_fit {s : SNd} (z : Sz s) (i : s.2 ≤ 128) : Fit ((201000 + 1) * 2) 2 (.list [lnD s.1, .int (s.2 : Nat)]) := Fit.list (N := 201000) (D := 1) (ds := [lnD s.1, .int (s.2 : Nat)]) fun e he => by
  rcases List.mem_cons.mp he with rfl | h
  · exact lnD_fit z
  · rw [List.mem_singleton.mp h]
    exact Fit.int (small_int i)
theorem LnA.dp {K : PySem.W.Frag} {H : Hp} {a : Addr} {s : SNd} (h : LnA H a s) : Dp K H (.ref a) (.list [lnD s.1, .int (s.2 : Nat)]) := by
  obtain ⟨v, e, q⟩ := h
  exact .lst (SqL.of e) (.cons q.dp (.cons (.int _) .nil))
theorem ln_ne {K : PySem.W.Frag} {H : Hp} {Q : VK} {a b : Addr} {s : SNd} (ha : LnA H a s) (hb : LnA H b s) (z : Sz s) (i : s.2 ≤ 128) (q : Q (.bl false) H) : rNeD K (.ref a) (.ref b) H Q := by
  have f := ln_fit z i
  refine ⟨_, _, ha.dp, hb.dp, f.shp (by decide), f.shp (by decide), ?_⟩
  rw [f.eqv]
  exact q
theorem prok_fl {n : Nat} {q : Pr} (h : PrOk n q) : PrOk n (flP q) := by
  refine ⟨⟨fl_bl h.1.1, by show (fl q.2).length = n; rw [fl_len]; exact h.1.2⟩, fun z hz => ?_⟩
  obtain ⟨y, hy, rfl⟩ := Option.map_eq_some_iff.mp hz
  exact ⟨fl_bl (h.2 y hy).1, by rw [fl_len]; exact (h.2 y hy).2⟩
theorem px_bl {z : List Nat} (h : M.BL z) (k : Nat) : M.BL (px (SX.S z) k).cps.toList ∧ (px (SX.S z) k).length ≤ z.length := by
  rw [px_S, tl_S, sx_len]
  exact ⟨fun c hc => h c (List.mem_of_mem_take hc), by rw [List.length_take]; omega⟩
theorem pth_ok {n : Nat} {b : Option (List Nat)} {e : List Nat} (h5 : n ≤ 5) (h : PrOk n (b, e)) : (∀ q ∈ pathOf (oB b) (SX.S e) n, (M.BL q.1.cps.toList ∧ q.1.length ≤ 100) ∧ SmP q) ∧ (pathOf (oB b) (SX.S e) n).length ≤ 100 := by
  have eb : M.BL e := h.1.1
  have el : e.length = n := h.1.2
  cases b with
  | none =>
    refine ⟨fun q hq => ⟨?_, sm_pathN (sx_bits eb) (by rw [sx_len]; omega) q hq⟩, ?_⟩
    · obtain ⟨i, _, rfl⟩ := List.mem_map.mp hq
      have := px_bl eb i
      exact ⟨this.1, by have := this.2; show (px (SX.S e) i).length ≤ 100; omega⟩
    · show (pathN (SX.S e) (n + 1)).length ≤ 100
      rw [len_pathN]
      omega
  | some z =>
    obtain ⟨zb, zl⟩ := h.2 z rfl
    refine ⟨fun q hq => ⟨?_, sm_pathP (sx_bits zb) (by rw [sx_len]; omega) (sx_bits eb) (by rw [sx_len]; omega) q hq⟩, ?_⟩
    · rcases List.mem_append.mp hq with hq | hq
      · obtain ⟨i, _, rfl⟩ := List.mem_map.mp hq
        have := px_bl zb (n - i)
        exact ⟨this.1, by have := this.2; show (px (SX.S z) (n - i)).length ≤ 100; omega⟩
      · obtain ⟨i, _, rfl⟩ := List.mem_map.mp hq
        have := px_bl eb (cpS (SX.S z) (SX.S e) + 1 + i)
        exact ⟨this.1, by have := this.2; show (px (SX.S e) _).length ≤ 100; omega⟩
    · show (pathP (SX.S z) (SX.S e) n).length ≤ 100
      rw [len_pathP]
      omega
@[irreducible] def spFR : Sp := fun vs H Q _ => ∃ (p D F : Addr) (n : Nat) (m : List (Str × Str)) (fs : List (List Nat)), vs = [.ref p, .int n, .ref D, .ref F] ∧ PotAt H p ∧ 1 ≤ n ∧ n ≤ 5 ∧ H D = some (.dK (tk m)) ∧ D ≠ p ∧ TabOk (n : Int) m ∧ H F = some (.lst (fs.map sx)) ∧ F ≠ p ∧ Fits n fs ∧ fs.Nodup ∧ fs.length ≤ 4 ∧ ∀ H', Go p H H' → Q (.bl true) H'
theorem fr_go {p D F : Addr} {n : Nat} {m : List (Str × Str)} {fs : List (List Nat)} {H : Hp} {Q : VK} {E : XK} (hp : PotAt H p) (h0 : 1 ≤ n) (h1 : n ≤ 5) (eD : H D = some (.dK (tk m))) (nD : D ≠ p) (ok : TabOk (n : Int) m) (eF : H F = some (.lst (fs.map sx))) (nF : F ≠ p) (ff : Fits n fs) (nd : fs.Nodup) (lf : fs.length ≤ 4) (k : ∀ H', Go p H H' → Q (.bl true) H') : spFR [.ref p, .int n, .ref D, .ref F] H Q E := by
  unfold spFR
  exact ⟨p, D, F, n, m, fs, rfl, hp, h0, h1, eD, nD, ok, eF, nF, ff, nd, lf, k⟩
section
variable {P : Program} {w : World} {K : PySem.W.Frag} {mg : Str → Option Value} {base : Heap} {f C t0 : Addr} {fd : FuncData}
theorem b_set3 (F : FunD K "set_at" "set_at" (defArgs s_set_at) (defBody s_set_at) (defScope s_set_at) [.ref t0] [] f fd) (kp : PySem.W.keepIn K (.ref f) = true) (hm : mg "set_at" = some (.ref f)) (G : FnG P w K mg base CX0 8 f fd ["table", "stretch", "free"] (spSA K C)) : BndF P w K mg base CX0 8 "set_at" ["table", "stretch", "free"] (spSA K C) 3 [] al3 :=
  bndf_of F kp hm G (fun us _ _ => us) (by simp) (fun r _ _ => r) fun T kV doc pm an cdv ct us its ws h1 h2 h3 => by
    match us, its, ws, h1, h2, h3 with
    | [a, b, c], [d], [], _, _, _ => exact ⟨_, rfl, rfl⟩
theorem b_need3 (F : FunD K "need_at" "need_at" (defArgs s_need_at) (defBody s_need_at) (defScope s_need_at) [.ref t0] [] f fd) (kp : PySem.W.keepIn K (.ref f) = true) (hm : mg "need_at" = some (.ref f)) (G : FnG P w K mg base CX0 8 f fd ["table", "stretch", "free"] (spNA K C)) : BndF P w K mg base CX0 8 "need_at" ["table", "stretch", "free"] (spNA K C) 3 [] al3 :=
  bndf_of F kp hm G (fun us _ _ => us) (by simp) (fun r _ _ => r) fun T kV doc pm an cdv ct us its ws h1 h2 h3 => by
    match us, its, ws, h1, h2, h3 with
    | [a, b, c], [d], [], _, _, _ => exact ⟨_, rfl, rfl⟩
end
section
variable {P : Program} {w : World} {K : PySem.W.Frag} {mg : Str → Option Value} {base : Heap} {f C : Addr} {fd' : FuncData}
theorem ok_flip_right (F : Fun K "_law_flip_right" "_law_flip_right" s_law_flip_right f fd') (hm : mg "_law_flip_right" = some (.ref f)) (T : Txt K mg) (TC : TabC K C)
    (c_law_flip : Nm P w K mg base CX0 1 "_law_flip" s_law_flip ["_law_spot"] (spFlip)) (c_law_flipped : Nm P w K mg base CX0 2 "_law_flipped" s_law_flipped ["_law_rows"] (spFld)) (c_law_pick : Nm P w K mg base CX0 2 "_law_pick" s_law_pick ["_law_pot_here", "_law_some"] (spAmong K)) (c_law_stretches : Nm P w K mg base CX0 2 "_law_stretches" s_law_stretches ["_law_wide"] (spLS)) (c_path : Nm P w K mg base CX0 7 "path" s_path ["width", "begin", "end"] (spPath))
    (c_Table_rows : Mth P w K mg base CX0 1 C "rows" "Table.rows" s_Table_rows ["self"] (spTRows C))
    (b_Table : BndI P w K mg base CX0 6 "Table" C ["self", "width", "rows"] (spInit C) 2 [] (fun us _ => us)) (b_few2 : BndF P w K mg base CX0 7 "fewest" ["table", "free"] (spFe K C) 2 [] al3) (b_sp2 : BndF P w K mg base CX0 8 "spare" ["table", "free"] (spSp K C) 2 [] al3) (b_set3 : BndF P w K mg base CX0 8 "set_at" ["table", "stretch", "free"] (spSA K C) 3 [] al3) (b_need3 : BndF P w K mg base CX0 8 "need_at" ["table", "stretch", "free"] (spNA K C) 3 [] al3)
    (b_pk2 : BndF P w K mg base CX0 10 "pack" ["table", "free"] (spPk K C) 2 [] al3) (b_ip3 : BndF P w K mg base CX0 10 "is_pack" ["table", "value", "free"] (spIPk K C) 3 [] al3) : Nm P w K mg base CX0 11 "_law_flip_right" s_law_flip_right ["_law_pot_here", "_law_wide", "_law_rows", "_law_idle"] (spFR) := by
  refine nm_of0 F hm sc_law_flip_right (fun vs H Q E h => ?_) fun cdv A outer s H vs Q E hr h => ?_
  · unfold spFR at h
    obtain ⟨p, D, F, n, m, fs, rfl, hp, h0, h1, eD, nD, ok, eF, nF, ff, nd, lf, k⟩ := h
    subst_vars
    rfl
  unfold spFR at h
  obtain ⟨p, D, F, n, m, fs, rfl, hp, h0, h1, eD, nD, ok, eF, nF, ff, nd, lf, k⟩ := h
  refine ⟨_, (C8.pss_cut (ps_par3 (i := 4) (j := 5) (l := 6) (by rfl) sc_law_flip_right.nd rfl rfl rfl (by decide) (by decide) (by decide) rfl rfl rfl (pa_cons (pe_mk b_Table hr (by decide) L2.pass0 (by rfl) (pa_cons (pv 1) (pa_cons (pv 2) pa_nil)) pk_nil) (pa_cons (pe_mk b_Table hr (by decide) L2.pass0 (by rfl) (pa_cons (pv 1) (pa_cons (pe_g c_law_flipped hr (by decide) L2.pass0 bp_law_flipped (by rfl) (pa_cons (pv 2) pa_nil)) pa_nil)) pk_nil) (pa_cons (pe_lc (own := [("_law_spot", 8)]) (g := (gName 8)) (by rfl) sc_law_flip_right.nd (pi_listK (K := K) rfl (pv 3)) (blkOk_by (own := [("_law_spot", 8)]) (N := ["_law_pot_here", "_law_wide", "_law_rows", "_law_idle", "_law_made_here", "_law_twin", "_law_other", "_law_turn", "_law_spot", "_law_told", "_law_due", "_law_pairs", "_law_one", "_law_turned", "_law_border", "_law_way"]) (sc := defScope s_law_flip_right) (by decide +kernel)) (fun _ _ _ _ _ => (pg_name (i := 8) sc_law_flip_right.nd rfl (by first | exact Or.inl rfl | exact Or.inr rfl))) (fun _ _ _ _ _ => pts_nil) (fun _ _ _ _ _ => (pe_g c_law_flip hr (by decide) L2.pass0 bp_law_flip (by rfl) (pa_cons (pv 8) pa_nil)))) pa_nil))) (by rfl))
      (C8.pss_cut (ps_for PassesOwn.never rfl (pi_range1 (by rfl) T.b_range (pa_cons pe_int pa_nil)) (pg_name (i := 7) sc_law_flip_right.nd rfl (by first | exact Or.inl rfl | exact Or.inr rfl)) (pss_cons (ps_set (i := 8) sc_law_flip_right.nd rfl (by first | exact Or.inl rfl | exact Or.inr rfl) (pe_g c_law_pick hr (by decide) L2.pass0 bp_law_pick (by rfl) (pa_cons (pv 0) (pa_cons (pe_g c_law_stretches hr (by decide) L2.pass0 bp_law_stretches (by rfl) (pa_cons (pv 1) pa_nil)) pa_nil))))
      (pss_cons (ps_set (i := 9) sc_law_flip_right.nd rfl (by first | exact Or.inl rfl | exact Or.inr rfl) (pe_lst (pa_cons (pe_f b_set3 hr (by decide) L2.pass0 (by rfl) (pa_cons (pv 4) (pa_cons (pv 8) (pa_cons (pv 3) pa_nil))) pk_nil) (pa_cons (pe_f b_need3 hr (by decide) L2.pass0 (by rfl) (pa_cons (pv 4) (pa_cons (pv 8) (pa_cons (pv 3) pa_nil))) pk_nil) pa_nil))))
      (pss_one (ps_if (pt_cmpR (op_neDK (K := K) rfl hr.u64) (pe_lst (pa_cons (pe_f b_set3 hr (by decide) L2.pass0 (by rfl) (pa_cons (pv 5) (pa_cons (pe_g c_law_flip hr (by decide) L2.pass0 bp_law_flip (by rfl) (pa_cons (pv 8) pa_nil)) (pa_cons (pv 6) pa_nil))) pk_nil) (pa_cons (pe_f b_need3 hr (by decide) L2.pass0 (by rfl) (pa_cons (pv 5) (pa_cons (pe_g c_law_flip hr (by decide) L2.pass0 bp_law_flip (by rfl) (pa_cons (pv 8) pa_nil)) (pa_cons (pv 6) pa_nil))) pk_nil) pa_nil))) (pv 9) (nomark _)) (pss_one (ps_ret pe_bl)) pss_nil)))))
      (C8.pss_cut (ps_set (i := 10) sc_law_flip_right.nd rfl (by first | exact Or.inl rfl | exact Or.inr rfl) (pe_f b_few2 hr (by decide) L2.pass0 (by rfl) (pa_cons (pv 4) (pa_cons (pv 3) pa_nil)) pk_nil))
      (C8.pss_cut (ps_if (PW.pt (pw_or (pt_cmpR op_ne (pe_f b_few2 hr (by decide) L2.pass0 (by rfl) (pa_cons (pv 5) (pa_cons (pv 6) pa_nil)) pk_nil) (pv 10) (nomark _)) (pw_or1 (pt_cmpR (op_ne_dictT hr.u0) (pe_m0 c_Table_rows TC.cl hr (by decide) L2.pass0 bm_Table_rows (pe_f b_sp2 hr (by decide) L2.pass0 (by rfl) (pa_cons (pv 5) (pa_cons (pv 6) pa_nil)) pk_nil)) (pe_g c_law_flipped hr (by decide) L2.pass0 bp_law_flipped (by rfl) (pa_cons (pe_m0 c_Table_rows TC.cl hr (by decide) L2.pass0 bm_Table_rows (pe_f b_sp2 hr (by decide) L2.pass0 (by rfl) (pa_cons (pv 4) (pa_cons (pv 3) pa_nil)) pk_nil)) pa_nil)) (nomark _))))) (pss_one (ps_ret pe_bl)) pss_nil)
      (C8.pss_cut (ps_setLc (i := 11) (own := [("_law_one", 12)]) (g := (gName 12)) (by rfl) sc_law_flip_right.nd rfl rfl (sw_true rfl rfl rfl (by decide +kernel)) (pi_listK (K := K) rfl (pe_f b_pk2 hr (by decide) L2.pass0 (by rfl) (pa_cons (pv 4) (pa_cons (pv 3) pa_nil)) pk_nil)) (blkOk_by (own := [("_law_one", 12)]) (N := ["_law_pot_here", "_law_wide", "_law_rows", "_law_idle", "_law_made_here", "_law_twin", "_law_other", "_law_turn", "_law_spot", "_law_told", "_law_due", "_law_pairs", "_law_one", "_law_turned", "_law_border", "_law_way"]) (sc := defScope s_law_flip_right) (by decide +kernel)) (fun _ _ _ _ _ => (pg_name (i := 12) sc_law_flip_right.nd rfl (by first | exact Or.inl rfl | exact Or.inr rfl))) (fun _ _ _ _ _ => pts_nil) (fun _ _ _ _ _ => (pe_tup (pa_cons (pe_ifExp (pt_cmpR op_isN (pe_ix (ix_seqK (K := K) rfl) (pv 12) pe_int (fun _ _ => rfl)) pe_non (nomark _)) pe_non (pe_g c_law_flip hr (by decide) L2.pass0 bp_law_flip (by rfl) (pa_cons (pe_ix (ix_seqK (K := K) rfl) (pv 12) pe_int (fun _ _ => rfl)) pa_nil))) (pa_cons (pe_g c_law_flip hr (by decide) L2.pass0 bp_law_flip (by rfl) (pa_cons (pe_ix (ix_seqK (K := K) rfl) (pv 12) pe_int (fun _ _ => rfl)) pa_nil)) pa_nil)))))
      (C8.pss_cut (ps_if (PW.pt (pw_or (pt_cmpR op_ne (pe_callB (call_lenK (K := K) rfl) (by rfl) T.b_len PySem.boot_len (pa_cons (pv 11) pa_nil)) (pv 10) (nomark _)) (pw_or1 (pt_not (pt_val (pe_f b_ip3 hr (by decide) L2.pass0 (by rfl) (pa_cons (pv 5) (pa_cons (pv 11) (pa_cons (pv 6) pa_nil))) pk_nil)))))) (pss_one (ps_ret pe_bl)) pss_nil)
      (pss_cons (ps_for PassesOwn.never rfl (pi_listK (K := K) rfl (pv 11)) (pg_name (i := 12) sc_law_flip_right.nd rfl (by first | exact Or.inl rfl | exact Or.inr rfl)) (pss_cons (ps_setLc (i := 13) (own := [("_law_border", 14), ("_law_way", 15)]) (g := (gTup K 2 (gCons (gName 14) (gCons (gName 15) gNil)))) (by rfl) sc_law_flip_right.nd rfl rfl (sw_true rfl rfl rfl (by decide +kernel)) (pi_listK (K := K) rfl (pe_g c_path hr (by decide) L2.pass0 bp_path (by rfl) (pa_cons (pv 1) (pa_cons (pe_ix (ix_seqK (K := K) rfl) (pv 12) pe_int (fun _ _ => rfl)) (pa_cons (pe_ix (ix_seqK (K := K) rfl) (pv 12) pe_int (fun _ _ => rfl)) pa_nil))))) (blkOk_by (own := [("_law_border", 14), ("_law_way", 15)]) (N := ["_law_pot_here", "_law_wide", "_law_rows", "_law_idle", "_law_made_here", "_law_twin", "_law_other", "_law_turn", "_law_spot", "_law_told", "_law_due", "_law_pairs", "_law_one", "_law_turned", "_law_border", "_law_way"]) (sc := defScope s_law_flip_right) (by decide +kernel)) (fun _ _ _ _ _ => (pg_tup (by rfl) (pgs_cons (pg_name (i := 14) sc_law_flip_right.nd rfl (by first | exact Or.inl rfl | exact Or.inr rfl)) (pgs_cons (pg_name (i := 15) sc_law_flip_right.nd rfl (by first | exact Or.inl rfl | exact Or.inr rfl)) pgs_nil)))) (fun _ _ _ _ _ => pts_nil) (fun _ _ _ _ _ => (pe_tup (pa_cons (pe_g c_law_flip hr (by decide) L2.pass0 bp_law_flip (by rfl) (pa_cons (pv 14) pa_nil)) (pa_cons (pv 15) pa_nil)))))
      (pss_one (ps_if (PW.pt (pw_and (pt_cmpR op_notN (pe_ix (ix_seqK (K := K) rfl) (pv 12) pe_int (fun _ _ => rfl)) pe_non (nomark _)) (pw_and1 (pt_cmpR (op_neDK (K := K) rfl hr.u64) (pe_g c_path hr (by decide) L2.pass0 bp_path (by rfl) (pa_cons (pv 1) (pa_cons (pe_g c_law_flip hr (by decide) L2.pass0 bp_law_flip (by rfl) (pa_cons (pe_ix (ix_seqK (K := K) rfl) (pv 12) pe_int (fun _ _ => rfl)) pa_nil)) (pa_cons (pe_g c_law_flip hr (by decide) L2.pass0 bp_law_flip (by rfl) (pa_cons (pe_ix (ix_seqK (K := K) rfl) (pv 12) pe_int (fun _ _ => rfl)) pa_nil)) pa_nil)))) (pv 13) (nomark _))))) (pss_one (ps_ret pe_bl)) pss_nil))))
      (pss_one (ps_ret pe_bl))))))))), ?_⟩
  have lf20 : fs.length ≤ 20 := by omega
  have okX := srt_ok ok
  have okf := flm_ok ok
  have okY := srt_ok okf
  have ffl := fl_fits ff
  have ndl : (fs.map fl).Nodup := nd_map nd fun a _ b _ e => fl_inj e
  have lfl : (fs.map fl).length ≤ 20 := by rw [List.length_map]; exact lf20
  refine ⟨fun σ' H' => ∃ (X Y G : Addr), σ' = [some (.ref p), some (.int n), some (.ref D), some (.ref F), some (.ref X), some (.ref Y), some (.ref G), none, none, none, none, none, none, none, none, none] ∧ Same H H' ∧ TabAt C H' X n (srt m) ∧ TabAt C H' Y n (srt (flm m)) ∧ G ≠ p ∧ H' G = some (.lst ((fs.map fl).map sx)), ?_, ?_⟩
  · refine ⟨_, rfl, ⟨_, rfl, ⟨rfl, rfl, fun X dX hX hdX hXX => ?_⟩⟩⟩
    have mx : D ≠ X := nonn hX eD
    have md : D ≠ dX := nonn hdX eD
    refine init_go upd_same (updn mx (updn md eD)) ok fun H5 kp tb => ⟨rfl, ?_⟩
    have s5 : Same H H5 := fun c o q => kp c o (nonn hX q) (updn (nonn hX q) (updn (nonn hdX q) q))
    refine ⟨_, rfl, ⟨_, rfl, ?_⟩⟩
    refine fld_go (s5 _ _ eD) ok.nd (by have := ok.few; omega) (fun q hq => by
      obtain ⟨r1, r2⟩ := rows_in ok q hq
      exact ⟨r1, by omega⟩) fun R H6 s6 nR eR => ?_
    refine ⟨rfl, rfl, fun Y dY hY hdY hYY => ?_⟩
    have mx : R ≠ Y := nonn hY eR
    have md : R ≠ dY := nonn hdY eR
    refine init_go upd_same (updn mx (updn md eR)) okf fun H7 kp2 tb2 => ⟨rfl, ?_⟩
    have s7 : Same H6 H7 := fun c o q => kp2 c o (nonn hY q) (updn (nonn hY q) (updn (nonn hdY q) q))
    have s57 := s6.trans s7
    have s07 := s5.trans s57
    have eF7 := s07 _ _ eF
    refine ⟨_, rfl, ⟨F, rfl, ⟨_, SqL.of eF7⟩, fun B nB => ?_⟩⟩
    refine lc_it (walk_list (xs := fs.map sx)) (fun i H' => H' B = some (.lst (((fs.take i).map fl).map sx)) ∧ Same H7 H') ⟨upd_same, (Same.refl H7).new nB⟩ (fun i H' _ h => SqL.of (h.2 _ _ eF7)) ?_ ?_
    · rintro i x Hx H8 hi ⟨eB, sm⟩ ⟨rfl, hx⟩
      obtain ⟨z, hz, rfl⟩ := sx_at hx
      obtain ⟨z1, z2⟩ := ff z (List.mem_of_getElem? hz)
      refine ⟨rfl, ?_⟩
      dsimp only [tYes]
      rw [if_pos rfl]
      refine ⟨_, rfl, ?_⟩
      refine flip_go z1 (by omega) fun H9 s9 => ?_
      refine ⟨_, s9 _ _ eB, szt (by rw [List.length_map, List.length_map, List.length_take]; omega), ?_, fun b o e => updn (nonn nB e) (s9 _ _ (sm _ _ e))⟩
      rw [upd_same, List.take_add_one, hz, List.map_append, List.map_append]
      rfl
    · rintro H8 ⟨eB, sm⟩
      rw [List.length_map, List.take_length] at eB
      exact ⟨_, _, _, rfl, X, Y, B, rfl, s07.trans sm, tb.to (s57.trans sm), tb2.to sm, by have := s07.back nB; exact hp.ne this, eB⟩
  rintro σ' H1 ⟨X, Y, G, rfl, s1, tX, tY, nG, eG⟩
  have g1 := Go.of hp s1
  have hp1 := g1.pot
  have eF1 := s1 _ _ eF
  have tfX : ∀ {H' : Hp}, Go p H1 H' → TF K C H' X F n (srt m) fs := fun g => ⟨tX.go hp1 g, okX, .inl (g.kp eF1 nF), ff, nd, lf20⟩
  have tfY : ∀ {H' : Hp}, Go p H1 H' → TF K C H' Y G n (srt (flm m)) (fs.map fl) := fun g => ⟨tY.go hp1 g, okY, .inl (g.kp eG nG), ffl, ndl, lfl⟩
  have ll := strL_len (n + 1)
  have l4 : 2 ^ (n + 1) ≤ 2 ^ 6 := Nat.pow_le_pow_right (by decide) (by omega)
  have l2 : 2 ^ 2 ≤ 2 ^ (n + 1) := Nat.pow_le_pow_right (by decide) (by omega)
  refine ⟨fun σ' H' => ∃ x7 x8 x9, σ' = [some (.ref p), some (.int n), some (.ref D), some (.ref F), some (.ref X), some (.ref Y), some (.ref G), x7, x8, x9, none, none, none, none, none, none] ∧ Go p H1 H', ?_, ?_⟩
  · refine ⟨6, rfl, by decide, by decide, ?_⟩
    refine for_it (walk_range (lo := 0) (n := 6)) (fun i σ' H' => ∃ x7 x8 x9, σ' = [some (.ref p), some (.int n), some (.ref D), some (.ref F), some (.ref X), some (.ref Y), some (.ref G), x7, x8, x9, none, none, none, none, none, none] ∧ Go p H1 H') ⟨_, _, _, rfl, Go.refl hp1⟩ (fun _ _ _ _ _ => trivial) ?_ (fun σ' H' h => h)
    rintro i x σ' Hx H2 hi ⟨x7, x8, x9, rfl, g2⟩ ⟨rfl, rfl⟩
    refine ⟨_, rfl, ⟨_, rfl, ?_⟩⟩
    refine ls_go (by omega) fun L H3 s3 nL eL => ?_
    have g3 := g2.trans (Go.of g2.pot s3)
    refine among_l g3.pot (g2.pot.ne nL) (SqL.of eL) (by rw [List.length_map]; omega) (by rw [List.length_map]; omega) fun v hv H4 g4 => ?_
    obtain ⟨t, ht, rfl⟩ := List.mem_map.mp hv
    have hst := strL_mem.mp ht
    have tb := hst.1
    have tl : t.length ≤ n := by omega
    have g14 := g3.trans g4
    have zS := SN_sz (t := t) (fs := fs) okX
    have iS := SN_need (n := n) (m := srt m) (fs := fs) (t := t) (by omega)
    have eS := SN_flS n m fs t
    refine ⟨_, rfl, ⟨_, rfl, ⟨_, rfl, ⟨rfl, rfl, ?_⟩⟩⟩⟩
    show spSA K C [.ref X, sx t, .ref F] _ _ _
    refine sa_goV (tfX g14) tb tl fun v H5 s5 v5 => ?_
    have g15 := g14.trans (Go.of g14.pot s5)
    refine ⟨_, rfl, ⟨_, rfl, ⟨_, rfl, ⟨rfl, rfl, ?_⟩⟩⟩⟩
    show spNA K C [.ref X, sx t, .ref F] _ _ _
    refine na_go (tfX g15) tb tl fun H6 s6 => ?_
    have g16 := g15.trans (Go.of g15.pot s6)
    refine ⟨szl (by show 2 ≤ 1000000; decide), fun L1 nL1 => ?_⟩
    have g17 := g16.new (o := HO.lst [v, .int ((SN n (srt m) fs t).2 : Nat)]) nL1
    have ln1 : LnA (upd H6 L1 (.lst [v, .int ((SN n (srt m) fs t).2 : Nat)])) L1 (SN n (srt m) fs t) := ⟨v, upd_same, v5.via fun b l e => updn (nonn nL1 (s6 _ _ e)) (s6 _ _ e)⟩
    generalize upd H6 L1 (.lst [v, .int ((SN n (srt m) fs t).2 : Nat)]) = H7 at g17 ln1 ⊢
    refine ⟨_, rfl, ⟨_, rfl, ?_⟩⟩
    refine flip_go tb (by omega) fun H8 s8 => ?_
    have g18 := g17.trans (Go.of g17.pot s8)
    refine ⟨_, rfl, ⟨rfl, rfl, ?_⟩⟩
    show spSA K C [.ref Y, sx (fl t), .ref G] _ _ _
    refine sa_goV (tfY g18) (fl_bl tb) (by rw [fl_len]; exact tl) fun v2 H9 s9 v9 => ?_
    have g19 := g18.trans (Go.of g18.pot s9)
    refine ⟨_, rfl, ⟨_, rfl, ?_⟩⟩
    refine flip_go tb (by omega) fun Ha sa => ?_
    have g1a := g19.trans (Go.of g19.pot sa)
    refine ⟨_, rfl, ⟨rfl, rfl, ?_⟩⟩
    show spNA K C [.ref Y, sx (fl t), .ref G] _ _ _
    refine na_go (tfY g1a) (fl_bl tb) (by rw [fl_len]; exact tl) fun Hb sb => ?_
    have g1b := g1a.trans (Go.of g1a.pot sb)
    rw [eS] at v9 ⊢
    refine ⟨szl (by show 2 ≤ 1000000; decide), fun L2 nL2 => ?_⟩
    have sab := sa.trans sb
    have g1c := g1b.new (o := HO.lst [v2, .int ((SN n (srt m) fs t).2 : Nat)]) nL2
    have ln2 : LnA (upd Hb L2 (.lst [v2, .int ((SN n (srt m) fs t).2 : Nat)])) L2 (SN n (srt m) fs t) := ⟨v2, upd_same, v9.via fun b l e => updn (nonn nL2 (sab _ _ e)) (sab _ _ e)⟩
    have ln1c : LnA (upd Hb L2 (.lst [v2, .int ((SN n (srt m) fs t).2 : Nat)])) L1 (SN n (srt m) fs t) := ln1.via fun b l e => by
      have e2 := sab _ _ (s9 _ _ (s8 _ _ e))
      exact updn (nonn nL2 e2) e2
    generalize upd Hb L2 (.lst [v2, .int ((SN n (srt m) fs t).2 : Nat)]) = Hc at g1c ln2 ln1c ⊢
    refine ⟨_, rfl, ?_⟩
    refine ln_ne ln2 ln1c zS iS ?_
    refine ⟨_, rfl, iteF ?_⟩
    exact ⟨_, _, _, rfl, g1c⟩
  rintro σ' H2 ⟨x7, x8, x9, rfl, g2⟩
  have few : cst (SN n (srt m) fs []) "hole" ≤ m.length := by rw [SN_srt]; exact few_le
  have fewM := ok.few
  have ec : cst (SN n (srt (flm m)) (fs.map fl) []) "hole" = cst (SN n (srt m) fs []) "hole" := congrArg (fun s => cst s "hole") (SN_flS n m fs [])
  generalize hc : cst (SN n (srt m) fs []) "hole" = c at few ec
  refine ⟨fun σ' H' => σ' = [some (.ref p), some (.int n), some (.ref D), some (.ref F), some (.ref X), some (.ref Y), some (.ref G), x7, x8, x9, some (.int (c : Nat)), none, none, none, none, none] ∧ Go p H1 H', ?_, ?_⟩
  · refine ⟨_, rfl, ⟨_, rfl, ⟨rfl, rfl, ?_⟩⟩⟩
    show spFe K C [.ref X, .ref F] _ _ _
    refine fe_go (tfX g2) fun H3 s3 => ?_
    rw [hc]
    exact ⟨rfl, g2.trans (Go.of g2.pot s3)⟩
  clear g2
  rintro σ' H2 ⟨rfl, g2⟩
  refine ⟨fun σ' H' => σ' = [some (.ref p), some (.int n), some (.ref D), some (.ref F), some (.ref X), some (.ref Y), some (.ref G), x7, x8, x9, some (.int (c : Nat)), none, none, none, none, none] ∧ Go p H1 H', ?_, ?_⟩
  · refine ⟨_, rfl, ⟨_, rfl, ⟨rfl, rfl, ?_⟩⟩⟩
    show spFe K C [.ref Y, .ref G] _ _ _
    refine fe_go (tfY g2) fun H3 s3 => ?_
    have g3 := g2.trans (Go.of g2.pot s3)
    rw [ec]
    refine ⟨_, rfl, ⟨rfl, ⟨_, rfl, ?_⟩⟩⟩
    rw [decide_eq_true rfl]
    refine iteF ?_
    refine ⟨_, rfl, ⟨_, rfl, ⟨rfl, rfl, ?_⟩⟩⟩
    show spSp K C [.ref Y, .ref G] _ _ _
    refine sp_go (tfY g3) fun W d1 H4 s4 nW du1 tW => ?_
    have g4 := g3.trans (Go.of g3.pot s4)
    obtain ⟨dw, fw, hW, hWl⟩ := tW.at
    refine ⟨⟨W, dw, fw, rfl, hW, hWl⟩, ?_⟩
    refine trows_go tW fun R nR => ?_
    have g5 := g4.new (o := HO.dK (tk (srt d1))) nR
    have eR : upd H4 R (.dK (tk (srt d1))) R = some (.dK (tk (srt d1))) := upd_same
    generalize upd H4 R (.dK (tk (srt d1))) = H5 at g5 eR ⊢
    refine ⟨_, rfl, ⟨_, rfl, ⟨rfl, rfl, ?_⟩⟩⟩
    show spSp K C [.ref X, .ref F] _ _ _
    refine sp_go (tfX g5) fun U d0 H6 s6 nU du0 tU => ?_
    have g6 := g5.trans (Go.of g5.pot s6)
    obtain ⟨dv, fv, hU, hUl⟩ := tU.at
    refine ⟨⟨U, dv, fv, rfl, hU, hUl⟩, ?_⟩
    refine trows_go tU fun R2 nR2 => ?_
    have g7 := g6.new (o := HO.dK (tk (srt d0))) nR2
    have eR2 : upd H6 R2 (.dK (tk (srt d0))) R2 = some (.dK (tk (srt d0))) := upd_same
    have eR7 := updn (o := HO.dK (tk (srt d0))) (nonn nR2 (s6 _ _ eR)) (s6 _ _ eR)
    generalize upd H6 R2 (.dK (tk (srt d0))) = H7 at g7 eR2 eR7 ⊢
    have okd := srt_ok (du0.ok okX)
    refine fld_go eR2 okd.nd (by have := okd.few; omega) (fun q hq => by
      obtain ⟨r1, r2⟩ := rows_in okd q hq
      exact ⟨r1, by omega⟩) fun R3 H8 s8 nR3 eR3 => ?_
    refine ⟨R, R3, _, _, rfl, rfl, s8 _ _ eR7, eR3, tk_flat _, tk_flat _, ?_⟩
    have e0 : SN n (srt m) fs = SN n m fs := funext fun t => SN_srt
    have e1 : SN n (srt (flm m)) (fs.map fl) = SN n (flm m) (fs.map fl) := funext fun t => SN_srt
    rw [e0] at du0
    rw [e1] at du1
    have du2 := du0.srt.fl
    rw [eq_look du1.srt.nd du2.nd fun z => by rw [du1.srt.at_, du2.at_]]
    refine ⟨_, rfl, iteF ?_⟩
    exact ⟨rfl, g7.trans (Go.of g7.pot s8)⟩
  clear g2
  rintro σ' H2 ⟨rfl, g2⟩
  refine ⟨fun σ' H' => ∃ (L : Addr) (zs : List (Addr × Pr)), σ' = [some (.ref p), some (.int n), some (.ref D), some (.ref F), some (.ref X), some (.ref Y), some (.ref G), x7, x8, x9, some (.int (c : Nat)), some (.ref L), none, none, none, none] ∧ Go p H1 H' ∧ H' L = some (.lst (vz zs)) ∧ Ps H' n zs ∧ packB n (srt (flm m)) (fs.map fl) (zs.map (·.2)) = true ∧ zs.length = c, ?_, ?_⟩
  · refine ⟨_, rfl, ⟨_, rfl, ⟨rfl, rfl, ?_⟩⟩⟩
    show spPk K C [.ref X, .ref F] _ _ _
    refine pk_go (tfX g2) fun L ys H3 s3 nL eL ps pk ly => ?_
    rw [hc] at ly
    have g3 := g2.trans (Go.of g2.pot s3)
    refine ⟨L, rfl, ⟨_, SqL.of eL⟩, fun B nB => ?_⟩
    refine lc_it (walk_list (xs := vz ys)) (fun i H' => ∃ zs : List (Addr × Pr), H' B = some (.lst (vz zs)) ∧ zs.map (·.2) = (ys.take i).map (fun y => flP y.2) ∧ Ps H' n zs ∧ Same H3 H') ⟨[], upd_same, rfl, (fun y hy => by cases hy), (Same.refl H3).new nB⟩ (fun i H' _ ⟨_, _, _, _, s⟩ => SqL.of (s _ _ eL)) ?_ ?_
    · rintro i x Hx H4 hi ⟨zs, eB, ez, pz, sm⟩ ⟨rfl, hx⟩
      obtain ⟨⟨t0, b, e⟩, hq, rfl⟩ := vz_at hx
      rw [vz_len] at hi
      obtain ⟨et0, ⟨eb, el⟩, qz⟩ : H3 t0 = some (.tup [oB b, sx e]) ∧ PrOk n (b, e) := ps _ (List.mem_of_getElem? hq)
      have lz : zs.length = i := by
        have := congrArg List.length ez
        rw [List.length_map, List.length_map, List.length_take] at this
        omega
      have et4 := sm _ _ et0
      dsimp only at eb el qz
      refine ⟨rfl, ?_⟩
      dsimp only [tYes]
      rw [if_pos rfl]
      refine ⟨_, rfl, .inr (.inl ⟨t0, _, 0, oB b, rfl, rfl, SqT.of et4, rfl, ⟨rfl, ⟨_, rfl, ?_⟩⟩⟩)⟩
      cases b with
      | none =>
        rw [decide_eq_true (show oB none = V.non from rfl)]
        refine iteT ?_
        have s5 := Same.refl H4
        refine ⟨_, rfl, .inr (.inl ⟨t0, _, 1, sx e, rfl, rfl, SqT.of (s5 _ _ et4), rfl, ?_⟩)⟩
        refine flip_go eb (by omega) fun H6 s6 => ?_
        refine ⟨szl (by show 2 ≤ 1000000; decide), fun t nt => ?_⟩
        have s46 := s5.trans s6
        have eB6 := s46 _ _ eB
        have nBt := nonn nt eB6
        refine ⟨vz zs, updn nBt eB6, szt (by rw [vz_len]; omega), zs ++ [(t, flP (none, e))], ?_, ?_, ?_, fun b o e' => updn (nonn nB e') (updn (nonn nt (s46 _ _ (sm _ _ e'))) (s46 _ _ (sm _ _ e')))⟩
        · rw [upd_same]
          unfold vz
          rw [List.map_append]
          rfl
        · rw [List.map_append, ez, List.take_add_one, hq, List.map_append]
          rfl
        · intro y hy
          have keep : ∀ {b l}, upd H6 t (.tup [.non, sx (fl e)]) b = some (.tup l) → upd (upd H6 t (.tup [.non, sx (fl e)])) B (.lst (vz zs ++ [.ref t])) b = some (.tup l) := fun {b l} e' => updn (fun q => by rw [q, updn nBt eB6] at e'; cases e') e'
          rcases List.mem_append.mp hy with h | h
          · have := s46 _ _ (pz y h).1
            exact ⟨keep (updn (nonn nt this) this), (pz y h).2⟩
          · rw [List.mem_singleton.mp h]
            exact ⟨keep upd_same, prok_fl ⟨⟨eb, el⟩, qz⟩⟩
      | some z =>
        obtain ⟨zb, zl⟩ := qz z rfl
        rw [decide_eq_false (show ¬ oB (some z) = V.non from fun q => nomatch q)]
        refine iteF ?_
        refine ⟨_, rfl, .inr (.inl ⟨t0, _, 0, sx z, rfl, rfl, SqT.of et4, rfl, ?_⟩)⟩
        refine flip_go zb (by omega) fun H5 s5 => ?_
        refine ⟨_, rfl, .inr (.inl ⟨t0, _, 1, sx e, rfl, rfl, SqT.of (s5 _ _ et4), rfl, ?_⟩)⟩
        refine flip_go eb (by omega) fun H6 s6 => ?_
        refine ⟨szl (by show 2 ≤ 1000000; decide), fun t nt => ?_⟩
        have s46 := s5.trans s6
        have eB6 := s46 _ _ eB
        have nBt := nonn nt eB6
        refine ⟨vz zs, updn nBt eB6, szt (by rw [vz_len]; omega), zs ++ [(t, flP (some z, e))], ?_, ?_, ?_, fun b o e' => updn (nonn nB e') (updn (nonn nt (s46 _ _ (sm _ _ e'))) (s46 _ _ (sm _ _ e')))⟩
        · rw [upd_same]
          unfold vz
          rw [List.map_append]
          rfl
        · rw [List.map_append, ez, List.take_add_one, hq, List.map_append]
          rfl
        · intro y hy
          have keep : ∀ {b l}, upd H6 t (.tup [sx (fl z), sx (fl e)]) b = some (.tup l) → upd (upd H6 t (.tup [sx (fl z), sx (fl e)])) B (.lst (vz zs ++ [.ref t])) b = some (.tup l) := fun {b l} e' => updn (fun q => by rw [q, updn nBt eB6] at e'; cases e') e'
          rcases List.mem_append.mp hy with h | h
          · have := s46 _ _ (pz y h).1
            exact ⟨keep (updn (nonn nt this) this), (pz y h).2⟩
          · rw [List.mem_singleton.mp h]
            exact ⟨keep upd_same, prok_fl ⟨⟨eb, el⟩, qz⟩⟩
    · rintro H4 ⟨zs, eB, ez, pz, sm⟩
      rw [vz_len, List.take_length] at ez
      refine ⟨B, zs, rfl, g3.trans (Go.of g3.pot sm), eB, pz, ?_, ?_⟩
      · rw [ez, show ys.map (fun y => flP y.2) = (ys.map (·.2)).map flP by rw [List.map_map]; rfl, pack_srt, pack_fl, ← pack_srt]
        exact pk
      · have := congrArg List.length ez
        rw [List.length_map, List.length_map] at this
        omega
  clear g2
  rintro σ' H3 ⟨L, zs, rfl, g3, eL, ps, pk, lz⟩
  refine ⟨fun σ' H' => σ' = [some (.ref p), some (.int n), some (.ref D), some (.ref F), some (.ref X), some (.ref Y), some (.ref G), x7, x8, x9, some (.int (c : Nat)), some (.ref L), none, none, none, none] ∧ Same H3 H', ?_, ?_⟩
  · refine ⟨_, rfl, ⟨_, _, rfl, .inl ⟨_, SqL.of eL, rfl⟩, ⟨_, rfl, ⟨rfl, ⟨_, rfl, ?_⟩⟩⟩⟩⟩
    rw [vz_len, lz, decide_eq_true rfl]
    refine iteF ?_
    refine ⟨_, rfl, ⟨_, rfl, ⟨_, rfl, ⟨rfl, rfl, ?_⟩⟩⟩⟩
    show spIPk K C [.ref Y, .ref L, .ref G] _ _ _
    refine ipk_go (zs := sm zs) (tfY g3) (by rw [sm_vz]; exact .inl eL) (sm_pz ps) (sm_po ps) (by unfold sm; rw [List.length_map]; omega) fun H4 s4 => ?_
    rw [sm_all, sm_prs]
    have pk' : ((zs.map (·.2)).all (okP (srt (flm m)) (fs.map fl)) && decide (Keep (flat n (gT (srt (flm m))) (zs.map (·.2))))) = true := pk
    rw [pk']
    refine ⟨_, rfl, iteF ?_⟩
    exact ⟨rfl, s4⟩
  rintro σ' H4 ⟨rfl, s4⟩
  have g4 := g3.trans (Go.of g3.pot s4)
  have eL4 := s4 _ _ eL
  have ps4 := ps.to s4
  refine ⟨_, rfl, ⟨L, rfl, ⟨_, SqL.of eL4⟩, ?_⟩⟩
  refine for_it (walk_list (xs := vz zs)) (fun i σ' H' => ∃ x12 x13, σ' = [some (.ref p), some (.int n), some (.ref D), some (.ref F), some (.ref X), some (.ref Y), some (.ref G), x7, x8, x9, some (.int (c : Nat)), some (.ref L), x12, x13, none, none] ∧ Same H4 H') ⟨_, _, rfl, Same.refl _⟩ (fun i σ' H' _ ⟨_, _, _, s⟩ => SqL.of (s _ _ eL4)) ?_ ?_
  · rintro i x σ' Hx H5 hi ⟨x12, x13, rfl, s5⟩ ⟨rfl, hx⟩
    obtain ⟨⟨t0, b, e⟩, hq, rfl⟩ := vz_at hx
    obtain ⟨et0, qok⟩ : H4 t0 = some (.tup [oB b, sx e]) ∧ PrOk n (b, e) := ps4 _ (List.mem_of_getElem? hq)
    have eb : M.BL e := qok.1.1
    have el : e.length = n := qok.1.2
    have qz : ∀ z, b = some z → M.BL z ∧ z.length = n := qok.2
    have et5 := s5 _ _ et0
    have pa : PathArg (oB b) n := by
      cases b with
      | none => exact .inl rfl
      | some z => exact .inr ⟨SX.S z, rfl, sx_bits (qz z rfl).1, by rw [sx_len]; exact (qz z rfl).2⟩
    obtain ⟨pth, pl⟩ := pth_ok (by omega : n ≤ 5) qok
    refine ⟨_, rfl, ⟨_, rfl, .inr (.inl ⟨t0, _, 0, oB b, rfl, rfl, SqT.of et5, rfl, ?_⟩)⟩⟩
    refine ⟨_, rfl, .inr (.inl ⟨t0, _, 1, sx e, rfl, rfl, SqT.of et5, rfl, ?_⟩)⟩
    refine path_go h0 (by omega) (sx_bits eb) (by rw [sx_len]; exact el) pa fun a ts H6 na s6 ea tp => ?_
    refine ⟨a, rfl, ⟨_, SqL.of ea⟩, fun B nB => ?_⟩
    refine lc_it (walk_list (xs := ts)) (fun j H' => LI H6 B (((pathOf (oB b) (SX.S e) n).take j).map flE) H') (LI.nil nB) (fun j H' _ h => SqL.of (h.2 _ _ ea)) ?_ ?_
    · rintro j y Hy H7 hj hLI ⟨rfl, hy⟩
      obtain ⟨u, y1, y2, rfl, eu, hpj⟩ := tp.at hy
      obtain ⟨⟨yb, yl⟩, _⟩ := pth _ (List.mem_of_getElem? hpj)
      refine ⟨u, _, rfl, SqT.of (hLI.2 _ _ eu), rfl, ⟨_, _, rfl, ⟨_, _, rfl, ⟨rfl, ?_⟩⟩⟩⟩
      refine ⟨rfl, ?_⟩
      dsimp only [tYes]
      rw [if_pos rfl]
      refine ⟨_, rfl, ?_⟩
      rw [show V.str y1 = sx y1.cps.toList from (sx_tl y1).symm]
      refine flip_go yb (by rw [len_tl]; exact Nat.le_trans yl (by decide)) fun H8 s8 => ?_
      refine ⟨_, rfl, ⟨szl (by show 2 ≤ 1000000; decide), fun t nt => ?_⟩⟩
      obtain ⟨⟨t2, eB2, tq⟩, sm⟩ := hLI
      have hLI8 : LI H6 B (((pathOf (oB b) (SX.S e) n).take j).map flE) H8 := ⟨⟨t2, s8 _ _ eB2, tq.same s8⟩, sm.trans s8⟩
      refine LI.turn nB hLI8 nt (by rw [List.length_map, List.length_take]; omega) fun H9 h9 => ?_
      rw [List.take_add_one, hpj, List.map_append]
      exact h9
    · rintro H7 hLI
      rw [tp.len, List.take_length] at hLI
      obtain ⟨t2, eB, tq, s7⟩ := hLI.end
      have s57 := s6.trans s7
      have et7 := s57 _ _ et5
      refine ⟨_, rfl, .inr (.inl ⟨t0, _, 0, oB b, rfl, rfl, SqT.of et7, rfl, ⟨rfl, ⟨_, rfl, ?_⟩⟩⟩)⟩
      cases b with
      | none =>
        rw [decide_eq_true (show oB none = V.non from rfl)]
        refine iteF (iteF ?_)
        exact ⟨_, _, rfl, s5.trans s57⟩
      | some z =>
        obtain ⟨zb, zl⟩ := qz z rfl
        rw [decide_eq_false (show ¬ oB (some z) = V.non from fun q => nomatch q)]
        refine iteT ?_
        refine ⟨_, rfl, ⟨_, rfl, .inr (.inl ⟨t0, _, 0, sx z, rfl, rfl, SqT.of et7, rfl, ?_⟩)⟩⟩
        refine flip_go zb (by omega) fun H8 s8 => ?_
        refine ⟨_, rfl, .inr (.inl ⟨t0, _, 1, sx e, rfl, rfl, SqT.of (s8 _ _ et7), rfl, ?_⟩)⟩
        refine flip_go eb (by omega) fun H9 s9 => ?_
        refine path_go h0 (by omega) (sx_bits (fl_bl eb)) (by rw [sx_len, fl_len]; exact el) (.inr ⟨SX.S (fl z), rfl, sx_bits (fl_bl zb), by rw [sx_len, fl_len]; exact zl⟩) fun a2 ts2 Ha na2 sa ea2 tp2 => ?_
        have s7a := s8.trans (s9.trans sa)
        refine ⟨_, rfl, ?_⟩
        have ep : pathOf (sx (fl z)) (SX.S (fl e)) n = (pathOf (oB (some z)) (SX.S e) n).map flE := path_fl (some z) e n
        rw [ep] at tp2
        have fit := prs_fit (ps := (pathOf (oB (some z)) (SX.S e) n).map flE) fun q hq => by
          rw [← ep] at hq
          exact ((pth_ok (by omega : n ≤ 5) (prok_fl qok)).1 q hq).2
        refine ⟨_, _, .lst (SqL.of ea2) tp2.dp, .lst (SqL.of (s7a _ _ eB)) (tq.same s7a).dp, fit.shp (by decide), fit.shp (by decide), ?_⟩
        rw [fit.eqv]
        refine ⟨_, rfl, iteF ?_⟩
        exact ⟨_, _, rfl, s5.trans (s57.trans s7a)⟩
  · rintro σ' H5 ⟨x12, x13, rfl, s5⟩
    exact k H5 (g1.trans (g4.trans (Go.of g4.pot s5)))
end
open PySem PySem.Spec PyProof.Rows LamX
open L2 hiding pass0
abbrev s_law_joined_right : Stmt := top 82
theorem sc_law_joined_right : FnScope ["_law_pot_here", "_law_wide", "_law_rows", "_law_idle", "_law_some", "_law_others", "_law_zero", "_law_one", "_law_both", "_law_free_both", "_law_turn", "_law_spot", "_law_told", "_law_halves", "_law_due", "_law_back"] ["_law_pot_here", "_law_wide", "_law_rows", "_law_idle"] (defScope s_law_joined_right) := ⟨rfl, rfl, rfl, by decide +kernel, rfl, by decide +kernel, by decide +kernel⟩
theorem bp_law_joined_right : BndP "_law_joined_right" s_law_joined_right ["_law_pot_here", "_law_wide", "_law_rows", "_law_idle"] := fun _ _ _ _ _ _ us h => match us, h with | [_, _, _, _], _ => rfl
theorem ite_ne {a b : V} [d : Decidable (a = b)] {A B : Hp → Prop} {H : Hp} (e : a = b) (q : B H) : (fun (c : Bool) (H1 : Hp) => if c = true then A H1 else B H1) (!decide (a = b)) H := by
  rw [decide_eq_true e]
  exact q
theorem nil_sx : V.str (Str.ofString "") = sx [] := by decide +kernel
theorem one_S : ("1" : Str) = SX.S [49] := by decide +kernel
theorem lnD_all (o : Option (List Str)) : PyData.eqv (lnD o) (.str "all") = o.isNone := by cases o <;> simp [lnD, PyData.eqv]
theorem pre_sx {b : Str} {c : Nat} (hb : b = SX.S [c]) {z : List Nat} : V.str (b ++ SX.S z) = sx (c :: z) := by
  subst hb
  exact congrArg V.str (tl_inj (by rw [tl_cat, tl_S, tl_S, tl_S]; rfl))
@[irreducible] def spJR (TT : List (Addr × Str)) : Sp := fun vs H Q _ => ∃ (p D F : Addr) (n : Nat) (m : List (Str × Str)) (fs : List (List Nat)), vs = [.ref p, .int n, .ref D, .ref F] ∧ PotAt H p ∧ Tabs TT H ∧ 1 ≤ n ∧ n ≤ 5 ∧ H D = some (.dK (tk m)) ∧ D ≠ p ∧ TabOk (n : Int) m ∧ H F = some (.lst (fs.map sx)) ∧ F ≠ p ∧ Fits n fs ∧ fs.Nodup ∧ fs.length ≤ 4 ∧ ∀ H', GoN TT p H H' → Q (.bl true) H'
theorem jr_go {TT : List (Addr × Str)} {p D F : Addr} {n : Nat} {m : List (Str × Str)} {fs : List (List Nat)} {H : Hp} {Q : VK} {E : XK} (hp : PotAt H p) (hT : Tabs TT H) (h0 : 1 ≤ n) (h1 : n ≤ 5) (eD : H D = some (.dK (tk m))) (nD : D ≠ p) (ok : TabOk (n : Int) m) (eF : H F = some (.lst (fs.map sx))) (nF : F ≠ p) (ff : Fits n fs) (nd : fs.Nodup) (lf : fs.length ≤ 4) (k : ∀ H', GoN TT p H H' → Q (.bl true) H') : spJR TT [.ref p, .int n, .ref D, .ref F] H Q E := by
  unfold spJR
  exact ⟨p, D, F, n, m, fs, rfl, hp, hT, h0, h1, eD, nD, ok, eF, nF, ff, nd, lf, k⟩
section
variable {P : Program} {w : World} {K : PySem.W.Frag} {mg : Str → Option Value} {base : Heap} {f C : Addr} {fd' : FuncData} {TT : List (Addr × Str)}
theorem ok_joined_right (F : Fun K "_law_joined_right" "_law_joined_right" s_law_joined_right f fd') (hm : mg "_law_joined_right" = some (.ref f)) (T : Txt K mg) (TC : TabC K C)
    (c_law_drawn : Nm P w K mg base CX0 3 "_law_drawn" s_law_drawn ["_law_pot_here", "_law_wide"] (spDr)) (c_law_pick : Nm P w K mg base CX0 2 "_law_pick" s_law_pick ["_law_pot_here", "_law_some"] (spAmong K)) (c_law_stretches : Nm P w K mg base CX0 2 "_law_stretches" s_law_stretches ["_law_wide"] (spLS)) (c_law_made : Nm P w K mg base CX0 4 "_law_made" s_law_made ["_law_one", "_law_other"] (spMd TT)) (c_within : Nm P w K mg base CX0 8 "within" s_within ["table", "stretch"] (spWn C)) (c_joined : Nm P w K mg base CX0 8 "joined" s_joined ["zero", "one"] (spJn C))
    (b_Table : BndI P w K mg base CX0 6 "Table" C ["self", "width", "rows"] (spInit C) 2 [] (fun us _ => us)) (b_few2 : BndF P w K mg base CX0 7 "fewest" ["table", "free"] (spFe K C) 2 [] al3) (b_sp2 : BndF P w K mg base CX0 8 "spare" ["table", "free"] (spSp K C) 2 [] al3) (b_set3 : BndF P w K mg base CX0 8 "set_at" ["table", "stretch", "free"] (spSA K C) 3 [] al3) (b_need3 : BndF P w K mg base CX0 8 "need_at" ["table", "stretch", "free"] (spNA K C) 3 [] al3) : Nm P w K mg base CX0 11 "_law_joined_right" s_law_joined_right ["_law_pot_here", "_law_wide", "_law_rows", "_law_idle"] (spJR TT) := by
  refine nm_of0 F hm sc_law_joined_right (fun vs H Q E h => ?_) fun cdv A outer s H vs Q E hr h => ?_
  · unfold spJR at h
    obtain ⟨p, D, F, n, m, fs, rfl, hp, hT, h0, h1, eD, nD, ok, eF, nF, ff, nd, lf, k⟩ := h
    subst_vars
    rfl
  unfold spJR at h
  obtain ⟨p, D, F, n, m, fs, rfl, hp, hT, h0, h1, eD, nD, ok, eF, nF, ff, nd, lf, k⟩ := h
  refine ⟨_, (C8.pss_cut (ps_asg (pe_g c_law_drawn hr (by decide) L2.pass0 bp_law_drawn (by rfl) (pa_cons (pv 0) (pa_cons (pv 1) pa_nil))) (pg_tup (by rfl) (pgs_cons (pg_name (i := 4) sc_law_joined_right.nd rfl (by first | exact Or.inl rfl | exact Or.inr rfl)) (pgs_cons (pg_name (i := 5) sc_law_joined_right.nd rfl (by first | exact Or.inl rfl | exact Or.inr rfl)) pgs_nil))))
      (C8.pss_cut (ps_if (pt_cmpR op_gt (pe_op op_add (pe_callB call_lenD (by rfl) T.b_len PySem.boot_len (pa_cons (pv 2) pa_nil)) (pe_callB call_lenD (by rfl) T.b_len PySem.boot_len (pa_cons (pv 4) pa_nil))) pe_int (nomark _)) (pss_one (ps_ret pe_bl)) pss_nil)
      (C8.pss_cut (ps_par (i := 6) (j := 7) (by rfl) sc_law_joined_right.nd rfl rfl (by decide) rfl rfl (pa_cons (pe_mk b_Table hr (by decide) L2.pass0 (by rfl) (pa_cons (pv 1) (pa_cons (pv 2) pa_nil)) pk_nil) (pa_cons (pe_mk b_Table hr (by decide) L2.pass0 (by rfl) (pa_cons (pv 1) (pa_cons (pv 4) pa_nil)) pk_nil) pa_nil)) (by rfl))
      (C8.pss_cut (ps_par (i := 8) (j := 9) (by rfl) sc_law_joined_right.nd rfl rfl (by decide) rfl rfl (pa_cons (pe_g c_joined hr (by decide) L2.pass0 bp_joined (by rfl) (pa_cons (pv 6) (pa_cons (pv 7) pa_nil))) (pa_cons (pe_op op_cat (pe_lc (own := [("_law_spot", 11)]) (g := (gName 11)) (by rfl) sc_law_joined_right.nd (pi_listK (K := K) rfl (pv 3)) (blkOk_by (own := [("_law_spot", 11)]) (N := ["_law_pot_here", "_law_wide", "_law_rows", "_law_idle", "_law_some", "_law_others", "_law_zero", "_law_one", "_law_both", "_law_free_both", "_law_turn", "_law_spot", "_law_told", "_law_halves", "_law_due", "_law_back"]) (sc := defScope s_law_joined_right) (by decide +kernel)) (fun _ _ _ _ _ => (pg_name (i := 11) sc_law_joined_right.nd rfl (by first | exact Or.inl rfl | exact Or.inr rfl))) (fun _ _ _ _ _ => pts_nil) (fun _ _ _ _ _ => (pe_op op_add_str pe_str (pv 11)))) (pe_lc (own := [("_law_spot", 11)]) (g := (gName 11)) (by rfl) sc_law_joined_right.nd (pi_listK (K := K) rfl (pv 5)) (blkOk_by (own := [("_law_spot", 11)]) (N := ["_law_pot_here", "_law_wide", "_law_rows", "_law_idle", "_law_some", "_law_others", "_law_zero", "_law_one", "_law_both", "_law_free_both", "_law_turn", "_law_spot", "_law_told", "_law_halves", "_law_due", "_law_back"]) (sc := defScope s_law_joined_right) (by decide +kernel)) (fun _ _ _ _ _ => (pg_name (i := 11) sc_law_joined_right.nd rfl (by first | exact Or.inl rfl | exact Or.inr rfl))) (fun _ _ _ _ _ => pts_nil) (fun _ _ _ _ _ => (pe_op op_add_str pe_str (pv 11))))) pa_nil)) (by rfl))
      (C8.pss_cut (ps_for PassesOwn.never rfl (pi_range1 (by rfl) T.b_range (pa_cons pe_int pa_nil)) (pg_name (i := 10) sc_law_joined_right.nd rfl (by first | exact Or.inl rfl | exact Or.inr rfl)) (pss_cons (ps_set (i := 11) sc_law_joined_right.nd rfl (by first | exact Or.inl rfl | exact Or.inr rfl) (pe_g c_law_pick hr (by decide) L2.pass0 bp_law_pick (by rfl) (pa_cons (pv 0) (pa_cons (pe_g c_law_stretches hr (by decide) L2.pass0 bp_law_stretches (by rfl) (pa_cons (pv 1) pa_nil)) pa_nil))))
      (pss_cons (ps_set (i := 12) sc_law_joined_right.nd rfl (by first | exact Or.inl rfl | exact Or.inr rfl) (pe_lst (pa_cons (pe_f b_set3 hr (by decide) L2.pass0 (by rfl) (pa_cons (pv 8) (pa_cons (pe_op op_add_str pe_str (pv 11)) (pa_cons (pv 9) pa_nil))) pk_nil) (pa_cons (pe_f b_need3 hr (by decide) L2.pass0 (by rfl) (pa_cons (pv 8) (pa_cons (pe_op op_add_str pe_str (pv 11)) (pa_cons (pv 9) pa_nil))) pk_nil) pa_nil))))
      (pss_cons (ps_if (pt_cmpR (op_neDK (K := K) rfl hr.u64) (pv 12) (pe_lst (pa_cons (pe_f b_set3 hr (by decide) L2.pass0 (by rfl) (pa_cons (pv 6) (pa_cons (pv 11) (pa_cons (pv 3) pa_nil))) pk_nil) (pa_cons (pe_f b_need3 hr (by decide) L2.pass0 (by rfl) (pa_cons (pv 6) (pa_cons (pv 11) (pa_cons (pv 3) pa_nil))) pk_nil) pa_nil))) (nomark _)) (pss_one (ps_ret pe_bl)) pss_nil)
      (pss_cons (ps_set (i := 12) sc_law_joined_right.nd rfl (by first | exact Or.inl rfl | exact Or.inr rfl) (pe_lst (pa_cons (pe_f b_set3 hr (by decide) L2.pass0 (by rfl) (pa_cons (pv 8) (pa_cons (pe_op op_add_str pe_str (pv 11)) (pa_cons (pv 9) pa_nil))) pk_nil) (pa_cons (pe_f b_need3 hr (by decide) L2.pass0 (by rfl) (pa_cons (pv 8) (pa_cons (pe_op op_add_str pe_str (pv 11)) (pa_cons (pv 9) pa_nil))) pk_nil) pa_nil))))
      (pss_one (ps_if (pt_cmpR (op_neDK (K := K) rfl hr.u64) (pv 12) (pe_lst (pa_cons (pe_f b_set3 hr (by decide) L2.pass0 (by rfl) (pa_cons (pv 7) (pa_cons (pv 11) (pa_cons (pv 5) pa_nil))) pk_nil) (pa_cons (pe_f b_need3 hr (by decide) L2.pass0 (by rfl) (pa_cons (pv 7) (pa_cons (pv 11) (pa_cons (pv 5) pa_nil))) pk_nil) pa_nil))) (nomark _)) (pss_one (ps_ret pe_bl)) pss_nil)))))))
      (C8.pss_cut (ps_set (i := 13) sc_law_joined_right.nd rfl (by first | exact Or.inl rfl | exact Or.inr rfl) (pe_lst (pa_cons (pe_lst (pa_cons (pe_f b_set3 hr (by decide) L2.pass0 (by rfl) (pa_cons (pv 6) (pa_cons pe_str (pa_cons (pv 3) pa_nil))) pk_nil) (pa_cons (pe_f b_need3 hr (by decide) L2.pass0 (by rfl) (pa_cons (pv 6) (pa_cons pe_str (pa_cons (pv 3) pa_nil))) pk_nil) pa_nil))) (pa_cons (pe_lst (pa_cons (pe_f b_set3 hr (by decide) L2.pass0 (by rfl) (pa_cons (pv 7) (pa_cons pe_str (pa_cons (pv 5) pa_nil))) pk_nil) (pa_cons (pe_f b_need3 hr (by decide) L2.pass0 (by rfl) (pa_cons (pv 7) (pa_cons pe_str (pa_cons (pv 5) pa_nil))) pk_nil) pa_nil))) pa_nil))))
      (C8.pss_cut (ps_set (i := 14) sc_law_joined_right.nd rfl (by first | exact Or.inl rfl | exact Or.inr rfl) (pe_g c_law_made hr (by decide) L2.pass0 bp_law_made (by rfl) (pa_cons (pe_ix (ix_seqK (K := K) rfl) (pv 13) pe_int (fun _ _ => rfl)) (pa_cons (pe_ix (ix_seqK (K := K) rfl) (pv 13) pe_int (fun _ _ => rfl)) pa_nil))))
      (C8.pss_cut (ps_if (pt_cmpR (op_neDK (K := K) rfl hr.u64) (pe_lst (pa_cons (pe_f b_set3 hr (by decide) L2.pass0 (by rfl) (pa_cons (pv 8) (pa_cons pe_str (pa_cons (pv 9) pa_nil))) pk_nil) (pa_cons (pe_f b_need3 hr (by decide) L2.pass0 (by rfl) (pa_cons (pv 8) (pa_cons pe_str (pa_cons (pv 9) pa_nil))) pk_nil) pa_nil))) (pv 14) (nomark _)) (pss_one (ps_ret pe_bl)) pss_nil)
      (C8.pss_cut (ps_if (pt_cmpR op_ne (pe_f b_few2 hr (by decide) L2.pass0 (by rfl) (pa_cons (pv 8) (pa_cons (pv 9) pa_nil)) pk_nil) (pe_op op_add (pe_ix (ix_seqK (K := K) rfl) (pv 14) pe_int (fun _ _ => rfl)) (pe_callTy call_int1 (by rfl) T.b_int (by decide +kernel) (pa_cons (pe_and (pe_cmpR (op_neDK (K := K) rfl hr.u64) (pe_ix (ix_seqK (K := K) rfl) (pv 14) pe_int (fun _ _ => rfl)) pe_str (nomark _)) (pe_one (pe_cmpR (op_notInK (K := K) rfl) pe_str (pe_ix (ix_seqK (K := K) rfl) (pv 14) pe_int (fun _ _ => rfl)) rfl))) pa_nil))) (nomark _)) (pss_one (ps_ret pe_bl)) pss_nil)
      (C8.pss_cut (ps_set (i := 15) sc_law_joined_right.nd rfl (by first | exact Or.inl rfl | exact Or.inr rfl) (pe_g c_within hr (by decide) L2.pass0 bp_within (by rfl) (pa_cons (pe_f b_sp2 hr (by decide) L2.pass0 (by rfl) (pa_cons (pv 8) (pa_cons (pv 9) pa_nil)) pk_nil) (pa_cons pe_str pa_nil))))
      (pss_one (ps_ret (pe_and (pe_cmpR op_eq (pe_f b_few2 hr (by decide) L2.pass0 (by rfl) (pa_cons (pv 15) (pa_cons (pv 5) pa_nil)) pk_nil) (pe_f b_few2 hr (by decide) L2.pass0 (by rfl) (pa_cons (pv 7) (pa_cons (pv 5) pa_nil)) pk_nil) (nomark _)) (pe_one (pe_cmpR (op_eqDK (K := K) rfl hr.u64) (pe_f b_set3 hr (by decide) L2.pass0 (by rfl) (pa_cons (pv 15) (pa_cons pe_str (pa_cons (pv 5) pa_nil))) pk_nil) (pe_ix (ix_seqK (K := K) rfl) (pe_ix (ix_seqK (K := K) rfl) (pv 13) pe_int (fun _ _ => rfl)) pe_int (fun _ _ => rfl)) (nomark _)))))))))))))))), ?_⟩
  have lf20 : fs.length ≤ 20 := by omega
  have okX := srt_ok ok
  have gN0 : GoN TT p H H := GoN.refl hp hT
  refine ⟨fun σ' H' => ∃ (S O : Addr) (r : List (Str × Str)) (os : List (List Nat)), σ' = [some (.ref p), some (.int n), some (.ref D), some (.ref F), some (.ref S), some (.ref O), none, none, none, none, none, none, none, none, none, none] ∧ Go p H H' ∧ H' S = some (.dK (tk r)) ∧ S ≠ p ∧ TabOk (n : Int) r ∧ r.length ≤ 6 ∧ H' O = some (.lst (os.map sx)) ∧ O ≠ p ∧ Fits n os ∧ os.length ≤ 1, ?_, ?_⟩
  · refine ⟨_, rfl, ⟨_, rfl, ?_⟩⟩
    refine dr_go hp h0 h1 fun z S O r os H1 g1 ez eS nS okr lr eO nO fo lo => ?_
    refine ⟨z, _, rfl, SqT.of ez, rfl, ⟨_, _, rfl, ⟨_, _, rfl, ⟨rfl, ?_⟩⟩⟩⟩
    exact ⟨S, O, r, os, rfl, g1, eS, nS, okr, lr, eO, nO, fo, lo⟩
  rintro σ' H1 ⟨S, O, r, os, rfl, g1, eS1, nS, okr, lr, eO1, nO, fo, lo⟩
  have eD1 := g1.kp eD nD
  have eF1 := g1.kp eF nF
  have hp1 := g1.pot
  have ndo : os.Nodup := by
    match os, lo with
    | [], _ => exact .nil
    | [a], _ => simp
  have lo20 : os.length ≤ 20 := by omega
  refine ⟨fun σ' H' => m.length + r.length ≤ 40 ∧ σ' = [some (.ref p), some (.int n), some (.ref D), some (.ref F), some (.ref S), some (.ref O), none, none, none, none, none, none, none, none, none, none] ∧ H' = H1, ?_, ?_⟩
  · refine ⟨_, rfl, ⟨D, _, rfl, eD1, ⟨_, rfl, ⟨S, _, rfl, eS1, ⟨_, _, rfl, rfl, ⟨_, _, rfl, rfl, ⟨_, rfl, ?_⟩⟩⟩⟩⟩⟩⟩
    rw [tk_len, tk_len]
    by_cases c : (40 : Int) < (m.length : Int) + (r.length : Int)
    · rw [decide_eq_true c]
      refine iteT ?_
      exact k H1 (gN0.go g1)
    · rw [decide_eq_false c]
      refine iteF ?_
      exact ⟨by omega, rfl, rfl⟩
  rintro σ' H1' ⟨l40, rfl, rfl⟩
  refine ⟨fun σ' H' => ∃ (X Y : Addr), σ' = [some (.ref p), some (.int n), some (.ref D), some (.ref F), some (.ref S), some (.ref O), some (.ref X), some (.ref Y), none, none, none, none, none, none, none, none] ∧ Same H1' H' ∧ TabAt C H' X n (srt m) ∧ TabAt C H' Y n (srt r), ?_, ?_⟩
  · refine ⟨_, rfl, ⟨_, rfl, ⟨rfl, rfl, fun X dX hX hdX hXX => ?_⟩⟩⟩
    have mx : D ≠ X := nonn hX eD1
    have md : D ≠ dX := nonn hdX eD1
    refine init_go upd_same (updn mx (updn md eD1)) ok fun H5 kp tb => ⟨rfl, ?_⟩
    have s5 : Same H1' H5 := fun c o q => kp c o (nonn hX q) (updn (nonn hX q) (updn (nonn hdX q) q))
    have eS5 := s5 _ _ eS1
    refine ⟨_, rfl, ⟨_, rfl, ⟨rfl, rfl, fun Y dY hY hdY hYY => ?_⟩⟩⟩
    have mx : S ≠ Y := nonn hY eS5
    have md : S ≠ dY := nonn hdY eS5
    refine init_go upd_same (updn mx (updn md eS5)) okr fun H7 kp2 tb2 => ⟨rfl, ?_⟩
    have s7 : Same H5 H7 := fun c o q => kp2 c o (nonn hY q) (updn (nonn hY q) (updn (nonn hdY q) q))
    exact ⟨_, _, rfl, X, Y, rfl, s5.trans s7, tb.to s7, tb2⟩
  rintro σ' H2 ⟨X, Y, rfl, s2, tX, tY⟩
  have eF2 := s2 _ _ eF1
  have eO2 := s2 _ _ eO1
  have okY := srt_ok okr
  have g2 := g1.trans (Go.of hp1 s2)
  have okJ : TabOk ((n + 1 : Nat) : Int) (jn (srt m) (srt r)) := jn_ok okX okY (by omega) (by rw [srt_len, srt_len]; exact l40)
  have okW := srt_ok okJ
  have fU : Fits (n + 1) (fa fs os) := fun z hz => by
    unfold fa at hz
    rcases List.mem_append.mp hz with h | h
    · obtain ⟨y, hy, rfl⟩ := List.mem_map.mp h
      exact ⟨fun c hc => (List.mem_cons.mp hc).elim (fun q => .inl q) ((ff y hy).1 c), by rw [List.length_cons]; have := (ff y hy).2; omega⟩
    · obtain ⟨y, hy, rfl⟩ := List.mem_map.mp h
      exact ⟨fun c hc => (List.mem_cons.mp hc).elim (fun q => .inr q) ((fo y hy).1 c), by rw [List.length_cons]; have := (fo y hy).2; omega⟩
  have ndU : (fa fs os).Nodup := by
    unfold fa
    refine List.nodup_append.mpr ⟨nd_map nd fun a _ b _ e => (List.cons.inj e).2, nd_map ndo fun a _ b _ e => (List.cons.inj e).2, fun a ha b hb e => ?_⟩
    subst e
    obtain ⟨y, _, rfl⟩ := List.mem_map.mp ha
    obtain ⟨z, _, e⟩ := List.mem_map.mp hb
    exact absurd (List.cons.inj e).1 (by decide)
  have lU : (fa fs os).length ≤ 20 := by unfold fa; rw [List.length_append, List.length_map, List.length_map]; omega
  refine ⟨fun σ' H' => ∃ (W U : Addr), σ' = [some (.ref p), some (.int n), some (.ref D), some (.ref F), some (.ref S), some (.ref O), some (.ref X), some (.ref Y), some (.ref W), some (.ref U), none, none, none, none, none, none] ∧ Same H2 H' ∧ TabAt C H' W ((n + 1 : Nat) : Int) (srt (jn (srt m) (srt r))) ∧ H' U = some (.lst ((fa fs os).map sx)) ∧ U ≠ p, ?_, ?_⟩
  · refine ⟨_, rfl, ⟨_, rfl, ?_⟩⟩
    refine jn_go tX tY okX okY (by omega) (by rw [srt_len, srt_len]; exact l40) fun W H3 s3 nW tW => ?_
    refine ⟨_, rfl, ⟨F, rfl, ⟨_, SqL.of (s3 _ _ eF2)⟩, fun B1 nB1 => ?_⟩⟩
    refine lc_it (walk_list (xs := fs.map sx)) (fun i H' => H' B1 = some (.lst (((fs.take i).map (48 :: ·)).map sx)) ∧ Same H3 H') ⟨upd_same, (Same.refl H3).new nB1⟩ (fun i H' _ h => SqL.of (h.2 _ _ (s3 _ _ eF2))) ?_ ?_
    · rintro i x Hx Hy hi ⟨eB, sm⟩ ⟨rfl, hx⟩
      obtain ⟨z, hz, rfl⟩ := sx_at hx
      obtain ⟨z1, z2⟩ := ff z (List.mem_of_getElem? hz)
      rw [List.length_map] at hi
      refine ⟨rfl, ?_⟩
      dsimp only [tYes]
      rw [if_pos rfl]
      refine ⟨_, rfl, ⟨_, _, rfl, rfl, szl (by show 1 + (SX.S z).length ≤ 1000000; rw [sx_len]; omega), ?_⟩⟩
      rw [pre_sx (b := "0") (c := 48) (by decide +kernel)]
      refine ⟨_, eB, szt (by rw [List.length_map, List.length_map, List.length_take]; omega), ?_, fun b o e => updn (nonn nB1 e) (sm _ _ e)⟩
      rw [upd_same, List.take_add_one, hz, List.map_append, List.map_append]
      rfl
    · rintro H4 ⟨eBH4, smH4⟩
      rw [List.length_map, List.take_length] at eBH4
      have eO4 := smH4 _ _ (s3 _ _ eO2)
      refine ⟨_, rfl, ⟨O, rfl, ⟨_, SqL.of eO4⟩, fun B2 nB2 => ?_⟩⟩
      refine lc_it (walk_list (xs := os.map sx)) (fun i H' => H' B2 = some (.lst (((os.take i).map (49 :: ·)).map sx)) ∧ Same H4 H') ⟨upd_same, (Same.refl H4).new nB2⟩ (fun i H' _ h => SqL.of (h.2 _ _ eO4)) ?_ ?_
      · rintro i x Hx Hy hi ⟨eB, sm⟩ ⟨rfl, hx⟩
        obtain ⟨z, hz, rfl⟩ := sx_at hx
        obtain ⟨z1, z2⟩ := fo z (List.mem_of_getElem? hz)
        rw [List.length_map] at hi
        refine ⟨rfl, ?_⟩
        dsimp only [tYes]
        rw [if_pos rfl]
        refine ⟨_, rfl, ⟨_, _, rfl, rfl, szl (by show 1 + (SX.S z).length ≤ 1000000; rw [sx_len]; omega), ?_⟩⟩
        rw [pre_sx (b := "1") (c := 49) (by decide +kernel)]
        refine ⟨_, eB, szt (by rw [List.length_map, List.length_map, List.length_take]; omega), ?_, fun b o e => updn (nonn nB2 e) (sm _ _ e)⟩
        rw [upd_same, List.take_add_one, hz, List.map_append, List.map_append]
        rfl
      · rintro H5 ⟨eBH5, smH5⟩
        rw [List.length_map, List.take_length] at eBH5
        have eB15 := smH5 _ _ eBH4
        refine ⟨B1, B2, _, _, rfl, rfl, eB15, eBH5, szl (by rw [List.length_map, List.length_map, List.length_map, List.length_map]; omega), fun U nU => ?_⟩
        have s35 := s3.trans (smH4.trans smH5)
        have t35 := tW.to (smH4.trans smH5)
        have nUp : U ≠ p := hp1.ne ((s2.trans s35).back nU)
        refine ⟨_, _, rfl, W, U, rfl, s35.new nU, t35.to ((Same.refl H5).new nU), ?_, nUp⟩
        rw [upd_same]
        unfold fa
        rw [List.map_append]
  rintro σ' H3 ⟨W, U, rfl, s3, tW, eU3, nU⟩
  have g3 := g2.trans (Go.of g2.pot s3)
  have hp3 := g3.pot
  have eF3 := s3 _ _ eF2
  have eO3 := s3 _ _ eO2
  have tX3 := tX.to s3
  have tY3 := tY.to s3
  have tfX : ∀ {H' : Hp}, Go p H3 H' → TF K C H' X F n (srt m) fs := fun g => ⟨tX3.go hp3 g, okX, .inl (g.kp eF3 nF), ff, nd, lf20⟩
  have tfY : ∀ {H' : Hp}, Go p H3 H' → TF K C H' Y O n (srt r) os := fun g => ⟨tY3.go hp3 g, okY, .inl (g.kp eO3 nO), fo, ndo, lo20⟩
  have tfW : ∀ {H' : Hp}, Go p H3 H' → TF K C H' W U (n + 1) (srt (jn (srt m) (srt r))) (fa fs os) := fun g => ⟨tW.go hp3 g, okW, .inl (g.kp eU3 nU), fU, ndU, lU⟩
  have e0 : ∀ t, SN (n + 1) (srt (jn (srt m) (srt r))) (fa fs os) (48 :: t) = SN n (srt m) fs t := fun t => by rw [SN_srt, SN_0 okY.nd]
  have e1 : ∀ t, SN (n + 1) (srt (jn (srt m) (srt r))) (fa fs os) (49 :: t) = SN n (srt r) os t := fun t => by rw [SN_srt, SN_1 okY.nd]
  have eJ : SN (n + 1) (srt (jn (srt m) (srt r))) (fa fs os) [] = both2 (SN n (srt m) fs []) (SN n (srt r) os []) := by rw [SN_srt, SN_jn okY.nd]
  have ll := strL_len (n + 1)
  have l4 : 2 ^ (n + 1) ≤ 2 ^ 6 := Nat.pow_le_pow_right (by decide) (by omega)
  have l2 : 2 ^ 2 ≤ 2 ^ (n + 1) := Nat.pow_le_pow_right (by decide) (by omega)
  refine ⟨fun σ' H' => ∃ x10 x11 x12, σ' = [some (.ref p), some (.int n), some (.ref D), some (.ref F), some (.ref S), some (.ref O), some (.ref X), some (.ref Y), some (.ref W), some (.ref U), x10, x11, x12, none, none, none] ∧ Go p H3 H', ?_, ?_⟩
  · refine ⟨5, rfl, by decide, by decide, ?_⟩
    refine for_it (walk_range (lo := 0) (n := 5)) (fun i σ' H' => ∃ x10 x11 x12, σ' = [some (.ref p), some (.int n), some (.ref D), some (.ref F), some (.ref S), some (.ref O), some (.ref X), some (.ref Y), some (.ref W), some (.ref U), x10, x11, x12, none, none, none] ∧ Go p H3 H') ⟨_, _, _, rfl, Go.refl hp3⟩ (fun _ _ _ _ _ => trivial) ?_ (fun σ' H' h => h)
    rintro i x σ' Hx H4 hi ⟨x10, x11, x12, rfl, g4⟩ ⟨rfl, rfl⟩
    refine ⟨_, rfl, ⟨_, rfl, ?_⟩⟩
    refine ls_go (by omega) fun L H5 s5 nL eL => ?_
    have g5 := g4.trans (Go.of g4.pot s5)
    refine among_l g5.pot (g4.pot.ne nL) (SqL.of eL) (by rw [List.length_map]; omega) (by rw [List.length_map]; omega) fun v hv H6 g6' => ?_
    obtain ⟨t, ht, rfl⟩ := List.mem_map.mp hv
    have hst := strL_mem.mp ht
    have tb := hst.1
    have tl : t.length ≤ n := by omega
    have g6 := g5.trans g6'
    have b0 : M.BL (48 :: t) := fun c hc => (List.mem_cons.mp hc).elim (fun q => .inl q) (tb c)
    have b1 : M.BL (49 :: t) := fun c hc => (List.mem_cons.mp hc).elim (fun q => .inr q) (tb c)
    have zX := SN_sz (t := t) (fs := fs) okX
    have iX := SN_need (n := n) (m := srt m) (fs := fs) (t := t) (by omega)
    have zY := SN_sz (t := t) (fs := os) okY
    have iY := SN_need (n := n) (m := srt r) (fs := os) (t := t) (by omega)
    have szp : ∀ {b : Str}, b.length = 1 → b.length + (SX.S t).length ≤ sizeLine := fun h => szl (by rw [h, sx_len]; omega)
    refine ⟨_, rfl, ⟨_, rfl, ⟨_, _, rfl, rfl, szp (by decide +kernel), ⟨_, rfl, ⟨rfl, rfl, ?_⟩⟩⟩⟩⟩
    rw [pre_sx (b := "0") (c := 48) (by decide +kernel)]
    show spSA K C [.ref W, sx (48 :: t), .ref U] _ _ _
    refine sa_goV (tfW g6) b0 (Nat.succ_le_succ tl) fun vp Hap sap vap => ?_
    have gap := g6.trans (Go.of g6.pot sap)
    refine ⟨_, rfl, ⟨_, rfl, ⟨_, _, rfl, rfl, szp (by decide +kernel), ⟨_, rfl, ⟨rfl, rfl, ?_⟩⟩⟩⟩⟩
    rw [pre_sx (b := "0") (c := 48) (by decide +kernel)]
    show spNA K C [.ref W, sx (48 :: t), .ref U] _ _ _
    refine na_go (tfW gap) b0 (Nat.succ_le_succ tl) fun Hbp sbp => ?_
    have gbp := gap.trans (Go.of gap.pot sbp)
    rw [e0 t] at vap ⊢
    refine ⟨szl (by show 2 ≤ 1000000; decide), fun Lp nLp => ?_⟩
    have gp := gbp.new (o := HO.lst [vp, .int ((SN n (srt m) fs t).2 : Nat)]) nLp
    have kp : ∀ b l, H6 b = some (.lst l) → upd Hbp Lp (.lst [vp, .int ((SN n (srt m) fs t).2 : Nat)]) b = some (.lst l) := fun b l e => updn (nonn nLp (sbp _ _ (sap _ _ e))) (sbp _ _ (sap _ _ e))
    have lnp : LnA (upd Hbp Lp (.lst [vp, .int ((SN n (srt m) fs t).2 : Nat)])) Lp (SN n (srt m) fs t) := ⟨vp, upd_same, vap.via fun b l e => updn (nonn nLp (sbp _ _ e)) (sbp _ _ e)⟩
    generalize upd Hbp Lp (.lst [vp, .int ((SN n (srt m) fs t).2 : Nat)]) = Hcp at gp kp lnp ⊢
    refine ⟨_, rfl, ?_⟩
    refine ⟨_, rfl, ⟨_, rfl, ⟨_, rfl, ⟨rfl, rfl, ?_⟩⟩⟩⟩
    show spSA K C [.ref X, sx t, .ref F] _ _ _
    refine sa_goV (tfX gp) tb tl fun vq Haq saq vaq => ?_
    have gaq := gp.trans (Go.of gp.pot saq)
    refine ⟨_, rfl, ⟨_, rfl, ⟨_, rfl, ⟨rfl, rfl, ?_⟩⟩⟩⟩
    show spNA K C [.ref X, sx t, .ref F] _ _ _
    refine na_go (tfX gaq) tb tl fun Hbq sbq => ?_
    have gbq := gaq.trans (Go.of gaq.pot sbq)
    rw [show SN n (srt m) fs t = SN n (srt m) fs t from rfl] at vaq ⊢
    refine ⟨szl (by show 2 ≤ 1000000; decide), fun Lq nLq => ?_⟩
    have gq := gbq.new (o := HO.lst [vq, .int ((SN n (srt m) fs t).2 : Nat)]) nLq
    have kq : ∀ b l, Hcp b = some (.lst l) → upd Hbq Lq (.lst [vq, .int ((SN n (srt m) fs t).2 : Nat)]) b = some (.lst l) := fun b l e => updn (nonn nLq (sbq _ _ (saq _ _ e))) (sbq _ _ (saq _ _ e))
    have lnq : LnA (upd Hbq Lq (.lst [vq, .int ((SN n (srt m) fs t).2 : Nat)])) Lq (SN n (srt m) fs t) := ⟨vq, upd_same, vaq.via fun b l e => updn (nonn nLq (sbq _ _ e)) (sbq _ _ e)⟩
    generalize upd Hbq Lq (.lst [vq, .int ((SN n (srt m) fs t).2 : Nat)]) = Hcq at gq kq lnq ⊢
    refine ln_ne (lnp.via kq) lnq zX iX ?_
    refine ⟨_, rfl, iteF ?_⟩
    refine ⟨_, rfl, ⟨_, rfl, ⟨_, _, rfl, rfl, szp (by decide +kernel), ⟨_, rfl, ⟨rfl, rfl, ?_⟩⟩⟩⟩⟩
    rw [pre_sx (b := "1") (c := 49) (by decide +kernel)]
    show spSA K C [.ref W, sx (49 :: t), .ref U] _ _ _
    refine sa_goV (tfW gq) b1 (Nat.succ_le_succ tl) fun vr2 Har2 sar2 var2 => ?_
    have gar2 := gq.trans (Go.of gq.pot sar2)
    refine ⟨_, rfl, ⟨_, rfl, ⟨_, _, rfl, rfl, szp (by decide +kernel), ⟨_, rfl, ⟨rfl, rfl, ?_⟩⟩⟩⟩⟩
    rw [pre_sx (b := "1") (c := 49) (by decide +kernel)]
    show spNA K C [.ref W, sx (49 :: t), .ref U] _ _ _
    refine na_go (tfW gar2) b1 (Nat.succ_le_succ tl) fun Hbr2 sbr2 => ?_
    have gbr2 := gar2.trans (Go.of gar2.pot sbr2)
    rw [e1 t] at var2 ⊢
    refine ⟨szl (by show 2 ≤ 1000000; decide), fun Lr2 nLr2 => ?_⟩
    have gr2 := gbr2.new (o := HO.lst [vr2, .int ((SN n (srt r) os t).2 : Nat)]) nLr2
    have kr2 : ∀ b l, Hcq b = some (.lst l) → upd Hbr2 Lr2 (.lst [vr2, .int ((SN n (srt r) os t).2 : Nat)]) b = some (.lst l) := fun b l e => updn (nonn nLr2 (sbr2 _ _ (sar2 _ _ e))) (sbr2 _ _ (sar2 _ _ e))
    have lnr2 : LnA (upd Hbr2 Lr2 (.lst [vr2, .int ((SN n (srt r) os t).2 : Nat)])) Lr2 (SN n (srt r) os t) := ⟨vr2, upd_same, var2.via fun b l e => updn (nonn nLr2 (sbr2 _ _ e)) (sbr2 _ _ e)⟩
    generalize upd Hbr2 Lr2 (.lst [vr2, .int ((SN n (srt r) os t).2 : Nat)]) = Hcr2 at gr2 kr2 lnr2 ⊢
    refine ⟨_, rfl, ?_⟩
    refine ⟨_, rfl, ⟨_, rfl, ⟨_, rfl, ⟨rfl, rfl, ?_⟩⟩⟩⟩
    show spSA K C [.ref Y, sx t, .ref O] _ _ _
    refine sa_goV (tfY gr2) tb tl fun vs Has sas vas => ?_
    have gas := gr2.trans (Go.of gr2.pot sas)
    refine ⟨_, rfl, ⟨_, rfl, ⟨_, rfl, ⟨rfl, rfl, ?_⟩⟩⟩⟩
    show spNA K C [.ref Y, sx t, .ref O] _ _ _
    refine na_go (tfY gas) tb tl fun Hbs sbs => ?_
    have gbs := gas.trans (Go.of gas.pot sbs)
    rw [show SN n (srt r) os t = SN n (srt r) os t from rfl] at vas ⊢
    refine ⟨szl (by show 2 ≤ 1000000; decide), fun Ls nLs => ?_⟩
    have gs := gbs.new (o := HO.lst [vs, .int ((SN n (srt r) os t).2 : Nat)]) nLs
    have ks : ∀ b l, Hcr2 b = some (.lst l) → upd Hbs Ls (.lst [vs, .int ((SN n (srt r) os t).2 : Nat)]) b = some (.lst l) := fun b l e => updn (nonn nLs (sbs _ _ (sas _ _ e))) (sbs _ _ (sas _ _ e))
    have lns : LnA (upd Hbs Ls (.lst [vs, .int ((SN n (srt r) os t).2 : Nat)])) Ls (SN n (srt r) os t) := ⟨vs, upd_same, vas.via fun b l e => updn (nonn nLs (sbs _ _ e)) (sbs _ _ e)⟩
    generalize upd Hbs Ls (.lst [vs, .int ((SN n (srt r) os t).2 : Nat)]) = Hcs at gs ks lns ⊢
    refine ln_ne (lnr2.via ks) lns zY iY ?_
    refine ⟨_, rfl, iteF ?_⟩
    exact ⟨_, _, _, rfl, gs⟩
  rintro σ' H4 ⟨x10, x11, x12, rfl, g4⟩
  have bl0 : M.BL [] := fun c hc => by cases hc
  have tl0 : ([] : List Nat).length ≤ n := Nat.zero_le _
  have tl1 : ([] : List Nat).length ≤ n + 1 := Nat.zero_le _
  have zX := SN_sz (t := []) (fs := fs) okX
  have iX := SN_need (n := n) (m := srt m) (fs := fs) (t := []) (by omega)
  have zY := SN_sz (t := []) (fs := os) okY
  have iY := SN_need (n := n) (m := srt r) (fs := os) (t := []) (by omega)
  have zJ : Sz (both2 (SN n (srt m) fs []) (SN n (srt r) os [])) := by rw [← eJ]; exact SN_sz okW
  have iJ : (both2 (SN n (srt m) fs []) (SN n (srt r) os [])).2 ≤ 128 := by rw [← eJ]; exact SN_need (by omega)
  refine ⟨fun σ' H' => ∃ L3 L1 L2 : Addr, σ' = [some (.ref p), some (.int n), some (.ref D), some (.ref F), some (.ref S), some (.ref O), some (.ref X), some (.ref Y), some (.ref W), some (.ref U), x10, x11, x12, some (.ref L3), none, none] ∧ Go p H3 H' ∧ H' L3 = some (.lst [.ref L1, .ref L2]) ∧ LnA H' L1 (SN n (srt m) fs []) ∧ LnA H' L2 (SN n (srt r) os []), ?_, ?_⟩
  · refine ⟨_, rfl, ⟨_, rfl, ⟨rfl, rfl, ?_⟩⟩⟩
    try rw [nil_sx]
    show spSA K C [.ref X, sx [], .ref F] _ _ _
    refine sa_goV (tfX g4) bl0 tl0 fun va1 Haa1 saa1 vaa1 => ?_
    have gaa1 := g4.trans (Go.of g4.pot saa1)
    refine ⟨_, rfl, ⟨_, rfl, ⟨rfl, rfl, ?_⟩⟩⟩
    try rw [nil_sx]
    show spNA K C [.ref X, sx [], .ref F] _ _ _
    refine na_go (tfX gaa1) bl0 tl0 fun Hba1 sba1 => ?_
    have gba1 := gaa1.trans (Go.of gaa1.pot sba1)
    rw [show SN n (srt m) fs [] = SN n (srt m) fs [] from rfl] at vaa1 ⊢
    refine ⟨szl (by show 2 ≤ 1000000; decide), fun La1 nLa1 => ?_⟩
    have ga1 := gba1.new (o := HO.lst [va1, .int ((SN n (srt m) fs []).2 : Nat)]) nLa1
    have ka1 : ∀ b l, H4 b = some (.lst l) → upd Hba1 La1 (.lst [va1, .int ((SN n (srt m) fs []).2 : Nat)]) b = some (.lst l) := fun b l e => updn (nonn nLa1 (sba1 _ _ (saa1 _ _ e))) (sba1 _ _ (saa1 _ _ e))
    have lna1 : LnA (upd Hba1 La1 (.lst [va1, .int ((SN n (srt m) fs []).2 : Nat)])) La1 (SN n (srt m) fs []) := ⟨va1, upd_same, vaa1.via fun b l e => updn (nonn nLa1 (sba1 _ _ e)) (sba1 _ _ e)⟩
    generalize upd Hba1 La1 (.lst [va1, .int ((SN n (srt m) fs []).2 : Nat)]) = Hca1 at ga1 ka1 lna1 ⊢
    refine ⟨_, rfl, ⟨_, rfl, ⟨rfl, rfl, ?_⟩⟩⟩
    try rw [nil_sx]
    show spSA K C [.ref Y, sx [], .ref O] _ _ _
    refine sa_goV (tfY ga1) bl0 tl0 fun va2 Haa2 saa2 vaa2 => ?_
    have gaa2 := ga1.trans (Go.of ga1.pot saa2)
    refine ⟨_, rfl, ⟨_, rfl, ⟨rfl, rfl, ?_⟩⟩⟩
    try rw [nil_sx]
    show spNA K C [.ref Y, sx [], .ref O] _ _ _
    refine na_go (tfY gaa2) bl0 tl0 fun Hba2 sba2 => ?_
    have gba2 := gaa2.trans (Go.of gaa2.pot sba2)
    rw [show SN n (srt r) os [] = SN n (srt r) os [] from rfl] at vaa2 ⊢
    refine ⟨szl (by show 2 ≤ 1000000; decide), fun La2 nLa2 => ?_⟩
    have ga2 := gba2.new (o := HO.lst [va2, .int ((SN n (srt r) os []).2 : Nat)]) nLa2
    have ka2 : ∀ b l, Hca1 b = some (.lst l) → upd Hba2 La2 (.lst [va2, .int ((SN n (srt r) os []).2 : Nat)]) b = some (.lst l) := fun b l e => updn (nonn nLa2 (sba2 _ _ (saa2 _ _ e))) (sba2 _ _ (saa2 _ _ e))
    have lna2 : LnA (upd Hba2 La2 (.lst [va2, .int ((SN n (srt r) os []).2 : Nat)])) La2 (SN n (srt r) os []) := ⟨va2, upd_same, vaa2.via fun b l e => updn (nonn nLa2 (sba2 _ _ e)) (sba2 _ _ e)⟩
    generalize upd Hba2 La2 (.lst [va2, .int ((SN n (srt r) os []).2 : Nat)]) = Hca2 at ga2 ka2 lna2 ⊢
    have lnA1 := lna1.via ka2
    refine ⟨szl (by show 2 ≤ 1000000; decide), fun L3 nL3 => ?_⟩
    have via3 : ∀ b l, Hca2 b = some (.lst l) → upd Hca2 L3 (.lst [.ref La1, .ref La2]) b = some (.lst l) := fun b l e => updn (nonn nL3 e) e
    exact ⟨L3, La1, La2, rfl, ga2.new nL3, upd_same, lnA1.via via3, lna2.via via3⟩
  clear g4
  rintro σ' H4 ⟨L3, L1, L2, rfl, g4, e3, l1, l2'⟩
  have gN4 : GoN TT p H H4 := gN0.go (g3.trans g4)
  have tX4 := tX3.go hp3 g4
  have tY4 := tY3.go hp3 g4
  have tW4 := tW.go hp3 g4
  have eF4 := g4.kp eF3 nF
  have eO4 := g4.kp eO3 nO
  have eU4 := g4.kp eU3 nU
  refine ⟨fun σ' H' => ∃ Q5 : Addr, σ' = [some (.ref p), some (.int n), some (.ref D), some (.ref F), some (.ref S), some (.ref O), some (.ref X), some (.ref Y), some (.ref W), some (.ref U), x10, x11, x12, some (.ref L3), some (.ref Q5), none] ∧ ExtN H4 H' ∧ Tabs TT H' ∧ LnA H' Q5 (both2 (SN n (srt m) fs []) (SN n (srt r) os [])), ?_, ?_⟩
  · refine ⟨_, rfl, .inl ⟨L3, _, 0, .ref L1, rfl, rfl, SqL.of e3, rfl, ?_⟩⟩
    refine ⟨_, rfl, .inl ⟨L3, _, 1, .ref L2, rfl, rfl, SqL.of e3, rfl, ?_⟩⟩
    refine md_go gN4.tabs l1 l2' zX zY fun Q5 H5 x5 t5 ln5 => ?_
    exact ⟨Q5, rfl, x5, t5, ln5⟩
  rintro σ' H5 ⟨Q5, rfl, x5, t5, ln5⟩
  have gN5 := gN4.ext x5 t5
  have tX5 := tX4.ext x5
  have tY5 := tY4.ext x5
  have tW5 := tW4.ext x5
  have eF5 := x5 _ _ eF4 nt_lst
  have eO5 := x5 _ _ eO4 nt_lst
  have eU5 := x5 _ _ eU4 nt_lst
  have e35 := x5 _ _ e3 nt_lst
  have l25 := l2'.via fun b l e => x5 b _ e nt_lst
  have hp5 := gN5.pot
  clear tfX tfY tfW
  have tfY : ∀ {H' : Hp}, Go p H5 H' → TF K C H' Y O n (srt r) os := fun g => ⟨tY5.go hp5 g, okY, .inl (g.kp eO5 nO), fo, ndo, lo20⟩
  have tfW : ∀ {H' : Hp}, Go p H5 H' → TF K C H' W U (n + 1) (srt (jn (srt m) (srt r))) (fa fs os) := fun g => ⟨tW5.go hp5 g, okW, .inl (g.kp eU5 nU), fU, ndU, lU⟩
  have g5 := Go.refl hp5
  refine ⟨fun σ' H' => σ' = [some (.ref p), some (.int n), some (.ref D), some (.ref F), some (.ref S), some (.ref O), some (.ref X), some (.ref Y), some (.ref W), some (.ref U), x10, x11, x12, some (.ref L3), some (.ref Q5), none] ∧ Same H5 H', ?_, ?_⟩
  · refine ⟨_, rfl, ⟨_, rfl, ⟨rfl, rfl, ?_⟩⟩⟩
    try rw [nil_sx]
    show spSA K C [.ref W, sx [], .ref U] _ _ _
    refine sa_goV (tfW g5) bl0 tl1 fun vc1 Hac1 sac1 vac1 => ?_
    have gac1 := g5.trans (Go.of g5.pot sac1)
    refine ⟨_, rfl, ⟨_, rfl, ⟨rfl, rfl, ?_⟩⟩⟩
    try rw [nil_sx]
    show spNA K C [.ref W, sx [], .ref U] _ _ _
    refine na_go (tfW gac1) bl0 tl1 fun Hbc1 sbc1 => ?_
    have gbc1 := gac1.trans (Go.of gac1.pot sbc1)
    rw [eJ] at vac1 ⊢
    refine ⟨szl (by show 2 ≤ 1000000; decide), fun Lc1 nLc1 => ?_⟩
    have gc1 := gbc1.new (o := HO.lst [vc1, .int ((both2 (SN n (srt m) fs []) (SN n (srt r) os [])).2 : Nat)]) nLc1
    have kc1 : ∀ b l, H5 b = some (.lst l) → upd Hbc1 Lc1 (.lst [vc1, .int ((both2 (SN n (srt m) fs []) (SN n (srt r) os [])).2 : Nat)]) b = some (.lst l) := fun b l e => updn (nonn nLc1 (sbc1 _ _ (sac1 _ _ e))) (sbc1 _ _ (sac1 _ _ e))
    have lnc1 : LnA (upd Hbc1 Lc1 (.lst [vc1, .int ((both2 (SN n (srt m) fs []) (SN n (srt r) os [])).2 : Nat)])) Lc1 (both2 (SN n (srt m) fs []) (SN n (srt r) os [])) := ⟨vc1, upd_same, vac1.via fun b l e => updn (nonn nLc1 (sbc1 _ _ e)) (sbc1 _ _ e)⟩
    have kkc1 := (Same.refl Hbc1).new (o := HO.lst [vc1, .int ((both2 (SN n (srt m) fs []) (SN n (srt r) os [])).2 : Nat)]) nLc1
    generalize upd Hbc1 Lc1 (.lst [vc1, .int ((both2 (SN n (srt m) fs []) (SN n (srt r) os [])).2 : Nat)]) = Hcc1 at gc1 kc1 lnc1 kkc1 ⊢
    refine ⟨_, rfl, ?_⟩
    refine ln_ne lnc1 (ln5.via kc1) zJ iJ ?_
    refine ⟨_, rfl, iteF ?_⟩
    exact ⟨rfl, (sac1.trans sbc1).trans kkc1⟩
  rintro σ' H6 ⟨rfl, s6⟩
  have g6 := Go.of hp5 s6
  refine ⟨fun σ' H' => σ' = [some (.ref p), some (.int n), some (.ref D), some (.ref F), some (.ref S), some (.ref O), some (.ref X), some (.ref Y), some (.ref W), some (.ref U), x10, x11, x12, some (.ref L3), some (.ref Q5), none] ∧ Same H5 H', ?_, ?_⟩
  · refine ⟨_, rfl, ⟨_, rfl, ⟨rfl, rfl, ?_⟩⟩⟩
    show spFe K C [.ref W, .ref U] _ _ _
    refine fe_go (tfW g6) fun H7 s7 => ?_
    rw [eJ]
    have s57 := s6.trans s7
    obtain ⟨vq, eq, hq⟩ := ln5.via fun b l e => s57 b _ e
    have dq := hq.dp (K := K)
    have fq := lnD_fit zJ
    generalize both2 (SN n (srt m) fs []) (SN n (srt r) os []) = J at eq hq dq fq zJ iJ ⊢
    refine ⟨_, rfl, .inl ⟨Q5, _, 1, .int (J.2 : Nat), rfl, rfl, SqL.of eq, rfl, ?_⟩⟩
    refine ⟨_, rfl, .inl ⟨Q5, _, 0, vq, rfl, rfl, SqL.of eq, rfl, ?_⟩⟩
    refine ⟨_, _, dq, .str _, fq.shp (by decide), all_shp, ?_⟩
    rw [lnD_all]
    refine ⟨_, rfl, ?_⟩
    obtain ⟨o, i⟩ := J
    cases o with
    | none =>
      refine iteF ?_
      refine .inr ⟨_, rfl, ⟨_, _, rfl, rfl, ⟨rfl, ⟨_, rfl, ?_⟩⟩⟩⟩
      refine ite_ne (congrArg V.int (show ((cst (none, i) "hole" : Nat) : Int) = (i : Int) + 0 by rw [cst_none, Int.add_zero])) ?_
      exact ⟨rfl, s57⟩
    | some xs =>
      obtain ⟨A, rfl, hA⟩ := hq
      refine iteT ?_
      refine ⟨_, rfl, .inl ⟨Q5, _, 0, .ref A, rfl, rfl, SqL.of eq, rfl, ?_⟩⟩
      refine ⟨A, _, rfl, .inl (SqL.of hA), rfl, flat_strs _, ?_⟩
      rw [show inV (.str "hole") (xs.map V.str) = decide (("hole" : Str) ∈ xs) from inV_strs "hole" xs]
      refine .inr ⟨_, rfl, ⟨_, _, rfl, rfl, ⟨rfl, ⟨_, rfl, ?_⟩⟩⟩⟩
      rw [cst_some]
      by_cases q : ("hole" : Str) ∈ xs
      · rw [if_pos q, decide_eq_true q]
        refine ite_ne (congrArg V.int (show ((i + 0 : Nat) : Int) = (i : Int) + 0 by omega)) ?_
        exact ⟨rfl, s57⟩
      · rw [if_neg q, decide_eq_false q]
        refine ite_ne (congrArg V.int (show ((i + 1 : Nat) : Int) = (i : Int) + 1 by omega)) ?_
        exact ⟨rfl, s57⟩
  clear s6 g6
  rintro σ' H6 ⟨rfl, s6⟩
  have g6 := Go.of hp5 s6
  refine ⟨fun σ' H' => ∃ (B : Addr) (d : List (Str × Str)), σ' = [some (.ref p), some (.int n), some (.ref D), some (.ref F), some (.ref S), some (.ref O), some (.ref X), some (.ref Y), some (.ref W), some (.ref U), x10, x11, x12, some (.ref L3), some (.ref Q5), some (.ref B)] ∧ Same H6 H' ∧ Due (n + 1) (SN (n + 1) (srt (jn (srt m) (srt r))) (fa fs os)) d ∧ TabAt C H' B n (srt (wi (srt d) "1")), ?_, ?_⟩
  · refine ⟨_, rfl, ⟨_, rfl, ⟨rfl, rfl, ?_⟩⟩⟩
    show spSp K C [.ref W, .ref U] _ _ _
    refine sp_go (tfW g6) fun Z d H7 s7 nZ du tZ => ?_
    have okz := srt_ok (du.ok okW)
    refine wn_go tZ okz (s := "1") (k := n) (by show Bits ("1" : Str); rw [one_S]; exact sx_bits fun c hc => .inr (List.mem_singleton.mp hc)) (by show 1 + n = n + 1; omega) h0 fun B H8 s8 nB tB => ?_
    exact ⟨B, d, rfl, s7.trans s8, du, tB⟩
  rintro σ' H7 ⟨B, d, rfl, s7, du, tB⟩
  have okz := srt_ok (du.ok okW)
  have s57 := s6.trans s7
  have g7 := Go.of hp5 s57
  have okB : TabOk (n : Int) (wi (srt d) "1") := wi_ok okz h0 (by show 1 + n = n + 1; omega)
  have lkJ : Like (n + 1) (jn (srt m) (srt r)) (srt d) (fa fs os) := (((Like.refl (n + 1) (jn (srt m) (srt r)) (fa fs os)).srt).trans du.lab).srt
  have lkB : Like n (srt r) (srt (wi (srt d) "1")) os := by
    have := (like_back okY.nd okz.nd lkJ).srt
    rw [← one_S] at this
    exact this
  have eB : SN n (srt (wi (srt d) "1")) os [] = SN n (srt r) os [] := (lkB.sn [] bl0 tl0).symm
  have tfB : ∀ {H' : Hp}, Same H7 H' → TF K C H' B O n (srt (wi (srt d) "1")) os := fun s => ⟨tB.to s, srt_ok okB, .inl ((s57.trans s) _ _ eO5), fo, ndo, lo20⟩
  refine ⟨_, rfl, ⟨_, rfl, ⟨rfl, rfl, ?_⟩⟩⟩
  show spFe K C [.ref B, .ref O] _ _ _
  refine fe_go (tfB (Same.refl _)) fun H8 s8 => ?_
  refine ⟨_, rfl, ⟨_, rfl, ⟨rfl, rfl, ?_⟩⟩⟩
  show spFe K C [.ref Y, .ref O] _ _ _
  refine fe_go (tfY (Go.of hp5 (s57.trans s8))) fun H9 s9 => ?_
  refine ⟨rfl, ?_⟩
  rw [eB, decide_eq_true rfl]
  refine ⟨_, rfl, iteT ?_⟩
  refine ⟨_, rfl, ⟨_, rfl, ⟨rfl, rfl, ?_⟩⟩⟩
  try rw [nil_sx]
  show spSA K C [.ref B, sx [], .ref O] _ _ _
  refine sa_goV (tfB (s8.trans s9)) bl0 tl0 fun v Ha sa va => ?_
  rw [eB] at va
  have s5a := s57.trans (s8.trans (s9.trans sa))
  obtain ⟨v2, el2, hv2⟩ := l25.via fun b l e => s5a b _ e
  refine ⟨_, rfl, .inl ⟨L3, _, 1, .ref L2, rfl, rfl, SqL.of (s5a _ _ e35), rfl, .inl ⟨L2, _, 0, v2, rfl, rfl, SqL.of el2, rfl, ?_⟩⟩⟩
  have fY := lnD_fit zY
  refine ⟨_, _, va.dp, hv2.dp, fY.shp (by decide), fY.shp (by decide), ?_⟩
  rw [fY.eqv]
  exact k Ha (gN5.go (Go.of hp5 s5a))
end
open PySem PySem.Spec PyProof.Rows
open L2 hiding pass0
@[irreducible] def spInit0 (C : Addr) : Sp := fun vs H Q _ => ∃ (a dx : Addr) (n : Int), vs = [.ref a, .int n, .non] ∧ H a = some (.ins C dx []) ∧ 1 ≤ n ∧ n ≤ 100 ∧ ∀ H', (∀ c o, c ≠ a → H c = some o → H' c = some o) → TabAt C H' a n [] → Q .non H'
theorem init0_go {C a dx : Addr} {n : Int} {H : Hp} {Q : VK} {E : XK} (ha : H a = some (.ins C dx [])) (h0 : 1 ≤ n) (h1 : n ≤ 100) (k : ∀ H', (∀ c o, c ≠ a → H c = some o → H' c = some o) → TabAt C H' a n [] → Q .non H') : spInit0 C [.ref a, .int n, .non] H Q E := by
  unfold spInit0
  exact ⟨a, dx, n, rfl, ha, h0, h1, k⟩
def mk1 : List V → List V → List V := fun us _ => us ++ [.non]
theorem b_table1 {P : Program} {w : World} {K : PySem.W.Frag} {mg : Str → Option Value} {base : Heap} {f C : Addr} {fd : FuncData} (F : FunD K "__init__" "Table.__init__" (defArgs s_Tableinit) (defBody s_Tableinit) (defScope s_Tableinit) [.non] [] f fd) (M : Mk K C f) (hm : mg "Table" = some (.ref C))
    (ok : FnG P w K mg base CX0 6 f fd ["self", "width", "rows"] (spInit0 C)) : BndI P w K mg base CX0 6 "Table" C ["self", "width", "rows"] (spInit0 C) 1 [] mk1 := by
  obtain ⟨its, hb⟩ := F.kbindsD (ps := ["self", "width", "rows"]) 2 [] (fun us ds _ => us ++ ds) (by simp) (fun r1 r2 _ => r1.append r2) (fun T kV doc pm an cdv ct us its ws h1 h2 h3 => by
    match us, its, ws, h1, h2, h3 with
    | [a, b], [d], [], _, _, _ => exact ⟨_, rfl, rfl⟩)
  exact ⟨f, fd, _, M, hm, ok, hb⟩
section
variable {P : Program} {w : World} {K : PySem.W.Frag} {mg : Str → Option Value} {base : Heap} {f C : Addr} {fd : FuncData}
theorem ok_init0 {params : Arguments} {dvs : List V} {kws : List (Str × V)} (F : FunD K "__init__" "Table.__init__" params (defBody s_Tableinit) (defScope s_Tableinit) dvs kws f fd) (T : Txt K mg) (TC : TabC K C) (c_check_width : Nm P w K mg base CX0 3 "check_width" s_check_width ["width"] spCW)
    (c_is_rows : Nm P w K mg base CX0 5 "is_rows" s_is_rows ["width", "value"] spRows) : FnG P w K mg base CX0 6 f fd ["self", "width", "rows"] (spInit0 C) := by
  obtain ⟨oc, od, dV, kV, doc, pm, an, cdv, ct, osl, rfl, lk, hcd, _, _⟩ := F.ex
  refine fnG_core lk hcd sc_Tableinit (fun vs H Q E h => ?_) fun A outer s H vs Q E hr h => ?_
  · unfold spInit0 at h
    obtain ⟨a, dx, n, rfl, _⟩ := h
    rfl
  · unfold spInit0 at h
    obtain ⟨a, dx, n, rfl, ha, h0, h1, k0⟩ := h
    refine ⟨_, (pss_cons (ps_expr (pe_g c_check_width hr (by decide) L2.pass0 bp_check_width (by rfl) (pa_cons (pv 1) pa_nil)))
      (pss_cons (ps_if (pt_cmpR op_isN (pv 2) pe_non (nomark _)) (pss_one (ps_set (i := 2) sc_Tableinit.nd rfl (by first | exact Or.inl rfl | exact Or.inr rfl) pe_dnewK)) pss_nil)
      (pss_cons (ps_if (pt_not (pt_val (pe_g c_is_rows hr (by decide) L2.pass0 bp_is_rows (by rfl) (pa_cons (pv 1) (pa_cons (pv 2) pa_nil))))) (pss_one ps_never) pss_nil)
      (pss_cons (ps_if (pt_cmpR op_gt (pe_callB call_lenD (by rfl) T.b_len PySem.boot_len (pa_cons (pv 2) pa_nil)) (pe_con (pv 0) (by rfl)) (nomark _)) (pss_one ps_never) pss_nil)
      (pss_cons (ps_fld (pv 0) (pv 1) rfl)
      (pss_one (ps_fld (pv 0) (pe_dc (own := [("stretch", 3)]) (g := (gName 3)) (by rfl) sc_Tableinit.nd (pi_listK (K := K) rfl (pe_callBK (cr_sortKD hr.u rfl) (by rfl) T.b_sorted (by decide +kernel) (pa_cons (pv 2) pa_nil) (pk_cons (pe_ty "str" (by rfl) T.b_str (by decide +kernel)) pk_nil))) (blkOk_by (own := [("stretch", 3)]) (N := ["self", "width", "rows", "stretch"]) (sc := defScope s_Tableinit) (by decide +kernel)) (fun _ _ _ _ _ => (pg_name (i := 3) sc_Tableinit.nd rfl (by first | exact Or.inl rfl | exact Or.inr rfl))) (fun _ _ _ _ _ => pts_nil) (fun _ _ _ _ _ => (pv 3)) (fun _ _ _ _ _ => (pe_dget hr.u1 (pv 2) (pv 3) (fun _ _ => rfl)))) rfl))))))), ?_⟩
    repeat walk_at "s1"
    refine cw_go h0 h1 fun H1' sm1' => ?_
    show tSeq _ _ _ _ _
    refine ⟨_, rfl, ?_⟩
    refine ⟨rfl, ?_⟩
    refine ⟨_, rfl, ?_⟩
    refine iteT ?_
    intro b nb
    have sm1 : Same H (upd H1' b (.dK [])) := fun c o e => updn (nonn nb (sm1' _ _ e)) (sm1' _ _ e)
    obtain ⟨m, em⟩ : ∃ m : List (Str × Str), m = [] := ⟨[], rfl⟩
    have hb1 : upd H1' b (.dK []) b = some (.dK (tk m)) := by rw [em]; exact upd_same
    have ha1 := sm1 _ _ ha
    have hp : ∀ p ∈ m, RowOk n p := fun p h => by rw [em] at h; cases h
    have hnd : (m.map (·.1)).Nodup := by rw [em]; exact .nil
    have hz : m.length ≤ 40 := by rw [em]; decide
    have k : ∀ H', (∀ c o, c ≠ a → H c = some o → H' c = some o) → TabAt C H' a n (srt m) → Q .non H' := fun H' h1 h2 => k0 H' h1 (by rw [em, show srt ([] : List (Str × Str)) = [] from List.eq_nil_of_length_eq_zero (by rw [srt_len]; rfl)] at h2; exact h2)
    generalize upd H1' b (.dK []) = H1 at sm1 hb1 ha1 ⊢
    clear em
    show tSeq _ _ _ _ _
    refine ⟨_, rfl, ?_⟩
    refine ⟨_, rfl, ?_⟩
    refine rows_go h0 h1 hb1 hp (by omega) fun H2 sm2 => ?_
    have ha2 := sm2 _ _ ha1
    have hb2 := sm2 _ _ hb1
    refine ⟨_, rfl, ?_⟩
    refine iteF ?_
    show tSeq _ _ _ _ _
    refine ⟨_, rfl, ?_⟩
    refine ⟨b, tk m, rfl, hb2, ?_⟩
    refine ⟨_, rfl, ?_⟩
    obtain ⟨u, hcon⟩ := TC.con
    refine ⟨a, C, dx, [], .int 40, u, rfl, ha2, TC.cl, hcon, rfl, ?_⟩
    refine ⟨_, _, rfl, rfl, ?_⟩
    refine ⟨_, rfl, ?_⟩
    rw [show decide ((40 : Int) < ((tk m).length : Int)) = false from decide_eq_false (by rw [tk_len]; omega)]
    refine iteF ?_
    show tSeq _ _ _ _ _
    refine ⟨_, rfl, ?_⟩
    refine ⟨_, rfl, ?_⟩
    refine ⟨a, C, dx, [], rfl, ha2, TC.cl, TC.n1, by decide, ?_⟩
    have hba : b ≠ a := fun z => by rw [z, ha2] at hb2; cases hb2
    have hb3 : upd H2 a (.ins C dx (putF "_width" (.int n) [])) b = some (.dK (tk m)) := updn hba hb2
    dsimp only
    refine ⟨_, rfl, ?_⟩
    refine ⟨b, tk m, m.map (·.1), rfl, rfl, .inl hb3, tk_keys m, fun L nL => ?_⟩
    refine ⟨L, rfl, ⟨_, SqL.of upd_same⟩, fun D nD => ?_⟩
    generalize hT : tsort (m.map (·.1)) = ts at nL nD ⊢
    have hperm : ts.Perm (m.map (·.1)) := by rw [← hT]; exact tsort_perm _
    have htn : ts.Nodup := hperm.nodup_iff.mpr hnd
    have htl : ts.length ≤ 40 := by rw [hperm.length_eq, List.length_map]; exact hz
    have hLa : L ≠ a := fun z => by rw [z, upd_same] at nL; cases nL
    have hDL : D ≠ L := fun z => by rw [z, upd_same] at nD; cases nD
    have hDa : D ≠ a := fun z => by rw [z, upd_ne (Ne.symm hLa), upd_same] at nD; cases nD
    have hLb : b ≠ L := nonn nL hb3
    have nD2 : H2 D = none := by
      rw [upd_ne hDL, upd_ne hDa] at nD
      exact nD
    have hDb : b ≠ D := nonn nD (updn hLb hb3)
    refine dc_it walk_list (fun i H4 => H4 D = some (.dK (tk ((ts.take i).map fun k => (k, getT m k)))) ∧ H4 L = some (.lst (ts.map V.str)) ∧ H4 a = some (.ins C dx [("_width", .int n)]) ∧ (∀ c o, c ≠ a → H2 c = some o → H4 c = some o)) ?_ (fun i H4 _ h => SqL.of h.2.1) ?_ ?_
    · refine ⟨upd_same, updn (Ne.symm hDL) upd_same, updn (Ne.symm hDa) (updn (Ne.symm hLa) upd_same), fun c o hc e => ?_⟩
      have e1 : upd H2 a (.ins C dx (putF "_width" (.int n) [])) c = some o := updn hc e
      have e2 := updn (o := .lst (ts.map V.str)) (nonn nL e1) e1
      exact updn (nonn nD e2) e2
    · rintro i x H4 H5 hi ⟨hD, hL, hA, hk⟩ ⟨rfl, hx⟩
      obtain ⟨key, hkey, rfl⟩ : ∃ key, ts[i]? = some key ∧ x = .str key := by
        rw [List.getElem?_map] at hx
        cases e : ts[i]? with
        | none => rw [e] at hx; cases hx
        | some z => rw [e] at hx; exact ⟨z, rfl, (Option.some.inj hx).symm⟩
      refine ⟨rfl, ?_⟩
      dsimp only [tYes]
      rw [if_pos rfl]
      refine ⟨_, rfl, ?_⟩
      have hbH : H5 b = some (.dK (tk m)) := hk b _ hba hb2
      have hmem : key ∈ m.map (·.1) := hperm.mem_iff.mp (List.mem_of_getElem? hkey)
      have hnew : key ∉ ((ts.take i).map fun k => (k, getT m k)).map (·.1) := by
        have e0 : ((ts.take i).map fun k => (k, getT m k)).map (·.1) = ts.take i := by
          rw [List.map_map]
          exact List.map_id' _
        rw [e0]
        intro hin
        have hn : (ts.take (i + 1)).Nodup := (List.take_sublist _ _).nodup htn
        rw [List.take_add_one, hkey] at hn
        exact (List.nodup_append.mp hn).2.2 key hin key (List.mem_singleton.mpr rfl) rfl
      refine ⟨_, rfl, ⟨_, rfl, ⟨b, .str (getT m key), rfl, .inl ⟨tk m, Sum.inr key, .inl hbH, rfl, (tk_val m hmem).symm⟩, ?_⟩⟩⟩
      refine ⟨_, Sum.inr key, rfl, hD, szt (by rw [tk_len, List.length_map, List.length_take]; omega), ?_, updn (Ne.symm hDL) hL, updn (Ne.symm hDa) hA, fun c o hc e => updn (nonn nD2 e) (hk c o hc e)⟩
      rw [upd_same, tk_snoc hnew, List.take_add_one, hkey, List.map_append]
      rfl
    · rintro H4 ⟨hD, hL, hA, hk⟩
      rw [List.length_map, List.take_length] at hD
      refine ⟨_, rfl, ⟨a, C, dx, _, rfl, hA, TC.cl, TC.n2, Nat.le_of_ble_eq_true rfl, ?_⟩⟩
      refine k _ (fun c o hc e => updn hc (hk c o hc (sm2 c o (sm1 c o e)))) ⟨dx, D, upd_same, updn hDa ?_, hDa⟩
      rw [hD]
      unfold srt
      rw [hT]
end
open PySem PySem.Spec PyProof.Rows LamX
open L2 hiding pass0
abbrev s_law_right : Stmt := top 84
theorem sc_law_right : FnScope ["_law_pot_here", "_law_wide", "_law_rows", "_law_idle", "_law_made_here", "_law_spot"] ["_law_pot_here"] (defScope s_law_right) := ⟨rfl, rfl, rfl, by decide +kernel, rfl, by decide +kernel, by decide +kernel⟩
theorem bp_law_right : BndP "_law_right" s_law_right ["_law_pot_here"] := fun _ _ _ _ _ _ us h => match us, h with | [_], _ => rfl
theorem free_le2 {n : Nat} {m : List (Str × Str)} {fs : List (List Nat)} (s : List Nat) : cst (SN n m (fs ++ [s]) []) "hole" ≤ cst (SN n m fs []) "hole" := by
  unfold SN
  refine SNk_free (fun y _ _ => ?_) "hole"
  unfold lab M.frB
  rw [List.any_append]
  cases (fs.any fun f => decide (f <+: [] ++ y)) with
  | true => exact .inl rfl
  | false =>
    rw [Bool.false_or]
    cases ([s].any fun f => decide (f <+: [] ++ y)) with
    | true => exact .inr rfl
    | false => exact .inl rfl
@[irreducible] def spRightT (TT : List (Addr × Str)) : Sp := fun vs H Q _ => ∃ p : Addr, vs = [.ref p] ∧ PotAt H p ∧ Tabs TT H ∧ ∀ H', GoN TT p H H' → Q (.bl true) H'
theorem rightT_go {TT : List (Addr × Str)} {p : Addr} {H : Hp} {Q : VK} {E : XK} (hp : PotAt H p) (hT : Tabs TT H) (k : ∀ H', GoN TT p H H' → Q (.bl true) H') : spRightT TT [.ref p] H Q E := by
  unfold spRightT
  exact ⟨p, rfl, hp, hT, k⟩
section
variable {P : Program} {w : World} {K : PySem.W.Frag} {mg : Str → Option Value} {base : Heap} {f C : Addr} {fd' : FuncData} {TT : List (Addr × Str)}
theorem ok_right (F : Fun K "_law_right" "_law_right" s_law_right f fd') (hm : mg "_law_right" = some (.ref f)) (T : Txt K mg) (TC : TabC K C)
    (c_law_world : Nm P w K mg base CX0 3 "_law_world" s_law_world ["_law_pot_here", "_law_most"] (spWo)) (c_law_flip_right : Nm P w K mg base CX0 11 "_law_flip_right" s_law_flip_right ["_law_pot_here", "_law_wide", "_law_rows", "_law_idle"] (spFR)) (c_law_joined_right : Nm P w K mg base CX0 11 "_law_joined_right" s_law_joined_right ["_law_pot_here", "_law_wide", "_law_rows", "_law_idle"] (spJR TT)) (c_law_pick : Nm P w K mg base CX0 2 "_law_pick" s_law_pick ["_law_pot_here", "_law_some"] (spAmong K)) (c_law_stretches : Nm P w K mg base CX0 2 "_law_stretches" s_law_stretches ["_law_wide"] (spLS))
    (c_Table__eq__ : Mth P w K mg base CX0 1 C "__eq__" "Table.__eq__" s_Table__eq__ ["self", "other"] (spEq C))
    (b_Table : BndI P w K mg base CX0 6 "Table" C ["self", "width", "rows"] (spInit C) 2 [] (fun us _ => us)) (b_Table1 : BndI P w K mg base CX0 6 "Table" C ["self", "width", "rows"] (spInit0 C) 1 [] mk1) (b_few2 : BndF P w K mg base CX0 7 "fewest" ["table", "free"] (spFe K C) 2 [] al3) (b_sp2 : BndF P w K mg base CX0 8 "spare" ["table", "free"] (spSp K C) 2 [] al3)
    (b_pk2 : BndF P w K mg base CX0 10 "pack" ["table", "free"] (spPk K C) 2 [] al3) : Nm P w K mg base CX0 12 "_law_right" s_law_right ["_law_pot_here"] (spRightT TT) := by
  refine nm_of F hm sc_law_right (fun vs H Q E h => ?_) fun cdv A outer s H vs Q E hr h => ?_
  · unfold spRightT at h
    obtain ⟨p, rfl, hp, hT, k⟩ := h
    subst_vars
    rfl
  unfold spRightT at h
  obtain ⟨p, rfl, hp, hT, k⟩ := h
  refine ⟨_, (C8.pss_cut (ps_asg (pe_g c_law_world hr (by decide) L2.pass0 bp_law_world (by rfl) (pa_cons (pv 0) (pa_cons pe_int pa_nil))) (pg_tup (by rfl) (pgs_cons (pg_name (i := 1) sc_law_right.nd rfl (by first | exact Or.inl rfl | exact Or.inr rfl)) (pgs_cons (pg_name (i := 2) sc_law_right.nd rfl (by first | exact Or.inl rfl | exact Or.inr rfl)) (pgs_cons (pg_name (i := 3) sc_law_right.nd rfl (by first | exact Or.inl rfl | exact Or.inr rfl)) pgs_nil)))))
      (C8.pss_cut (ps_if (PW.pt (pw_or (pt_not (pt_val (pe_g c_law_flip_right hr (by decide) L2.pass0 bp_law_flip_right (by rfl) (pa_cons (pv 0) (pa_cons (pv 1) (pa_cons (pv 2) (pa_cons (pv 3) pa_nil))))))) (pw_or1 (pt_not (pt_val (pe_g c_law_joined_right hr (by decide) L2.pass0 bp_law_joined_right (by rfl) (pa_cons (pv 0) (pa_cons (pv 1) (pa_cons (pv 2) (pa_cons (pv 3) pa_nil)))))))))) (pss_one (ps_ret pe_bl)) pss_nil)
      (C8.pss_cut (ps_par (i := 4) (j := 5) (by rfl) sc_law_right.nd rfl rfl (by decide) rfl rfl (pa_cons (pe_mk b_Table hr (by decide) L2.pass0 (by rfl) (pa_cons (pv 1) (pa_cons (pv 2) pa_nil)) pk_nil) (pa_cons (pe_g c_law_pick hr (by decide) L2.pass0 bp_law_pick (by rfl) (pa_cons (pv 0) (pa_cons (pe_g c_law_stretches hr (by decide) L2.pass0 bp_law_stretches (by rfl) (pa_cons (pv 1) pa_nil)) pa_nil))) pa_nil)) (by rfl))
      (C8.pss_cut (ps_if (PW.pt (pw_and (pt_cmpR (op_notInK (K := K) rfl) (pv 5) (pv 3) rfl) (pw_and1 (pt_cmpR op_gt (pe_f b_few2 hr (by decide) L2.pass0 (by rfl) (pa_cons (pv 4) (pa_cons (pe_op op_cat (pv 3) (pe_lst (pa_cons (pv 5) pa_nil))) pa_nil)) pk_nil) (pe_f b_few2 hr (by decide) L2.pass0 (by rfl) (pa_cons (pv 4) (pa_cons (pv 3) pa_nil)) pk_nil) (nomark _))))) (pss_one (ps_ret pe_bl)) pss_nil)
      (pss_one (ps_ret (pe_and (pe_cmpR op_eq (pe_f b_few2 hr (by decide) L2.pass0 (by rfl) (pa_cons (pv 4) (pa_cons (pe_lst (pa_cons pe_str pa_nil)) pa_nil)) pk_nil) pe_int (nomark _)) (pe_and (pe_cmpR (op_eqDK (K := K) rfl hr.u64) (pe_f b_pk2 hr (by decide) L2.pass0 (by rfl) (pa_cons (pv 4) (pa_cons (pe_lst (pa_cons pe_str pa_nil)) pa_nil)) pk_nil) (pe_lst pa_nil) (nomark _)) (pe_one (pe_cmpR (op_cmpS c_Table__eq__ hr (by decide) L2.pass0 bm_Table__eq__ rfl) (pe_f b_sp2 hr (by decide) L2.pass0 (by rfl) (pa_cons (pv 4) (pa_cons (pe_lst (pa_cons pe_str pa_nil)) pa_nil)) pk_nil) (pe_mk b_Table1 hr (by decide) L2.pass0 (by rfl) (pa_cons (pv 1) pa_nil) pk_nil) (nomark _))))))))))), ?_⟩
  refine ⟨fun σ' H' => ∃ (D F : Addr) (n : Nat) (m : List (Str × Str)) (fs : List (List Nat)), σ' = [some (.ref p), some (.int n), some (.ref D), some (.ref F), none, none] ∧ Go p H H' ∧ 1 ≤ n ∧ n ≤ 5 ∧ H' D = some (.dK (tk m)) ∧ D ≠ p ∧ TabOk (n : Int) m ∧ H' F = some (.lst (fs.map sx)) ∧ F ≠ p ∧ Fits n fs ∧ fs.Nodup ∧ fs.length ≤ 4, ?_, ?_⟩
  · refine ⟨_, rfl, ?_⟩
    refine wo_go hp fun t D F n m fs H1 g1 et h0 h1 eD nD ok eF nF ff nd lf => ?_
    refine ⟨t, _, rfl, SqT.of et, rfl, ⟨_, _, rfl, ⟨_, _, rfl, ⟨_, _, rfl, ⟨rfl, ?_⟩⟩⟩⟩⟩
    exact ⟨D, F, n, m, fs, rfl, g1, h0, h1, eD, nD, ok, eF, nF, ff, nd, lf⟩
  rintro σ' H1 ⟨D, F, n, m, fs, rfl, g1, h0, h1, eD1, nD, ok, eF1, nF, ff, nd, lf4⟩
  have lf : fs.length ≤ 20 := by omega
  have gN1 : GoN TT p H H1 := (GoN.refl hp hT).go g1
  have okX := srt_ok ok
  refine ⟨fun σ' H' => σ' = [some (.ref p), some (.int n), some (.ref D), some (.ref F), none, none] ∧ GoN TT p H1 H', ?_, ?_⟩
  · refine ⟨_, rfl, ⟨_, rfl, ⟨_, rfl, ⟨_, rfl, ?_⟩⟩⟩⟩
    refine fr_go g1.pot h0 h1 eD1 nD ok eF1 nF ff nd lf4 fun H2 g2 => ?_
    refine ⟨_, rfl, iteF ?_⟩
    have gN2 : GoN TT p H1 H2 := (GoN.refl g1.pot gN1.tabs).go g2
    refine ⟨_, rfl, ⟨_, rfl, ⟨_, rfl, ⟨_, rfl, ?_⟩⟩⟩⟩
    refine jr_go g2.pot gN2.tabs h0 h1 (g2.kp eD1 nD) nD ok (g2.kp eF1 nF) nF ff nd lf4 fun H3 g3 => ?_
    refine ⟨_, rfl, iteF ?_⟩
    exact ⟨rfl, gN2.trans g3⟩
  rintro σ' H2 ⟨rfl, g2⟩
  have eD2 := g2.keep _ _ eD1 (fun _ z => nomatch z) nD
  have eF2 := g2.keep _ _ eF1 nt_lst nF
  have gN2 := gN1.trans g2
  have hp2 := g2.pot
  have ll := strL_len (n + 1)
  have l4 : 2 ^ (n + 1) ≤ 2 ^ 6 := Nat.pow_le_pow_right (by decide) (by omega)
  have l2 : 2 ^ 2 ≤ 2 ^ (n + 1) := Nat.pow_le_pow_right (by decide) (by omega)
  refine ⟨fun σ' H' => ∃ (X : Addr) (t : List Nat), σ' = [some (.ref p), some (.int n), some (.ref D), some (.ref F), some (.ref X), some (sx t)] ∧ Go p H2 H' ∧ TabAt C H' X n (srt m) ∧ H' F = some (.lst (fs.map sx)) ∧ M.BL t ∧ t.length ≤ n, ?_, ?_⟩
  · refine ⟨_, rfl, ⟨_, rfl, ⟨rfl, rfl, fun X dX hX hdX hXX => ?_⟩⟩⟩
    have mx : D ≠ X := nonn hX eD2
    have md : D ≠ dX := nonn hdX eD2
    refine init_go upd_same (updn mx (updn md eD2)) ok fun H5 kp tb => ⟨rfl, ?_⟩
    have s5 : Same H2 H5 := fun c o q => kp c o (nonn hX q) (updn (nonn hX q) (updn (nonn hdX q) q))
    have g5 := Go.of hp2 s5
    refine ⟨_, rfl, ⟨_, rfl, ?_⟩⟩
    refine ls_go (by omega) fun L H6 s6 nL eL => ?_
    have g6 := g5.trans (Go.of g5.pot s6)
    refine among_l g6.pot (g5.pot.ne nL) (SqL.of eL) (by rw [List.length_map]; omega) (by rw [List.length_map]; omega) fun v hv H7 g7 => ?_
    obtain ⟨t, ht, rfl⟩ := List.mem_map.mp hv
    have hst := strL_mem.mp ht
    have g57 := (Go.of g5.pot s6).trans g7
    exact ⟨_, _, rfl, X, t, rfl, g5.trans g57, tb.go g5.pot g57, (g5.trans g57).kp eF2 nF, hst.1, by omega⟩
  rintro σ' H3 ⟨X, t, rfl, g3, tX, eF3, tb, tl⟩
  have tfX : ∀ {H' : Hp}, Same H3 H' → TF K C H' X F n (srt m) fs := fun s => ⟨tX.to s, okX, .inl (s _ _ eF3), ff, nd, lf⟩
  refine ⟨fun σ' H' => σ' = [some (.ref p), some (.int n), some (.ref D), some (.ref F), some (.ref X), some (sx t)] ∧ Same H3 H', ?_, ?_⟩
  · refine ⟨_, rfl, ⟨_, rfl, ⟨F, _, rfl, .inl (SqL.of eF3), rfl, flat_sx _, ?_⟩⟩⟩
    refine ⟨_, rfl, ?_⟩
    show (fun b H1 => if b = true then _ else _) (!inV (sx t) (fs.map sx)) H3
    rw [any_sx]
    by_cases q : t ∈ fs
    · rw [decide_eq_true q]
      refine iteF (iteF ?_)
      exact ⟨rfl, Same.refl _⟩
    · rw [decide_eq_false q]
      refine iteT ?_
      refine ⟨_, rfl, ⟨_, rfl, ⟨_, rfl, ⟨szl (by show 1 ≤ 1000000; decide), fun A1 nA1 => ?_⟩⟩⟩⟩
      have s4 := (Same.refl H3).new (o := HO.lst [sx t]) nA1
      have eA1 : upd H3 A1 (.lst [sx t]) A1 = some (.lst [sx t]) := upd_same
      generalize upd H3 A1 (.lst [sx t]) = H4 at s4 eA1 ⊢
      refine ⟨F, A1, _, _, rfl, rfl, s4 _ _ eF3, eA1, szl (by rw [List.length_map]; show fs.length + 1 ≤ 1000000; omega), fun A2 nA2 => ?_⟩
      have s5 := s4.new (o := HO.lst (fs.map sx ++ [sx t])) nA2
      have eA2 : upd H4 A2 (.lst (fs.map sx ++ [sx t])) A2 = some (.lst ((fs ++ [t]).map sx)) := by rw [upd_same, List.map_append]; rfl
      generalize upd H4 A2 (.lst (fs.map sx ++ [sx t])) = H5 at s5 eA2 ⊢
      refine ⟨rfl, rfl, ?_⟩
      show spFe K C [.ref X, .ref A2] _ _ _
      refine fe_go ⟨tX.to s5, okX, .inl eA2, fun z hz => ?_, ?_, by rw [List.length_append]; show fs.length + 1 ≤ 20; omega⟩ fun H6 s6 => ?_
      · rcases List.mem_append.mp hz with h | h
        · exact ff z h
        · rw [List.mem_singleton.mp h]
          exact ⟨tb, tl⟩
      · refine List.nodup_append.mpr ⟨nd, by simp, fun a ha b hb e => ?_⟩
        rw [List.mem_singleton.mp hb] at e
        exact q (e ▸ ha)
      refine ⟨_, rfl, ⟨_, rfl, ⟨rfl, rfl, ?_⟩⟩⟩
      show spFe K C [.ref X, .ref F] _ _ _
      refine fe_go (tfX (s5.trans s6)) fun H7 s7 => ?_
      refine ⟨_, _, rfl, rfl, ⟨_, rfl, ?_⟩⟩
      have le := free_le2 (n := n) (m := srt m) (fs := fs) t
      rw [decide_eq_false (by omega)]
      refine iteF ?_
      exact ⟨rfl, s5.trans (s6.trans s7)⟩
  rintro σ' H4 ⟨rfl, s4⟩
  have tX4 := tX.to s4
  have fN : Fits n [[]] := fun z hz => by
    rw [List.mem_singleton.mp hz]
    exact ⟨fun c hc => (by cases hc), Nat.zero_le _⟩
  have tfN : ∀ {H' : Hp} {A1 : Addr}, Same H4 H' → H' A1 = some (.lst [sx []]) → TF K C H' X A1 n (srt m) [[]] := fun s e => ⟨tX4.to s, okX, .inl e, fN, by simp, by decide⟩
  refine ⟨_, rfl, ⟨szl (by show 1 ≤ 1000000; decide), fun A1 nA1 => ?_⟩⟩
  rw [nil_sx]
  have s5 := (Same.refl H4).new (o := HO.lst [sx []]) nA1
  have eA1 : upd H4 A1 (.lst [sx []]) A1 = some (.lst [sx []]) := upd_same
  generalize upd H4 A1 (.lst [sx []]) = H5 at s5 eA1 ⊢
  refine ⟨rfl, rfl, ?_⟩
  show spFe K C [.ref X, .ref A1] _ _ _
  refine fe_go (tfN s5 eA1) fun H6 s6 => ?_
  rw [cst_free]
  refine ⟨rfl, ?_⟩
  rw [decide_eq_true (show V.int ((0 : Nat) : Int) = V.int 0 from rfl)]
  refine ⟨_, rfl, iteT ?_⟩
  have s46 := s5.trans s6
  refine ⟨_, rfl, ⟨szl (by show 1 ≤ 1000000; decide), fun A2 nA2 => ?_⟩⟩
  have s47 := s46.new (o := HO.lst [sx []]) nA2
  have eA2 : upd H6 A2 (.lst [sx []]) A2 = some (.lst [sx []]) := upd_same
  generalize upd H6 A2 (.lst [sx []]) = H7 at s47 eA2 ⊢
  refine ⟨rfl, rfl, ?_⟩
  show spPk K C [.ref X, .ref A2] _ _ _
  refine pk_go (tfN s47 eA2) fun L ys H8 s8 nL eL ps pk ly => ?_
  rw [cst_free] at ly
  obtain rfl := List.length_eq_zero_iff.mp ly
  refine ⟨szl (Nat.zero_le _), fun l nl => ?_⟩
  have s49 := (s47.trans s8).new (o := HO.lst ([] : List V)) nl
  have eL9 : upd H8 l (.lst []) L = some (.lst []) := updn (nonn nl eL) eL
  have el : upd H8 l (.lst []) l = some (.lst []) := upd_same
  generalize upd H8 l (.lst []) = H9 at s49 eL9 el ⊢
  refine ⟨_, _, .lst (SqL.of eL9) .nil, .lst (SqL.of el) .nil, by decide, by decide, ?_⟩
  rw [show PyData.eqv (.list []) (.list []) = true by simp [PyData.eqv, PyData.eqvAll]]
  refine ⟨_, rfl, iteT ?_⟩
  refine ⟨_, rfl, ⟨szl (by show 1 ≤ 1000000; decide), fun A3 nA3 => ?_⟩⟩
  have s4a := s49.new (o := HO.lst [sx []]) nA3
  have eA3 : upd H9 A3 (.lst [sx []]) A3 = some (.lst [sx []]) := upd_same
  generalize upd H9 A3 (.lst [sx []]) = Ha at s4a eA3 ⊢
  refine ⟨rfl, rfl, ?_⟩
  show spSp K C [.ref X, .ref A3] _ _ _
  refine sp_go (tfN s4a eA3) fun Z d Hb sb nZ du tZ => ?_
  obtain rfl := due_free du
  refine ⟨_, rfl, ⟨rfl, rfl, fun Y dY hY hdY hYY => ?_⟩⟩
  refine init0_go upd_same (by omega) (by omega) fun Hc kp tY => ⟨rfl, ?_⟩
  have sc : Same Hb Hc := fun c o q => kp c o (nonn hY q) (updn (nonn hY q) (updn (nonn hdY q) q))
  have tZ2 := tZ.to sc
  obtain ⟨dz, fz, hZ, _⟩ := tZ2.at
  obtain ⟨dy, fy, hY2, _⟩ := tY.at
  refine ⟨⟨Z, dz, fz, rfl, hZ⟩, ⟨Y, dy, fy, rfl, hY2⟩, ?_⟩
  have e0 : srt ([] : List (Str × Str)) = [] := List.length_eq_zero_iff.mp (by rw [srt_len]; rfl)
  have tZ3 : TabAt C Hc Z n [] := by rw [e0] at tZ2; exact tZ2
  refine eq_go tZ3 tY ?_
  rw [eqB_self (show (([] : List (Str × Str)).map (·.1)).Nodup from .nil)]
  exact k Hc (gN2.go (g3.trans (Go.of g3.pot (s4.trans (s4a.trans (sb.trans sc))))))
end
open PySem PySem.Spec PyProof.Rows LamX
open L2 hiding pass0
abbrev s_law : Stmt := top 85
theorem sc_law : FnScope ["_law_script", "_law_k"] ["_law_script"] (defScope s_law) := ⟨rfl, rfl, rfl, by decide +kernel, rfl, by decide +kernel, by decide +kernel⟩
def spLawT (K : PySem.W.Frag) (TT : List (Addr × Str)) : Sp := fun vs H Q _ => ∃ (a : Addr) (ns : List Int), vs = [.ref a] ∧ SqL K H a (ns.map V.int) ∧ ns.length ≤ 63 ∧ Tabs TT H ∧ ∀ H', Q (.bl true) H'
theorem extN_new {H H1 : Hp} {L : Addr} {o : HO} (e : ExtN H H1) (n : H1 L = none) : ExtN H (upd H1 L o) := fun b u h q => updn (nonn n (e b u h q)) (e b u h q)
theorem seq_extN {K : PySem.W.Frag} {H H' : Hp} {a : Addr} {xs : List V} (e : ExtN H H') (h : SqL K H a xs) : SqL K H' a xs := by
  rcases h with (h | ⟨o, h⟩) | h
  · exact .inl (.inl (e _ _ h nt_lst))
  · exact .inl (.inr ⟨o, e _ _ h fun ps z => nomatch z⟩)
  · exact .inr h
section
variable {P : Program} {w : World} {K : PySem.W.Frag} {mg : Str → Option Value} {base : Heap} {f C t0 : Addr} {fd : FuncData}
theorem b_few2 (F : FunD K "fewest" "fewest" (defArgs s_fewest) (defBody s_fewest) (defScope s_fewest) [.ref t0] [] f fd) (kp : PySem.W.keepIn K (.ref f) = true) (hm : mg "fewest" = some (.ref f)) (G : FnG P w K mg base CX0 7 f fd ["table", "free"] (spFe K C)) : BndF P w K mg base CX0 7 "fewest" ["table", "free"] (spFe K C) 2 [] al3 :=
  bndf_of F kp hm G (fun us _ _ => us) (by simp) (fun r _ _ => r) fun T kV doc pm an cdv ct us its ws h1 h2 h3 => by
    match us, its, ws, h1, h2, h3 with
    | [a, b], [d], [], _, _, _ => exact ⟨_, rfl, rfl⟩
theorem b_sp2 (F : FunD K "spare" "spare" (defArgs s_spare) (defBody s_spare) (defScope s_spare) [.ref t0] [] f fd) (kp : PySem.W.keepIn K (.ref f) = true) (hm : mg "spare" = some (.ref f)) (G : FnG P w K mg base CX0 8 f fd ["table", "free"] (spSp K C)) : BndF P w K mg base CX0 8 "spare" ["table", "free"] (spSp K C) 2 [] al3 :=
  bndf_of F kp hm G (fun us _ _ => us) (by simp) (fun r _ _ => r) fun T kV doc pm an cdv ct us its ws h1 h2 h3 => by
    match us, its, ws, h1, h2, h3 with
    | [a, b], [d], [], _, _, _ => exact ⟨_, rfl, rfl⟩
theorem b_pk2 (F : FunD K "pack" "pack" (defArgs s_pack) (defBody s_pack) (defScope s_pack) [.ref t0] [] f fd) (kp : PySem.W.keepIn K (.ref f) = true) (hm : mg "pack" = some (.ref f)) (G : FnG P w K mg base CX0 10 f fd ["table", "free"] (spPk K C)) : BndF P w K mg base CX0 10 "pack" ["table", "free"] (spPk K C) 2 [] al3 :=
  bndf_of F kp hm G (fun us _ _ => us) (by simp) (fun r _ _ => r) fun T kV doc pm an cdv ct us its ws h1 h2 h3 => by
    match us, its, ws, h1, h2, h3 with
    | [a, b], [d], [], _, _, _ => exact ⟨_, rfl, rfl⟩
theorem b_ip3 (F : FunD K "is_pack" "is_pack" (defArgs s_is_pack) (defBody s_is_pack) (defScope s_is_pack) [.ref t0] [] f fd) (kp : PySem.W.keepIn K (.ref f) = true) (hm : mg "is_pack" = some (.ref f)) (G : FnG P w K mg base CX0 10 f fd ["table", "value", "free"] (spIPk K C)) : BndF P w K mg base CX0 10 "is_pack" ["table", "value", "free"] (spIPk K C) 3 [] al3 :=
  bndf_of F kp hm G (fun us _ _ => us) (by simp) (fun r _ _ => r) fun T kV doc pm an cdv ct us its ws h1 h2 h3 => by
    match us, its, ws, h1, h2, h3 with
    | [a, b, c], [d], [], _, _, _ => exact ⟨_, rfl, rfl⟩
end
section
variable {P : Program} {w : World} {K : PySem.W.Frag} {mg : Str → Option Value} {base : Heap} {f : Addr} {fd : FuncData}
theorem ok_law {TT : List (Addr × Str)} (F : Fun K "law" "law" s_law f fd) (hm : mg "law" = some (.ref f)) (T : Txt K mg) (c_law_pot : Nm P w K mg base CX0 1 "_law_pot" s_law_pot ["_law_script", "_law_k"] (spPot K)) (c_law_right : Nm P w K mg base CX0 12 "_law_right" s_law_right ["_law_pot_here"] (spRightT TT)) : Nm P w K mg base CX0 13 "law" s_law ["_law_script"] (spLawT K TT) := by
  refine nm_of F hm sc_law (fun vs H Q E h => ?_) fun cdv A outer s H vs Q E hr h => ?_
  · obtain ⟨p, ns, rfl, _⟩ := h
    rfl
  obtain ⟨a, ns, rfl, hS, hl, hT, k⟩ := h
  refine ⟨_, (pss_one (ps_ret (pe_callB (call_allK (K := K) rfl rfl) (by rfl) T.b_all (by decide +kernel) (pa_cons (pe_lc (own := [("_law_k", 1)]) (g := (gName 1)) (by rfl) sc_law.nd (pi_range1 (by rfl) T.b_range (pa_cons (pe_callB (call_max2 rfl) (by rfl) T.b_max (by decide +kernel) (pa_cons pe_int (pa_cons (pe_callB (call_min2 rfl) (by rfl) T.b_min (by decide +kernel) (pa_cons pe_int (pa_cons (pe_callB (call_lenK (K := K) rfl) (by rfl) T.b_len PySem.boot_len (pa_cons (pv 0) pa_nil)) pa_nil))) pa_nil))) pa_nil)) (blkOk_by (own := [("_law_k", 1)]) (N := ["_law_script", "_law_k"]) (sc := defScope s_law) (by decide +kernel)) (fun _ _ _ _ _ => (pg_name (i := 1) sc_law.nd rfl (by first | exact Or.inl rfl | exact Or.inr rfl))) (fun _ _ _ _ _ => pts_nil) (fun _ _ _ _ _ => (pe_g c_law_right hr (by decide) L2.pass0 bp_law_right (by rfl) (pa_cons (pe_g c_law_pot hr (by decide) L2.pass0 bp_law_pot (by rfl) (pa_cons (pv 0) (pa_cons (pv 1) pa_nil))) pa_nil)))) pa_nil)))), ?_⟩
  have hlen : ((ns.map V.int).length : Int) = (ns.length : Int) := by rw [List.length_map]
  repeat walk_at "s1"
  rename_i D nD
  refine lc_it walk_range (fun i H1 => H1 D = some (.lst ((List.replicate i true).map V.bl)) ∧ i ≤ 5 ∧ ExtN H H1 ∧ Tabs TT H1) ⟨upd_same, by decide, extN_new (ExtN.refl H) nD, hT.ext fun b o e => updn (nonn nD e) e⟩ (fun _ _ _ _ => trivial) ?_ ?_
  · rintro i x H1 H2 hi ⟨hD, h5, sm, ht⟩ ⟨rfl, rfl⟩
    have hi4 : i < 5 := by
      have q : i < Int.toNat (if (if ((ns.map V.int).length : Int) < 4 then ((ns.map V.int).length : Int) else 4) > 1 then (if ((ns.map V.int).length : Int) < 4 then ((ns.map V.int).length : Int) else 4) else 1) := hi
      split at q <;> (try split at q) <;> omega
    refine ⟨rfl, ?_⟩
    dsimp only [tYes]
    rw [if_pos rfl]
    repeat walk_at "s1"
    refine pot_go (seq_extN sm hS) hl (by omega) (by omega) fun p H3 np hp s3 => ?_
    repeat walk_at "s1"
    refine rightT_go hp (ht.ext s3) fun H4 g4 => ?_
    have s4 : ExtN H2 H4 := fun b o e n => g4.keep b o (s3 b o e) n (nonn np e)
    have nDo : D ≠ p := nonn np hD
    have eD := s4 _ _ hD nt_lst
    refine ⟨_, eD, szt (by rw [List.length_map, List.length_replicate]; omega), ?_, by omega, fun b o e n => ?_, fun q hq => ?_⟩
    · rw [upd_same, List.replicate_succ', List.map_append]
      rfl
    · exact updn (nonn nD e) (s4 _ _ (sm _ _ e n) n)
    · obtain ⟨ps, q1, q2, q3⟩ := g4.tabs q hq
      refine ⟨ps, updn (fun z => by rw [z, eD] at q1; cases q1) q1, q2, fun pos cv hc => ?_⟩
      obtain ⟨c, c1, c2⟩ := q3 pos cv hc
      exact ⟨c, c1, updn (fun z => by rw [z, eD] at c2; injection c2 with c2; cases c2) c2⟩
  · rintro H1 ⟨hD, h5, sm, ht⟩
    refine ⟨_, _, rfl, SqL.of hD, ?_⟩
    rw [all_true]
    exact k H1
end
open PySem PySem.Spec PyProof.Rows LamX
open L2 hiding pass0
theorem Nm.fn {P : Program} {w : World} {K : PySem.W.Frag} {mg : Str → Option Value} {base : Heap} {CX : CXT} {k : Nat} {x : Str} {st : Stmt} {ps : List Str} {sp : Sp} {f : Addr} {fd : FuncData} (c : Nm P w K mg base CX k x st ps sp) (F : Fun K x x st f fd) (hm : mg x = some (.ref f)) : FnG P w K mg base CX k f fd ps sp := by
  obtain ⟨f', fd', F', hm', G⟩ := c.ex
  obtain rfl : f' = f := by
    have e := hm'.symm.trans hm
    injection e with e
    injection e
  obtain ⟨_, _, _, _, _, _, _, _, _, _, l1, _⟩ := F.ex
  obtain ⟨_, _, _, _, _, _, _, _, _, _, l2, _⟩ := F'.ex
  have e := l2.symm.trans l1
  injection e with e
  injection e with _ _ e _
  injection e with e
  subst e
  exact G
theorem all_mk {l : PySem.W.OpenLaw} {w : World} {K : PySem.W.Frag} {h : Heap} {mg : Str → Option Value} {fa f0 f1 f2 f3 f4 f5 f6 f7 f8 f9 f10 f11 f12 f13 f14 f15 f16 f17 f18 f19 f20 f21 f22 f23 f24 f25 f26 f27 f28 f29 f30 f31 f32 f33 f34 f35 f36 f37 f38 f39 f40 f41 f42 f43 f44 f45 f46 f47 f48 f49 f50 f51 f52 f53 f54 f55 f56 cc1 P1 : Addr} (X : K.In h) (G : h.Ns mainGlobals mg) (hfa : mg "law" = some (.ref fa))
    {od0 an0 od1 an1 od2 an2 od3 an3 od4 an4 od5 an5 od6 an6 od7 an7 od8 an8 od9 an9 od10 an10 od11 an11 od12 an12 od13 an13 od14 an14 od15 an15 od16 an16 od17 an17 od18 an18 od19 an19 od20 an20 od21 an21 od22 an22 od23 an23 od24 an24 od25 an25 od26 an26 od27 an27 od28 an28 od29 an29 od30 an30 od31 an31 od32 an32 od33 an33 od34 an34 od35 an35 od36 an36 od37 an37 od38 an38 od39 an39 od40 an40 od41 an41 od42 an42 od43 an43 od44 an44 od45 an45 od46 an46 od47 an47 od48 an48 od49 an49 od50 an50 od51 an51 od52 an52 od53 an53 od54 an54 od55 an55 od56 an56 : Option Addr} {sl0 sl1 sl2 sl3 sl4 sl5 sl6 sl7 sl8 sl9 sl10 sl11 sl12 sl13 sl14 sl15 sl16 sl17 sl18 sl19 sl20 sl21 sl22 sl23 sl24 sl25 sl26 sl27 sl28 sl29 sl30 sl31 sl32 sl33 sl34 sl35 sl36 sl37 sl38 sl39 sl40 sl41 sl42 sl43 sl44 sl45 sl46 sl47 sl48 sl49 sl50 sl51 sl52 sl53 sl54 sl55 sl56 : Array (Option Value)} {oc0 kV0 dc0 pm0 cd0 ct0 oc1 kV1 dc1 pm1 cd1 ct1 oc2 kV2 dc2 pm2 cd2 ct2 oc3 kV3 dc3 pm3 cd3 ct3 oc4 kV4 dc4 pm4 cd4 ct4 oc5 kV5 dc5 pm5 cd5 ct5 oc6 kV6 dc6 pm6 cd6 ct6 oc7 kV7 dc7 pm7 cd7 ct7 oc8 kV8 dc8 pm8 cd8 ct8 oc9 kV9 dc9 pm9 cd9 ct9 oc10 kV10 dc10 pm10 cd10 ct10 oc11 kV11 dc11 pm11 cd11 ct11 oc12 kV12 dc12 pm12 cd12 ct12 oc13 kV13 dc13 pm13 cd13 ct13 oc14 kV14 dc14 pm14 cd14 ct14 oc15 kV15 dc15 pm15 cd15 ct15 oc16 kV16 dc16 pm16 cd16 ct16 oc17 kV17 dc17 pm17 cd17 ct17 oc18 kV18 dc18 pm18 cd18 ct18 oc19 kV19 dc19 pm19 cd19 ct19 oc20 kV20 dc20 pm20 cd20 ct20 oc21 kV21 dc21 pm21 cd21 ct21 oc22 kV22 dc22 pm22 cd22 ct22 oc23 kV23 dc23 pm23 cd23 ct23 oc24 kV24 dc24 pm24 cd24 ct24 oc25 kV25 dc25 pm25 cd25 ct25 oc26 kV26 dc26 pm26 cd26 ct26 oc27 kV27 dc27 pm27 cd27 ct27 oc28 kV28 dc28 pm28 cd28 ct28 oc29 kV29 dc29 pm29 cd29 ct29 oc30 kV30 dc30 pm30 cd30 ct30 oc31 kV31 dc31 pm31 cd31 ct31 oc32 kV32 dc32 pm32 cd32 ct32 oc33 kV33 dc33 pm33 cd33 ct33 oc34 kV34 dc34 pm34 cd34 ct34 oc35 kV35 dc35 pm35 cd35 ct35 oc36 kV36 dc36 pm36 cd36 ct36 oc37 kV37 dc37 pm37 cd37 ct37 oc38 kV38 dc38 pm38 cd38 ct38 oc39 kV39 dc39 pm39 cd39 ct39 oc40 kV40 dc40 pm40 cd40 ct40 oc41 kV41 dc41 pm41 cd41 ct41 oc42 kV42 dc42 pm42 cd42 ct42 oc43 kV43 dc43 pm43 cd43 ct43 oc44 kV44 dc44 pm44 cd44 ct44 oc45 kV45 dc45 pm45 cd45 ct45 oc46 kV46 dc46 pm46 cd46 ct46 oc47 kV47 dc47 pm47 cd47 ct47 oc48 kV48 dc48 pm48 cd48 ct48 oc49 kV49 dc49 pm49 cd49 ct49 oc50 kV50 dc50 pm50 cd50 ct50 oc51 kV51 dc51 pm51 cd51 ct51 oc52 kV52 dc52 pm52 ct52 oc53 kV53 dc53 pm53 cd53 ct53 oc54 kV54 dc54 pm54 cd54 ct54 oc55 kV55 dc55 pm55 cd55 ct55 oc56 kV56 dc56 pm56 cd56 ct56 : Value}
    (a0 : PySem.W.nsIn K mainGlobals "_law_draw" = some (some (.ref f0))) (l0 : K.lookup f0 = some ⟨oc0, od0, .func (PySem.W.fnOf "_law_draw" "_law_draw" (defArgs s_law_draw) (defBody s_law_draw) (defScope s_law_draw) .none kV0 dc0 pm0 an0 cd0 ct0), sl0⟩) (c0 : PySem.W.codeIn K cd0 "_law_draw" = true) (k0 : PySem.W.keepIn K (.ref f0) = true)
    (a1 : PySem.W.nsIn K mainGlobals "_law_pot" = some (some (.ref f1))) (l1 : K.lookup f1 = some ⟨oc1, od1, .func (PySem.W.fnOf "_law_pot" "_law_pot" (defArgs s_law_pot) (defBody s_law_pot) (defScope s_law_pot) .none kV1 dc1 pm1 an1 cd1 ct1), sl1⟩) (c1 : PySem.W.codeIn K cd1 "_law_pot" = true) (k1 : PySem.W.keepIn K (.ref f1) = true)
    (a2 : PySem.W.nsIn K mainGlobals "_law_pick" = some (some (.ref f2))) (l2 : K.lookup f2 = some ⟨oc2, od2, .func (PySem.W.fnOf "_law_pick" "_law_pick" (defArgs s_law_pick) (defBody s_law_pick) (defScope s_law_pick) .none kV2 dc2 pm2 an2 cd2 ct2), sl2⟩) (c2 : PySem.W.codeIn K cd2 "_law_pick" = true) (k2 : PySem.W.keepIn K (.ref f2) = true)
    (a3 : PySem.W.nsIn K mainGlobals "is_count" = some (some (.ref f3))) (l3 : K.lookup f3 = some ⟨oc3, od3, .func (PySem.W.fnOf "is_count" "is_count" (defArgs s_is_count) (defBody s_is_count) (defScope s_is_count) .none kV3 dc3 pm3 an3 cd3 ct3), sl3⟩) (c3 : PySem.W.codeIn K cd3 "is_count" = true) (k3 : PySem.W.keepIn K (.ref f3) = true)
    (a4 : PySem.W.nsIn K mainGlobals "is_width" = some (some (.ref f4))) (l4 : K.lookup f4 = some ⟨oc4, od4, .func (PySem.W.fnOf "is_width" "is_width" (defArgs s_is_width) (defBody s_is_width) (defScope s_is_width) .none kV4 dc4 pm4 an4 cd4 ct4), sl4⟩) (c4 : PySem.W.codeIn K cd4 "is_width" = true) (k4 : PySem.W.keepIn K (.ref f4) = true)
    (a5 : PySem.W.nsIn K mainGlobals "is_bits" = some (some (.ref f5))) (l5 : K.lookup f5 = some ⟨oc5, od5, .func (PySem.W.fnOf "is_bits" "is_bits" (defArgs s_is_bits) (defBody s_is_bits) (defScope s_is_bits) .none kV5 dc5 pm5 an5 cd5 ct5), sl5⟩) (c5 : PySem.W.codeIn K cd5 "is_bits" = true) (k5 : PySem.W.keepIn K (.ref f5) = true)
    (a6 : PySem.W.nsIn K mainGlobals "is_name" = some (some (.ref f6))) (l6 : K.lookup f6 = some ⟨oc6, od6, .func (PySem.W.fnOf "is_name" "is_name" (defArgs s_is_name) (defBody s_is_name) (defScope s_is_name) .none kV6 dc6 pm6 an6 cd6 ct6), sl6⟩) (c6 : PySem.W.codeIn K cd6 "is_name" = true) (k6 : PySem.W.keepIn K (.ref f6) = true)
    (a7 : PySem.W.nsIn K mainGlobals "is_goal" = some (some (.ref f7))) (l7 : K.lookup f7 = some ⟨oc7, od7, .func (PySem.W.fnOf "is_goal" "is_goal" (defArgs s_is_goal) (defBody s_is_goal) (defScope s_is_goal) .none kV7 dc7 pm7 an7 cd7 ct7), sl7⟩) (c7 : PySem.W.codeIn K cd7 "is_goal" = true) (k7 : PySem.W.keepIn K (.ref f7) = true)
    (a8 : PySem.W.nsIn K mainGlobals "check_width" = some (some (.ref f8))) (l8 : K.lookup f8 = some ⟨oc8, od8, .func (PySem.W.fnOf "check_width" "check_width" (defArgs s_check_width) (defBody s_check_width) (defScope s_check_width) .none kV8 dc8 pm8 an8 cd8 ct8), sl8⟩) (c8 : PySem.W.codeIn K cd8 "check_width" = true) (k8 : PySem.W.keepIn K (.ref f8) = true)
    (a9 : PySem.W.nsIn K mainGlobals "is_stretch" = some (some (.ref f9))) (l9 : K.lookup f9 = some ⟨oc9, od9, .func (PySem.W.fnOf "is_stretch" "is_stretch" (defArgs s_is_stretch) (defBody s_is_stretch) (defScope s_is_stretch) .none kV9 dc9 pm9 an9 cd9 ct9), sl9⟩) (c9 : PySem.W.codeIn K cd9 "is_stretch" = true) (k9 : PySem.W.keepIn K (.ref f9) = true)
    (a10 : PySem.W.nsIn K mainGlobals "is_address" = some (some (.ref f10))) (l10 : K.lookup f10 = some ⟨oc10, od10, .func (PySem.W.fnOf "is_address" "is_address" (defArgs s_is_address) (defBody s_is_address) (defScope s_is_address) .none kV10 dc10 pm10 an10 cd10 ct10), sl10⟩) (c10 : PySem.W.codeIn K cd10 "is_address" = true) (k10 : PySem.W.keepIn K (.ref f10) = true)
    (a11 : PySem.W.nsIn K mainGlobals "check_stretch" = some (some (.ref f11))) (l11 : K.lookup f11 = some ⟨oc11, od11, .func (PySem.W.fnOf "check_stretch" "check_stretch" (defArgs s_check_stretch) (defBody s_check_stretch) (defScope s_check_stretch) .none kV11 dc11 pm11 an11 cd11 ct11), sl11⟩) (c11 : PySem.W.codeIn K cd11 "check_stretch" = true) (k11 : PySem.W.keepIn K (.ref f11) = true)
    (a12 : PySem.W.nsIn K mainGlobals "check_address" = some (some (.ref f12))) (l12 : K.lookup f12 = some ⟨oc12, od12, .func (PySem.W.fnOf "check_address" "check_address" (defArgs s_check_address) (defBody s_check_address) (defScope s_check_address) .none kV12 dc12 pm12 an12 cd12 ct12), sl12⟩) (c12 : PySem.W.codeIn K cd12 "check_address" = true) (k12 : PySem.W.keepIn K (.ref f12) = true)
    (a13 : PySem.W.nsIn K mainGlobals "first" = some (some (.ref f13))) (l13 : K.lookup f13 = some ⟨oc13, od13, .func (PySem.W.fnOf "first" "first" (defArgs s_first) (defBody s_first) (defScope s_first) .none kV13 dc13 pm13 an13 cd13 ct13), sl13⟩) (c13 : PySem.W.codeIn K cd13 "first" = true) (k13 : PySem.W.keepIn K (.ref f13) = true)
    (a14 : PySem.W.nsIn K mainGlobals "longest_beginning" = some (some (.ref f14))) (l14 : K.lookup f14 = some ⟨oc14, od14, .func (PySem.W.fnOf "longest_beginning" "longest_beginning" (defArgs s_longest_beginning) (defBody s_longest_beginning) (defScope s_longest_beginning) .none kV14 dc14 pm14 an14 cd14 ct14), sl14⟩) (c14 : PySem.W.codeIn K cd14 "longest_beginning" = true) (k14 : PySem.W.keepIn K (.ref f14) = true)
    (a15 : PySem.W.nsIn K mainGlobals "is_row" = some (some (.ref f15))) (l15 : K.lookup f15 = some ⟨oc15, od15, .func (PySem.W.fnOf "is_row" "is_row" (defArgs s_is_row) (defBody s_is_row) (defScope s_is_row) .none kV15 dc15 pm15 an15 cd15 ct15), sl15⟩) (c15 : PySem.W.codeIn K cd15 "is_row" = true) (k15 : PySem.W.keepIn K (.ref f15) = true)
    (a16 : PySem.W.nsIn K mainGlobals "is_rows" = some (some (.ref f16))) (l16 : K.lookup f16 = some ⟨oc16, od16, .func (PySem.W.fnOf "is_rows" "is_rows" (defArgs s_is_rows) (defBody s_is_rows) (defScope s_is_rows) .none kV16 dc16 pm16 an16 cd16 ct16), sl16⟩) (c16 : PySem.W.codeIn K cd16 "is_rows" = true) (k16 : PySem.W.keepIn K (.ref f16) = true)
    (a17 : PySem.W.nsIn K mainGlobals "check_same_width" = some (some (.ref f17))) (l17 : K.lookup f17 = some ⟨oc17, od17, .func (PySem.W.fnOf "check_same_width" "check_same_width" (defArgs s_check_same_width) (defBody s_check_same_width) (defScope s_check_same_width) .none kV17 dc17 pm17 an17 cd17 ct17), sl17⟩) (c17 : PySem.W.codeIn K cd17 "check_same_width" = true) (k17 : PySem.W.keepIn K (.ref f17) = true)
    (a18 : PySem.W.nsIn K mainGlobals "check_free" = some (some (.ref f18))) (l18 : K.lookup f18 = some ⟨oc18, od18, .func (PySem.W.fnOf "check_free" "check_free" (defArgs s_check_free) (defBody s_check_free) (defScope s_check_free) .none kV18 dc18 pm18 an18 cd18 ct18), sl18⟩) (c18 : PySem.W.codeIn K cd18 "check_free" = true) (k18 : PySem.W.keepIn K (.ref f18) = true)
    (a19 : PySem.W.nsIn K mainGlobals "is_free" = some (some (.ref f19))) (l19 : K.lookup f19 = some ⟨oc19, od19, .func (PySem.W.fnOf "is_free" "is_free" (defArgs s_is_free) (defBody s_is_free) (defScope s_is_free) .none kV19 dc19 pm19 an19 cd19 ct19), sl19⟩) (c19 : PySem.W.codeIn K cd19 "is_free" = true) (k19 : PySem.W.keepIn K (.ref f19) = true)
    (a20 : PySem.W.nsIn K mainGlobals "common" = some (some (.ref f20))) (l20 : K.lookup f20 = some ⟨oc20, od20, .func (PySem.W.fnOf "common" "common" (defArgs s_common) (defBody s_common) (defScope s_common) .none kV20 dc20 pm20 an20 cd20 ct20), sl20⟩) (c20 : PySem.W.codeIn K cd20 "common" = true) (k20 : PySem.W.keepIn K (.ref f20) = true)
    (a21 : PySem.W.nsIn K mainGlobals "path" = some (some (.ref f21))) (l21 : K.lookup f21 = some ⟨oc21, od21, .func (PySem.W.fnOf "path" "path" (defArgs s_path) (defBody s_path) (defScope s_path) .none kV21 dc21 pm21 an21 cd21 ct21), sl21⟩) (c21 : PySem.W.codeIn K cd21 "path" = true) (k21 : PySem.W.keepIn K (.ref f21) = true)
    (a22 : PySem.W.nsIn K mainGlobals "_even_set" = some (some (.ref f22))) (l22 : K.lookup f22 = some ⟨oc22, od22, .func (PySem.W.fnOf "_even_set" "_even_set" (defArgs s_even_set) (defBody s_even_set) (defScope s_even_set) .none kV22 dc22 pm22 an22 cd22 ct22), sl22⟩) (c22 : PySem.W.codeIn K cd22 "_even_set" = true) (k22 : PySem.W.keepIn K (.ref f22) = true)
    (a23 : PySem.W.nsIn K mainGlobals "_of_halves" = some (some (.ref f23))) (l23 : K.lookup f23 = some ⟨oc23, od23, .func (PySem.W.fnOf "_of_halves" "_of_halves" (defArgs s_of_halves) (defBody s_of_halves) (defScope s_of_halves) .none kV23 dc23 pm23 an23 cd23 ct23), sl23⟩) (c23 : PySem.W.codeIn K cd23 "_of_halves" = true) (k23 : PySem.W.keepIn K (.ref f23) = true)
    (a24 : PySem.W.nsIn K mainGlobals "_holders" = some (some (.ref f24))) (l24 : K.lookup f24 = some ⟨oc24, od24, .func (PySem.W.fnOf "_holders" "_holders" (defArgs s_holders) (defBody s_holders) (defScope s_holders) .none kV24 dc24 pm24 an24 cd24 ct24), sl24⟩) (c24 : PySem.W.codeIn K cd24 "_holders" = true) (k24 : PySem.W.keepIn K (.ref f24) = true)
    (a25 : PySem.W.nsIn K mainGlobals "_is_even" = some (some (.ref f25))) (l25 : K.lookup f25 = some ⟨oc25, od25, .func (PySem.W.fnOf "_is_even" "_is_even" (defArgs s_is_even) (defBody s_is_even) (defScope s_is_even) .none kV25 dc25 pm25 an25 cd25 ct25), sl25⟩) (c25 : PySem.W.codeIn K cd25 "_is_even" = true) (k25 : PySem.W.keepIn K (.ref f25) = true)
    (a26 : PySem.W.nsIn K mainGlobals "_are_apart" = some (some (.ref f26))) (l26 : K.lookup f26 = some ⟨oc26, od26, .func (PySem.W.fnOf "_are_apart" "_are_apart" (defArgs s_are_apart) (defBody s_are_apart) (defScope s_are_apart) .none kV26 dc26 pm26 an26 cd26 ct26), sl26⟩) (c26 : PySem.W.codeIn K cd26 "_are_apart" = true) (k26 : PySem.W.keepIn K (.ref f26) = true)
    (a27 : PySem.W.nsIn K mainGlobals "_fork" = some (some (.ref f27))) (l27 : K.lookup f27 = some ⟨oc27, od27, .func (PySem.W.fnOf "_fork" "_fork" (defArgs s_fork) (defBody s_fork) (defScope s_fork) .none kV27 dc27 pm27 an27 cd27 ct27), sl27⟩) (c27 : PySem.W.codeIn K cd27 "_fork" = true) (k27 : PySem.W.keepIn K (.ref f27) = true)
    (a28 : PySem.W.nsIn K mainGlobals "_foot" = some (some (.ref f28))) (l28 : K.lookup f28 = some ⟨oc28, od28, .func (PySem.W.fnOf "_foot" "_foot" (defArgs s_foot) (defBody s_foot) (defScope s_foot) .none kV28 dc28 pm28 an28 cd28 ct28), sl28⟩) (c28 : PySem.W.codeIn K cd28 "_foot" = true) (k28 : PySem.W.keepIn K (.ref f28) = true)
    (a29 : PySem.W.nsIn K mainGlobals "_end" = some (some (.ref f29))) (l29 : K.lookup f29 = some ⟨oc29, od29, .func (PySem.W.fnOf "_end" "_end" (defArgs s_end) (defBody s_end) (defScope s_end) .none kV29 dc29 pm29 an29 cd29 ct29), sl29⟩) (c29 : PySem.W.codeIn K cd29 "_end" = true) (k29 : PySem.W.keepIn K (.ref f29) = true)
    (a30 : PySem.W.nsIn K mainGlobals "_begin" = some (some (.ref f30))) (l30 : K.lookup f30 = some ⟨oc30, od30, .func (PySem.W.fnOf "_begin" "_begin" (defArgs s_begin) (defBody s_begin) (defScope s_begin) .none kV30 dc30 pm30 an30 cd30 ct30), sl30⟩) (c30 : PySem.W.codeIn K cd30 "_begin" = true) (k30 : PySem.W.keepIn K (.ref f30) = true)
    (a31 : PySem.W.nsIn K mainGlobals "_pairs" = some (some (.ref f31))) (l31 : K.lookup f31 = some ⟨oc31, od31, .func (PySem.W.fnOf "_pairs" "_pairs" (defArgs s_pairs) (defBody s_pairs) (defScope s_pairs) .none kV31 dc31 pm31 an31 cd31 ct31), sl31⟩) (c31 : PySem.W.codeIn K cd31 "_pairs" = true) (k31 : PySem.W.keepIn K (.ref f31) = true)
    (a32 : PySem.W.nsIn K mainGlobals "within" = some (some (.ref f32))) (l32 : K.lookup f32 = some ⟨oc32, od32, .func (PySem.W.fnOf "within" "within" (defArgs s_within) (defBody s_within) (defScope s_within) .none kV32 dc32 pm32 an32 cd32 ct32), sl32⟩) (c32 : PySem.W.codeIn K cd32 "within" = true) (k32 : PySem.W.keepIn K (.ref f32) = true)
    (a33 : PySem.W.nsIn K mainGlobals "joined" = some (some (.ref f33))) (l33 : K.lookup f33 = some ⟨oc33, od33, .func (PySem.W.fnOf "joined" "joined" (defArgs s_joined) (defBody s_joined) (defScope s_joined) .none kV33 dc33 pm33 an33 cd33 ct33), sl33⟩) (c33 : PySem.W.codeIn K cd33 "joined" = true) (k33 : PySem.W.keepIn K (.ref f33) = true)
    (a34 : PySem.W.nsIn K mainGlobals "_even_goals" = some (some (.ref f34))) (l34 : K.lookup f34 = some ⟨oc34, od34, .func (PySem.W.fnOf "_even_goals" "_even_goals" (defArgs s_even_goals) (defBody s_even_goals) (defScope s_even_goals) .none kV34 dc34 pm34 an34 cd34 ct34), sl34⟩) (c34 : PySem.W.codeIn K cd34 "_even_goals" = true) (k34 : PySem.W.keepIn K (.ref f34) = true)
    (a35 : PySem.W.nsIn K mainGlobals "sets_and_needs" = some (some (.ref f35))) (l35 : K.lookup f35 = some ⟨oc35, od35, .func (PySem.W.fnOf "sets_and_needs" "sets_and_needs" (defArgs s_sets_and_needs) (defBody s_sets_and_needs) (defScope s_sets_and_needs) .none kV35 dc35 pm35 an35 cd35 ct35), sl35⟩) (c35 : PySem.W.codeIn K cd35 "sets_and_needs" = true) (k35 : PySem.W.keepIn K (.ref f35) = true)
    (a36 : PySem.W.nsIn K mainGlobals "_told_at" = some (some (.ref f36))) (l36 : K.lookup f36 = some ⟨oc36, od36, .func (PySem.W.fnOf "_told_at" "_told_at" (defArgs s_told_at) (defBody s_told_at) (defScope s_told_at) .none kV36 dc36 pm36 an36 cd36 ct36), sl36⟩) (c36 : PySem.W.codeIn K cd36 "_told_at" = true) (k36 : PySem.W.keepIn K (.ref f36) = true)
    {adD37 tD37 : Addr} {odD37 odE37 : Option Addr} {nnD37 nnE37 : Nat} {slD37 slE37 : Array (Option Value)} (a37 : PySem.W.nsIn K mainGlobals "set_at" = some (some (.ref f37))) (l37 : K.lookup f37 = some ⟨oc37, od37, .func (PySem.W.fnOf "set_at" "set_at" (defArgs s_set_at) (defBody s_set_at) (defScope s_set_at) (.ref adD37) kV37 dc37 pm37 an37 cd37 ct37), sl37⟩) (tDa37 : K.lookup adD37 = some ⟨.type "tuple", odD37, .seq #[.ref tD37] nnD37, slD37⟩) (tDb37 : K.lookup tD37 = some ⟨.type "tuple", odE37, .seq #[] nnE37, slE37⟩) (c37 : PySem.W.codeIn K cd37 "set_at" = true) (k37 : PySem.W.keepIn K (.ref f37) = true)
    {adD38 tD38 : Addr} {odD38 odE38 : Option Addr} {nnD38 nnE38 : Nat} {slD38 slE38 : Array (Option Value)} (a38 : PySem.W.nsIn K mainGlobals "need_at" = some (some (.ref f38))) (l38 : K.lookup f38 = some ⟨oc38, od38, .func (PySem.W.fnOf "need_at" "need_at" (defArgs s_need_at) (defBody s_need_at) (defScope s_need_at) (.ref adD38) kV38 dc38 pm38 an38 cd38 ct38), sl38⟩) (tDa38 : K.lookup adD38 = some ⟨.type "tuple", odD38, .seq #[.ref tD38] nnD38, slD38⟩) (tDb38 : K.lookup tD38 = some ⟨.type "tuple", odE38, .seq #[] nnE38, slE38⟩) (c38 : PySem.W.codeIn K cd38 "need_at" = true) (k38 : PySem.W.keepIn K (.ref f38) = true)
    {adD39 tD39 : Addr} {odD39 odE39 : Option Addr} {nnD39 nnE39 : Nat} {slD39 slE39 : Array (Option Value)} (a39 : PySem.W.nsIn K mainGlobals "fewest" = some (some (.ref f39))) (l39 : K.lookup f39 = some ⟨oc39, od39, .func (PySem.W.fnOf "fewest" "fewest" (defArgs s_fewest) (defBody s_fewest) (defScope s_fewest) (.ref adD39) kV39 dc39 pm39 an39 cd39 ct39), sl39⟩) (tDa39 : K.lookup adD39 = some ⟨.type "tuple", odD39, .seq #[.ref tD39] nnD39, slD39⟩) (tDb39 : K.lookup tD39 = some ⟨.type "tuple", odE39, .seq #[] nnE39, slE39⟩) (c39 : PySem.W.codeIn K cd39 "fewest" = true) (k39 : PySem.W.keepIn K (.ref f39) = true)
    {adD40 tD40 : Addr} {odD40 odE40 : Option Addr} {nnD40 nnE40 : Nat} {slD40 slE40 : Array (Option Value)} (a40 : PySem.W.nsIn K mainGlobals "spare" = some (some (.ref f40))) (l40 : K.lookup f40 = some ⟨oc40, od40, .func (PySem.W.fnOf "spare" "spare" (defArgs s_spare) (defBody s_spare) (defScope s_spare) (.ref adD40) kV40 dc40 pm40 an40 cd40 ct40), sl40⟩) (tDa40 : K.lookup adD40 = some ⟨.type "tuple", odD40, .seq #[.ref tD40] nnD40, slD40⟩) (tDb40 : K.lookup tD40 = some ⟨.type "tuple", odE40, .seq #[] nnE40, slE40⟩) (c40 : PySem.W.codeIn K cd40 "spare" = true) (k40 : PySem.W.keepIn K (.ref f40) = true)
    {adD41 tD41 : Addr} {odD41 odE41 : Option Addr} {nnD41 nnE41 : Nat} {slD41 slE41 : Array (Option Value)} (a41 : PySem.W.nsIn K mainGlobals "pack" = some (some (.ref f41))) (l41 : K.lookup f41 = some ⟨oc41, od41, .func (PySem.W.fnOf "pack" "pack" (defArgs s_pack) (defBody s_pack) (defScope s_pack) (.ref adD41) kV41 dc41 pm41 an41 cd41 ct41), sl41⟩) (tDa41 : K.lookup adD41 = some ⟨.type "tuple", odD41, .seq #[.ref tD41] nnD41, slD41⟩) (tDb41 : K.lookup tD41 = some ⟨.type "tuple", odE41, .seq #[] nnE41, slE41⟩) (c41 : PySem.W.codeIn K cd41 "pack" = true) (k41 : PySem.W.keepIn K (.ref f41) = true)
    (a42 : PySem.W.nsIn K mainGlobals "_is_used_address" = some (some (.ref f42))) (l42 : K.lookup f42 = some ⟨oc42, od42, .func (PySem.W.fnOf "_is_used_address" "_is_used_address" (defArgs s_is_used_address) (defBody s_is_used_address) (defScope s_is_used_address) .none kV42 dc42 pm42 an42 cd42 ct42), sl42⟩) (c42 : PySem.W.codeIn K cd42 "_is_used_address" = true) (k42 : PySem.W.keepIn K (.ref f42) = true)
    (a43 : PySem.W.nsIn K mainGlobals "_is_pair" = some (some (.ref f43))) (l43 : K.lookup f43 = some ⟨oc43, od43, .func (PySem.W.fnOf "_is_pair" "_is_pair" (defArgs s_is_pair) (defBody s_is_pair) (defScope s_is_pair) .none kV43 dc43 pm43 an43 cd43 ct43), sl43⟩) (c43 : PySem.W.codeIn K cd43 "_is_pair" = true) (k43 : PySem.W.keepIn K (.ref f43) = true)
    (a44 : PySem.W.nsIn K mainGlobals "_keep_clear" = some (some (.ref f44))) (l44 : K.lookup f44 = some ⟨oc44, od44, .func (PySem.W.fnOf "_keep_clear" "_keep_clear" (defArgs s_keep_clear) (defBody s_keep_clear) (defScope s_keep_clear) .none kV44 dc44 pm44 an44 cd44 ct44), sl44⟩) (c44 : PySem.W.codeIn K cd44 "_keep_clear" = true) (k44 : PySem.W.keepIn K (.ref f44) = true)
    {adD45 tD45 : Addr} {odD45 odE45 : Option Addr} {nnD45 nnE45 : Nat} {slD45 slE45 : Array (Option Value)} (a45 : PySem.W.nsIn K mainGlobals "is_pack" = some (some (.ref f45))) (l45 : K.lookup f45 = some ⟨oc45, od45, .func (PySem.W.fnOf "is_pack" "is_pack" (defArgs s_is_pack) (defBody s_is_pack) (defScope s_is_pack) (.ref adD45) kV45 dc45 pm45 an45 cd45 ct45), sl45⟩) (tDa45 : K.lookup adD45 = some ⟨.type "tuple", odD45, .seq #[.ref tD45] nnD45, slD45⟩) (tDb45 : K.lookup tD45 = some ⟨.type "tuple", odE45, .seq #[] nnE45, slE45⟩) (c45 : PySem.W.codeIn K cd45 "is_pack" = true) (k45 : PySem.W.keepIn K (.ref f45) = true)
    (a46 : PySem.W.nsIn K mainGlobals "_law_bits" = some (some (.ref f46))) (l46 : K.lookup f46 = some ⟨oc46, od46, .func (PySem.W.fnOf "_law_bits" "_law_bits" (defArgs s_law_bits) (defBody s_law_bits) (defScope s_law_bits) .none kV46 dc46 pm46 an46 cd46 ct46), sl46⟩) (c46 : PySem.W.codeIn K cd46 "_law_bits" = true) (k46 : PySem.W.keepIn K (.ref f46) = true)
    (a47 : PySem.W.nsIn K mainGlobals "_law_stretches" = some (some (.ref f47))) (l47 : K.lookup f47 = some ⟨oc47, od47, .func (PySem.W.fnOf "_law_stretches" "_law_stretches" (defArgs s_law_stretches) (defBody s_law_stretches) (defScope s_law_stretches) .none kV47 dc47 pm47 an47 cd47 ct47), sl47⟩) (c47 : PySem.W.codeIn K cd47 "_law_stretches" = true) (k47 : PySem.W.keepIn K (.ref f47) = true)
    (a48 : PySem.W.nsIn K mainGlobals "_law_world" = some (some (.ref f48))) (l48 : K.lookup f48 = some ⟨oc48, od48, .func (PySem.W.fnOf "_law_world" "_law_world" (defArgs s_law_world) (defBody s_law_world) (defScope s_law_world) .none kV48 dc48 pm48 an48 cd48 ct48), sl48⟩) (c48 : PySem.W.codeIn K cd48 "_law_world" = true) (k48 : PySem.W.keepIn K (.ref f48) = true)
    (a49 : PySem.W.nsIn K mainGlobals "_law_flip" = some (some (.ref f49))) (l49 : K.lookup f49 = some ⟨oc49, od49, .func (PySem.W.fnOf "_law_flip" "_law_flip" (defArgs s_law_flip) (defBody s_law_flip) (defScope s_law_flip) .none kV49 dc49 pm49 an49 cd49 ct49), sl49⟩) (c49 : PySem.W.codeIn K cd49 "_law_flip" = true) (k49 : PySem.W.keepIn K (.ref f49) = true)
    (a50 : PySem.W.nsIn K mainGlobals "_law_flipped" = some (some (.ref f50))) (l50 : K.lookup f50 = some ⟨oc50, od50, .func (PySem.W.fnOf "_law_flipped" "_law_flipped" (defArgs s_law_flipped) (defBody s_law_flipped) (defScope s_law_flipped) .none kV50 dc50 pm50 an50 cd50 ct50), sl50⟩) (c50 : PySem.W.codeIn K cd50 "_law_flipped" = true) (k50 : PySem.W.keepIn K (.ref f50) = true)
    (a51 : PySem.W.nsIn K mainGlobals "_law_drawn" = some (some (.ref f51))) (l51 : K.lookup f51 = some ⟨oc51, od51, .func (PySem.W.fnOf "_law_drawn" "_law_drawn" (defArgs s_law_drawn) (defBody s_law_drawn) (defScope s_law_drawn) .none kV51 dc51 pm51 an51 cd51 ct51), sl51⟩) (c51 : PySem.W.codeIn K cd51 "_law_drawn" = true) (k51 : PySem.W.keepIn K (.ref f51) = true)
    (a52 : PySem.W.nsIn K mainGlobals "_law_made" = some (some (.ref f52))) (l52 : K.lookup f52 = some ⟨oc52, od52, .func (PySem.W.fnOf "_law_made" "_law_made" (defArgs s_law_made) (defBody s_law_made) (defScope s_law_made) .none kV52 dc52 pm52 an52 (.ref cc1) ct52), sl52⟩) (c52 : PySem.W.codeIn K (.ref cc1) "_law_made" = true) (k52 : PySem.W.keepIn K (.ref f52) = true)
    (a53 : PySem.W.nsIn K mainGlobals "_law_flip_right" = some (some (.ref f53))) (l53 : K.lookup f53 = some ⟨oc53, od53, .func (PySem.W.fnOf "_law_flip_right" "_law_flip_right" (defArgs s_law_flip_right) (defBody s_law_flip_right) (defScope s_law_flip_right) .none kV53 dc53 pm53 an53 cd53 ct53), sl53⟩) (c53 : PySem.W.codeIn K cd53 "_law_flip_right" = true) (k53 : PySem.W.keepIn K (.ref f53) = true)
    (a54 : PySem.W.nsIn K mainGlobals "_law_joined_right" = some (some (.ref f54))) (l54 : K.lookup f54 = some ⟨oc54, od54, .func (PySem.W.fnOf "_law_joined_right" "_law_joined_right" (defArgs s_law_joined_right) (defBody s_law_joined_right) (defScope s_law_joined_right) .none kV54 dc54 pm54 an54 cd54 ct54), sl54⟩) (c54 : PySem.W.codeIn K cd54 "_law_joined_right" = true) (k54 : PySem.W.keepIn K (.ref f54) = true)
    (a55 : PySem.W.nsIn K mainGlobals "_law_right" = some (some (.ref f55))) (l55 : K.lookup f55 = some ⟨oc55, od55, .func (PySem.W.fnOf "_law_right" "_law_right" (defArgs s_law_right) (defBody s_law_right) (defScope s_law_right) .none kV55 dc55 pm55 an55 cd55 ct55), sl55⟩) (c55 : PySem.W.codeIn K cd55 "_law_right" = true) (k55 : PySem.W.keepIn K (.ref f55) = true)
    (a56 : PySem.W.nsIn K mainGlobals "law" = some (some (.ref f56))) (l56 : K.lookup f56 = some ⟨oc56, od56, .func (PySem.W.fnOf "law" "law" (defArgs s_law) (defBody s_law) (defScope s_law) .none kV56 dc56 pm56 an56 cd56 ct56), sl56⟩) (c56 : PySem.W.codeIn K cd56 "law" = true) (k56 : PySem.W.keepIn K (.ref f56) = true)
    (z0 : PySem.W.nsIn K mainGlobals "len" = some none)
    (z1 : PySem.W.nsIn K mainGlobals "abs" = some none)
    (z2 : PySem.W.nsIn K mainGlobals "max" = some none)
    (z3 : PySem.W.nsIn K mainGlobals "min" = some none)
    (z4 : PySem.W.nsIn K mainGlobals "int" = some none)
    (z5 : PySem.W.nsIn K mainGlobals "divmod" = some none)
    (z6 : PySem.W.nsIn K mainGlobals "range" = some none)
    (z7 : PySem.W.nsIn K mainGlobals "repr" = some none)
    (z8 : PySem.W.nsIn K mainGlobals "all" = some none)
    (z9 : PySem.W.nsIn K mainGlobals "str" = some none)
    (z10 : PySem.W.nsIn K mainGlobals "bool" = some none)
    (z11 : PySem.W.nsIn K mainGlobals "isinstance" = some none)
    (z12 : PySem.W.nsIn K mainGlobals "tuple" = some none)
    (z13 : PySem.W.nsIn K mainGlobals "dict" = some none)
    (z14 : PySem.W.nsIn K mainGlobals "list" = some none)
    (z15 : PySem.W.nsIn K mainGlobals "sorted" = some none)
    (z16 : PySem.W.nsIn K mainGlobals "zip" = some none)
    (z17 : PySem.W.nsIn K mainGlobals "enumerate" = some none)
    (z18 : PySem.W.nsIn K mainGlobals "sum" = some none)
    (z19 : PySem.W.nsIn K mainGlobals "any" = some none)
    (z20 : PySem.W.nsIn K mainGlobals "reversed" = some none)
    {tk_MOST_WIDTH : Tok} (m_MOST_WIDTH : PySem.W.nsIn K mainGlobals "MOST_WIDTH" = some (some (.int 100 tk_MOST_WIDTH)))
    {tk_MOST_LETTERS : Tok} (m_MOST_LETTERS : PySem.W.nsIn K mainGlobals "MOST_LETTERS" = some (some (.int 6 tk_MOST_LETTERS)))
    {tk_LETTERS : Tok} (m_LETTERS : PySem.W.nsIn K mainGlobals "LETTERS" = some (some (.str "abcdefghijklmnopqrstuvwxyz" tk_LETTERS)))
    {ad_NO_NAMES : Addr} {od_NO_NAMES : Option Addr} {nn_NO_NAMES : Nat} {sl_NO_NAMES : Array (Option Value)} {tk_NO_NAMES0 tk_NO_NAMES1 tk_NO_NAMES2 tk_NO_NAMES3 tk_NO_NAMES4 : Tok} (m_NO_NAMES : PySem.W.nsIn K mainGlobals "NO_NAMES" = some (some (.ref ad_NO_NAMES))) (t_NO_NAMES : K.lookup ad_NO_NAMES = some ⟨.type "tuple", od_NO_NAMES, .seq #[.str "home" tk_NO_NAMES0, .str "hole" tk_NO_NAMES1, .str "ring" tk_NO_NAMES2, .str "all" tk_NO_NAMES3, .str "none" tk_NO_NAMES4] nn_NO_NAMES, sl_NO_NAMES⟩)
    {ad_ENDS : Addr} {od_ENDS : Option Addr} {nn_ENDS : Nat} {sl_ENDS : Array (Option Value)} {tk_ENDS0 tk_ENDS1 : Tok} (m_ENDS : PySem.W.nsIn K mainGlobals "ENDS" = some (some (.ref ad_ENDS))) (t_ENDS : K.lookup ad_ENDS = some ⟨.type "tuple", od_ENDS, .seq #[.str "home" tk_ENDS0, .str "hole" tk_ENDS1] nn_ENDS, sl_ENDS⟩)
    {tk_MOST_FREE : Tok} (m_MOST_FREE : PySem.W.nsIn K mainGlobals "MOST_FREE" = some (some (.int 20 tk_MOST_FREE)))
    {tk_ALL : Tok} (m_ALL : PySem.W.nsIn K mainGlobals "ALL" = some (some (.str "all" tk_ALL)))
    {C : Addr} (aC : PySem.W.nsIn K mainGlobals "Table" = some (some (.ref C)))
    (pg : PySem.W.plainGet K C Str.empty = true) (hd : PySem.W.hasDictIn K C = true) (po : PySem.W.plainOver K C = true) (sa : PySem.W.findIn K (.ref C) "__setattr__" = some (some (.builtin "object.__setattr__"))) (mk : PySem.W.makesIn K C = true) (kc : PySem.W.keepIn K (.ref C) = true) (sf : PySem.W.selfFirst K C = true)
    (nf0 : PySem.W.findIn K (.ref C) "_width" = some none)
    (nf1 : PySem.W.findIn K (.ref C) "_rows" = some none)
    {tkc0 : Tok} (cn0 : PySem.W.findIn K (.ref C) "MOST_ROWS" = some (some (.int 40 tkc0))) (cg0 : PySem.W.specialIn K (.int 40 tkc0) "__get__" = some none)
    {fm0 : Addr} {odm0 anm0 : Option Addr} {slm0 : Array (Option Value)} {ocm0 kVm0 dcm0 pmm0 cdm0 ctm0 : Value} {adI : Addr} {odI : Option Addr} {nnI : Nat} {slI : Array (Option Value)}
    (am0 : PySem.W.findIn K (.ref C) "__init__" = some (some (.ref fm0))) (im0 : PySem.W.isFn K (.ref fm0) = true) (lm0 : K.lookup fm0 = some ⟨ocm0, odm0, .func (PySem.W.fnOf "__init__" "Table.__init__" (defArgs s_Tableinit) (defBody s_Tableinit) (defScope s_Tableinit) (.ref adI) kVm0 dcm0 pmm0 anm0 cdm0 ctm0), slm0⟩) (cm0 : PySem.W.codeIn K cdm0 "Table.__init__" = true) (km0 : PySem.W.keepIn K (.ref fm0) = true)
    (tI : K.lookup adI = some ⟨.type "tuple", odI, .seq #[.none] nnI, slI⟩)
    {fm1 : Addr} {odm1 anm1 : Option Addr} {slm1 : Array (Option Value)} {ocm1 kVm1 dcm1 pmm1 cdm1 ctm1 : Value}
    (am1 : PySem.W.findIn K (.ref C) "row" = some (some (.ref fm1))) (im1 : PySem.W.isFn K (.ref fm1) = true) (lm1 : K.lookup fm1 = some ⟨ocm1, odm1, .func (PySem.W.fnOf "row" "Table.row" (defArgs s_Table_row) (defBody s_Table_row) (defScope s_Table_row) .none kVm1 dcm1 pmm1 anm1 cdm1 ctm1), slm1⟩) (cm1 : PySem.W.codeIn K cdm1 "Table.row" = true) (km1 : PySem.W.keepIn K (.ref fm1) = true)
    {fm2 : Addr} {odm2 anm2 : Option Addr} {slm2 : Array (Option Value)} {ocm2 kVm2 dcm2 pmm2 cdm2 ctm2 : Value}
    (am2 : PySem.W.findIn K (.ref C) "__call__" = some (some (.ref fm2))) (im2 : PySem.W.isFn K (.ref fm2) = true) (lm2 : K.lookup fm2 = some ⟨ocm2, odm2, .func (PySem.W.fnOf "__call__" "Table.__call__" (defArgs s_Table__call__) (defBody s_Table__call__) (defScope s_Table__call__) .none kVm2 dcm2 pmm2 anm2 cdm2 ctm2), slm2⟩) (cm2 : PySem.W.codeIn K cdm2 "Table.__call__" = true) (km2 : PySem.W.keepIn K (.ref fm2) = true)
    {fm3 : Addr} {odm3 anm3 : Option Addr} {slm3 : Array (Option Value)} {ocm3 kVm3 dcm3 pmm3 cdm3 ctm3 : Value}
    (am3 : PySem.W.findIn K (.ref C) "rows" = some (some (.ref fm3))) (im3 : PySem.W.isFn K (.ref fm3) = true) (lm3 : K.lookup fm3 = some ⟨ocm3, odm3, .func (PySem.W.fnOf "rows" "Table.rows" (defArgs s_Table_rows) (defBody s_Table_rows) (defScope s_Table_rows) .none kVm3 dcm3 pmm3 anm3 cdm3 ctm3), slm3⟩) (cm3 : PySem.W.codeIn K cdm3 "Table.rows" = true) (km3 : PySem.W.keepIn K (.ref fm3) = true)
    {fm4 : Addr} {odm4 anm4 : Option Addr} {slm4 : Array (Option Value)} {ocm4 kVm4 dcm4 pmm4 cdm4 ctm4 : Value}
    (am4 : PySem.W.findIn K (.ref C) "__eq__" = some (some (.ref fm4))) (im4 : PySem.W.isFn K (.ref fm4) = true) (lm4 : K.lookup fm4 = some ⟨ocm4, odm4, .func (PySem.W.fnOf "__eq__" "Table.__eq__" (defArgs s_Table__eq__) (defBody s_Table__eq__) (defScope s_Table__eq__) .none kVm4 dcm4 pmm4 anm4 cdm4 ctm4), slm4⟩) (cm4 : PySem.W.codeIn K cdm4 "Table.__eq__" = true) (km4 : PySem.W.keepIn K (.ref fm4) = true)
    {pW fmW : Addr} {rsW : List Value} {odmW anmW : Option Addr} {slmW : Array (Option Value)} {ocmW kVmW dcmW pmmW cdmW ctmW : Value} (apW : PySem.W.findIn K (.ref C) "width" = some (some (.ref pW))) (gpW : PySem.W.specialIn K (.ref pW) "__get__" = some (some (.builtin "property.__get__"))) (tpW : PySem.W.takesIn K (.ref pW) = some true) (rpW : PySem.W.recIn K pW "property" = some (.ref fmW :: rsW)) (lmW : K.lookup fmW = some ⟨ocmW, odmW, .func (PySem.W.fnOf "width" "Table.width" (defArgs s_Table_width) (defBody s_Table_width) (defScope s_Table_width) .none kVmW dcmW pmmW anmW cdmW ctmW), slmW⟩) (cmW : PySem.W.codeIn K cdmW "Table.width" = true) (kmW : PySem.W.keepIn K (.ref fmW) = true)
    (icA : PySem.W.findIn K (.ref C) "__class__" = some (some (.builtin "object.__class__"))) (icN : PySem.W.specialIn K (.builtin "object.__class__") "__get__" = some (some (.builtin "getset_descriptor.__get__"))) (icT : PySem.W.takesIn K (.builtin "object.__class__") = some true) (icM : PySem.W.mroIn K C (.type "object") = some true) (neF : PySem.W.findIn K (.ref C) "__ne__" = some (some (.builtin "object.__ne__")))
    : ∃ (fd : FuncData) (sp : Sp), (∀ (s : Shared) (v : Value), BindsTo s fd ⟨[v], []⟩ [("_law_script", v)]) ∧ (∀ (H : Hp) (a : Addr) (ns : List Int), ns.length ≤ 63 → SqL K H a (ns.map V.int) → (∀ p ∈ [(cc1, P1)], H p.2 = some (.tbl #[])) → sp [.ref a] H (fun v _ => v = .bl true) fun _ _ _ => False) ∧
      ∀ base : Heap, K.In base → base.Ns mainGlobals mg → (∀ p ∈ [(cc1, P1)], TabB base mg p.1 p.2) → FnG l.prog w K mg base CX0 13 fa fd ["_law_script"] sp := by
  have e := hfa.symm.trans (PySem.W.mg_of X G a56)
  cases e
  have T : Txt K mg := ⟨PySem.W.mg_none_of X G z0, PySem.W.mg_none_of X G z1, PySem.W.mg_none_of X G z2, PySem.W.mg_none_of X G z3, PySem.W.mg_none_of X G z4, PySem.W.mg_none_of X G z5, PySem.W.mg_none_of X G z6, PySem.W.mg_none_of X G z7, PySem.W.mg_none_of X G z8, PySem.W.mg_none_of X G z9, PySem.W.mg_none_of X G z10, PySem.W.mg_none_of X G z11, PySem.W.mg_none_of X G z12, PySem.W.mg_none_of X G z13, PySem.W.mg_none_of X G z14, PySem.W.mg_none_of X G z15, PySem.W.mg_none_of X G z16, PySem.W.mg_none_of X G z17, PySem.W.mg_none_of X G z18, PySem.W.mg_none_of X G z19, PySem.W.mg_none_of X G z20⟩
  have CC : Cst K mg := ⟨⟨_, PySem.W.mg_of X G m_MOST_WIDTH, ⟨_, rfl⟩⟩, ⟨_, PySem.W.mg_of X G m_MOST_LETTERS, ⟨_, rfl⟩⟩, ⟨_, PySem.W.mg_of X G m_LETTERS, ⟨_, rfl⟩⟩, ad_NO_NAMES, ⟨_, PySem.W.mg_of X G m_NO_NAMES, rfl⟩, fun _ => .inr ⟨_, _, _, t_NO_NAMES, rfl, rfl, szl (Nat.le_of_ble_eq_true rfl), .cons ⟨_, rfl⟩ (.cons ⟨_, rfl⟩ (.cons ⟨_, rfl⟩ (.cons ⟨_, rfl⟩ (.cons ⟨_, rfl⟩ .nil))))⟩, ad_ENDS, ⟨_, PySem.W.mg_of X G m_ENDS, rfl⟩, fun _ => .inr ⟨_, _, _, t_ENDS, rfl, rfl, szl (Nat.le_of_ble_eq_true rfl), .cons ⟨_, rfl⟩ (.cons ⟨_, rfl⟩ .nil)⟩⟩
  have cF : ∃ u, mg "MOST_FREE" = some u ∧ RelV (.int 20) u := ⟨_, PySem.W.mg_of X G m_MOST_FREE, ⟨_, rfl⟩⟩
  have cW : ∃ u, mg "MOST_WIDTH" = some u ∧ RelV (.int 100) u := ⟨_, PySem.W.mg_of X G m_MOST_WIDTH, ⟨_, rfl⟩⟩
  have cA : ∃ u, mg "ALL" = some u ∧ RelV (.str "all") u := ⟨_, PySem.W.mg_of X G m_ALL, ⟨_, rfl⟩⟩
  have F0 := fun_mk (st := s_law_draw) l0 c0 k0
  have F1 := fun_mk (st := s_law_pot) l1 c1 k1
  have F2 := fun_mk (st := s_law_pick) l2 c2 k2
  have F3 := fun_mk (st := s_is_count) l3 c3 k3
  have F4 := fun_mk (st := s_is_width) l4 c4 k4
  have F5 := fun_mk (st := s_is_bits) l5 c5 k5
  have F6 := fun_mk (st := s_is_name) l6 c6 k6
  have F7 := fun_mk (st := s_is_goal) l7 c7 k7
  have F8 := fun_mk (st := s_check_width) l8 c8 k8
  have F9 := fun_mk (st := s_is_stretch) l9 c9 k9
  have F10 := fun_mk (st := s_is_address) l10 c10 k10
  have F11 := fun_mk (st := s_check_stretch) l11 c11 k11
  have F12 := fun_mk (st := s_check_address) l12 c12 k12
  have F13 := fun_mk (st := s_first) l13 c13 k13
  have F14 := fun_mk (st := s_longest_beginning) l14 c14 k14
  have F15 := fun_mk (st := s_is_row) l15 c15 k15
  have F16 := fun_mk (st := s_is_rows) l16 c16 k16
  have F17 := fun_mk (st := s_check_same_width) l17 c17 k17
  have F18 := fun_mk (st := s_check_free) l18 c18 k18
  have F19 := fun_mk (st := s_is_free) l19 c19 k19
  have F20 := fun_mk (st := s_common) l20 c20 k20
  have F21 := fun_mk (st := s_path) l21 c21 k21
  have F22 := fun_mk (st := s_even_set) l22 c22 k22
  have F23 := fun_mk (st := s_of_halves) l23 c23 k23
  have F24 := fun_mk (st := s_holders) l24 c24 k24
  have F25 := fun_mk (st := s_is_even) l25 c25 k25
  have F26 := fun_mk (st := s_are_apart) l26 c26 k26
  have F27 := fun_mk (st := s_fork) l27 c27 k27
  have F28 := fun_mk (st := s_foot) l28 c28 k28
  have F29 := fun_mk (st := s_end) l29 c29 k29
  have F30 := fun_mk (st := s_begin) l30 c30 k30
  have F31 := fun_mk (st := s_pairs) l31 c31 k31
  have F32 := fun_mk (st := s_within) l32 c32 k32
  have F33 := fun_mk (st := s_joined) l33 c33 k33
  have F34 := fun_mk (st := s_even_goals) l34 c34 k34
  have F35 := fun_mk (st := s_sets_and_needs) l35 c35 k35
  have F36 := fun_mk (st := s_told_at) l36 c36 k36
  have F37 : FunD K "set_at" "set_at" (defArgs s_set_at) (defBody s_set_at) (defScope s_set_at) [.ref tD37] [] f37 _ := ⟨⟨_, _, _, _, _, _, _, _, _, _, rfl, l37, c37, .inr ⟨by simp, adD37, _, [.ref tD37], nnD37, rfl, tDa37, rfl, .cons rfl .nil⟩, .inl rfl⟩, k37⟩
  have F38 : FunD K "need_at" "need_at" (defArgs s_need_at) (defBody s_need_at) (defScope s_need_at) [.ref tD38] [] f38 _ := ⟨⟨_, _, _, _, _, _, _, _, _, _, rfl, l38, c38, .inr ⟨by simp, adD38, _, [.ref tD38], nnD38, rfl, tDa38, rfl, .cons rfl .nil⟩, .inl rfl⟩, k38⟩
  have F39 : FunD K "fewest" "fewest" (defArgs s_fewest) (defBody s_fewest) (defScope s_fewest) [.ref tD39] [] f39 _ := ⟨⟨_, _, _, _, _, _, _, _, _, _, rfl, l39, c39, .inr ⟨by simp, adD39, _, [.ref tD39], nnD39, rfl, tDa39, rfl, .cons rfl .nil⟩, .inl rfl⟩, k39⟩
  have F40 : FunD K "spare" "spare" (defArgs s_spare) (defBody s_spare) (defScope s_spare) [.ref tD40] [] f40 _ := ⟨⟨_, _, _, _, _, _, _, _, _, _, rfl, l40, c40, .inr ⟨by simp, adD40, _, [.ref tD40], nnD40, rfl, tDa40, rfl, .cons rfl .nil⟩, .inl rfl⟩, k40⟩
  have F41 : FunD K "pack" "pack" (defArgs s_pack) (defBody s_pack) (defScope s_pack) [.ref tD41] [] f41 _ := ⟨⟨_, _, _, _, _, _, _, _, _, _, rfl, l41, c41, .inr ⟨by simp, adD41, _, [.ref tD41], nnD41, rfl, tDa41, rfl, .cons rfl .nil⟩, .inl rfl⟩, k41⟩
  have F42 := fun_mk (st := s_is_used_address) l42 c42 k42
  have F43 := fun_mk (st := s_is_pair) l43 c43 k43
  have F44 := fun_mk (st := s_keep_clear) l44 c44 k44
  have F45 : FunD K "is_pack" "is_pack" (defArgs s_is_pack) (defBody s_is_pack) (defScope s_is_pack) [.ref tD45] [] f45 _ := ⟨⟨_, _, _, _, _, _, _, _, _, _, rfl, l45, c45, .inr ⟨by simp, adD45, _, [.ref tD45], nnD45, rfl, tDa45, rfl, .cons rfl .nil⟩, .inl rfl⟩, k45⟩
  have F46 := fun_mk (st := s_law_bits) l46 c46 k46
  have F47 := fun_mk (st := s_law_stretches) l47 c47 k47
  have F48 := fun_mk (st := s_law_world) l48 c48 k48
  have F49 := fun_mk (st := s_law_flip) l49 c49 k49
  have F50 := fun_mk (st := s_law_flipped) l50 c50 k50
  have F51 := fun_mk (st := s_law_drawn) l51 c51 k51
  have F52 := fun_mk (st := s_law_made) l52 c52 k52
  have F53 := fun_mk (st := s_law_flip_right) l53 c53 k53
  have F54 := fun_mk (st := s_law_joined_right) l54 c54 k54
  have F55 := fun_mk (st := s_law_right) l55 c55 k55
  have F56 := fun_mk (st := s_law) l56 c56 k56
  have FM0 : FunD K "__init__" "Table.__init__" (defArgs s_Tableinit) (defBody s_Tableinit) (defScope s_Tableinit) [.non] [] fm0 _ := ⟨⟨_, _, _, _, _, _, _, _, _, _, rfl, lm0, cm0, .inr ⟨by simp, adI, _, [.none], nnI, rfl, tI, rfl, .cons rfl .nil⟩, .inl rfl⟩, km0⟩
  have FM1 := fun_mk (st := s_Table_row) lm1 cm1 km1
  have FM2 := fun_mk (st := s_Table__call__) lm2 cm2 km2
  have FM3 := fun_mk (st := s_Table_rows) lm3 cm3 km3
  have FM4 := fun_mk (st := s_Table__eq__) lm4 cm4 km4
  refine ⟨PySem.W.fnOf "law" "law" (defArgs s_law) (defBody s_law) (defScope s_law) .none kV56 dc56 pm56 an56 cd56 ct56, spLawT K [(P1, (("_law_made" : Str) ++ ".<locals>.") ++ "<lambda>")], fun s v => .of_eq rfl, fun H a ns hl hs hp => ⟨a, ns, rfl, hs, hl, ?_, fun _ => rfl⟩, fun base _ _ TB => ?_⟩
  · intro p hp'
    simp only [List.mem_cons, List.not_mem_nil, or_false] at hp'
    rcases hp' with rfl
    · exact TabS.nil (hp _ (.head _))
  have hu1 : ∀ p ∈ ([(P1, (("_law_made" : Str) ++ ".<locals>.") ++ "<lambda>")] : List (Addr × Str)), p.1 = P1 → p.2 = (("_law_made" : Str) ++ ".<locals>.") ++ "<lambda>" := fun p hp e => by
    simp only [List.mem_cons, List.not_mem_nil, or_false] at hp
    rcases hp with rfl
    · rfl
  have n_law_draw := ok_draw (P := l.prog) (w := w) (base := base) F0 (PySem.W.mg_of X G a0) T
  have n_law_pot := ok_pot (P := l.prog) (w := w) (base := base) F1 (PySem.W.mg_of X G a1) T
  have n_law_pick := ok_among (P := l.prog) (w := w) (base := base) F2 (PySem.W.mg_of X G a2) T n_law_draw
  have n_is_count := ok_is_count (P := l.prog) (w := w) (base := base) F3 (PySem.W.mg_of X G a3) T
  have n_is_width := ok_is_width (P := l.prog) (w := w) (base := base) F4 (PySem.W.mg_of X G a4) T CC n_is_count
  have n_is_bits := ok_is_bits (P := l.prog) (w := w) (base := base) F5 (PySem.W.mg_of X G a5) T
  have n_is_name := ok_is_name (P := l.prog) (w := w) (base := base) F6 (PySem.W.mg_of X G a6) T CC
  have n_is_goal := ok_is_goal (P := l.prog) (w := w) (base := base) F7 (PySem.W.mg_of X G a7) T CC n_is_name
  have n_check_width := ok_check_width (P := l.prog) (w := w) (base := base) F8 (PySem.W.mg_of X G a8) T n_is_width
  have n_is_stretch := ok_is_stretch (P := l.prog) (w := w) (base := base) F9 (PySem.W.mg_of X G a9) T n_check_width n_is_bits
  have n_is_address := ok_is_address (P := l.prog) (w := w) (base := base) F10 (PySem.W.mg_of X G a10) T n_is_stretch
  have n_check_stretch := ok_check_stretch (P := l.prog) (w := w) (base := base) F11 (PySem.W.mg_of X G a11) T n_is_stretch
  have n_check_address := ok_check_address (P := l.prog) (w := w) (base := base) F12 (PySem.W.mg_of X G a12) T n_is_address
  have n_first := ok_first (P := l.prog) (w := w) (base := base) F13 (PySem.W.mg_of X G a13) T n_check_stretch
  have n_longest_beginning := ok_longest (P := l.prog) (w := w) (base := base) F14 (PySem.W.mg_of X G a14) T
  have n_is_row := ok_is_row (P := l.prog) (w := w) (base := base) F15 (PySem.W.mg_of X G a15) T n_is_stretch n_is_goal
  have n_is_rows := ok_is_rows (P := l.prog) (w := w) (base := base) F16 (PySem.W.mg_of X G a16) T n_is_stretch n_is_goal
  have n_check_same_width := ok_same (P := l.prog) (w := w) (base := base) F17 (PySem.W.mg_of X G a17) T
  have n_check_free := ok_check_free (P := l.prog) (w := w) (base := base) F18 (PySem.W.mg_of X G a18) T cF n_check_width n_is_stretch
  have n_is_free := ok_is_free (P := l.prog) (w := w) (base := base) F19 (PySem.W.mg_of X G a19) T
  have n_common := ok_common (P := l.prog) (w := w) (base := base) F20 (PySem.W.mg_of X G a20) T n_is_bits
  have n_path := ok_path (P := l.prog) (w := w) (base := base) F21 (PySem.W.mg_of X G a21) T n_check_width n_is_address n_check_address n_common
  have n_even_set := ok_even_set (P := l.prog) (w := w) (base := base) F22 (PySem.W.mg_of X G a22) T cA
  have n_of_halves := ok_halves (P := l.prog) (w := w) (base := base) F23 (PySem.W.mg_of X G a23) T cA
  have n_holders := ok_holders (P := l.prog) (w := w) (base := base) F24 (PySem.W.mg_of X G a24) T
  have n_is_even := ok_is_even (P := l.prog) (w := w) (base := base) F25 (PySem.W.mg_of X G a25) T
  have n_are_apart := ok_are_apart (P := l.prog) (w := w) (base := base) F26 (PySem.W.mg_of X G a26) T
  have n_fork := ok_fork (P := l.prog) (w := w) (base := base) F27 (PySem.W.mg_of X G a27) T cA n_is_even
  have n_foot := ok_foot (P := l.prog) (w := w) (base := base) F28 (PySem.W.mg_of X G a28) T n_is_even n_fork n_first
  have n_end := ok_end (P := l.prog) (w := w) (base := base) F29 (PySem.W.mg_of X G a29) T n_foot
  have n_begin := ok_begin (P := l.prog) (w := w) (base := base) F30 (PySem.W.mg_of X G a30) T n_foot
  have n_pairs := ok_pairs (P := l.prog) (w := w) (base := base) F31 (PySem.W.mg_of X G a31) T n_fork n_is_even n_are_apart n_begin n_end
  have n_long2 := ok_long (P := l.prog) (w := w) (base := base) F14 (PySem.W.mg_of X G a14) T
  have TC : TabC K C := ⟨⟨pg, hd, po, sa⟩, nf0, nf1, ⟨_, ⟨cn0, ⟨_, rfl⟩, cg0, by decide +kernel⟩⟩, sf⟩
  have okI := ok_init (P := l.prog) (w := w) (base := base) FM0 T TC n_check_width n_is_rows
  have okI0 := ok_init0 (P := l.prog) (w := w) (base := base) FM0 T TC n_check_width n_is_rows
  have b_Tab := b_table FM0 ⟨mk, am0, im0, kc⟩ (PySem.W.mg_of X G aC) okI
  have b_Tab1 := b_table1 FM0 ⟨mk, am0, im0, kc⟩ (PySem.W.mg_of X G aC) okI0
  have IC : C8.InsC K C := ⟨⟨pg, hd, po, sa⟩, icA, icN, icT, icM, if_pos (beq_self_eq_true _)⟩
  have gC : ∃ u, mg "Table" = some u ∧ RelV (.ref C) u := ⟨_, PySem.W.mg_of X G aC, rfl⟩
  have c_row := ok_rowof (P := l.prog) (w := w) (base := base) FM1 ⟨am1, im1, km1⟩ T TC n_check_address n_long2
  have c_call := ok_call (P := l.prog) (w := w) (base := base) FM2 ⟨am2, im2, km2⟩ T TC c_row
  have c_rows := ok_trows (P := l.prog) (w := w) (base := base) FM3 ⟨am3, im3, km3⟩ T TC
  have c_eq := ok_eq (P := l.prog) (w := w) (base := base) FM4 ⟨am4, im4, km4⟩ T TC IC gC
  have FMW := fun_mk (st := s_Table_width) lmW cmW kmW
  have c_width := ok_width (P := l.prog) (w := w) (base := base) FMW ⟨apW, gpW, tpW, ⟨_, rpW⟩⟩ T TC
  have n_within := ok_within (P := l.prog) (w := w) (base := base) F32 (PySem.W.mg_of X G a32) T TC n_check_stretch n_long2 c_width c_rows b_Tab
  have n_joined := ok_joined (P := l.prog) (w := w) (base := base) F33 (PySem.W.mg_of X G a33) T TC cW n_check_same_width c_width c_rows b_Tab
  have n_even_goals := ok_even_goals (P := l.prog) (w := w) (base := base) F34 (PySem.W.mg_of X G a34) T TC cA c_rows
  have n_sets_and_needs := ok_sets (P := l.prog) (w := w) (base := base) F35 (PySem.W.mg_of X G a35) T TC n_check_free n_holders n_even_goals n_even_set n_of_halves c_width c_rows
  have n_told_at := ok_told_at (P := l.prog) (w := w) (base := base) F36 (PySem.W.mg_of X G a36) T TC n_check_stretch n_sets_and_needs n_longest_beginning c_width
  have n_set_at := ok_set_at (P := l.prog) (w := w) (base := base) F37 T cA n_told_at
  have b_set3 := b_set3 F37 k37 (PySem.W.mg_of X G a37) n_set_at
  have n_need_at := ok_need_at (P := l.prog) (w := w) (base := base) F38 T n_told_at
  have b_need3 := b_need3 F38 k38 (PySem.W.mg_of X G a38) n_need_at
  have n_fewest := ok_fewest (P := l.prog) (w := w) (base := base) F39 T cA n_sets_and_needs
  have b_few2 := b_few2 F39 k39 (PySem.W.mg_of X G a39) n_fewest
  have n_spare := ok_spare (P := l.prog) (w := w) (base := base) F40 T TC cA n_sets_and_needs c_width b_Tab
  have b_sp2 := b_sp2 F40 k40 (PySem.W.mg_of X G a40) n_spare
  have n_pack := ok_pack (P := l.prog) (w := w) (base := base) F41 T TC cA n_sets_and_needs n_end n_pairs c_width
  have b_pk2 := b_pk2 F41 k41 (PySem.W.mg_of X G a41) n_pack
  have n_is_used_address := ok_used_address (P := l.prog) (w := w) (base := base) F42 (PySem.W.mg_of X G a42) T n_is_address n_is_free
  have n_is_pair := ok_is_pair (P := l.prog) (w := w) (base := base) F43 (PySem.W.mg_of X G a43) T TC n_is_used_address c_width c_call
  have n_keep_clear := ok_keep_clear (P := l.prog) (w := w) (base := base) F44 (PySem.W.mg_of X G a44) T TC n_path c_width c_call
  have n_is_pack := ok_is_pack (P := l.prog) (w := w) (base := base) F45 T TC n_check_free n_is_pair n_keep_clear c_width
  have b_ip3 := b_ip3 F45 k45 (PySem.W.mg_of X G a45) n_is_pack
  have n_law_bits := ok_lbits (P := l.prog) (w := w) (base := base) F46 (PySem.W.mg_of X G a46) T
  have n_law_stretches := ok_lstr (P := l.prog) (w := w) (base := base) F47 (PySem.W.mg_of X G a47) T n_law_bits
  have n_law_world := ok_world (P := l.prog) (w := w) (base := base) F48 (PySem.W.mg_of X G a48) T n_law_draw n_law_pick n_law_bits n_law_stretches
  have n_law_flip := ok_flip (P := l.prog) (w := w) (base := base) F49 (PySem.W.mg_of X G a49) T
  have n_law_flipped := ok_flipped (P := l.prog) (w := w) (base := base) F50 (PySem.W.mg_of X G a50) T n_law_flip
  have n_law_drawn := ok_drawn (P := l.prog) (w := w) (base := base) F51 (PySem.W.mg_of X G a51) T n_law_draw n_law_pick n_law_stretches
  have n_law_made := ok_made (P := l.prog) (w := w) (base := base) (TT := [(P1, (("_law_made" : Str) ++ ".<locals>.") ++ "<lambda>")]) l52 c52 k52 (PySem.W.mg_of X G a52) T (TB _ (.head _)) (.head _) hu1
  have n_law_flip_right := ok_flip_right (P := l.prog) (w := w) (base := base) F53 (PySem.W.mg_of X G a53) T TC n_law_flip n_law_flipped n_law_pick n_law_stretches n_path c_rows b_Tab b_few2 b_sp2 b_set3 b_need3 b_pk2 b_ip3
  have n_law_joined_right := ok_joined_right (P := l.prog) (w := w) (base := base) (TT := [(P1, (("_law_made" : Str) ++ ".<locals>.") ++ "<lambda>")]) F54 (PySem.W.mg_of X G a54) T TC n_law_drawn n_law_pick n_law_stretches n_law_made n_within n_joined b_Tab b_few2 b_sp2 b_set3 b_need3
  have n_law_right := ok_right (P := l.prog) (w := w) (base := base) (TT := [(P1, (("_law_made" : Str) ++ ".<locals>.") ++ "<lambda>")]) F55 (PySem.W.mg_of X G a55) T TC n_law_world n_law_flip_right n_law_joined_right n_law_pick n_law_stretches c_eq b_Tab b_Tab1 b_few2 b_sp2 b_pk2
  have n_law := ok_law (P := l.prog) (w := w) (base := base) (TT := [(P1, (("_law_made" : Str) ++ ".<locals>.") ++ "<lambda>")]) F56 (PySem.W.mg_of X G a56) T n_law_pot n_law_right
  exact n_law.fn F56 (PySem.W.mg_of X G a56)
end Cov
open PySem PySem.W PyProof.Rows
set_option maxRecDepth 100000 in
set_option maxHeartbeats 0 in
theorem PySem.Challenge.cw_coverways_k37_whole_bits_turned_and_tabl_holds : PySem.Challenge.rw_coverways_k37_whole_bits_turned_and_tabl.Holds := by
  w_on; o_law; k_head; (case hw => w_witness2)
  k_fill
  refine' Cov.walk_gT (l := PySem.Challenge.rw_coverways_k37_whole_bits_turned_and_tabl) (n := 63) (k := 13) (x := "_law_script") (CX := fun _ => L2.CX0) (cs := [(_, 736)]) rfl (by decide) rfl Cov.roomTop (fun w h Y => PySem.W.km_in_of Y) (fun w h Y p hp => ?hT) (fun w p hp => ?nT) (fun w p hp => ?hC) ?F (fun _ _ _ _ _ z => z)
  case hT =>
    refine PySem.W.km_tabs_of Y p.2 ?_
    simp only [List.mem_cons, List.not_mem_nil, or_false] at hp ⊢
    rcases hp with rfl <;> simp
  case nT =>
    simp only [List.mem_cons, List.not_mem_nil, or_false] at hp
    rcases hp with rfl <;> kernel_rfl
  case F =>
    intro w mg fa h KX G hmg
    refine' Cov.all_mk KX G hmg ?a0 ?l0 ?c0 ?k0 ?a1 ?l1 ?c1 ?k1 ?a2 ?l2 ?c2 ?k2 ?a3 ?l3 ?c3 ?k3 ?a4 ?l4 ?c4 ?k4 ?a5 ?l5 ?c5 ?k5 ?a6 ?l6 ?c6 ?k6 ?a7 ?l7 ?c7 ?k7 ?a8 ?l8 ?c8 ?k8 ?a9 ?l9 ?c9 ?k9 ?a10 ?l10 ?c10 ?k10 ?a11 ?l11 ?c11 ?k11 ?a12 ?l12 ?c12 ?k12 ?a13 ?l13 ?c13 ?k13 ?a14 ?l14 ?c14 ?k14 ?a15 ?l15 ?c15 ?k15 ?a16 ?l16 ?c16 ?k16 ?a17 ?l17 ?c17 ?k17 ?a18 ?l18 ?c18 ?k18 ?a19 ?l19 ?c19 ?k19 ?a20 ?l20 ?c20 ?k20 ?a21 ?l21 ?c21 ?k21 ?a22 ?l22 ?c22 ?k22 ?a23 ?l23 ?c23 ?k23 ?a24 ?l24 ?c24 ?k24 ?a25 ?l25 ?c25 ?k25 ?a26 ?l26 ?c26 ?k26 ?a27 ?l27 ?c27 ?k27 ?a28 ?l28 ?c28 ?k28 ?a29 ?l29 ?c29 ?k29 ?a30 ?l30 ?c30 ?k30 ?a31 ?l31 ?c31 ?k31 ?a32 ?l32 ?c32 ?k32 ?a33 ?l33 ?c33 ?k33 ?a34 ?l34 ?c34 ?k34 ?a35 ?l35 ?c35 ?k35 ?a36 ?l36 ?c36 ?k36 ?a37 ?l37 ?tDa37 ?tDb37 ?c37 ?k37 ?a38 ?l38 ?tDa38 ?tDb38 ?c38 ?k38 ?a39 ?l39 ?tDa39 ?tDb39 ?c39 ?k39 ?a40 ?l40 ?tDa40 ?tDb40 ?c40 ?k40 ?a41 ?l41 ?tDa41 ?tDb41 ?c41 ?k41 ?a42 ?l42 ?c42 ?k42 ?a43 ?l43 ?c43 ?k43 ?a44 ?l44 ?c44 ?k44 ?a45 ?l45 ?tDa45 ?tDb45 ?c45 ?k45 ?a46 ?l46 ?c46 ?k46 ?a47 ?l47 ?c47 ?k47 ?a48 ?l48 ?c48 ?k48 ?a49 ?l49 ?c49 ?k49 ?a50 ?l50 ?c50 ?k50 ?a51 ?l51 ?c51 ?k51 ?a52 ?l52 ?c52 ?k52 ?a53 ?l53 ?c53 ?k53 ?a54 ?l54 ?c54 ?k54 ?a55 ?l55 ?c55 ?k55 ?a56 ?l56 ?c56 ?k56 ?z0 ?z1 ?z2 ?z3 ?z4 ?z5 ?z6 ?z7 ?z8 ?z9 ?z10 ?z11 ?z12 ?z13 ?z14 ?z15 ?z16 ?z17 ?z18 ?z19 ?z20 ?m_MOST_WIDTH ?m_MOST_LETTERS ?m_LETTERS ?m_NO_NAMES ?t_NO_NAMES ?m_ENDS ?t_ENDS ?m_MOST_FREE ?m_ALL ?aC ?pg ?hd ?po ?sa ?mk ?kc ?sf ?nf0 ?nf1 ?cn0 ?cg0 ?am0 ?im0 ?lm0 ?cm0 ?km0 ?tI ?am1 ?im1 ?lm1 ?cm1 ?km1 ?am2 ?im2 ?lm2 ?cm2 ?km2 ?am3 ?im3 ?lm3 ?cm3 ?km3 ?am4 ?im4 ?lm4 ?cm4 ?km4 ?apW ?gpW ?tpW ?rpW ?lmW ?cmW ?kmW ?icA ?icN ?icT ?icM ?neF
    (case a0 => first | k_is | kernel_rfl)
    (case l0 => first | k_is | kernel_rfl)
    (case c0 => first | k_is | kernel_rfl)
    (case k0 => first | k_is | kernel_rfl)
    (case a1 => first | k_is | kernel_rfl)
    (case l1 => first | k_is | kernel_rfl)
    (case c1 => first | k_is | kernel_rfl)
    (case k1 => first | k_is | kernel_rfl)
    (case a2 => first | k_is | kernel_rfl)
    (case l2 => first | k_is | kernel_rfl)
    (case c2 => first | k_is | kernel_rfl)
    (case k2 => first | k_is | kernel_rfl)
    (case a3 => first | k_is | kernel_rfl)
    (case l3 => first | k_is | kernel_rfl)
    (case c3 => first | k_is | kernel_rfl)
    (case k3 => first | k_is | kernel_rfl)
    (case a4 => first | k_is | kernel_rfl)
    (case l4 => first | k_is | kernel_rfl)
    (case c4 => first | k_is | kernel_rfl)
    (case k4 => first | k_is | kernel_rfl)
    (case a5 => first | k_is | kernel_rfl)
    (case l5 => first | k_is | kernel_rfl)
    (case c5 => first | k_is | kernel_rfl)
    (case k5 => first | k_is | kernel_rfl)
    (case a6 => first | k_is | kernel_rfl)
    (case l6 => first | k_is | kernel_rfl)
    (case c6 => first | k_is | kernel_rfl)
    (case k6 => first | k_is | kernel_rfl)
    (case a7 => first | k_is | kernel_rfl)
    (case l7 => first | k_is | kernel_rfl)
    (case c7 => first | k_is | kernel_rfl)
    (case k7 => first | k_is | kernel_rfl)
    (case a8 => first | k_is | kernel_rfl)
    (case l8 => first | k_is | kernel_rfl)
    (case c8 => first | k_is | kernel_rfl)
    (case k8 => first | k_is | kernel_rfl)
    (case a9 => first | k_is | kernel_rfl)
    (case l9 => first | k_is | kernel_rfl)
    (case c9 => first | k_is | kernel_rfl)
    (case k9 => first | k_is | kernel_rfl)
    (case a10 => first | k_is | kernel_rfl)
    (case l10 => first | k_is | kernel_rfl)
    (case c10 => first | k_is | kernel_rfl)
    (case k10 => first | k_is | kernel_rfl)
    (case a11 => first | k_is | kernel_rfl)
    (case l11 => first | k_is | kernel_rfl)
    (case c11 => first | k_is | kernel_rfl)
    (case k11 => first | k_is | kernel_rfl)
    (case a12 => first | k_is | kernel_rfl)
    (case l12 => first | k_is | kernel_rfl)
    (case c12 => first | k_is | kernel_rfl)
    (case k12 => first | k_is | kernel_rfl)
    (case a13 => first | k_is | kernel_rfl)
    (case l13 => first | k_is | kernel_rfl)
    (case c13 => first | k_is | kernel_rfl)
    (case k13 => first | k_is | kernel_rfl)
    (case a14 => first | k_is | kernel_rfl)
    (case l14 => first | k_is | kernel_rfl)
    (case c14 => first | k_is | kernel_rfl)
    (case k14 => first | k_is | kernel_rfl)
    (case a15 => first | k_is | kernel_rfl)
    (case l15 => first | k_is | kernel_rfl)
    (case c15 => first | k_is | kernel_rfl)
    (case k15 => first | k_is | kernel_rfl)
    (case a16 => first | k_is | kernel_rfl)
    (case l16 => first | k_is | kernel_rfl)
    (case c16 => first | k_is | kernel_rfl)
    (case k16 => first | k_is | kernel_rfl)
    (case a17 => first | k_is | kernel_rfl)
    (case l17 => first | k_is | kernel_rfl)
    (case c17 => first | k_is | kernel_rfl)
    (case k17 => first | k_is | kernel_rfl)
    (case a18 => first | k_is | kernel_rfl)
    (case l18 => first | k_is | kernel_rfl)
    (case c18 => first | k_is | kernel_rfl)
    (case k18 => first | k_is | kernel_rfl)
    (case a19 => first | k_is | kernel_rfl)
    (case l19 => first | k_is | kernel_rfl)
    (case c19 => first | k_is | kernel_rfl)
    (case k19 => first | k_is | kernel_rfl)
    (case a20 => first | k_is | kernel_rfl)
    (case l20 => first | k_is | kernel_rfl)
    (case c20 => first | k_is | kernel_rfl)
    (case k20 => first | k_is | kernel_rfl)
    (case a21 => first | k_is | kernel_rfl)
    (case l21 => first | k_is | kernel_rfl)
    (case c21 => first | k_is | kernel_rfl)
    (case k21 => first | k_is | kernel_rfl)
    (case a22 => first | k_is | kernel_rfl)
    (case l22 => first | k_is | kernel_rfl)
    (case c22 => first | k_is | kernel_rfl)
    (case k22 => first | k_is | kernel_rfl)
    (case a23 => first | k_is | kernel_rfl)
    (case l23 => first | k_is | kernel_rfl)
    (case c23 => first | k_is | kernel_rfl)
    (case k23 => first | k_is | kernel_rfl)
    (case a24 => first | k_is | kernel_rfl)
    (case l24 => first | k_is | kernel_rfl)
    (case c24 => first | k_is | kernel_rfl)
    (case k24 => first | k_is | kernel_rfl)
    (case a25 => first | k_is | kernel_rfl)
    (case l25 => first | k_is | kernel_rfl)
    (case c25 => first | k_is | kernel_rfl)
    (case k25 => first | k_is | kernel_rfl)
    (case a26 => first | k_is | kernel_rfl)
    (case l26 => first | k_is | kernel_rfl)
    (case c26 => first | k_is | kernel_rfl)
    (case k26 => first | k_is | kernel_rfl)
    (case a27 => first | k_is | kernel_rfl)
    (case l27 => first | k_is | kernel_rfl)
    (case c27 => first | k_is | kernel_rfl)
    (case k27 => first | k_is | kernel_rfl)
    (case a28 => first | k_is | kernel_rfl)
    (case l28 => first | k_is | kernel_rfl)
    (case c28 => first | k_is | kernel_rfl)
    (case k28 => first | k_is | kernel_rfl)
    (case a29 => first | k_is | kernel_rfl)
    (case l29 => first | k_is | kernel_rfl)
    (case c29 => first | k_is | kernel_rfl)
    (case k29 => first | k_is | kernel_rfl)
    (case a30 => first | k_is | kernel_rfl)
    (case l30 => first | k_is | kernel_rfl)
    (case c30 => first | k_is | kernel_rfl)
    (case k30 => first | k_is | kernel_rfl)
    (case a31 => first | k_is | kernel_rfl)
    (case l31 => first | k_is | kernel_rfl)
    (case c31 => first | k_is | kernel_rfl)
    (case k31 => first | k_is | kernel_rfl)
    (case a32 => first | k_is | kernel_rfl)
    (case l32 => first | k_is | kernel_rfl)
    (case c32 => first | k_is | kernel_rfl)
    (case k32 => first | k_is | kernel_rfl)
    (case a33 => first | k_is | kernel_rfl)
    (case l33 => first | k_is | kernel_rfl)
    (case c33 => first | k_is | kernel_rfl)
    (case k33 => first | k_is | kernel_rfl)
    (case a34 => first | k_is | kernel_rfl)
    (case l34 => first | k_is | kernel_rfl)
    (case c34 => first | k_is | kernel_rfl)
    (case k34 => first | k_is | kernel_rfl)
    (case a35 => first | k_is | kernel_rfl)
    (case l35 => first | k_is | kernel_rfl)
    (case c35 => first | k_is | kernel_rfl)
    (case k35 => first | k_is | kernel_rfl)
    (case a36 => first | k_is | kernel_rfl)
    (case l36 => first | k_is | kernel_rfl)
    (case c36 => first | k_is | kernel_rfl)
    (case k36 => first | k_is | kernel_rfl)
    (case a37 => first | k_is | kernel_rfl)
    (case l37 => first | k_is | kernel_rfl)
    (case tDa37 => first | k_is | kernel_rfl)
    (case tDb37 => first | k_is | kernel_rfl)
    (case c37 => first | k_is | kernel_rfl)
    (case k37 => first | k_is | kernel_rfl)
    (case a38 => first | k_is | kernel_rfl)
    (case l38 => first | k_is | kernel_rfl)
    (case tDa38 => first | k_is | kernel_rfl)
    (case tDb38 => first | k_is | kernel_rfl)
    (case c38 => first | k_is | kernel_rfl)
    (case k38 => first | k_is | kernel_rfl)
    (case a39 => first | k_is | kernel_rfl)
    (case l39 => first | k_is | kernel_rfl)
    (case tDa39 => first | k_is | kernel_rfl)
    (case tDb39 => first | k_is | kernel_rfl)
    (case c39 => first | k_is | kernel_rfl)
    (case k39 => first | k_is | kernel_rfl)
    (case a40 => first | k_is | kernel_rfl)
    (case l40 => first | k_is | kernel_rfl)
    (case tDa40 => first | k_is | kernel_rfl)
    (case tDb40 => first | k_is | kernel_rfl)
    (case c40 => first | k_is | kernel_rfl)
    (case k40 => first | k_is | kernel_rfl)
    (case a41 => first | k_is | kernel_rfl)
    (case l41 => first | k_is | kernel_rfl)
    (case tDa41 => first | k_is | kernel_rfl)
    (case tDb41 => first | k_is | kernel_rfl)
    (case c41 => first | k_is | kernel_rfl)
    (case k41 => first | k_is | kernel_rfl)
    (case a42 => first | k_is | kernel_rfl)
    (case l42 => first | k_is | kernel_rfl)
    (case c42 => first | k_is | kernel_rfl)
    (case k42 => first | k_is | kernel_rfl)
    (case a43 => first | k_is | kernel_rfl)
    (case l43 => first | k_is | kernel_rfl)
    (case c43 => first | k_is | kernel_rfl)
    (case k43 => first | k_is | kernel_rfl)
    (case a44 => first | k_is | kernel_rfl)
    (case l44 => first | k_is | kernel_rfl)
    (case c44 => first | k_is | kernel_rfl)
    (case k44 => first | k_is | kernel_rfl)
    (case a45 => first | k_is | kernel_rfl)
    (case l45 => first | k_is | kernel_rfl)
    (case tDa45 => first | k_is | kernel_rfl)
    (case tDb45 => first | k_is | kernel_rfl)
    (case c45 => first | k_is | kernel_rfl)
    (case k45 => first | k_is | kernel_rfl)
    (case a46 => first | k_is | kernel_rfl)
    (case l46 => first | k_is | kernel_rfl)
    (case c46 => first | k_is | kernel_rfl)
    (case k46 => first | k_is | kernel_rfl)
    (case a47 => first | k_is | kernel_rfl)
    (case l47 => first | k_is | kernel_rfl)
    (case c47 => first | k_is | kernel_rfl)
    (case k47 => first | k_is | kernel_rfl)
    (case a48 => first | k_is | kernel_rfl)
    (case l48 => first | k_is | kernel_rfl)
    (case c48 => first | k_is | kernel_rfl)
    (case k48 => first | k_is | kernel_rfl)
    (case a49 => first | k_is | kernel_rfl)
    (case l49 => first | k_is | kernel_rfl)
    (case c49 => first | k_is | kernel_rfl)
    (case k49 => first | k_is | kernel_rfl)
    (case a50 => first | k_is | kernel_rfl)
    (case l50 => first | k_is | kernel_rfl)
    (case c50 => first | k_is | kernel_rfl)
    (case k50 => first | k_is | kernel_rfl)
    (case a51 => first | k_is | kernel_rfl)
    (case l51 => first | k_is | kernel_rfl)
    (case c51 => first | k_is | kernel_rfl)
    (case k51 => first | k_is | kernel_rfl)
    (case a52 => first | k_is | kernel_rfl)
    (case l52 => first | k_is | kernel_rfl)
    (case c52 => first | k_is | kernel_rfl)
    (case k52 => first | k_is | kernel_rfl)
    (case a53 => first | k_is | kernel_rfl)
    (case l53 => first | k_is | kernel_rfl)
    (case c53 => first | k_is | kernel_rfl)
    (case k53 => first | k_is | kernel_rfl)
    (case a54 => first | k_is | kernel_rfl)
    (case l54 => first | k_is | kernel_rfl)
    (case c54 => first | k_is | kernel_rfl)
    (case k54 => first | k_is | kernel_rfl)
    (case a55 => first | k_is | kernel_rfl)
    (case l55 => first | k_is | kernel_rfl)
    (case c55 => first | k_is | kernel_rfl)
    (case k55 => first | k_is | kernel_rfl)
    (case a56 => first | k_is | kernel_rfl)
    (case l56 => first | k_is | kernel_rfl)
    (case c56 => first | k_is | kernel_rfl)
    (case k56 => first | k_is | kernel_rfl)
    (case z0 => first | k_is | kernel_rfl)
    (case z1 => first | k_is | kernel_rfl)
    (case z2 => first | k_is | kernel_rfl)
    (case z3 => first | k_is | kernel_rfl)
    (case z4 => first | k_is | kernel_rfl)
    (case z5 => first | k_is | kernel_rfl)
    (case z6 => first | k_is | kernel_rfl)
    (case z7 => first | k_is | kernel_rfl)
    (case z8 => first | k_is | kernel_rfl)
    (case z9 => first | k_is | kernel_rfl)
    (case z10 => first | k_is | kernel_rfl)
    (case z11 => first | k_is | kernel_rfl)
    (case z12 => first | k_is | kernel_rfl)
    (case z13 => first | k_is | kernel_rfl)
    (case z14 => first | k_is | kernel_rfl)
    (case z15 => first | k_is | kernel_rfl)
    (case z16 => first | k_is | kernel_rfl)
    (case z17 => first | k_is | kernel_rfl)
    (case z18 => first | k_is | kernel_rfl)
    (case z19 => first | k_is | kernel_rfl)
    (case z20 => first | k_is | kernel_rfl)
    (case m_MOST_WIDTH => first | k_is | kernel_rfl)
    (case m_MOST_LETTERS => first | k_is | kernel_rfl)
    (case m_LETTERS => first | k_is | kernel_rfl)
    (case m_NO_NAMES => first | k_is | kernel_rfl)
    (case t_NO_NAMES => first | k_is | kernel_rfl)
    (case m_ENDS => first | k_is | kernel_rfl)
    (case t_ENDS => first | k_is | kernel_rfl)
    (case m_MOST_FREE => first | k_is | kernel_rfl)
    (case m_ALL => first | k_is | kernel_rfl)
    (case aC => first | k_is | kernel_rfl)
    (case pg => first | k_is | kernel_rfl)
    (case hd => first | k_is | kernel_rfl)
    (case po => first | k_is | kernel_rfl)
    (case sa => first | k_is | kernel_rfl)
    (case mk => first | k_is | kernel_rfl)
    (case kc => first | k_is | kernel_rfl)
    (case sf => first | k_is | kernel_rfl)
    (case nf0 => first | k_is | kernel_rfl)
    (case nf1 => first | k_is | kernel_rfl)
    (case cn0 => first | k_is | kernel_rfl)
    (case cg0 => first | k_is | kernel_rfl)
    (case am0 => first | k_is | kernel_rfl)
    (case im0 => first | k_is | kernel_rfl)
    (case lm0 => first | k_is | kernel_rfl)
    (case cm0 => first | k_is | kernel_rfl)
    (case km0 => first | k_is | kernel_rfl)
    (case tI => first | k_is | kernel_rfl)
    (case am1 => first | k_is | kernel_rfl)
    (case im1 => first | k_is | kernel_rfl)
    (case lm1 => first | k_is | kernel_rfl)
    (case cm1 => first | k_is | kernel_rfl)
    (case km1 => first | k_is | kernel_rfl)
    (case am2 => first | k_is | kernel_rfl)
    (case im2 => first | k_is | kernel_rfl)
    (case lm2 => first | k_is | kernel_rfl)
    (case cm2 => first | k_is | kernel_rfl)
    (case km2 => first | k_is | kernel_rfl)
    (case am3 => first | k_is | kernel_rfl)
    (case im3 => first | k_is | kernel_rfl)
    (case lm3 => first | k_is | kernel_rfl)
    (case cm3 => first | k_is | kernel_rfl)
    (case km3 => first | k_is | kernel_rfl)
    (case am4 => first | k_is | kernel_rfl)
    (case im4 => first | k_is | kernel_rfl)
    (case lm4 => first | k_is | kernel_rfl)
    (case cm4 => first | k_is | kernel_rfl)
    (case km4 => first | k_is | kernel_rfl)
    (case apW => first | k_is | kernel_rfl)
    (case gpW => first | k_is | kernel_rfl)
    (case tpW => first | k_is | kernel_rfl)
    (case rpW => first | k_is | kernel_rfl)
    (case lmW => first | k_is | kernel_rfl)
    (case cmW => first | k_is | kernel_rfl)
    (case kmW => first | k_is | kernel_rfl)
    (case icA => first | k_is | kernel_rfl)
    (case icN => first | k_is | kernel_rfl)
    (case icT => first | k_is | kernel_rfl)
    (case icM => first | k_is | kernel_rfl)
    (case neF => first | k_is | kernel_rfl)
  case hC =>
    simp only [List.mem_cons, List.not_mem_nil, or_false] at hp
    rcases hp with rfl <;> kernel_rfl

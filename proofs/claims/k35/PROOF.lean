import PyProof.Rows.All
import Wide.All
import OpenK.AllK
import Wide.FinOn
import HandS.IntHex
import HandS.FStr
import HandS.StrMore
import KE.KxField
import PyProof.Rows.StrPadFill
import HandS.Iter
import HandS.Walk
import PyProof.Draws
import PyProof.EnumMake
import PyProof.TupleIter
import KE.KDictList
import HandS.Base
import HandS.Call
import HandS.List
import HandS.Dict
import HandS.More
import HandS.Comp
import HandS.DictComp
import HandS.Exc
import HandS.ExcSuper
import KE.KExcPX
import KE.KExcSuper
import HandS.Nested
import HandS.ExcInit
import KE.KDictZip
import HandS.Conv
import HandS.ForMost
import HandS.IsInst
import HandS.WideBits
import HandS.Codes
import KE.SortKeyHeap
import HandS.SortKw
import HandS.Flow
import HandS.Star
import HandS.Property
import HandS.MakeKw
import PyProof.DictUpdate
import PyProof.DictDisplay
import KE.DataMinKey
import PyProof.ZipIter
import HandS.Zip0
import KE.KEqDict
import PyProof.P3Eq
import PyProof.ReprBulk
import PyProof.InstNe
import PyProof.InstSpecial
import PyProof.ReprNest
import PyProof.ReprReads
import PyProof.ReprDict
import HandS.DictTup
import KE.SortData
import HandS.ListItems
import HandS.Lambda
import HandS.ExcField
import HandS.ExcIs
import KE.KExcIs
import HandS.EndTab
import KE.KNestM
import HandS.WordsDict
import HandS.Style
import HandS.Small
import HandS.Text
import HandS.FStrTup
import PyProof.ReprLen
import HandS.SetKeys
import PySem.Challenge.RW_coverways_k35_whole_packs_told
set_option Elab.async false
set_option linter.all false
set_option maxRecDepth 100000
set_option maxHeartbeats 2000000
namespace L2
open PySem PySem.Spec PyProof.Rows
/-- s.ljust(n, c), a sign c -/
def rLj2 : V → List V → Hp → VK → Prop := fun x xs H Q => ∃ (a : Str) (i : Int) (f : Str), x = .str a ∧ xs = [.int i, .str f] ∧ PadOk i = true ∧ f.length = 1 ∧ Q (.str (Txt.ljustF a i (f.cps.getD 0 0))) H
theorem mt_ljust2 {X : Cx} : MtR X "str.ljust" rLj2 := by
  intro pins s σ H x xs v us Q I rx rs h
  obtain ⟨a, i, f, rfl, rfl, hp, hf, h⟩ := h
  obtain ⟨t, rfl⟩ := rx
  obtain ⟨u1, u2, rfl, r1, r2⟩ := vals2 rs
  obtain ⟨t1, rfl⟩ := r1
  obtain ⟨t2, rfl⟩ := r2
  exact ljust_fill hp hf fun t' k => ⟨.str (Txt.ljustF a i (f.cps.getD 0 0)), H, I.tok k, ⟨t', rfl⟩, h⟩
end L2
namespace PySem
open Sem (wp)
open AutoSeq1 (wpAny_loadPart')
namespace E1
theorem made_t (l : Addr) (xs : Array Value) (n : Nat) (dd : Option Addr) (sl : Array (Option Value)) :
    Meets (Builtin.«enumerate.__new__» ⟨[.type "enumerate", .ref l], []⟩) (fun _ R s => s.heap.get? l = some { cls := .type "tuple", dict := dd, data := .seq xs n, slots := sl } ∧
      R (.ok (.ret (.ref (s.heap.push { cls := .type "tuple_iterator", data := .fields #[.ref l, .int 0 0] }).objs.size)))
        { s with heap := (s.heap.push { cls := .type "tuple_iterator", data := .fields #[.ref l, .int 0 0] }).push { cls := .type "enumerate", data := .fields #[.none, .bool false, .ref s.heap.objs.size, rawInt 0, .none, .none] } }) :=
  .of_wp fun prog w A R s h => by
    obtain ⟨hp, g, d, tk, os⟩ := s
    obtain ⟨h1, h⟩ := h
    have hsub := sub_enumerate
    have hT : Heap.IsTuple (Shared.heap ⟨hp, g, d, tk, os⟩) l xs := ⟨_, h1, rfl, n, rfl⟩
    wp_walk using wpAny_loadPart' h1
    refine wpAny_stack_any fun st => wpAny_pure ?_
    split
    · rename_i c _ _ _ _ _
      cases (c == Value.type "enumerate")
      · wp_walk using wpAny_loadPart' h1, wpAny_pyIter_tuple hT
        exact ⟨_, rfl, h⟩
      · wp_walk using wpAny_loadPart' h1, wpAny_pyIter_tuple hT
        exact ⟨_, rfl, h⟩
    · wp_walk using wpAny_loadPart' h1, wpAny_pyIter_tuple hT
      exact ⟨_, rfl, h⟩
section
variable {prog : Program} {w : World} {A : Around} {E : Value → Shared → Prop} {s : Shared}
theorem next_t {it t : Addr} {i : Nat} {xs : Array Value} {x : Value} {Q : Value → Shared → Prop} (g : s.heap.IsTupleIter it t i) (k : s.heap.IsTuple t xs) (hx : xs[i]? = some x)
    (q : ∀ h', h'.IsTupleIter it t (i + 1) → Heap.SameBut it s.heap h' → Q x { s with heap := h' }) : wpAny (model prog w) A (Builtin.SmallTypes.nextOf (.ref it)) Q E s := by
  obtain ⟨o, e1, e2, e3⟩ := id g
  obtain ⟨u, k1, _, m, k2⟩ := k
  unfold Builtin.SmallTypes.nextOf
  refine wpAny_bind (wpAny_callSpecial?_slot (name := Str.ofString "__next__") g.typeIs F.slot_tuple_iterator_next (wpAny_call_entry F.slot_tuple_iterator_next g.typeIs
    F.entry_tuple_iterator_next ?_ (F.args_tuple_iterator_next_1 _)))
  show wpAny _ _ (field (.ref it) 0 >>= _) _ _ s; refine wpAny_bind (wpAny_field e1 e3 (x := .ref t) rfl ?_)
  show wpAny _ _ (ite ((Value.ref t == Value.none) = true) _ _) _ _ s
  rw [show (Value.ref t == Value.none) = false from rfl, if_neg Bool.false_ne_true]
  show wpAny _ _ (field (.ref it) 1 >>= _) _ _ s; refine wpAny_bind (wpAny_field e1 e3 (x := .int i 0) rfl ?_)
  show wpAny _ _ (seqItems? (.ref t) >>= _) _ _ s; refine wpAny_bind (wpAny_seqItems k1 k2 ?_)
  simp only [Int.toNat_natCast, hx]
  refine wpAny_bind (wpAny_setField e1 e3 (by simp) (wpAny_pure ⟨x, rfl, wpAny_pure (q _ ?_ (Heap.SameBut.update ..))⟩))
  exact ⟨_, Heap.get?_update_self _ e1 (Obj.isFreed_of_fields (Obj.data_mapFields e3 _)), (Obj.cls_mapFields ..).trans e2, by rw [Obj.data_mapFields e3]; simp [rawInt]⟩
theorem stop_t {it t : Addr} {i : Nat} {xs : Array Value} {Q : Value → Shared → Prop} (hh : A.handled = none) (g : s.heap.IsTupleIter it t i) (k : s.heap.IsTuple t xs) (hx : xs[i]? = none)
    (q : ∀ h' e, Heap.ExtBut it s.heap h' → (∃ o, h'.get? e = some o ∧ o.cls = .type "StopIteration") → E (.ref e) { s with heap := h' }) : wpAny (model prog w) A (Builtin.SmallTypes.nextOf (.ref it)) Q E s := by
  obtain ⟨o, e1, e2, e3⟩ := id g
  obtain ⟨u, k1, _, m, k2⟩ := k
  unfold Builtin.SmallTypes.nextOf
  refine wpAny_bind (wpAny_callSpecial?_slot (name := Str.ofString "__next__") g.typeIs F.slot_tuple_iterator_next (wpAny_call_entry F.slot_tuple_iterator_next g.typeIs
    F.entry_tuple_iterator_next ?_ (F.args_tuple_iterator_next_1 _)))
  show wpAny _ _ (field (.ref it) 0 >>= _) _ _ s; refine wpAny_bind (wpAny_field e1 e3 (x := .ref t) rfl ?_)
  show wpAny _ _ (ite ((Value.ref t == Value.none) = true) _ _) _ _ s
  rw [show (Value.ref t == Value.none) = false from rfl, if_neg Bool.false_ne_true]
  show wpAny _ _ (field (.ref it) 1 >>= _) _ _ s; refine wpAny_bind (wpAny_field e1 e3 (x := .int i 0) rfl ?_)
  show wpAny _ _ (seqItems? (.ref t) >>= _) _ _ s; refine wpAny_bind (wpAny_seqItems k1 k2 ?_)
  simp only [Int.toNat_natCast, hx]
  refine wpAny_bind (wpAny_rule (wpAny_bind (wpAny_setField e1 e3 (by simp) ?_)))
  show wpAny _ _ (newExc (.type "StopIteration") [] >>= _) _ _ _; refine wpAny_bind ?_
  simp only [newExc, newTuple]
  refine wpAny_bind (wpAny_newObj_type ?_ (by size_fits)); refine wpAny_bind (m := firstArgMember _ _) (wpAny_of_eq (a := Value.none) (by first | rfl | (simp only [firstArgMember]; rfl)) ?_)
  refine wpAny_newObj_type ?_ (by size_fits); simp only [raiseNew]; refine wpAny_bind (wpAny_handled ?_)
  first | rw [show A.in1.handled = none from hh] | rw [hh]
  refine wpAny_bind (wpAny_pure (wpAny_throw ?_)); exact q _ _ (((Heap.SameBut.update ..).extBut.push _).push _) ⟨_, Heap.get?_push_size _ rfl, rfl⟩
theorem tup_at {h h' : Heap} {t : Addr} {xs : Array Value} (k : h.IsTuple t xs) (e : ∀ o, h.get? t = some o → h'.get? t = some o) : h'.IsTuple t xs :=
  let ⟨o, a, r⟩ := k; ⟨o, e o a, r⟩
theorem draws_t (hh : A.handled = none) (it t : Addr) (hne : t ≠ it) (xs : Array Value) :
    Draws prog w A it [it, t] xs.size (fun i v => xs[i]? = some v) (fun i h => h.IsTupleIter it t i ∧ h.IsTuple t xs) where
  live := fun _ _ st => let ⟨o, ho, _⟩ := st.1; ⟨o, ho⟩
  frame := fun _ _ _ st hk => ⟨st.1.at fun o e => hk it (by simp) o e, tup_at st.2 fun o e => hk t (by simp) o e⟩
  item := fun i s Q E hi st hQ => by
    refine next_t st.1 st.2 (x := xs[i]) (by simp [hi]) fun h' a b => ?_
    exact hQ _ h' s.toks (by simp [hi]) ⟨a, st.2.extBut b.extBut hne⟩ b
  done := fun s Q E st hE => stop_t hh st.1 st.2 (by simp) hE
theorem call_t {t : Addr} {xs : Array Value} {Q : Value → Shared → Prop} (k : s.heap.IsTuple t xs)
    (h : ∀ h', IsEnum h' (s.heap.objs.size + 1) s.heap.objs.size 0 .none → h'.IsTupleIter s.heap.objs.size t 0 → h'.objs.size = s.heap.objs.size + 2 →
      (∀ b o, s.heap.get? b = some o → h'.get? b = some o) → Q (.ref (s.heap.objs.size + 1)) { s with heap := h' }) : wpAny (model prog w) A (call (.type "enumerate") [.ref t]) Q E s := by
  obtain ⟨⟨c, dd, dt, sl⟩, e1, e2, n, e3⟩ := k
  obtain rfl : c = .type "tuple" := e2
  obtain rfl : dt = .seq xs n := e3
  refine callType_new F.called_enumerate (by decide) (F.typeCall_enumerate_1 _) (F.newCall_enumerate_1 _) (fun obj => F.args_object_init_2 obj _)
    F.entry_enumerate_new (made_t t xs n dd sl) ⟨e1, ?_⟩
  have z1 : (s.heap.push { cls := .type "tuple_iterator", data := .fields #[.ref t, .int 0 0] }).objs.size = s.heap.objs.size + 1 := Heap.size_push ..
  show _ ∧ _
  rw [z1]
  have z2 := Heap.get?_push_size (s.heap.push { cls := .type "tuple_iterator", data := .fields #[.ref t, .int 0 0] }) (o := { cls := .type "enumerate", data := .fields #[.none, .bool false, .ref s.heap.objs.size, rawInt 0, .none, .none] }) rfl
  rw [z1] at z2
  exact ⟨⟨_, z2, rfl⟩, h _ z2 ⟨_, Heap.get?_push_of_some _ (Heap.get?_push_size _ rfl), rfl, rfl⟩ (by rw [Heap.size_push, z1]) fun b o y => Heap.get?_push_of_some _ (Heap.get?_push_of_some _ y)⟩
end
end E1
end PySem
namespace L2
open PySem PySem.Spec PyProof.Rows
/-- the tuple at a, its items in new pairs behind their numbers -/
def IteT (K : PySem.W.Frag) (a : Addr) : It :=
  ⟨fun i H => ∃ (xs : List V) (x : V), SqT K H a xs ∧ xs[i]? = some x, fun i H v H' => ∃ T x, v = .ref T ∧ H T = none ∧ H' = upd H T (.tup [.int (i : Nat), x]) ∧ ∀ xs, SqT K H a xs → xs[i]? = some x,
    fun i H => ∃ xs : List V, SqT K H a xs ∧ xs.length ≤ i⟩
theorem turn_enumT {P : Program} {w : World} {K : PySem.W.Frag} {elts : List Expr} {kk : Nat} {tpos : Pos} (a e it : Addr) (hai : a ≠ it) (hae : a ≠ e) :
    Turn P w K (.Tuple elts kk tpos) (IteT K a) [e, it] e (fun i h => (∃ old, IsEnum h e it ((i : Nat) : Int) old) ∧ h.IsTupleIter it a i ∧ e ≠ it) where
  mem := by simp
  obj := fun i h st b hb => by
    obtain ⟨⟨old, q1⟩, ⟨o, q2, _, q3⟩, _⟩ := st
    rcases (show b = e ∨ b = it by simpa using hb) with z | z
    · rw [z]; exact ⟨_, q1, fun v q => nomatch q⟩
    · rw [z]; exact ⟨o, q2, fun v q => by rw [q3] at q; cases q⟩
  keep := fun i h h' st k => let ⟨⟨old, q1⟩, q2, q3⟩ := st; ⟨⟨old, k e (by simp) _ q1⟩, q2.at fun o q => k it (by simp) o q, q3⟩
  item := by
    intro X hP hw hK hc i pins s σ H E I hf st hg
    subst hP hw hK
    obtain ⟨⟨old, q1⟩, q2, q3⟩ := st
    obtain ⟨xs, x, hq, hx⟩ := hg
    obtain ⟨its, rv, p, hz⟩ := I.tuple hq
    obtain ⟨u, hu, ru⟩ := rv.get hx
    have p' : s.heap.IsTuple a its.toArray := p
    have l1 : e < s.heap.objs.size := Heap.lt_size q1
    have l2 : it < s.heap.objs.size := by obtain ⟨_, q, _⟩ := q2; exact Heap.lt_size q
    have hlt : i < its.toArray.size := by
      have := (List.getElem?_eq_some_iff.mp hu).1
      simpa using this
    refine wpAny_pyNext_enum_itemD (E1.draws_t (A := X.A.in1) (I.ok.hd hc) it a hai its.toArray) q1 ⟨q2, p'⟩ hlt q3 (by simp [q3, Ne.symm hae]) fun y h' tk hy ho st' hT hsz hk => ?_
    obtain rfl : y = u := by
      have e1 : its.toArray[i]? = some u := by simpa using hu
      exact Option.some.inj (hy.symm.trans e1)
    refine ⟨_, rfl, wpAny_letOwnedTupleGo_enum (s := { s with heap := h', toks := tk + 1 }) ho fun h'' he' sb => ?_⟩
    have hT2 : h''.get? s.heap.objs.size = some { cls := .type "tuple", data := .seq #[.int i tk, y] } := (sb.2 _ (Nat.ne_of_gt l1)).trans hT
    have new : ObjOk X.prog X.w (upd H s.heap.objs.size (.tup [.int (i : Nat), x])) h'' s.heap.objs.size (.tup [.int (i : Nat), x]) :=
      ⟨by show 2 ≤ sizeLine; decide, [.int i tk, y], .cons ⟨_, rfl⟩ (.cons ru .nil), ⟨_, hT2, rfl, _, rfl⟩⟩
    have I1 : Inv X pins σ (upd H s.heap.objs.size (.tup [.int (i : Nat), x])) { s with heap := h'', toks := tk + 1 } :=
      I.turnedNew (ch := [e, it]) (fun b ob hb q => (sb.2 b (fun z => hb (by simp [z]))).trans (hk b ob (fun z => hb (by simp [z])) (fun z => hb (by simp [z])) q)) hf (Nat.le_refl _) new
    refine ⟨.ref s.heap.objs.size, _, I1, rfl, ⟨_, x, rfl, I.hok.fresh (Nat.le_refl _), rfl, fun ys hy => by rw [I.tuple_inj hy hq]; exact hx⟩, ⟨⟨y, ?_⟩, st'.1.at fun o q => (sb.2 it (Ne.symm q3)).trans q, q3⟩, fun b hb => ?_⟩
    · rw [show ((i + 1 : Nat) : Int) = (i : Int) + 1 by omega]
      exact he'
    · have hb' : b < s.heap.objs.size := by
        rcases (show b = e ∨ b = it by simpa using hb) with z | z
        · rw [z]; exact l1
        · rw [z]; exact l2
      rw [upd_ne (Nat.ne_of_lt hb')]
      exact (hf b hb).1
  done := by
    intro X hP hw hK hc i pins s σ H E I hf st hg
    subst hP hw hK
    obtain ⟨⟨old, q1⟩, q2, q3⟩ := st
    obtain ⟨xs, hq, hx⟩ := hg
    obtain ⟨its, rv, p, hz⟩ := I.tuple hq
    have p' : s.heap.IsTuple a its.toArray := p
    obtain ⟨f0, f1, f2, f3, f4, f5⟩ := hf it (by simp)
    have hl := rv.length
    have hT : s.TypeIs (.ref e) "enumerate" := ⟨_, q1, rfl⟩
    unfold pyNext; refine wpAny_bind (wpAny_attempt (wpAny_callSpecial?_slot (name := Str.ofString "__next__") hT F.slot_enumerate_next (wpAny_call_entry F.slot_enumerate_next hT F.entry_enumerate_next ?_ (F.args_enumerate_next_1 _))))
    show wpAny _ _ (field (.ref e) 2 >>= _) _ _ _; refine wpAny_bind (wpAny_field q1 rfl (x := .ref it) rfl ?_)
    refine wpAny_bind (E1.stop_t (A := X.A.in1) (I.ok.hd hc) q2 p' (by simp; omega) fun h' y eb hy => ?_)
    obtain ⟨o, o1, o2⟩ := hy
    refine wpAny_bind (wpAny_isInstance (T := "StopIteration") (b := true) ⟨o, o1, o2⟩ isSubtype_stop ?_)
    exact wpAny_pure ⟨rfl, I.turned (t' := s.toks) (fun b o hb q => eb b o hb q) f0 f1 f3 f4 f5⟩
  self := fun A i s Q E st h => let ⟨⟨_, he⟩, _⟩ := st; wpAny_pyIter_enum he h
def iEnumA (K : PySem.W.Frag) (ta : TA) : TI := fun σ H R => ta σ H fun vs H1 => ∃ a xs, vs = [.ref a] ∧ ((SqL K H1 a xs ∧ R (Ite K a) H1) ∨ (SqT K H1 a xs ∧ R (IteT K a) H1))
theorem pi_enumA {X : Cx} {e : Expr} {ta : TA} {p pos tpos : Pos} {elts : List Expr} {kk : Nat} (hg : Gl X "enumerate") (hm : X.mg "enumerate" = none) (ha : PA X [e] ta) (hs : starEach [e] X.env = [(false, eval e X.env)] := by rfl) :
    PI X (.Tuple elts kk tpos) (.Call (.Name "enumerate" p) [e] [] pos) (iEnumA X.K ta) := by
  refine ⟨fun pins s σ H R I h => ?_⟩
  refine Call_ (ld_blt I hg hm boot_enumerate (PyProof.Rows.callWith_type1 (thn (ha.run pos pins s σ H _ I h) fun us s1 ⟨vs, H1, I1, r1, q1⟩ => ?_) hs rfl))
  obtain ⟨a, xs, rfl, q1⟩ := q1
  cases r1 with
  | cons r rr =>
    cases rr
    cases r
    rcases q1 with ⟨hq, q⟩ | ⟨hq, q⟩
    · obtain ⟨its, rv, p', hz⟩ := I1.list hq
      refine call_enumerate_list p'.isList fun h' q1 q2 hsz hk => wpAny_pyIter_enum q1 ?_
      have I2 : Inv X pins σ H1 { s1 with heap := h' } := I1.kept (t' := s1.toks) hk
      refine ⟨s1.heap.objs.size + 1, [s1.heap.objs.size + 1, s1.heap.objs.size], _, _, H1, rfl, I2, turn_enum a (s1.heap.objs.size + 1) s1.heap.objs.size, ⟨⟨.none, q1⟩, q2, Nat.succ_ne_self _⟩, fun b hb => ?_, q⟩
      have hle : s1.heap.objs.size ≤ b := by
        rcases (show b = s1.heap.objs.size + 1 ∨ b = s1.heap.objs.size by simpa using hb) with z | z <;> (rw [z]; first | exact Nat.le_add_right _ _ | exact Nat.le_refl _)
      exact I1.fpOk hle (I1.hok.fresh hle)
    · obtain ⟨its, rv, p', hz⟩ := I1.tuple hq
      have p2 : s1.heap.IsTuple a its.toArray := p'
      have l0 : a < s1.heap.objs.size := by obtain ⟨o, e1, _⟩ := p2; exact Heap.lt_size e1
      refine E1.call_t p2 fun h' q1 q2 hsz hk => wpAny_pyIter_enum q1 ?_
      have I2 : Inv X pins σ H1 { s1 with heap := h' } := I1.kept (t' := s1.toks) hk
      refine ⟨s1.heap.objs.size + 1, [s1.heap.objs.size + 1, s1.heap.objs.size], _, _, H1, rfl, I2, turn_enumT a (s1.heap.objs.size + 1) s1.heap.objs.size (Nat.ne_of_lt l0) (Nat.ne_of_lt (Nat.lt_succ_of_lt l0)), ⟨⟨.none, q1⟩, q2, Nat.succ_ne_self _⟩, fun b hb => ?_, q⟩
      have hle : s1.heap.objs.size ≤ b := by
        rcases (show b = s1.heap.objs.size + 1 ∨ b = s1.heap.objs.size by simpa using hb) with z | z <;> (rw [z]; first | exact Nat.le_add_right _ _ | exact Nat.le_refl _)
      exact I1.fpOk hle (I1.hok.fresh hle)
theorem walk_enumT {K : PySem.W.Frag} {a : Addr} {xs : List V} : L2.Walk (IteT K a) xs.length (fun H => SqT K H a xs) (YPair (fun i => some (.int (i : Nat))) (fun i => xs[i]?)) := by
  refine ⟨fun i _ hi q => ⟨xs, xs[i], q, by simp [hi]⟩, fun _ q => ⟨xs, q, Nat.le_refl _⟩, fun i H v H' _ q y => ?_⟩
  obtain ⟨T, x, h1, h2, h3, h4⟩ := y
  exact ⟨T, .int (i : Nat), x, h1, h2, h3, rfl, h4 xs q⟩
end L2
namespace L2
open PySem PySem.Spec PyProof.Rows
section
variable {X : Cx}
/-- name = {..} on one line, the name a local -/
theorem ps_setDc {i : Nat} {y : Str} {py : Pos} {kx vx tg iter : Expr} {ifs : List Expr} {scope : Scope} {own : List (Str × Nat)} {pos spos : Pos} {wi : TI} {g : TG} {tt : TT} {tk tv : TE} (hc : X.calm = true) (hN : X.N.Nodup) (hy : X.N[i]? = some y) (hyl : X.env.scope.names.lookup y = some .local)
    (hsw : swapsWith (.DictComp kx vx [⟨tg, iter, ifs, 0⟩] scope pos) (some (.Name y py)) spos.line X.env = pure true) (hi : PI X tg iter wi) (ok : BlkOk X.N X.env.scope scope own)
    (hg : ∀ (s : Shared) (H : Hp) (C : Addr) (cl : List (Str × Addr)) (fp : List Addr), PG (X.blk s H scope (compEnvC scope cl C X.env) fp) tg g) (ht : ∀ (s : Shared) (H : Hp) (C : Addr) (cl : List (Str × Addr)) (fp : List Addr), PTs (X.blk s H scope (compEnvC scope cl C X.env) fp) ifs tt)
    (hk : ∀ (s : Shared) (H : Hp) (C : Addr) (cl : List (Str × Addr)) (fp : List Addr), PE (X.blk s H scope (compEnvC scope cl C X.env) fp) kx tk) (he : ∀ (s : Shared) (H : Hp) (C : Addr) (cl : List (Str × Addr)) (fp : List Addr), PE (X.blk s H scope (compEnvC scope cl C X.env) fp) vx tv)
    (hs : ∀ x, foldedSetIterable iter X.env x = pure x := by intro _; rfl) : PS X (.Assign [.Name y py] (.DictComp kx vx [⟨tg, iter, ifs, 0⟩] scope pos) spos) (tAsg (tDc wi g tt tk tv (own.map (·.2))) (gName i)) := by
  refine ⟨fun pins s σ H D I h => ?_⟩
  rw [exec_Assign_Name_used _ _ _ _ hsw]; refine wpAny_bind (wpAny_standAt (wpAny_bind ?_))
  show wpAny _ X.A (do let _ ← comprehension (.DictComp kx vx [⟨tg, iter, ifs, 0⟩] scope pos) scope X.env (firstIterPos [⟨tg, iter, ifs, 0⟩] pos) newDict false (eval iter X.env) (some (assign (.Name y py) X.env))) _ _ s
  have h : tDc wi g tt tk tv (own.map (·.2)) σ H (fun x H1 => gName i x σ H1 D.nx) := h
  refine wpAny_bind (thn (dc_core (Qf := fun _ s' => SP X pins D .next s') hc hN I hi ok hg ht hk he hs h fun L C s' m H' I' q hn f => ?_) fun _ s' hq => wpAny_pure (wpAny_pure hq))
  show wpAny _ _ (assign (.Name y py) X.env (.ref L)) _ _ _
  refine wpAny_assign_Name (store_ok2 (v := V.ref L) I' hN hy (.inl hyl) rfl (fun s2 I2 ⟨a, sb, ha⟩ => ?_) (.inr hyl))
  obtain ⟨f0, f1, f2, f3, f4, f5⟩ := f
  have haC : C ≠ a := ha.elim (fun z => z ▸ f1) fun z e => f4 y a z e.symm
  exact ⟨m, hn.sameBut sb haC, fun h3 sb3 => ⟨_, H', I2.turned (t' := s2.toks) (fun b o hb e => (sb3.2 b hb).trans e) f0 f1 f3 f4 f5, q⟩⟩
theorem sw_trueD {kx vx : Expr} {gs : List Comprehension} {scope : Scope} {pos py : Pos} {y : Str} {l : Nat} {env : Env} (hk : env.scope.kind = .function) (hy : env.scope.names.lookup y = some .local) (hl : (py.line == pos.line) = true)
    (ha : (scope.names.any fun (n, k) => n == y && (k == .local || k == .cell)) = false) : swapsWith (.DictComp kx vx gs scope pos) (some (.Name y py)) l env = pure true := by
  have k1 : env.kindOf y = some .local := hy
  have k2 : env.blockKind = .function := by unfold Env.blockKind; rw [hk]; rfl
  unfold swapsWith
  simp only [k1, k2, ha, Expr.pos, hl]
  rfl
end
end L2
namespace PySem
end PySem
namespace L2
open PySem PySem.Spec PyProof.Rows
def enK {α : Type} : Nat → List α → List (Key × α)
  | _, [] => []
  | i, x :: r => (Sum.inl (i : Int), x) :: enK (i + 1) r
theorem enK_len {α : Type} : ∀ (n : Nat) (l : List α), (enK n l).length = l.length
  | _, [] => rfl
  | n, x :: r => by rw [enK, List.length_cons, List.length_cons, enK_len (n + 1) r]
theorem enK_at {α : Type} : ∀ {l : List α} {n i : Nat} {x : α}, l[i]? = some x → (enK n l)[i]? = some (Sum.inl ((n + i : Nat) : Int), x)
  | [], _, _, _, h => by cases h
  | y :: r, n, 0, x, h => by
    have : y = x := Option.some.inj h
    subst this
    rfl
  | y :: r, n, i + 1, x, h => by
    have h2 : r[i]? = some x := h
    have := enK_at (n := n + 1) h2
    show (enK (n + 1) r)[i]? = _
    rw [this, show n + 1 + i = n + (i + 1) by omega]
theorem enK_kv : ∀ {xs : List V} {us : List Value} (n : Nat), Vals xs us → KV (enK n xs) (enK n us)
  | _, _, n, .nil => .nil
  | _, _, n, .cons a b => .cons ⟨rfl, a⟩ (enK_kv (n + 1) b)
/-- a dict of some contents -/
def tDE (K : PySem.W.Frag) (ta : TA) : TE := fun σ H Q => ta σ H fun vs H1 => ∃ (a : Addr) (xs : List V), vs = [.ref a] ∧ SqL K H1 a xs ∧ ∀ p kvs, H1 p = none → Q (.ref p) (upd H1 p (.dK kvs))
theorem pe_dictEnum {X : Cx} {e : Expr} {ta : TA} {p p0 pos pos2 : Pos} (hc : X.calm = true) (hgd : Gl X "dict") (hmd : X.mg "dict" = none) (hg : Gl X "enumerate") (hm : X.mg "enumerate" = none) (ha : PA X [e] ta) (hs : starEach [e] X.env = [(false, eval e X.env)] := by rfl)
    (na : starEach [.Call (.Name "enumerate" p) [e] [] pos] X.env = (false, eval (.Call (.Name "enumerate" p) [e] [] pos) X.env) :: starEach [] X.env := by rfl) :
    PE X (.Call (.Name "dict" p0) [.Call (.Name "enumerate" p) [e] [] pos] [] pos2) (tDE X.K ta) := by
  refine ⟨fun pins s σ H Q I h => ?_⟩
  refine Call_ (ld_blt I hgd hmd boot_dict (PyProof.Rows.callWith_type1 (args_cons (Call_ (ld_blt I hg hm boot_enumerate (PyProof.Rows.callWith_type1 (thn (ha.run pos pins s σ H _ I h) fun us s1 ⟨vs, H1, I1, r1, q1⟩ => ?_) hs rfl))) na) na))
  obtain ⟨a, xs, rfl, hq, q⟩ := q1
  cases r1 with
  | cons r rr =>
  cases rr
  cases r
  obtain ⟨its, rv, p', hz⟩ := I1.list hq
  refine call_enumerate_list p'.isList fun h' q1 q2 hsz hk => args_nil ?_
  have I2 : Inv X pins σ H1 { s1 with heap := h' } := I1.kept (t' := s1.toks) hk
  have la : a < s1.heap.objs.size := by obtain ⟨o, e1, _⟩ := p'.isList; exact Heap.lt_size e1
  have l1 : h'.IsList a its.toArray := let ⟨o, e1, r⟩ := p'.isList; ⟨o, hk _ _ e1, r⟩
  have hlen := rv.length
  have hz2 : its.length ≤ sizeLine := by omega
  refine PySem.call_dict_pairs (knd := mixKind X.prog X.w) (kvs := enK 0 its) (PairArg.enumerate (s1.heap.objs.size + 1) s1.heap.objs.size a (Nat.succ_ne_self _) (Nat.ne_of_lt (Nat.lt_succ_of_lt la)) (Nat.ne_of_lt la) its.toArray) (I.ok.hd hc) ⟨⟨_, q1⟩, q2, l1⟩ ⟨by rw [enK_len]; simp, fun i key v hv => ?_⟩ (by simpa using hz2) fun h'' tk hd' k => ?_
  · obtain ⟨⟨t, rfl⟩, hv⟩ := hv
    have hv2 : its[i]? = some v := by simpa using hv
    have e := enK_at (n := 0) hv2
    rw [Nat.zero_add] at e
    exact ⟨_, e, mixKind_int X.prog X.w i t⟩
  · have hm2 : (h'.objs.size == sysModules) = false := beq_eq_false_iff_ne.mpr (Nat.ne_of_gt I2.big)
    have kv : KV (mergeK [] (enK 0 xs)) (merged [] (enK 0 its)) := KV.merge (enK_kv 0 rv) .nil
    have hl : (mergeK [] (enK 0 xs)).length ≤ sizeLine := by
      refine Nat.le_trans (length_mergeK (enK 0 xs) []) ?_
      rw [List.length_nil, Nat.zero_add, enK_len, hlen]
      exact hz2
    refine ⟨.ref h'.objs.size, upd H1 h'.objs.size (.dK (mergeK [] (enK 0 xs))), I2.turnedNew (ch := [s1.heap.objs.size + 1, s1.heap.objs.size]) (t' := tk) (fun b o hb e => k b o hb e) (fun b hb => ?_) (Nat.le_refl _) (show ObjOk X.prog X.w _ _ _ (.dK (mergeK [] (enK 0 xs))) from ⟨hl, hm2, _, kv, hd'⟩), rfl, q _ _ (I2.hok.fresh (Nat.le_refl _))⟩
    have hle : s1.heap.objs.size ≤ b := by
      rcases (show b = s1.heap.objs.size + 1 ∨ b = s1.heap.objs.size by simpa using hb) with z | z <;> (rw [z]; first | exact Nat.le_add_right _ _ | exact Nat.le_refl _)
    exact I1.fpOk hle (I1.hok.fresh hle)
end L2
namespace Cov
open PySem PySem.Spec PyProof.Rows L2
def kD : Key → PyData
  | .inl i => .int i
  | .inr x => .str x
def vD : V → Option PyData
  | .non => some .none
  | .bl b => some (.bool b)
  | .int i => some (.int i)
  | .str x => some (.str x)
  | _ => none
inductive Flat : List (Key × V) → List (PyData × PyData) → Prop
  | nil : Flat [] []
  | cons {k : Key} {v : V} {d : PyData} {r : List (Key × V)} {ds : List (PyData × PyData)} : vD v = some d → Flat r ds → Flat ((k, v) :: r) ((kD k, d) :: ds)
/-- what a value's text is made of -/
inductive Rp (K : PySem.W.Frag) (H : Hp) : V → PyData → Prop
  | dat {x : V} {d : PyData} : Dp K H x d → PyData.hasDict d = false → Rp K H x d
  | dct {a : Addr} {kvs : List (Key × V)} {ds : List (PyData × PyData)} : H a = some (.dK kvs) → Flat kvs ds → Rp K H (.ref a) (.dict ds)
section
variable {X : Cx} {pins : List (Addr × Obj)} {σ : L2.St} {H : Hp} {s : Shared}
theorem vD_reads {h : Heap} {v : V} {d : PyData} {u : Value} (e : vD v = some d) (r : RelV v u) : Reads h u d [] := by
  cases v with
  | non => cases e; cases (show u = Value.none from r); exact .none
  | bl b => cases e; cases (show u = Value.bool b from r); exact .bool b
  | int i => cases e; obtain ⟨t, rfl⟩ := (show ∃ t, u = Value.int i t from r); exact .int i t
  | str x => cases e; obtain ⟨t, rfl⟩ := (show ∃ t, u = Value.str x t from r); exact .str x t
  | byt b => cases e
  | flt b => cases e
  | ref a => cases e
  | ty n => cases e
theorem flat_reads {P : Program} {w : World} {h : Heap} : ∀ {kvs : List (Key × V)} {ds : List (PyData × PyData)} {es : List DictEntry} {vs : List (Key × Value)}, Flat kvs ds → KV kvs vs → PySem.Pairs (mixKind P w) es vs →
    ReadsAll h (es.map (·.key)) (ds.map (·.1)) [] ∧ ReadsAll h (es.map (·.val)) (ds.map (·.2)) []
  | _, _, _, _, .nil, .nil, .nil => ⟨.nil, .nil⟩
  | _, _, _, _, .cons hv hr, .cons hk hkr, .cons he1 he2 her => by
    obtain ⟨i1, i2⟩ := flat_reads hr hkr her
    obtain ⟨q1, q2⟩ := hk
    refine ⟨ReadsAll.cons (as := []) (bs := []) ?_ i1, ReadsAll.cons (as := []) (bs := []) ?_ i2⟩
    · have he1' := he1
      rw [mixKind_is, ← q1] at he1'
      rcases keyIs_shape he1' with ⟨i, t, e1, e2⟩ | ⟨x, t, e1, e2⟩
      · simp only at e1; subst e1; show Reads h _ (PyData.int i) []; simp only [e2]; exact Reads.int i t
      · simp only at e1; subst e1; show Reads h _ (PyData.str x) []; simp only [e2]; exact Reads.str x t
    · simp only [he2]; exact vD_reads hv q2
theorem Rp.reads (I : Inv X pins σ H s) {x : V} {d : PyData} {u : Value} (h : Rp X.K H x d) (r : RelV x u) : ∃ as, Reads s.heap u d as ∧ (PyData.hasDict d = true → sysModules ∉ as) := by
  cases h with
  | dat h0 h1 =>
    obtain ⟨as, q⟩ := Dp.reads I d x u h0 r
    exact ⟨as, q, fun z => by rw [h1] at z; cases z⟩
  | @dct a kvs ds ha hf =>
    obtain ⟨z, ns, vs, rel, o, es, ep, e1, e2, e3, e4, e5, e6⟩ := dk_of I.hok ha
    cases (show u = Value.ref a from r)
    obtain ⟨r1, r2⟩ := flat_reads (h := s.heap) hf rel e5
    refine ⟨_, Reads.dict e1 e2.1 e3 r1 r2, fun _ hm => ?_⟩
    rw [List.append_nil, List.mem_singleton] at hm
    exact (beq_eq_false_iff_ne.mp ns) hm.symm
/-- repr(x), where nothing around is being shown -/
@[irreducible] def rRepr (K : PySem.W.Frag) : List V → Hp → VK → Prop := fun xs H Q => ∃ (x : V) (d : PyData), xs = [x] ∧ Rp K H x d ∧ PyData.showable d = true ∧ PyData.depth d ≤ 50 ∧ d.shown.length ≤ sizeLine ∧ Q (.str d.shown) H
theorem call_repr (hg : X.A.guards = some []) (hu : X.A.units + 60 < cLine) : CallR X (.builtin "repr") (rRepr X.K) := by
  intro pins s σ H xs us Q I r h
  unfold rRepr at h
  obtain ⟨x, d, rfl, hx, hs, hd, hz, q⟩ := h
  obtain ⟨u, rfl, ru⟩ := vals1 r
  obtain ⟨as, rd, hm⟩ := hx.reads I ru
  cases rd with
  | none => exact PySem.P.repr_of_none ⟨.str _, H, I.tok _, ⟨_, rfl⟩, by simpa only [PyData.shown] using q⟩
  | bool b => exact PySem.P.repr_of_bool ⟨.str _, H, I.tok _, ⟨_, rfl⟩, by simpa only [PyData.shown] using q⟩
  | int i t => exact PySem.P.repr_of_int (by simpa [PyData.showable] using hs) ⟨.str _, H, I.tok _, ⟨_, rfl⟩, by simpa only [PyData.shown] using q⟩
  | str y t => exact PySem.P.repr_of_str (hsz := by simpa only [PyData.shown] using hz) ⟨.str _, H, I.tok _, ⟨_, rfl⟩, by simpa only [PyData.shown] using q⟩
  | list h1 h2 h3 h4 => exact repr_of_reads' (.list h1 h2 h3 h4) hs hm hg (by omega) (fun _ _ e => e) (fun h' u tk hk => ⟨.str _, H, I.kept hk, ⟨_, rfl⟩, q⟩) hz
  | tuple h1 h2 h3 h4 => exact repr_of_reads' (.tuple h1 h2 h3 h4) hs hm hg (by omega) (fun _ _ e => e) (fun h' u tk hk => ⟨.str _, H, I.kept hk, ⟨_, rfl⟩, q⟩) hz
  | dict h1 h2 h3 h4 h5 => exact repr_of_reads' (.dict h1 h2 h3 h4 h5) hs hm hg (by omega) (fun _ _ e => e) (fun h' u tk hk => ⟨.str _, H, I.kept hk, ⟨_, rfl⟩, q⟩) hz
end
theorem repr_go {K : PySem.W.Frag} {H : Hp} {Q : VK} {x : V} {d : PyData} (h : Rp K H x d ∧ PyData.showable d = true ∧ PyData.depth d ≤ 50 ∧ d.shown.length ≤ sizeLine) (q : Q (.str d.shown) H) : rRepr K [x] H Q := by
  unfold rRepr
  exact ⟨x, d, rfl, h.1, h.2.1, h.2.2.1, h.2.2.2, q⟩
open PySem PySem.Spec PyProof.Rows L2
structure RoomG (k : Nat) (A : Around) : Prop where
  r : Room k A
  g : A.guards = some []
theorem RoomG.mono {j k : Nat} {A : Around} (x : RoomG k A) (h : j ≤ k) : RoomG j A := ⟨x.r.mono h, x.g⟩
theorem RoomG.deeper {k : Nat} {A : Around} (x : RoomG (k + 1) A) (e : Env) : RoomG k (A.deeper e) := ⟨x.r.deeper e, x.g⟩
theorem RoomG.u {k : Nat} {A : Around} (x : RoomG k A) : A.units + 60 < cLine := Nat.lt_trans (by omega) x.r.units
theorem RoomG.u1 {k : Nat} {A : Around} (x : RoomG k A) : A.units + 1 < cLine := by have := x.u; omega
theorem RoomG.u64 {k : Nat} {A : Around} (x : RoomG k A) : A.units + 64 < cLine := x.r.units
structure FnG (P : Program) (w : World) (K : PySem.W.Frag) (mg : Str → Option Value) (base : Heap) (CX : CXT) (k : Nat) (f : Addr) (fd : FuncData) (ps : List Str) (sp : Sp) : Prop where
  len : ∀ vs H Q E, sp vs H Q E → vs.length = ps.length
  run : ∀ (A : Around) (outer : List Env) (s : Shared) (H : Hp) (args : Args) (us : List Value) (vs : List V) (Q : VK) (E : XK),
    RoomG k A → Env0 P w K mg base A outer s H → BindsTo s fd args (ps.zip us) → Vals vs us → sp vs H Q E → codeAny (model P w) A (.call (.ref f) args) (CR CX outer P w H s Q E) s
theorem FnG.of {P : Program} {w : World} {K : PySem.W.Frag} {mg : Str → Option Value} {base : Heap} {CX : CXT} {k : Nat} {f : Addr} {fd : FuncData} {ps : List Str} {sp : Sp} (F : FnOk P w K mg base CX k f fd ps sp) : FnG P w K mg base CX k f fd ps sp :=
  ⟨F.len, fun A outer s H args us vs Q E hr => F.run A outer s H args us vs Q E hr.r⟩
/-- a def by its name: st its statement, ps its parameters -/
structure Nm (P : Program) (w : World) (K : PySem.W.Frag) (mg : Str → Option Value) (base : Heap) (CX : CXT) (k : Nat) (x : Str) (st : Stmt) (ps : List Str) (sp : Sp) : Prop where
  ex : ∃ (f : Addr) (fd : FuncData), Fun K x x st f fd ∧ mg x = some (.ref f) ∧ FnG P w K mg base CX k f fd ps sp
section
variable {P : Program} {w : World} {K : PySem.W.Frag} {mg : Str → Option Value} {base : Heap} {CX : CXT}
/-- THE RULE for a def -/
theorem nm_of {x : Str} {st : Stmt} {f : Addr} {fd : FuncData} {N ps : List Str} {k : Nat} {sp : Sp} (F : Fun K x x st f fd) (hm : mg x = some (.ref f)) (S : FnScope N ps (defScope st)) (len : ∀ vs H Q E, sp vs H Q E → vs.length = ps.length)
    (hb : ∀ (cdv : Value) (A : Around) (outer : List Env) (s : Shared) (H : Hp) (vs : List V) (Q : VK) (E : XK), RoomG k (A.deeper (envOfC x (defScope st) s.heap.objs.size f cdv)) → sp vs H Q E →
      ∃ t, PSs (cxOf CX P w K mg base N x (defScope st) f cdv A outer s H E) (defBody st) t ∧ t { nx := fun _ H' => Q .non H', rt := Q } (start N vs) H) : Nm P w K mg base CX (k + 1) x st ps sp := by
  refine ⟨f, fd, F, hm, len, ?_⟩
  obtain ⟨oc, od, kV, doc, pm, an, cdv, ct, osl, rfl, lk, hcd⟩ := F.ex
  intro A outer s H args us vs Q E hr e0 bt rv hs
  have hl := len _ _ _ _ hs
  have kin : K.In s.heap := e0.mod.kin.keeps fun b o e => (e0.bs b o e).1
  have nol : s.heap.NoLimit := e0.mod.nolimit.keeps fun b o e => (e0.bs b o e).1
  refine codeAny_call_function hr.r.depth (kin _ _ lk) rfl S.co S.gen rfl (PySem.W.codeRec_of kin hcd) (bt _ _ _ _ ?_)
  refine wpAny_newFunctionEnv_cells S.kind (fun ⟨n, v⟩ hy => ?_) fun env he s1 x1 => ?_
  · cases S.par n (List.of_mem_zip hy).1 with
    | inl q => exact .inl q
    | inr q => exact .inr ⟨q, PySem.W.cellsFrom_some _ _ _ (.inl q)⟩
  · subst he
    refine ⟨nol.keeps x1.toInCall.keep, codeAny_func ?_⟩
    obtain ⟨t, ht, hq⟩ := hb cdv A outer s H vs Q E (hr.deeper _) hs
    have I : Inv (cxOf CX P w K mg base N x (defScope st) f cdv A outer s H E) [] (start N vs) H s1 := inv_start S hr.r.hd e0 hl rv x1
    refine wpAny_mono (ht.run [] s1 (start N vs) H _ I hq) (fun fl s' z => ?_) fun e s' z => z
    cases fl with
    | ret u => obtain ⟨v, σ', H', J, r2, q⟩ := z; exact ⟨v, H', J.os, J.bare, J.base, J.hok, r2, q⟩
    | next => obtain ⟨σ', H', J, q⟩ := z; exact ⟨.non, H', J.os, J.bare, J.base, J.hok, rfl, q⟩
    | brk => obtain ⟨_, _, _, q⟩ := z; exact q.elim
    | cont => obtain ⟨_, _, _, q⟩ := z; exact q.elim
end
section
variable {X : Cx} {CX : CXT} {k j : Nat} {f : Addr} {fd : FuncData} {st : Stmt} {ps ks : List Str} {sp : Sp} {E : XK} {x : Str} {p pos : Pos} {e : Expr} {es : List Expr} {kws : List Keyword} {t tk : TA}
theorem run_g {pins : List (Addr × Obj)} {σ : L2.St} {H : Hp} {s : Shared} {Q : VK} {us ws : List Value} {kw : List (Str × Value)} {vs : List V} (F : FnG X.prog X.w X.K X.mg X.base CX k f fd ps sp) (hr : RoomG k X.A)
    (hb : BindsTo s fd ⟨us, kw⟩ (ps.zip ws)) (hx : Passes CX X E) (I : Inv X pins σ H s) (r : Vals vs ws) (h : sp vs H Q E) : wpAny (model X.prog X.w) X.A (call (.ref f) us kw) (EP X pins σ Q) X.xe s := by
  refine wpAny_call (codeAny_mono (F.run X.A X.stack s H ⟨us, kw⟩ ws vs Q E hr I.env0 hb r h) fun y s' z => ?_)
  match y, z with
  | .error e, z => exact hx pins σ H s e s' I z
  | .ok (.ret u), z => exact I.after z
  | .ok .next, z => exact z.elim
  | .ok .brk, z => exact z.elim
  | .ok .cont, z => exact z.elim
def tG (sp : Sp) (E : XK) (t : TA) : TE := fun σ H Q => t σ H fun vs H1 => sp vs H1 Q E
/-- plain positional binding -/
def BndP (x : Str) (st : Stmt) (ps : List Str) : Prop :=
  ∀ (kV doc pm cdv ct : Value) (an : Option Addr) (us : List Value), us.length = ps.length → bindArgs (PySem.W.fnOf x x (defArgs st) (defBody st) (defScope st) .none kV doc pm an cdv ct) ⟨us, []⟩ = pure (ps.zip us)
/-- x(e, ..) -/
theorem pe_g (c : Nm X.prog X.w X.K X.mg X.base CX k x st ps sp) (hr : RoomG j X.A) (hk : k ≤ j) (hx : Passes CX X E) (b : BndP x st ps) (hg : Gl X x) (ha : PA X (e :: es) t)
    (hdb : (x == ("__debug__" : Str)) = false := by decide) (he : starEach (e :: es) X.env = (false, eval e X.env) :: starEach es X.env := by rfl) (hpl : (backTo pos (starEach es X.env)).any (·.1) = false := by rfl) :
    PE X (.Call (.Name x p) (e :: es) [] pos) (tG sp E t) := by
  obtain ⟨f, fd, F, hm, G⟩ := c.ex
  have kp := F.kp
  obtain ⟨oc, od, kV, doc, pm, an, cdv, ct, osl, rfl, lk, hcd⟩ := F.ex
  refine ⟨fun pins s σ H Q I h => wpAny_Call_Name_kw (ld_glob I hg hm (PySem.W.callWith_K (h₀ := X.base) I.ok.mod.kin kp (thn (ha.run pos pins s σ H _ I h) fun us s1 ⟨vs, H1, I1, r, q⟩ => ⟨I1.kIn, ?_⟩) he hpl) hdb)⟩
  have q' : sp vs H1 Q E := q
  have h0 := r.length
  have h1 := G.len _ _ _ _ q'
  exact run_g (kw := []) G (hr.mono hk) (.of_eq (b kV doc pm cdv ct an us (by omega))) hx I1 r q'
end
theorem roomTop {k : Nat} (h : k ≤ 60 := by decide) : RoomG k callerA := ⟨⟨rfl, by show 1 + claimMargin + 3 * k + 5 < recursionLimit; have : claimMargin + 200 < recursionLimit := (by decide); omega, by show 4 + 16 * k + 200 < cLine; have : 2000 < cLine := (by decide); omega⟩, rfl⟩
open PySem PySem.Spec PyProof.Rows L2
section
variable {X : Cx} {K : PySem.W.Frag}
theorem ix_seqK (e : X.K = K) : IxR X (rIx K) := by subst e; exact ix_seq
theorem call_lenK (e : X.K = K) : CallR X (.builtin "len") (fun xs H Q => ∃ x n, xs = [x] ∧ LenV K x H n ∧ Q (.int n) H) := by subst e; exact call_len
theorem call_isiK' (e : X.K = K) : CallR X (.builtin "isinstance") (rIsi K) := by subst e; exact call_isi
theorem op_inK (e : X.K = K) : OpR X (compareOp .In) (rIn K false) := by subst e; exact op_in_seq
theorem op_notInK (e : X.K = K) : OpR X (compareOp .NotIn) (rIn K true) := by subst e; exact op_notIn_seq
theorem call_reprK (e : X.K = K) (hg : X.A.guards = some []) (hu : X.A.units + 60 < cLine) : CallR X (.builtin "repr") (rRepr K) := by subst e; exact call_repr hg hu
theorem call_allK (e : X.K = K) (hc : X.calm = true) : CallR X (.builtin "all") (rAll K) := by subst e; exact cr_all hc
theorem op_eqDK (e : X.K = K) (hu : X.A.units + 64 < cLine) : OpR X (compareOp .Eq) (rEqD K) := by subst e; exact op_eqD hu
theorem op_neDK (e : X.K = K) (hu : X.A.units + 64 < cLine) : OpR X (compareOp .NotEq) (rNeD K) := by subst e; exact op_neD hu
theorem pi_listK {tg l : Expr} {tl : TE} (e : X.K = K) (hl : PE X l tl) : PI X tg l (iList K tl) := by subst e; exact pi_list hl
/-- a built-in class by its name, a constant of the text -/
theorem pe_ty {x : Str} {pos : Pos} (n : String) (hg : Gl X x) (hm : X.mg x = none) (hv : bootBuiltins x = some (.type n)) (hn : x ≠ "__name__" := by decide) (hd : (x == ("__debug__" : Str)) = false := by decide) : PE X (.Name x pos) (tC (.ty n)) :=
  pe_bltn hg hm hv rfl hn hd
theorem pe_cst {x : Str} {pos : Pos} {v : V} (hg : Gl X x) (h : ∃ u, X.mg x = some u ∧ RelV v u) (hd : (x == ("__debug__" : Str)) = false := by decide) : PE X (.Name x pos) (tC v) :=
  let ⟨_, hm, r⟩ := h
  pe_glob hg hm r hd
/-- a text times a number -/
def rMulS : R2 := fun x y H Q => ∃ (z : Str) (n : Int), x = .str z ∧ y = .int n ∧ z.length ≤ 1000 ∧ -1000 ≤ n ∧ n ≤ 10000 ∧ Q (.str ⟨(List.replicate n.toNat z.cps.toList).flatten.toArray⟩) H
theorem fold_app : ∀ (l : List (Array Nat)) (acc : Array Nat), l.foldl (· ++ ·) acc = acc ++ (l.map Array.toList).flatten.toArray
  | [], acc => by simp
  | x :: l, acc => by
    rw [List.foldl_cons, fold_app l (acc ++ x)]
    apply Array.ext'
    simp
theorem op_mul_str : OpR X (binaryOp .Mult) rMulS := by
  intro pins s σ H x y v u Q I rx ry h
  obtain ⟨z, n, rfl, rfl, hz, h1, h2, q⟩ := h
  obtain ⟨t, rfl⟩ := rx
  obtain ⟨t', rfl⟩ := ry
  have big : 1000 * 10000 ≤ sizeLine := by decide
  have e : ∀ k : Nat, ((List.replicate k z.cps).foldl (· ++ ·) #[] : Array Nat) = (List.replicate k z.cps.toList).flatten.toArray := fun k => by
    rw [fold_app, List.map_replicate]; simp
  have hzn : z.length * n.toNat ≤ 1000 * 10000 := Nat.mul_le_mul hz (by omega)
  refine PySem.P.mul_str (by rw [decide_eq_false (by omega), decide_eq_false (by omega)]; rfl) (fun a _ => ?_) (fun a _ => ?_) ?_
  · have : (1001 : Int) ≤ (2 ^ 63 - 1) / n := Int.le_ediv_of_mul_le (by omega) (by omega)
    omega
  · exact decide_eq_false (by omega)
  · by_cases c1 : n < 1
    · rw [if_pos c1]
      have e0 : n.toNat = 0 := by omega
      rw [e0] at q
      exact ⟨Nat.zero_le _, .str _, H, I.tok _, ⟨_, rfl⟩, q⟩
    · rw [if_neg c1]
      by_cases c2 : (n == 1 || z.length == 0) = true
      · rw [if_pos c2]
        refine ⟨.str z, H, I, ⟨t, rfl⟩, ?_⟩
        have ez : (⟨(List.replicate n.toNat z.cps.toList).flatten.toArray⟩ : Str) = z := by
          rw [Bool.or_eq_true, beq_iff_eq, beq_iff_eq] at c2
          rcases c2 with c2 | c2
          · subst c2
            show (⟨(List.replicate 1 z.cps.toList).flatten.toArray⟩ : Str) = z
            simp
          · have hz0 : z.cps.toList = [] := by
              have : z.cps.toList.length = 0 := by rw [Array.length_toList]; exact c2
              exact List.length_eq_zero_iff.mp this
            obtain ⟨cps⟩ := z
            have hz1 : cps.toList = [] := hz0
            have : cps = #[] := by apply Array.ext'; rw [hz1]
            subst this
            simp
        rw [ez] at q
        exact q
      · rw [if_neg c2, e]
        refine ⟨?_, .str _, H, I.tok _, ⟨_, rfl⟩, q⟩
        show (List.replicate n.toNat z.cps.toList).flatten.toArray.size ≤ sizeLine
        rw [List.size_toArray, List.length_flatten, List.map_replicate, List.sum_replicate_nat, Array.length_toList]
        have : n.toNat * z.cps.size = z.length * n.toNat := Nat.mul_comm _ _
        omega
end
open PySem PySem.Spec PyProof.Rows L2
def tLt (a b : Str) : Bool := decide (a.cps.toList < b.cps.toList)
theorem tLt_irr (a : Str) : tLt a a = false := PyProof.Rows.strKind.irrefl _
theorem tLt_tr {a b c : Str} (h1 : tLt a b = true) (h2 : tLt b c = true) : tLt a c = true := PyProof.Rows.strKind.trans _ _ _ h1 h2
theorem tLt_tot {a b : Str} (h1 : tLt a b = false) (h2 : tLt b a = false) : a = b := by
  have e : a.cps.toList = b.cps.toList := PyProof.Rows.strKind.total _ _ h1 h2
  obtain ⟨⟨a⟩⟩ := a
  obtain ⟨⟨b⟩⟩ := b
  cases e
  rfl
/-- rising -/
abbrev TS (ys : List Str) : Prop := ys.Pairwise fun a b => tLt b a = false
theorem tLe_tr {a b c : Str} (h1 : tLt b a = false) (h2 : tLt c b = false) : tLt c a = false := by
  cases e : tLt c a with
  | false => rfl
  | true => rcases PyProof.Rows.strKind.negTrans _ b.cps.toList _ e with z | z
            · exact absurd (show tLt c b = true from z) (by rw [h2]; decide)
            · exact absurd (show tLt b a = true from z) (by rw [h1]; decide)
theorem ts_uniq {xs ys : List Str} (h : xs.Perm ys) (h1 : TS xs) (h2 : TS ys) : xs = ys :=
  h.eq_of_pairwise (le := fun a b => tLt b a = false) (fun a b _ _ h1 h2 => tLt_tot h2 h1) h1 h2
theorem dle_str (a b : Str) : PySem.W.dataLe false (fun x : Str => PyData.str x) a b = !tLt b a := by
  show (!(PyProof.Rows.lexLt PyProof.Rows.itemOrd [.inr b.cps.toList] [.inr a.cps.toList])) = _
  have e : PyProof.Rows.lexLt PyProof.Rows.itemOrd [.inr b.cps.toList] [.inr a.cps.toList] = tLt b a := by
    rw [PyProof.Rows.lex_cons]
    show (tLt b a || (!tLt a b && false)) = _
    rw [Bool.and_false, Bool.or_false]
  rw [e]
/-- the texts in order -/
def tsort (xs : List Str) : List Str := xs.mergeSort (PySem.W.dataLe false fun x : Str => PyData.str x)
theorem tsort_perm (xs : List Str) : (tsort xs).Perm xs := List.mergeSort_perm _ _
theorem tsort_ts (xs : List Str) : TS (tsort xs) := by
  have h := List.pairwise_mergeSort (le := PySem.W.dataLe false fun x : Str => PyData.str x) (fun a b c h1 h2 => by
    rw [dle_str] at *
    have h1' : tLt b a = false := by simpa using h1
    have h2' : tLt c b = false := by simpa using h2
    rw [tLe_tr h1' h2']
    rfl) (fun a b => by
    rw [dle_str, dle_str]
    cases e : tLt b a with
    | false => rfl
    | true =>
      cases e2 : tLt a b with
      | false => rfl
      | true => exact absurd (tLt_tr e e2) (by rw [tLt_irr]; decide)) xs
  refine h.imp fun {a b} z => ?_
  rw [dle_str] at z
  simpa using z
theorem tsort_uniq {xs ys : List Str} (h : ys.Perm xs) (h1 : TS ys) : ys = tsort xs := ts_uniq (h.trans (tsort_perm xs).symm) h1 (tsort_ts xs)
theorem t_key (a : Addr) : Builtin.«list.sort» ⟨[.ref a], [(Str.ofString "key", .type "str")]⟩ = ksk_tree a (.type "str") false := rfl
theorem ea_strs : ∀ {vs : List Value} {xs : List Str}, StrsAre vs xs → PySem.W.EachIs (fun v x => ∃ t, v = Value.str x t) vs xs
  | _, _, .nil => .nil
  | _, _, .cons x t h => .cons ⟨t, rfl⟩ (ea_strs h)
theorem strs_ea : ∀ {vs : List Value} {xs : List Str}, PySem.W.EachIs (fun v x => ∃ t, v = Value.str x t) vs xs → StrsAre vs xs
  | _, _, .nil => .nil
  | _, _, .cons ⟨t, e⟩ h => by cases e; exact .cons _ t (strs_ea h)
theorem strs_alike (xs : List Str) : PySem.W.AllAlike (xs.map fun x => PyData.str x) := fun d hd d' hd' => by
  obtain ⟨_, _, rfl⟩ := List.mem_map.mp hd
  obtain ⟨_, _, rfl⟩ := List.mem_map.mp hd'
  first | rfl | (unfold PySem.W.alike; rfl)
theorem strs_sortable (xs : List Str) : PySem.W.Sortable (xs.map fun x => PyData.str x) := .inr fun d hd => by
  obtain ⟨_, _, rfl⟩ := List.mem_map.mp hd
  exact ⟨(fun z => by cases z), (fun _ z => by cases z)⟩
theorem str_depth (x : Str) : (PyData.str x).depth ≤ 1 := by first | decide | (unfold PyData.depth; decide) | simp [PyData.depth]
theorem str_turn {prog : Program} {w : World} {A : Around} {s : Shared} (v : Value) (x : Str) (e : ∃ t, v = Value.str x t) (h : Heap) (tk : Nat) :
    wpAny (model prog w) A (call (.type "str") [v]) (PySem.W.KeyPure (.str x) { s with heap := h, toks := tk }) (fun _ _ => False) { s with heap := h, toks := tk } := by
  obtain ⟨t, rfl⟩ := e
  exact PySem.P.str_of_str ⟨h, tk, rfl, fun _ _ z => z, .str x t⟩
section
variable {X : Cx}
def rSortK (K : PySem.W.Frag) : List V → List V → Hp → VK → Prop := fun vs zs H Q => ∃ (a : Addr) (xs : List Str), vs = [V.ref a] ∧ zs = [.ty "str"] ∧ SqL K H a (xs.map V.str) ∧ ∀ p, H p = none → Q (.ref p) (upd H p (.lst ((tsort xs).map V.str)))
theorem sortK_out {pins : List (Addr × Obj)} {s : Shared} {σ : L2.St} {H : Hp} {Q : VK} {xs : List Str} {p : Addr} {out : List Value} {c : Nat} {h' : Heap} {tk : Nat} (I : L2.Inv X pins σ H s) (hz : xs.length ≤ sizeLine) (hp : s.heap.objs.size ≤ p)
    (q : ∀ (p : Addr), H p = none → Q (V.ref p) (upd H p (HO.lst ((tsort xs).map V.str)))) (k : ∀ (b : Addr) (o : Obj), s.heap.get? b = some o → h'.get? b = some o) (e : h'.get? p = some (seqObj "list" out.toArray c))
    (ea : PySem.W.EachIs (fun v x => ∃ t, v = Value.str x t) out (tsort xs)) : EP X pins σ Q (Value.ref p) { s with heap := h', toks := tk } := by
  have hlen : ((tsort xs).map V.str).length ≤ sizeLine := by rw [List.length_map, (tsort_perm xs).length_eq]; exact hz
  exact ⟨.ref p, upd H p (.lst ((tsort xs).map V.str)), I.laid (t' := tk) k hp ⟨hlen, out, c, vals_of_strs (strs_ea ea), e⟩, rfl, q _ (I.hok.fresh hp)⟩
theorem cr_sortK (hu : X.A.units + 60 < cLine) : CallRK X (.builtin "sorted") [Str.ofString "key"] (rSortK X.K) := by
  intro pins s σ H vs zs us ws Q I r rz h
  obtain ⟨a, xs, rfl, rfl, hs, q⟩ := h
  obtain rfl := Vals.ref1 r
  obtain ⟨w1, rfl, e1⟩ := vals1 rz
  obtain rfl : w1 = Value.type "str" := e1
  obtain ⟨its, rv, hl, hz⟩ := I.list hs
  rw [List.length_map] at hz
  exact PySem.W.sorted_key_data (fun x : Str => PyData.str x) hl.isList (ea_strs rv.strs) (strs_alike xs) (strs_sortable xs) hz (fun x _ => by have := str_depth x; omega) (PyProof.Rows.ksk_s1 _ _) (fun _ => PyProof.Rows.ksk_l1 _ _) t_key
    (fun v x e _ h tk _ => str_turn v x e h tk) fun out c h' tk k _ e _ ea => sortK_out I hz (Nat.le_succ _) q k e ea
/-- .. of a dict whose keys are texts -/
def rSortKD : List V → List V → Hp → VK → Prop := fun vs zs H Q => ∃ (a : Addr) (kvs : List (Key × V)) (xs : List Str), vs = [V.ref a] ∧ zs = [.ty "str"] ∧ Rd H a (.dK kvs) ∧ kvs.map (·.1) = xs.map Sum.inr ∧ ∀ p, H p = none → Q (.ref p) (upd H p (.lst ((tsort xs).map V.str)))
theorem cr_sortKD (hu : X.A.units + 60 < cLine) (hcalm : X.calm = true) : CallRK X (.builtin "sorted") [Str.ofString "key"] rSortKD := by
  intro pins s σ H vs zs us ws Q I r rz h
  obtain ⟨a, kvs, ks, rfl, rfl, hd, hks, q⟩ := h
  obtain rfl := Vals.ref1 r
  obtain ⟨w1, rfl, e1⟩ := vals1 rz
  obtain rfl : w1 = Value.type "str" := e1
  obtain ⟨z, lo, vs, rel, dd⟩ := dk_rd I.hok hd
  obtain ⟨ep, hat⟩ := dd.dictAt
  have hkeys : vs.map (·.1) = ks.map Sum.inr := rel.keys.symm.trans hks
  have hl : vs.length = ks.length := by
    have e := congrArg List.length hkeys
    rw [List.length_map, List.length_map] at e
    exact e
  have hl2 : kvs.length = ks.length := by
    have e := congrArg List.length hks
    rw [List.length_map, List.length_map] at e
    exact e
  have h16 : vs.length ≤ sizeLine := by rw [hl, ← hl2]; exact z
  refine PyProof.Rows.call_function_entry_kw PyProof.Rows.kind_sorted PyProof.Rows.plain_sorted PyProof.Rows.entry_sorted (PyProof.Rows.ksk_s1 _ _) ?_
  unfold Builtin.«sorted»
  refine wpAny_bind (m := checkCount "sorted" 1 1 _) (wpAny_pure ?_)
  refine wpAny_bind (PySem.W.kdu_collect (A := X.A.in1) (PySem.W.kdl_dict (knd := mixKind X.prog X.w) (kvs := vs) (ep := ep) lo) (I.ok.hd hcalm) hat h16 fun h' tk acc hk hacc => ?_)
  have hal : acc.toList.length = ks.length := by rw [Array.length_toList, hacc.1, hl]
  have hS : StrsAre acc.toList ks := strs_at hal fun j v e => by
    obtain ⟨k, x, e1, e2⟩ := hacc.2 j v (by rw [← Array.getElem?_toList]; exact e)
    have e3 : (vs.map (·.1))[j]? = some k := by rw [List.getElem?_map, e1]; all_goals rfl
    rw [hkeys, List.getElem?_map] at e3
    cases e4 : ks[j]? with
    | none => rw [e4] at e3; cases e3
    | some y =>
      rw [e4] at e3
      have e5 : Sum.inr y = k := Option.some.inj e3
      subst e5
      obtain ⟨t, ev⟩ := Value.isStrOf_shape (x := y) (v := v) e2
      exact ⟨y, t, rfl, ev⟩
  have I1 : Inv X pins σ H { s with heap := h', toks := tk } := I.kept hk
  have hzk : ks.length ≤ sizeLine := by rw [← hl]; exact h16
  refine wpAny_bind (wpAny_newList ?_ (by rw [hal]; exact hzk))
  have hoL : (h'.push (seqObj "list" acc.toList.toArray 0)).get? h'.objs.size = some (seqObj "list" acc.toList.toArray 0) := Heap.get?_push_size _ rfl
  show wpAny _ _ _ _ _ { s with heap := h'.push (seqObj "list" acc.toList.toArray 0), toks := tk }
  have ea := ea_strs hS
  have up : ∀ {g : Heap}, PySem.W.KeepsBut h'.objs.size (h'.push (seqObj "list" acc.toList.toArray 0)) g → ∀ b o, h'.get? b = some o → g.get? b = some o := fun {g} kp b o e =>
    kp b o (Nat.ne_of_lt (Heap.lt_size e)) (Heap.get?_push_of_some _ e)
  refine wpAny_bind (wpAny_holding (wpAny_call_entry_kw PyProof.Rows.slot_list_sort ⟨_, hoL, rfl⟩ PyProof.Rows.entry_list_sort ?_ (PyProof.Rows.ksk_l1 _ _)))
  show wpAny _ _ (Builtin.«list.sort» ⟨[.ref h'.objs.size], [(Str.ofString "key", .type "str")]⟩) _ _ _
  rw [t_key]
  refine PySem.W.keyH_tree (s := { s with heap := h'.push (seqObj "list" acc.toList.toArray 0), toks := tk }) (kz := ks.map fun x => PyData.str x) hoL (by rw [List.length_map, hal]) (by rw [hal]; exact hzk) (strs_alike ks) (strs_sortable ks) (fun d hd => ?_)
    (PySem.W.keyH_turns (k := fun x : Str => PyData.str x) ea fun v x e _ h tk _ => str_turn v x e h tk) fun h2 tk2 out c kp e ko => ⟨_, rfl, wpAny_pure ⟨_, rfl, ?_⟩⟩
  · obtain ⟨x, _, rfl⟩ := List.mem_map.mp hd
    have := str_depth x
    show X.A.units + 1 + 1 + _ < _
    omega
  · have h3 : EP X pins σ Q (Value.ref h'.objs.size) { ({ s with heap := h', toks := tk } : Shared) with heap := h2, toks := tk2 } := sortK_out I1 hzk (Nat.le_refl _) q (up kp) e (PySem.W.keyedOut_each (fun x : Str => PyData.str x) ko ea)
    exact h3
end
open PySem PySem.Spec PyProof.Rows L2
/-- the texts, shorter ones first, else as they stood -/
def lsort (xs : List Str) : List Str := xs.mergeSort (PySem.W.dataLe false fun x : Str => PyData.int x.length)
theorem lsort_perm (xs : List Str) : (lsort xs).Perm xs := List.mergeSort_perm _ _
theorem lsort_ord (xs : List Str) : (lsort xs).Pairwise fun a b => a.length ≤ b.length := by
  unfold lsort
  rw [PySem.W.dataLe_int fun x : Str => (x.length : Int)]
  have h := List.pairwise_mergeSort (le := fun a b : Str => decide ((a.length : Int) ≤ b.length)) (fun a b c h1 h2 => by
    have := of_decide_eq_true h1
    have := of_decide_eq_true h2
    exact decide_eq_true (by omega)) (fun a b => by
    by_cases q : (a.length : Int) ≤ b.length
    · rw [decide_eq_true q]; rfl
    · rw [decide_eq_true (p := (b.length : Int) ≤ a.length) (by omega), Bool.or_true]) xs
  exact h.imp fun {a b} z => by have := of_decide_eq_true z; omega
theorem lens_alike (xs : List Str) : PySem.W.AllAlike (xs.map fun x => PyData.int x.length) := fun d hd d' hd' => by
  obtain ⟨_, _, rfl⟩ := List.mem_map.mp hd
  obtain ⟨_, _, rfl⟩ := List.mem_map.mp hd'
  first | rfl | (unfold PySem.W.alike; rfl)
theorem lens_sortable (xs : List Str) : PySem.W.Sortable (xs.map fun x => PyData.int x.length) := .inr fun d hd => by
  obtain ⟨_, _, rfl⟩ := List.mem_map.mp hd
  exact ⟨(fun z => by cases z), (fun _ z => by cases z)⟩
theorem int_depth (i : Int) : (PyData.int i).depth ≤ 1 := by simp [PyData.depth]
theorem len_turn {prog : Program} {w : World} {A : Around} {s : Shared} (v : Value) (x : Str) (e : ∃ t, v = Value.str x t) (hl : x.length ≤ sizeLine) (h : Heap) (tk : Nat) :
    wpAny (model prog w) A (call (.builtin "len") [v]) (PySem.W.KeyPure (.int x.length) { s with heap := h, toks := tk }) (fun _ _ => False) { s with heap := h, toks := tk } := by
  obtain ⟨t, rfl⟩ := e
  have h1 := line63
  have h2 : sizeLine = 16777216 := sizeLine_eq
  exact len_str (by omega) ⟨h, _, rfl, fun _ _ z => z, .int _ _⟩
theorem lkey (a : Addr) : Builtin.«list.sort» ⟨[.ref a], [(Str.ofString "key", .builtin "len")]⟩ = ksk_tree a (.builtin "len") false := ksk_t4 _ _
section
variable {X : Cx}
def rSortLD : V → Hp → VK → Prop := fun v H Q => ∃ (a : Addr) (kvs : List (Key × V)) (xs : List Str), v = V.ref a ∧ Rd H a (.dK kvs) ∧ kvs.map (·.1) = xs.map Sum.inr ∧ (∀ x ∈ xs, x.length ≤ sizeLine) ∧ ∀ p, H p = none → Q (.ref p) (upd H p (.lst ((lsort xs).map V.str)))
theorem sortL_out {pins : List (Addr × Obj)} {s : Shared} {σ : L2.St} {H : Hp} {Q : VK} {xs : List Str} {p : Addr} {out : List Value} {c : Nat} {h' : Heap} {tk : Nat} (I : L2.Inv X pins σ H s) (hz : xs.length ≤ sizeLine) (hp : s.heap.objs.size ≤ p)
    (q : ∀ (p : Addr), H p = none → Q (V.ref p) (upd H p (HO.lst ((lsort xs).map V.str)))) (k : ∀ (b : Addr) (o : Obj), s.heap.get? b = some o → h'.get? b = some o) (e : h'.get? p = some (seqObj "list" out.toArray c))
    (ea : PySem.W.EachIs (fun v x => ∃ t, v = Value.str x t) out (lsort xs)) : EP X pins σ Q (Value.ref p) { s with heap := h', toks := tk } := by
  have hlen : ((lsort xs).map V.str).length ≤ sizeLine := by rw [List.length_map, (lsort_perm xs).length_eq]; exact hz
  exact ⟨.ref p, upd H p (.lst ((lsort xs).map V.str)), I.laid (t' := tk) k hp ⟨hlen, out, c, vals_of_strs (strs_ea ea), e⟩, rfl, q _ (I.hok.fresh hp)⟩
theorem sortLD (hu : X.A.units + 60 < cLine) (hcalm : X.calm = true) {pins : List (Addr × Obj)} {s : Shared} {σ : L2.St} {H : Hp} {Q : VK} {x : V} {u : Value} (I : L2.Inv X pins σ H s) (r : RelV x u) (h : rSortLD x H Q) :
    wpAny (model X.prog X.w) X.A (call (.builtin "sorted") [u] [(Str.ofString "key", .builtin "len")]) (EP X pins σ Q) X.xe s := by
  obtain ⟨a, kvs, ks, rfl, hd, hks, hxl, q⟩ := h
  obtain rfl : u = Value.ref a := r
  obtain ⟨z, lo, vs, rel, dd⟩ := dk_rd I.hok hd
  obtain ⟨ep, hat⟩ := dd.dictAt
  have hkeys : vs.map (·.1) = ks.map Sum.inr := rel.keys.symm.trans hks
  have hl : vs.length = ks.length := by
    have e := congrArg List.length hkeys
    rw [List.length_map, List.length_map] at e
    exact e
  have hl2 : kvs.length = ks.length := by
    have e := congrArg List.length hks
    rw [List.length_map, List.length_map] at e
    exact e
  have h16 : vs.length ≤ sizeLine := by rw [hl, ← hl2]; exact z
  refine PyProof.Rows.call_function_entry_kw PyProof.Rows.kind_sorted PyProof.Rows.plain_sorted PyProof.Rows.entry_sorted (PyProof.Rows.ksk_s1 _ _) ?_
  unfold Builtin.«sorted»
  refine wpAny_bind (m := checkCount "sorted" 1 1 _) (wpAny_pure ?_)
  refine wpAny_bind (PySem.W.kdu_collect (A := X.A.in1) (PySem.W.kdl_dict (knd := mixKind X.prog X.w) (kvs := vs) (ep := ep) lo) (I.ok.hd hcalm) hat h16 fun h' tk acc hk hacc => ?_)
  have hal : acc.toList.length = ks.length := by rw [Array.length_toList, hacc.1, hl]
  have hS : StrsAre acc.toList ks := strs_at hal fun j v e => by
    obtain ⟨k, x, e1, e2⟩ := hacc.2 j v (by rw [← Array.getElem?_toList]; exact e)
    have e3 : (vs.map (·.1))[j]? = some k := by rw [List.getElem?_map, e1]; all_goals rfl
    rw [hkeys, List.getElem?_map] at e3
    cases e4 : ks[j]? with
    | none => rw [e4] at e3; cases e3
    | some y =>
      rw [e4] at e3
      have e5 : Sum.inr y = k := Option.some.inj e3
      subst e5
      obtain ⟨t, ev⟩ := Value.isStrOf_shape (x := y) (v := v) e2
      exact ⟨y, t, rfl, ev⟩
  have I1 : Inv X pins σ H { s with heap := h', toks := tk } := I.kept hk
  have hzk : ks.length ≤ sizeLine := by rw [← hl]; exact h16
  refine wpAny_bind (wpAny_newList ?_ (by rw [hal]; exact hzk))
  have hoL : (h'.push (seqObj "list" acc.toList.toArray 0)).get? h'.objs.size = some (seqObj "list" acc.toList.toArray 0) := Heap.get?_push_size _ rfl
  show wpAny _ _ _ _ _ { s with heap := h'.push (seqObj "list" acc.toList.toArray 0), toks := tk }
  have ea := ea_strs hS
  have up : ∀ {g : Heap}, PySem.W.KeepsBut h'.objs.size (h'.push (seqObj "list" acc.toList.toArray 0)) g → ∀ b o, h'.get? b = some o → g.get? b = some o := fun {g} kp b o e =>
    kp b o (Nat.ne_of_lt (Heap.lt_size e)) (Heap.get?_push_of_some _ e)
  refine wpAny_bind (wpAny_holding (wpAny_call_entry_kw PyProof.Rows.slot_list_sort ⟨_, hoL, rfl⟩ PyProof.Rows.entry_list_sort ?_ (PyProof.Rows.ksk_l1 _ _)))
  show wpAny _ _ (Builtin.«list.sort» ⟨[.ref h'.objs.size], [(Str.ofString "key", .builtin "len")]⟩) _ _ _
  rw [lkey]
  refine PySem.W.keyH_tree (s := { s with heap := h'.push (seqObj "list" acc.toList.toArray 0), toks := tk }) (kz := ks.map fun x => PyData.int x.length) hoL (by rw [List.length_map, hal]) (by rw [hal]; exact hzk) (lens_alike ks) (lens_sortable ks) (fun d hd => ?_)
    (PySem.W.keyH_turns (k := fun x : Str => PyData.int x.length) ea fun v x e hx h tk _ => len_turn v x e (hxl x hx) h tk) fun h2 tk2 out c kp e ko => ⟨_, rfl, wpAny_pure ⟨_, rfl, ?_⟩⟩
  · obtain ⟨x, _, rfl⟩ := List.mem_map.mp hd
    have := int_depth x.length
    show X.A.units + 1 + 1 + _ < _
    omega
  · have h3 : EP X pins σ Q (Value.ref h'.objs.size) { ({ s with heap := h', toks := tk } : Shared) with heap := h2, toks := tk2 } := sortL_out I1 hzk (Nat.le_refl _) q (up kp) e (PySem.W.keyedOut_each (fun x : Str => PyData.int x.length) ko ea)
    exact h3
def tSortLen (te : TE) : TE := fun σ H Q => te σ H fun v H1 => rSortLD v H1 Q
theorem pe_sortLen {e : Expr} {te : TE} {p p2 kp pos : Pos} (hg : Gl X "sorted") (hm : X.mg "sorted" = none) (hg2 : Gl X "len") (hm2 : X.mg "len" = none) (hu : X.A.units + 60 < cLine) (hcalm : X.calm = true) (ha : PE X e te)
    (hs : starEach [e] X.env = (false, eval e X.env) :: starEach [] X.env := by rfl) (he : backTo pos (starEach [e] X.env) = (false, eval e X.env) :: backTo pos (starEach [] X.env) := by rfl) (hpl : (backTo pos (starEach [e] X.env)).any (·.1) = false := by rfl) :
    PE X (.Call (.Name "sorted" p) [e] [⟨some "key", .Name "len" p2, kp⟩] pos) (tSortLen te) := by
  refine ⟨fun pins s σ H Q I h => ?_⟩
  refine wpAny_Call_Name_kw (ld_blt I hg hm (by decide +kernel : bootBuiltins "sorted" = some (.builtin "sorted")) ?_ (by decide) (by decide))
  refine PyProof.Rows.callWith_kw (thn ((pa_cons ha pa_nil hs).run pos pins s σ H (fun vs H1 => match vs with | [v] => rSortLD v H1 Q | _ => False) I h) fun us s1 ⟨vs, H1, I1, r1, q1⟩ => ?_) he hpl rfl rfl
  obtain ⟨v, rfl⟩ : ∃ v, vs = [v] := by
    match vs, q1 with
    | [v], _ => exact ⟨v, rfl⟩
  obtain ⟨u, rfl, ru⟩ := vals1 r1
  show wpAny _ _ (evalAll [(do let v ← eval (.Name "len" p2) X.env; standAt pos; pure v)]) _ _ s1
  refine wpAny_evalAll_cons (wpAny_bind (ld_blt I1 hg2 hm2 PySem.boot_len (wpAny_bind (wpAny_standAt (wpAny_pure (wpAny_evalAll_nil ?_)))) (by decide) (by decide)))
  exact sortLD hu hcalm I1 ru q1
end
open PySem PySem.Spec PyProof.Rows L2
theorem RoomG.in1 {k : Nat} {A : Around} (x : RoomG (k + 1) A) : RoomG k A.in1 := ⟨x.r.in1, x.g⟩
theorem RoomG.make {k : Nat} {A : Around} (x : RoomG (k + 1) A) (C : Addr) (us : List Value) (kw : List (Str × Value)) : RoomG k (A.under (.builtin "type.__call__" ⟨.ref C :: us, kw⟩)) :=
  ⟨x.r.make C us kw, by
    show pushGuards (Code.guards (.builtin "type.__call__" ⟨.ref C :: us, kw⟩)) A.guards = _
    rw [x.g]
    have e : Code.isGuard (.builtin "type.__call__" ⟨.ref C :: us, kw⟩) = false := by first | rfl | decide | (unfold Code.isGuard; decide)
    unfold Code.guards
    rw [e]
    rfl⟩
section
variable {P : Program} {w : World} {K : PySem.W.Frag} {mg : Str → Option Value} {base : Heap} {CX : CXT}
theorem fnG_core {f : Addr} {x q : Str} {args : Arguments} {body : List Stmt} {scope : Scope} {oc : Value} {od : Option Addr} {dV kV doc pm cdv ct : Value} {an : Option Addr} {osl : Array (Option Value)} {N ps : List Str} {k : Nat} {sp : Sp}
    (lk : K.lookup f = some ⟨oc, od, .func (PySem.W.fnOf x q args body scope dV kV doc pm an cdv ct), osl⟩) (hcd : PySem.W.codeIn K cdv q = true) (S : FnScope N ps scope) (len : ∀ vs H Q E, sp vs H Q E → vs.length = ps.length)
    (hb : ∀ (A : Around) (outer : List Env) (s : Shared) (H : Hp) (vs : List V) (Q : VK) (E : XK), RoomG k (A.deeper (envOfC q scope s.heap.objs.size f cdv)) → sp vs H Q E →
      ∃ t, PSs (cxOf CX P w K mg base N q scope f cdv A outer s H E) body t ∧ t { nx := fun _ H' => Q .non H', rt := Q } (start N vs) H) : FnG P w K mg base CX (k + 1) f (PySem.W.fnOf x q args body scope dV kV doc pm an cdv ct) ps sp := by
  refine ⟨len, ?_⟩
  intro A outer s H args us vs Q E hr e0 bt rv hs
  have hl := len _ _ _ _ hs
  have kin : K.In s.heap := e0.mod.kin.keeps fun b o e => (e0.bs b o e).1
  have nol : s.heap.NoLimit := e0.mod.nolimit.keeps fun b o e => (e0.bs b o e).1
  refine codeAny_call_function hr.r.depth (kin _ _ lk) rfl S.co S.gen rfl (PySem.W.codeRec_of kin hcd) (bt _ _ _ _ ?_)
  refine wpAny_newFunctionEnv_cells S.kind (fun ⟨n, v⟩ hy => ?_) fun env he s1 x1 => ?_
  · cases S.par n (List.of_mem_zip hy).1 with
    | inl q => exact .inl q
    | inr q => exact .inr ⟨q, PySem.W.cellsFrom_some _ _ _ (.inl q)⟩
  · subst he
    refine ⟨nol.keeps x1.toInCall.keep, codeAny_func ?_⟩
    obtain ⟨t, ht, hq⟩ := hb A outer s H vs Q E (hr.deeper _) hs
    have I : Inv (cxOf CX P w K mg base N q scope f cdv A outer s H E) [] (start N vs) H s1 := inv_start S hr.r.hd e0 hl rv x1
    refine wpAny_mono (ht.run [] s1 (start N vs) H _ I hq) (fun fl s' z => ?_) fun e s' z => z
    cases fl with
    | ret u => obtain ⟨v, σ', H', J, r2, q⟩ := z; exact ⟨v, H', J.os, J.bare, J.base, J.hok, r2, q⟩
    | next => obtain ⟨σ', H', J, q⟩ := z; exact ⟨.non, H', J.os, J.bare, J.base, J.hok, rfl, q⟩
    | brk => obtain ⟨_, _, _, q⟩ := z; exact q.elim
    | cont => obtain ⟨_, _, _, q⟩ := z; exact q.elim
/-- a method m of the class at C, of the class's own body: q its qualified name, st its statement -/
structure Mth (P : Program) (w : World) (K : PySem.W.Frag) (mg : Str → Option Value) (base : Heap) (CX : CXT) (k : Nat) (C : Addr) (m q : Str) (st : Stmt) (ps : List Str) (sp : Sp) : Prop where
  ex : ∃ (f : Addr) (fd : FuncData), Fun K m q st f fd ∧ Meth K C m f ∧ PySem.W.fnIn K f = true ∧ FnG P w K mg base CX k f fd ps sp
/-- THE RULE for a method -/
theorem mth_of {m q : Str} {st : Stmt} {C f : Addr} {fd : FuncData} {N ps : List Str} {k : Nat} {sp : Sp} (F : Fun K m q st f fd) (hm : Meth K C m f) (S : FnScope N ps (defScope st)) (len : ∀ vs H Q E, sp vs H Q E → vs.length = ps.length)
    (hb : ∀ (cdv : Value) (A : Around) (outer : List Env) (s : Shared) (H : Hp) (vs : List V) (Q : VK) (E : XK), RoomG k (A.deeper (envOfC q (defScope st) s.heap.objs.size f cdv)) → sp vs H Q E →
      ∃ t, PSs (cxOf CX P w K mg base N q (defScope st) f cdv A outer s H E) (defBody st) t ∧ t { nx := fun _ H' => Q .non H', rt := Q } (start N vs) H) : Mth P w K mg base CX (k + 1) C m q st ps sp := by
  refine ⟨f, fd, F, hm, ?_, ?_⟩
  · obtain ⟨oc, od, kV, doc, pm, an, cdv, ct, osl, rfl, lk, hcd⟩ := F.ex
    unfold PySem.W.fnIn
    rw [lk]
  · obtain ⟨oc, od, kV, doc, pm, an, cdv, ct, osl, rfl, lk, hcd⟩ := F.ex
    exact fnG_core lk hcd S len fun A outer s H vs Q E hr h => hb cdv A outer s H vs Q E hr h
theorem mth_of0 {m q : Str} {st : Stmt} {C f : Addr} {fd : FuncData} {N ps : List Str} {k : Nat} {sp : Sp} (F : Fun K m q st f fd) (hm : Meth K C m f) (S : FnScope N ps (defScope st)) (len : ∀ vs H Q E, sp vs H Q E → vs.length = ps.length)
    (hb : ∀ (cdv : Value) (A : Around) (outer : List Env) (s : Shared) (H : Hp) (vs : List V) (Q : VK) (E : XK), RoomG k (A.deeper (envOfC q (defScope st) s.heap.objs.size f cdv)) → sp vs H Q E →
      ∃ t, PSs (cxOf CX P w K mg base N q (defScope st) f cdv A outer s H E).nox (defBody st) t ∧ t { nx := fun _ H' => Q .non H', rt := Q } (start N vs) H) : Mth P w K mg base CX (k + 1) C m q st ps sp :=
  mth_of F hm S len fun cdv A outer s H vs Q E hr h => let ⟨t, h1, h2⟩ := hb cdv A outer s H vs Q E hr h; ⟨t, h1.nox, h2⟩
end
def BndMP (m q : Str) (st : Stmt) (ps : List Str) : Prop :=
  ∀ (kV doc pm cdv ct : Value) (an : Option Addr) (us : List Value), us.length = ps.length → bindArgs (PySem.W.fnOf m q (defArgs st) (defBody st) (defScope st) .none kV doc pm an cdv ct) ⟨us, []⟩ = pure (ps.zip us)
section
variable {X : Cx} {CX : CXT} {k j : Nat} {C : Addr} {m q : Str} {st : Stmt} {ps ks : List Str} {sp : Sp} {E : XK} {p pos apos : Pos} {o e : Expr} {es : List Expr} {kws : List Keyword} {to : TE} {t tk : TA}
/-- the instance that a value is -/
def IsIns (H : Hp) (C : Addr) (x : V) (m : Str) : Prop := ∃ a dx fs, x = .ref a ∧ H a = some (.ins C dx fs) ∧ fs.lookup m = none
def tM (C : Addr) (m : Str) (sp : Sp) (E : XK) (to : TE) (t : TA) : TE := fun σ H Q => to σ H fun x H1 => IsIns H1 C x m ∧ t σ H1 fun vs H2 => sp (x :: vs) H2 Q E
/-- o.m(e, ..) -/
theorem pe_m {pl : Sem Bool} (c : Mth X.prog X.w X.K X.mg X.base CX k C m q st ps sp) (hc : Cls X.K C) (hr : RoomG j X.A) (hk : k ≤ j) (hx : Passes CX X E) (b : BndMP m q st ps) (he : PE X o to) (ha : PA X (e :: es) t)
    (hst : starEach (e :: es) X.env = (false, eval e X.env) :: starEach es X.env := by rfl) (hpl : (backTo pos (starEach es X.env)).any (·.1) = false := by rfl)
    (ht : eval (.Call (.Attribute o m apos) (e :: es) [] pos) X.env = (do
      let ov ← eval o X.env
      standAt apos.atName
      let (f, first) ← holding [ov] (getMethod ov m pl)
      callWith pos f first (backTo pos (starEach (e :: es) X.env)) (backToKw pos (keywordEach [] X.env))) := by rfl) :
    PE X (.Call (.Attribute o m apos) (e :: es) [] pos) (tM C m sp E to t) := by
  obtain ⟨f, fd, F, hm, _, G⟩ := c.ex
  obtain ⟨oc, od, kV, doc, pm, an, cdv, ct, osl, rfl, lk, hcd⟩ := F.ex
  refine ⟨fun pins s σ H Q I h => PySem.W.methodCall_KW (pl := pl) (thn (he.run pins s σ H _ I h) fun u s1 ⟨x, H1, I1, rx, ⟨a, dx, fs, ex, ea, l⟩, q⟩ => ?_) ht⟩
  subst ex
  obtain rfl : u = Value.ref a := rx
  refine getmeth_ok I1 ea hc hm l ?_
  refine PySem.W.callWith_K (first := [.ref a]) (h₀ := X.base) I.ok.mod.kin hm.kp (thn (ha.run pos pins s1 σ H1 _ I1 q) fun us s2 ⟨vs, H2, I2, r, q2⟩ => ⟨I2.kIn, ?_⟩) hst hpl
  have h0 := r.length
  have h1 := G.len _ _ _ _ q2
  rw [List.length_cons] at h1
  exact run_g (us := .ref a :: us) (kw := []) (vs := .ref a :: vs) G (hr.mono hk) (.of_eq (b kV doc pm cdv ct an (.ref a :: us) (by rw [List.length_cons]; omega))) hx I2 (.cons rfl r) q2
/-- o.m() -/
theorem pe_m0 {pl : Sem Bool} (c : Mth X.prog X.w X.K X.mg X.base CX k C m q st ps sp) (hc : Cls X.K C) (hr : RoomG j X.A) (hk : k ≤ j) (hx : Passes CX X E) (b : BndMP m q st ps) (he : PE X o to)
    (ht : eval (.Call (.Attribute o m apos) [] [] pos) X.env = (do
      let ov ← eval o X.env
      standAt apos.atName
      let (f, first) ← holding [ov] (getMethod ov m pl)
      callWith pos f first (backTo pos (starEach [] X.env)) (backToKw pos (keywordEach [] X.env))) := by rfl) :
    PE X (.Call (.Attribute o m apos) [] [] pos) (tM C m sp E to tNil) := by
  obtain ⟨f, fd, F, hm, _, G⟩ := c.ex
  obtain ⟨oc, od, kV, doc, pm, an, cdv, ct, osl, rfl, lk, hcd⟩ := F.ex
  refine ⟨fun pins s σ H Q I h => PySem.W.methodCall_KW (pl := pl) (thn (he.run pins s σ H _ I h) fun u s1 ⟨x, H1, I1, rx, ⟨a, dx, fs, ex, ea, l⟩, q⟩ => ?_) ht⟩
  subst ex
  obtain rfl : u = Value.ref a := rx
  refine getmeth_ok I1 ea hc hm l ?_
  have h1 := G.len _ _ _ _ q
  exact PySem.W.callWith_K0 (first := [.ref a]) I1.kIn hm.kp (run_g (us := [.ref a]) (kw := []) (vs := [.ref a]) G (hr.mono hk) (.of_eq (b kV doc pm cdv ct an [.ref a] h1)) hx I1 (.cons rfl .nil) q)
end
open PySem PySem.Spec PySem.Calls PyProof.Rows L2
/-- what the result of a call at a deeper place is -/
theorem run_in1 {X : Cx} {CX : CXT} {k : Nat} {f : Addr} {fd : FuncData} {ps : List Str} {sp : Sp} {E : XK} {pins : List (Addr × Obj)} {σ : L2.St} {H : Hp} {s : Shared} {us : List Value} {vs : List V} {Q : VK} {R : Value → Shared → Prop}
    (F : FnG X.prog X.w X.K X.mg X.base CX k f fd ps sp) (hr : RoomG (k + 1) X.A) (hb : BindsTo s fd ⟨us, []⟩ (ps.zip us)) (hx : Passes CX X E) (I : Inv X pins σ H s) (r : Vals vs us) (h : sp vs H Q E)
    (hR : ∀ u s', EP X pins σ Q u s' → R u s') : wpAny (model X.prog X.w) X.A.in1 (call (.ref f) us) R X.xe s := by
  refine wpAny_call (codeAny_mono (F.run X.A.in1 X.stack s H ⟨us, []⟩ us vs Q E hr.in1 I.env0.in1 hb r h) fun y s' z => ?_)
  match y, z with
  | .error e, z => exact hx pins σ H s e s' I z
  | .ok (.ret u), z => exact hR u s' (I.after z)
  | .ok .next, z => exact z.elim
  | .ok .brk, z => exact z.elim
  | .ok .cont, z => exact z.elim
/-- a property p of the class at C, its getter by its own body -/
structure Prp (P : Program) (w : World) (K : PySem.W.Frag) (mg : Str → Option Value) (base : Heap) (CX : CXT) (k : Nat) (C : Addr) (m q : Str) (st : Stmt) (ps : List Str) (sp : Sp) : Prop where
  ex : ∃ (p f : Addr) (fd : FuncData), Fun K m q st f fd ∧ PropOf K C m p f ∧ FnG P w K mg base CX k f fd ps sp
section
variable {P : Program} {w : World} {K : PySem.W.Frag} {mg : Str → Option Value} {base : Heap} {CX : CXT}
theorem prp_of {m q : Str} {st : Stmt} {C p f : Addr} {fd : FuncData} {N ps : List Str} {k : Nat} {sp : Sp} (F : Fun K m q st f fd) (hp : PropOf K C m p f) (S : FnScope N ps (defScope st)) (len : ∀ vs H Q E, sp vs H Q E → vs.length = ps.length)
    (hb : ∀ (cdv : Value) (A : Around) (outer : List Env) (s : Shared) (H : Hp) (vs : List V) (Q : VK) (E : XK), RoomG k (A.deeper (envOfC q (defScope st) s.heap.objs.size f cdv)) → sp vs H Q E →
      ∃ t, PSs (cxOf CX P w K mg base N q (defScope st) f cdv A outer s H E) (defBody st) t ∧ t { nx := fun _ H' => Q .non H', rt := Q } (start N vs) H) : Prp P w K mg base CX (k + 1) C m q st ps sp := by
  refine ⟨p, f, fd, F, hp, ?_⟩
  obtain ⟨oc, od, kV, doc, pm, an, cdv, ct, osl, rfl, lk, hcd⟩ := F.ex
  exact fnG_core lk hcd S len fun A outer s H vs Q E hr h => hb cdv A outer s H vs Q E hr h
end
section
variable {X : Cx} {CX : CXT} {k j : Nat} {C : Addr} {m q : Str} {st : Stmt} {ps ks : List Str} {sp : Sp} {E : XK} {p pos apos : Pos} {o e fe : Expr} {es : List Expr} {kws : List Keyword} {to tf : TE} {t tk : TA}
def tP (C : Addr) (sp : Sp) (E : XK) (to : TE) : TE := fun σ H Q => to σ H fun x H1 => ∃ a dx fs, x = .ref a ∧ H1 a = some (.ins C dx fs) ∧ sp [.ref a] H1 Q E
/-- o.p -/
theorem pe_p (c : Prp X.prog X.w X.K X.mg X.base CX k C m q st ps sp) (hc : Cls X.K C) (hr : RoomG j X.A) (hk : k + 1 ≤ j) (hx : Passes CX X.nox E) (b : BndMP m q st ps) (he : PE X o to)
    (hab : attributeBase o m X.env (eval o X.env) = eval o X.env := by rfl) : PE X (.Attribute o m pos) (tP C sp E to) := by
  obtain ⟨p, f, fd, F, hp, G⟩ := c.ex
  obtain ⟨oc, od, kV, doc, pm, an, cdv, ct, osl, rfl, lk, hcd⟩ := F.ex
  refine ⟨fun pins s σ H Q I h => attr_of hab (thn (he.run pins s σ H _ I h) fun u s1 ⟨x, H1, I1, rx, a, dx, fs, ex, ea, q⟩ => ?_)⟩
  subst ex
  obtain rfl : u = Value.ref a := rx
  obtain ⟨mA, O, _, _, _, _⟩ := ins_get I1.hok ea
  obtain ⟨od', J, _⟩ := O.look
  obtain ⟨rest, hrec⟩ := hp.rec_
  have I2 := I1.tok (s1.toks + 1)
  have hcl : (PySem.W.clsIn X.K C).isSome = true := by
    obtain ⟨cd, hc, _⟩ := PySem.W.any_some hc.hd
    rw [hc]
    rfl
  have h1 := G.len _ _ _ _ q
  refine PySem.W.get_bind I1.kIn J (PySem.W.plainGet_of (hc.get m)).1 (PySem.W.findObj_data hcl hp.at_ hp.get hp.tak) (PySem.W.plainGet_of (hc.get m)).2 (wpAny_call (PySem.W.prop_get (s := { s1 with toks := s1.toks + 1 }) I1.kIn hrec ?_))
  refine codeAny_mono (G.run X.A.in1 X.stack { s1 with toks := s1.toks + 1 } H1 ⟨[.ref a], []⟩ [.ref a] [.ref a] Q E (hr.mono hk).in1 I2.env0.in1 (.of_eq (b kV doc pm cdv ct an [.ref a] h1)) (.cons rfl .nil) q) fun y s' z => ?_
  match y, z with
  | .error er, z => exact False.elim (hx pins σ H1 { s1 with toks := s1.toks + 1 } er s' (I2.wish _) z)
  | .ok (.ret u), z =>
    obtain ⟨v, H', I3, rv, q3⟩ := I2.after z
    show wpAny _ _ (handedOut u) _ _ _
    rw [PySem.W.handedOut_of (handed_of rv)]
    exact wpAny_pure ⟨v, H', I3, rv, q3⟩
  | .ok .next, z => exact z.elim
  | .ok .brk, z => exact z.elim
  | .ok .cont, z => exact z.elim
def tO (C : Addr) (sp : Sp) (E : XK) (tf : TE) (t : TA) : TE := fun σ H Q => tf σ H fun y H1 => ∃ a, y = V.ref a ∧ t σ H1 fun vs H2 => (∃ dx fs, H2 a = some (.ins C dx fs)) ∧ sp (.ref a :: vs) H2 Q E
theorem pe_o (c : Mth X.prog X.w X.K X.mg X.base CX k C "__call__" q st ps sp) (hr : RoomG j X.A) (hk : k ≤ j) (hx : Passes CX X E) (b : BndMP "__call__" q st ps) (hf : PE X fe tf) (ha : PA X (e :: es) t)
    (ht : eval (.Call fe (e :: es) [] pos) X.env = (do callWith pos (← eval fe X.env) [] (backTo pos (starEach (e :: es) X.env)) (backToKw pos (keywordEach [] X.env))) := by rfl)
    (he : starEach (e :: es) X.env = (false, eval e X.env) :: starEach es X.env := by rfl) (hpl : (backTo pos (starEach es X.env)).any (·.1) = false := by rfl) : PE X (.Call fe (e :: es) [] pos) (tO C sp E tf t) := by
  obtain ⟨f, fd, F, hm, hfi, G⟩ := c.ex
  obtain ⟨oc, od, kV, doc, pm, an, cdv, ct, osl, rfl, lk, hcd⟩ := F.ex
  refine ⟨fun pins s σ H Q I h => Call_ (thn (hf.run pins s σ H _ I h) fun u s1 ⟨y, H1, I1, ry, a, ey, q⟩ => ?_) ht⟩
  subst ey
  obtain rfl : u = Value.ref a := ry
  refine StX.callO_with (thn (ha.run pos pins s1 σ H1 _ I1 q) fun us s2 ⟨vs, H2, I2, r, ⟨dx, fs, hi⟩, q2⟩ => ?_) he hpl
  obtain ⟨ox, od, J, hd⟩ := StX.insC_at I2 (.inr ⟨dx, fs, hi⟩)
  refine ⟨⟨C, ox, od, J, hd⟩, wpAny_call (PySem.W.kco_code I2.kIn J hd hm.at_ hm.fn hfi ?_)⟩
  have h0 := r.length
  have h1 := G.len _ _ _ _ q2
  rw [List.length_cons] at h1
  refine codeAny_mono (G.run X.A X.stack s2 H2 ⟨.ref a :: us, []⟩ (.ref a :: us) (.ref a :: vs) Q E (hr.mono hk) I2.env0 (.of_eq (b kV doc pm cdv ct an (.ref a :: us) (by rw [List.length_cons]; omega))) (.cons rfl r) q2) fun y s' z => ?_
  match y, z with
  | .error e, z => exact hx pins σ H2 s2 e s' I2 z
  | .ok (.ret u), z => exact I2.after z
  | .ok .next, z => exact z.elim
  | .ok .brk, z => exact z.elim
  | .ok .cont, z => exact z.elim
end
open PySem PySem.Spec PySem.Calls PyProof.Rows L2
open PySem PySem.Spec PySem.Calls PyProof.Rows L2
/-- how arguments come to the parameters, defaults among them -/
def BndI (P : Program) (w : World) (K : PySem.W.Frag) (mg : Str → Option Value) (base : Heap) (CX : CXT) (k : Nat) (x : Str) (C : Addr) (ps : List Str) (sp : Sp) (n : Nat) (ks : List Str) (gV : List V → List V → List V) : Prop :=
  ∃ (f : Addr) (fd : FuncData) (g : List Value → List Value → List Value), Mk K C f ∧ mg x = some (.ref C) ∧ FnG P w K mg base CX k f fd ps sp ∧ KBn K fd ps (n + 1) ks g gV
section
variable {X : Cx} {CX : CXT} {k j n : Nat} {C : Addr} {ps ks : List Str} {sp : Sp} {E : XK} {x : Str} {p pos : Pos} {e : Expr} {es : List Expr} {kws : List Keyword} {t tk : TA} {gV : List V → List V → List V}
theorem run_mk {pins : List (Addr × Obj)} {σ : L2.St} {H : Hp} {s : Shared} {Q : VK} {us ws : List Value} {vs zs : List V} {f : Addr} {fd : FuncData} {g : List Value → List Value → List Value} (M : Mk X.K C f) (F : FnG X.prog X.w X.K X.mg X.base CX k f fd ps sp) (hr : RoomG (k + 1) X.A)
    (hb : KBn X.K fd ps (n + 1) ks g gV) (hx : Passes CX X E) (I : Inv X pins σ H s) (r : Vals vs us) (rz : Vals zs ws) (l1 : vs.length = n) (l2 : zs.length = ks.length)
    (h : ∀ x dx, H x = none → H dx = none → dx ≠ x → sp (gV (.ref x :: vs) zs) (upd (upd H dx (.own x)) x (.ins C dx [])) (fun v H2 => v = .non ∧ Q (.ref x) H2) E) :
    wpAny (model X.prog X.w) X.A (call (.ref C) us (ks.zip ws)) (EP X pins σ Q) X.xe s := by
  have hq := h (s.heap.objs.size + 1) s.heap.objs.size (I.hok.fresh (Nat.le_succ _)) (I.hok.fresh (Nat.le_refl _)) (Nat.ne_of_lt (Nat.lt_succ_self _))
  have I2 := Inv.made (C := C) I
  have r1 : Vals (V.ref (s.heap.objs.size + 1) :: vs) (Value.ref (s.heap.objs.size + 1) :: us) := .cons rfl r
  have r2 := hb.rel r1 rz
  have e1 : (Value.ref (s.heap.objs.size + 1) :: us).length = n + 1 := r1.length.symm.trans (congrArg Nat.succ l1)
  have e2 : ws.length = ks.length := rz.length.symm.trans l2
  refine wpAny_call (make_map (f := f) I.kIn M.makes M.init (beq_iff_eq.mp M.fn) (codeAny_mono (F.run _ X.stack _ _ ⟨Value.ref (s.heap.objs.size + 1) :: us, ks.zip ws⟩ (g (Value.ref (s.heap.objs.size + 1) :: us) ws) _ _ E (hr.make C us (ks.zip ws))
    (I2.env0.make C us (ks.zip ws)) (hb.to _ (Value.ref (s.heap.objs.size + 1) :: us) ws I2.kIn e1 e2) r2 hq) fun r s' hq' => ?_))
  cases r with
  | error e => exact hx pins σ _ _ e s' I2 hq'
  | ok fl =>
    cases fl with
    | ret u =>
      obtain ⟨v, H', I3, rv, ev, q3⟩ := I2.after hq'
      subst ev
      exact ⟨rv, ⟨V.ref (s.heap.objs.size + 1), H', I3, rfl, q3⟩⟩
    | next => exact False.elim hq'
    | brk => exact False.elim hq'
    | cont => exact False.elim hq'
def tMk (C : Addr) (n m : Nat) (sp : Sp) (gV : List V → List V → List V) (E : XK) (t tk : TA) : TE := fun σ H Q => t σ H fun vs H1 => tk σ H1 fun zs H2 => vs.length = n ∧ zs.length = m ∧
  ∀ x dx, H2 x = none → H2 dx = none → dx ≠ x → sp (gV (.ref x :: vs) zs) (upd (upd H2 dx (.own x)) x (.ins C dx [])) (fun v H3 => v = .non ∧ Q (.ref x) H3) E
/-- C(e, .., k = e, ..) -/
theorem pe_mk (c : BndI X.prog X.w X.K X.mg X.base CX k x C ps sp n ks gV) (hr : RoomG j X.A) (hk : k + 1 ≤ j) (hx : Passes CX X E) (hg : Gl X x)
    (ha : PA X (e :: es) t) (hkw : PK X kws tk) (hall : (backToKw pos (keywordEach kws X.env)).all (·.1.isSome) = true := by rfl) (hks : (backToKw pos (keywordEach kws X.env)).filterMap (·.1) = ks := by rfl)
    (hdb : (x == ("__debug__" : Str)) = false := by decide) (he : starEach (e :: es) X.env = (false, eval e X.env) :: starEach es X.env := by rfl)
    (hpl : ((backTo pos (starEach (e :: es) X.env)).any (·.1) || (backToKw pos (keywordEach kws X.env)).any (·.1.isNone)) = false := by rfl) :
    PE X (.Call (.Name x p) (e :: es) kws pos) (tMk C n ks.length sp gV E t tk) := by
  obtain ⟨f, fd, g, M, hm, F, hb⟩ := c
  refine ⟨fun pins s σ H Q I h => wpAny_Call_Name_kw (ld_glob I hg hm ?_ hdb)⟩
  refine PySem.W.callWith_KW (h₀ := X.base) I.ok.mod.kin M.kp hall (thn (ha.run pos pins s σ H _ I h) fun us s1 ⟨vs, H1, I1, r, q⟩ => ?_) hpl he
  refine thn (hkw.run pos pins s1 σ H1 _ I1 q) fun ws s2 ⟨zs, H2, I2, rz, l1, l2, q2⟩ => ⟨I2.kIn, ?_⟩
  rw [hks]
  exact run_mk M F (hr.mono hk) hb hx I2 r rz l1 l2 q2
end
open PySem PySem.Spec PySem.Calls PyProof.Rows L2
section
variable {prog : Program} {w : World} {K : Type} [DecidableEq K] {knd : KeyKind prog w K} {A : Around} {E : Value → Shared → Prop} {s : Shared}
theorem dictPut_pairs {d : Addr} {kvs : List (K × Value)} {k : K} {key v : Value} {Q : Unit → Shared → Prop} (hkey : knd.is k key = true) (hm : s.heap.DictOf knd d kvs)
    (hQ : ∀ h', h'.DictOf knd d (stored kvs k v) → Heap.SameBut d s.heap h' → Q () { s with heap := h' })
    (hsz : kvs.length ≤ sizeLine) : wpAny (model prog w) A (dictPut d (knd.hash k) key v) Q E s := by
  obtain ⟨o, es, ep, ho, hc, hd, hk, hp, hn⟩ := hm
  have hes : es.size ≤ sizeLine := by have e1 := hp.length; have e2 : es.toList.length = es.size := by simp
                                      omega
  unfold dictPut
  refine wpAny_bind (wpAny_dictFind_of hkey ho hd hk ?_)
  have hidx : (es.findIdx? fun e => knd.is k e.key) = kvs.findIdx? fun kv => decide (kv.1 = k) := by
    rw [← hp.findIdx k]; obtain ⟨l⟩ := es; simp
  cases hi : es.findIdx? fun e => knd.is k e.key with
  | some i =>
    refine wpAny_updateDict ho hd (hQ _ ⟨_, _, ep, Heap.get?_update_self _ ho (Obj.isFreed_of_dict (Obj.data_mapDict hd _)),
      hc.mapDict _, Obj.data_mapDict hd _, hk.modify _ _, ?_, ?_⟩ (Heap.SameBut.update ..))
    · rw [stored, if_pos (any_of_findIdx_some (hidx ▸ hi))]
      have hl : (es.toList.findIdx? fun e => knd.is k e.key) = some i := by rw [← hi]; obtain ⟨l⟩ := es; simp
      have := hp.modify hn hl v
      obtain ⟨l⟩ := es
      simpa using this
    · rw [stored, if_pos (any_of_findIdx_some (hidx ▸ hi)), keys_map_store]; exact hn
  | none =>
    have hnot : k ∉ kvs.map (·.1) := not_mem_of_findIdx_none (hidx ▸ hi)
    have hany : ¬ (kvs.any fun kv => decide (kv.1 = k)) = true := by
      rw [List.any_eq_true]; rintro ⟨kv, hkv, he⟩
      exact hnot (List.mem_map.mpr ⟨kv, hkv, of_decide_eq_true he⟩)
    refine wpAny_updateDictKeys (hz := hes) ho hd (hQ _ ⟨_, _, ep + 1, Heap.get?_update_self _ ho (Obj.isFreed_of_dict (Obj.data_mapDictKeys hd _)),
      hc.mapDictKeys _, Obj.data_mapDictKeys hd _, hk.push hkey _, ?_, ?_⟩ (Heap.SameBut.update ..))
    · rw [stored, if_neg hany]
      have := hp.append hkey (knd.hash k) v
      obtain ⟨l⟩ := es
      simpa using this
    · rw [stored, if_neg hany, List.map_append, List.nodup_append]
      refine ⟨hn, by simp, ?_⟩
      intro a ha b hb
      simp only [List.map_cons, List.map_nil, List.mem_singleton] at hb
      subst hb
      exact fun e => hnot (e ▸ ha)
/-- the keys of the dict are told by value -/
theorem merge_map {d o : Addr} {kvs more : List (K × Value)} {Q : Unit → Shared → Prop} (hdo : d ≠ o) (hoS : (o == sysModules) = false) (hd : s.heap.DictOf knd d kvs) (ho : s.heap.DictOf knd o more)
    (href : ∀ (k : K) (v : Value), knd.is k v = true → ∀ a, v ≠ .ref a)
    (hQ : ∀ h', h'.DictOf knd d (merged kvs more) → h'.DictOf knd o more → Heap.SameBut d s.heap h' → Q () { s with heap := h' })
    (hsz : kvs.length + more.length ≤ sizeLine) : wpAny (model prog w) A (mergeMapping d (.ref o) false) Q E s := by
  obtain ⟨od, esd, epd, hod, hcd, hdd, hkd, hpd, hnd⟩ := id hd
  obtain ⟨oo, eso, epo, hoo, hco, hdo', hko, hpo, hno⟩ := id ho
  have hlen : more.length = eso.size := by rw [← hpo.length]; simp
  unfold mergeMapping
  refine wpAny_bind (wpAny_isInstance ho.typeIs isSubtype_dict_dict ?_)
  rw [if_pos rfl]
  refine wpAny_bind (wpAny_specialOf ho.typeIs F.slot_dict_iter.lookup ?_)
  rw [show (some (Value.builtin "dict.__iter__") == some (Value.builtin "dict.__iter__")) = true from rfl]
  refine wpAny_bind (wpAny_pure ?_)
  dsimp only
  rw [if_neg (show ¬ (o == sysModules) = true by rw [hoS]; exact Bool.false_ne_true)]
  refine wpAny_bind (wpAny_dictEntries hod hdd ?_)
  have loop : ∀ s1 : Shared, s1 = s → wpAny (model prog w) A (do
      let l ← dictEntries o
      let epoch ← dictEpoch o
      forIn (List.range l.size) PUnit.unit fun i (_ : PUnit) => (do
          let l' ← dictEntries o
          match l'[i]? with
            | some e => do
              holding [e.key, e.val] (dictPut d e.hash e.key e.val)
              let ep' ← dictEpoch o
              if (ep' != epoch) = true then do
                  (unsupported "dict.changed-during-merge" : Sem PUnit)
                  pure (ForInStep.yield PUnit.unit)
                else pure (ForInStep.yield PUnit.unit)
            | _ => do
              (unsupported "dict.changed-during-merge" : Sem PUnit)
              pure (ForInStep.yield PUnit.unit) : Sem (ForInStep PUnit))
      pure ()) Q E s1 := by
    intro s1 e1
    subst e1
    refine wpAny_bind (wpAny_dictEntries hoo hdo' ?_)
    refine wpAny_bind (wpAny_dictEpoch hoo hdo' ?_)
    refine wpAny_bind ?_
    rw [List.range_eq_range']
    refine wpAny_forIn_list _
      (fun rest _ s' => ∃ h' i, s' = { s1 with heap := h' } ∧ rest = List.range' i (eso.size - i) ∧ i ≤ eso.size ∧ h'.DictOf knd d (merged kvs (more.take i)) ∧ h'.get? o = some oo ∧ Heap.SameBut d s1.heap h')
      _ ?_ ?_ _ _ ⟨s1.heap, 0, rfl, by simp, Nat.zero_le _, by simpa [merged] using hd, hoo, Heap.SameBut.refl _ _⟩
    · rintro x rest b s' ⟨h', i, rfl, hr, hi, hd', hoo', hs'⟩
      have hlt : i < eso.size := by
        rcases Nat.lt_or_ge i eso.size with h | h
        · exact h
        · rw [Nat.sub_eq_zero_of_le h] at hr; simp at hr
      obtain ⟨rfl, hrest⟩ : x = i ∧ rest = List.range' (i + 1) (eso.size - (i + 1)) := by
        have e : eso.size - i = (eso.size - (i + 1)) + 1 := by omega
        rw [e, List.range'_succ] at hr
        injection hr with h1 h2
        exact ⟨h1, h2⟩
      refine wpAny_bind (wpAny_dictEntries hoo' hdo' ?_)
      rw [Array.getElem?_eq_getElem hlt]
      obtain ⟨kv, hkv⟩ : ∃ kv, more[x]? = some kv := ⟨more[x]'(by rw [hlen]; exact hlt), List.getElem?_eq_getElem _⟩
      obtain ⟨k, v⟩ := kv
      obtain ⟨hkey, hval⟩ := hpo.get? (e := eso[x]) (by simp [hlt]) hkv
      obtain ⟨k', hkey', hhash⟩ := hko eso[x] (Array.getElem_mem hlt)
      obtain rfl : k' = k := knd.inj _ _ _ hkey' hkey
      show wpAny _ _ (holding [eso[x].key, eso[x].val] (dictPut d eso[x].hash eso[x].key eso[x].val) >>= _) _ _ _
      rw [hhash, hval]
      have hmx : (merged kvs (more.take x)).length ≤ sizeLine := by
        have e1 := merged_length_le kvs (more.take x)
        have e2 : (more.take x).length ≤ more.length := by rw [List.length_take]; omega
        omega
      refine wpAny_bind (wpAny_holding (dictPut_pairs (hsz := hmx) hkey hd' fun h'' hd'' hs'' => ?_))
      have hoo'' : h''.get? o = some oo := (hs''.2 o (Ne.symm hdo)).trans hoo'
      refine wpAny_bind (wpAny_dictEpoch hoo'' hdo' ?_)
      rw [if_neg (by simp)]
      exact wpAny_pure ⟨h'', x + 1, rfl, hrest, hlt, by rw [merged_take_succ kvs more x (k', v) hkv]; exact hd'', hoo'', hs'.trans hs''⟩
    · rintro b s' ⟨h', i, rfl, hr, hi, hd', hoo', hs'⟩
      have hin : i = eso.size := by
        rcases Nat.lt_or_ge i eso.size with h | h
        · have e : eso.size - i = (eso.size - (i + 1)) + 1 := by omega
          rw [e, List.range'_succ] at hr; exact nomatch hr
        · exact Nat.le_antisymm hi h
      refine wpAny_pure (hQ h' ?_ ⟨oo, eso, epo, hoo', hco, hdo', hko, hpo, hno⟩ hs')
      rw [hin, ← hlen, List.take_length] at hd'; exact hd'
  split
  · refine wpAny_bind (wpAny_dictEntries hoo hdo' ?_)
    have hloop : (forIn eso PUnit.unit fun e (_ : PUnit) => (match e.key with
          | Value.ref a => do
            let lk ← specialOf e.key (Str.ofString "__eq__")
            if (lk != some (Value.builtin "object.__eq__")) = true then
                if (Array.filter (fun x => x.hash == e.hash) eso).size > 1 then do
                  (unsupported "dict.merge-into-an-empty-dict:keys-of-equal-hash" : Sem PUnit)
                  pure (ForInStep.yield PUnit.unit)
                else pure (ForInStep.yield PUnit.unit)
              else pure (ForInStep.yield PUnit.unit)
          | x => pure (ForInStep.yield PUnit.unit) : Sem (ForInStep PUnit))) = pure PUnit.unit := by
      rw [← Array.forIn_toList]
      refine forIn_yield_id _ fun e he c => ?_
      obtain ⟨k, hkey, _⟩ := hko e (Array.mem_toList_iff.mp he)
      have hn := href k e.key hkey
      split
      · rename_i a q
        exact absurd q (hn a)
      · rfl
    refine wpAny_bind (wpAny_of_eq hloop ?_)
    exact loop s rfl
  · exact loop s rfl
end
open PySem PySem.Spec PySem.Calls PyProof.Rows L2
section
variable {prog : Program} {w : World} {A : Around} {s : Shared} {K : Type} [DecidableEq K] {knd : KeyKind prog w K}
theorem wp_onR {M : Model} {α : Type} {t : Sem α} {h : Value → Sem Unit} {Q : α → Shared → Prop} {E : Value → Shared → Prop} (ht : wpAny M A t Q (fun _ _ => False) s) : wpAny M A (t.onRaise h) Q E s :=
  wpAny_onRaise (wpAny_mono ht (fun _ _ z => z) fun _ _ z => z.elim)
theorem wp_tryC {M : Model} {α : Type} {t : Sem α} {h : Value → Sem α} {Q : α → Shared → Prop} {E : Value → Shared → Prop} (ht : wpAny M A t Q (fun _ _ => False) s) : wpAny M A (t.tryCatch h) Q E s :=
  wpAny_tryCatch (wpAny_mono ht (fun _ _ z => z) fun _ _ z => z.elim)
/-- the dict at o into the one at d -/
def Mrg1 (knd : KeyKind prog w K) (d : Addr) (s : Shared) (o : Addr) (Q : Shared → Prop) : Prop :=
  ∃ kvs more, d ≠ o ∧ (o == sysModules) = false ∧ s.heap.DictOf knd d kvs ∧ s.heap.DictOf knd o more ∧ kvs.length + more.length ≤ sizeLine ∧ ∀ h', h'.DictOf knd d (merged kvs more) → Heap.SameBut d s.heap h' → Q { s with heap := h' }
theorem mrg1_run {d o : Addr} {Q : Shared → Prop} {E : Value → Shared → Prop} (href : ∀ (k : K) (v : Value), knd.is k v = true → ∀ a, v ≠ .ref a) (h : Mrg1 knd d s o Q) : wpAny (model prog w) A (mergeMapping d (.ref o) false) (fun _ => Q) E s := by
  obtain ⟨kvs, more, h1, h2, h3, h4, h5, h6⟩ := h
  exact merge_map h1 h2 h3 h4 href (fun h' a _ c => h6 h' a c) h5
theorem disp_star2 {m m2 : Sem Value} {E : Value → Shared → Prop} {Q : Value → Shared → Prop} (href : ∀ (k : K) (v : Value), knd.is k v = true → ∀ a, v ≠ .ref a)
    (hx : wpAny (model prog w) A m (fun x s1 => ∃ o, x = .ref o ∧ Mrg1 knd s.heap.objs.size s1 o fun s2 => wpAny (model prog w) A m2 (fun y s3 => ∃ b, y = .ref b ∧ Mrg1 knd s.heap.objs.size s3 b fun s4 => Q (.ref s.heap.objs.size) s4) E s2) E
      { s with heap := s.heap.push { cls := .type "dict", data := .dict #[] } }) : wpAny (model prog w) A (dictDisplay [(none, m), (none, m2)]) Q E s := by
  unfold dictDisplay
  dsimp only
  simp only [List.forIn_cons, List.forIn_nil, List.isEmpty_nil, if_true, pure_bind]
  refine wpAny_bind (wpAny_bind (wpAny_bind (wpAny_alloc ?_)))
  refine wpAny_bind (wpAny_holding (wpAny_mono hx (fun x s1 z => ?_) fun _ _ z => z))
  obtain ⟨o, rfl, z⟩ := z
  refine wpAny_bind (wp_onR (wp_tryC (wp_onR (wpAny_holding (wpAny_mono (mrg1_run href z) (fun _ s2 z2 => ?_) fun _ _ z => z)))))
  refine wpAny_pure ?_
  simp only [List.isEmpty_nil, if_true, pure_bind]
  refine wpAny_bind (wpAny_bind (wpAny_holding (wpAny_mono z2 (fun y s3 z3 => ?_) fun _ _ z => z)))
  obtain ⟨b, rfl, z3⟩ := z3
  refine wpAny_bind (wp_onR (wp_tryC (wp_onR (wpAny_holding (wpAny_mono (mrg1_run href z3) (fun _ s4 z4 => ?_) fun _ _ z => z)))))
  refine wpAny_pure ?_
  exact wpAny_pure (wpAny_pure z4)
end
theorem mix_href {P : Program} {w : World} (k : Key) (v : Value) (h : (mixKind P w).is k v = true) (a : Addr) : v ≠ .ref a := by
  rcases keyIs_shape (k := k) (v := v) h with ⟨i, t, _, e⟩ | ⟨i, t, _, e⟩ <;> (rw [e]; intro z; cases z)
section
variable {X : Cx} {pins : List (Addr × Obj)} {σ : L2.St} {H : Hp} {s : Shared}
/-- one merging -/
theorem mrg_lay {d o : Addr} {kvs more : List (Key × V)} {Q : Shared → Prop} (I : Inv X pins σ H s) (hd : H d = some (.dK kvs)) (ho : Rd H o (.dK more)) (hne : d ≠ o) (hz : kvs.length + more.length ≤ sizeLine)
    (hq : ∀ s', Inv X pins σ (upd H d (.dK (mergeK kvs more))) s' → Q s') : Mrg1 (mixKind X.prog X.w) d s o Q := by
  obtain ⟨z1, l1, vs1, r1, d1⟩ := dk_of I.hok hd
  obtain ⟨z2, l2, vs2, r2, d2⟩ := dk_rd I.hok ho
  refine ⟨vs1, vs2, hne, l2, d1, d2, by rw [← r1.length, ← r2.length]; exact hz, fun h' dd hs => hq _ ?_⟩
  have he : ∃ q, h'.get? d = some q := let ⟨q, _, _, hq, _⟩ := dd; ⟨q, hq⟩
  exact d_write I (by rw [hd]; exact True.intro) hs he (dk_new (Nat.le_trans (length_mergeK more kvs) hz) l1 (r2.merge r1) dd)
end
section
variable {X : Cx} {pos : Pos} {e1 e2 k v : Expr} {t1 t2 tk tv : TE}
def tStar2 (t1 t2 : TE) : TE := fun σ H Q => ∀ d, H d = none → t1 σ (upd H d (.dK [])) fun x H1 => ∃ a more, x = .ref a ∧ d ≠ a ∧ H1 d = some (.dK []) ∧ Rd H1 a (.dK more) ∧
  t2 σ (upd H1 d (.dK (mergeK [] more))) fun y H2 => ∃ b kvs more2, y = .ref b ∧ d ≠ b ∧ H2 d = some (.dK kvs) ∧ Rd H2 b (.dK more2) ∧ kvs.length + more2.length ≤ sizeLine ∧ Q (.ref d) (upd H2 d (.dK (mergeK kvs more2)))
theorem pe_star2 (h1 : PE X e1 t1) (h2 : PE X e2 t2) : PE X (.Dict [none, none] [e1, e2] pos) (tStar2 t1 t2) := by
  refine ⟨fun pins s σ H Q I q => ?_⟩
  rw [arm_eval_Dict]
  refine wpAny_bind (wpAny_standAt ?_)
  show wpAny _ _ (dictDisplay [(none, do let x ← eval e1 X.env; standAt pos; pure x), (none, do let x ← eval e2 X.env; standAt pos; pure x)]) _ _ _
  have hn := I.hok.fresh (Nat.le_refl s.heap.objs.size)
  have I1 := I.laid (a := s.heap.objs.size) (o := .dK []) (h' := s.heap.push { cls := .type "dict", data := .dict #[] }) (t' := s.toks) (fun _ _ q => Heap.get?_push_of_some _ q) (Nat.le_refl _) (dk_empty s.heap I.big)
  refine disp_star2 (knd := mixKind X.prog X.w) mix_href (wpAny_bind (thn (h1.run pins _ σ _ _ I1 (q _ hn)) fun u s1 ⟨x, H1, I2, rx, a, more, ex, hne, hd, hr, q2⟩ => wpAny_bind (wpAny_standAt (wpAny_pure ?_))))
  subst ex
  obtain rfl : u = Value.ref a := rx
  have hz0 : more.length ≤ sizeLine := (dk_rd I2.hok hr).1
  refine ⟨a, rfl, mrg_lay I2 hd hr hne (by rw [List.length_nil, Nat.zero_add]; exact hz0) fun s2 I3 => ?_⟩
  refine wpAny_bind (thn (h2.run pins _ σ _ _ I3 q2) fun u2 s3 ⟨y, H2, I4, ry, b, kvs, more2, ey, hne2, hd2, hr2, hz2, q3⟩ => wpAny_bind (wpAny_standAt (wpAny_pure ?_)))
  subst ey
  obtain rfl : u2 = Value.ref b := ry
  exact ⟨b, rfl, mrg_lay I4 hd2 hr2 hne2 hz2 fun s6 I7 => ⟨.ref s.heap.objs.size, _, I7, rfl, q3⟩⟩
end
open PySem PySem.Spec PyProof.Rows
open L2 hiding pass0
namespace MN
abbrev two (c : Nat) (xs : Array Value) : Obj := { cls := .type "list", dict := none, data := .seq xs c, slots := #[] }
end MN
open PySem PySem.Spec PySem.Calls PyProof.Rows
open L2 hiding pass0
def iSeqA (K : PySem.W.Frag) (tl : TE) : TI := fun σ H R => tl σ H fun x H1 => ∃ a xs, x = .ref a ∧ ((SqL K H1 a xs ∧ R (Itl K a) H1) ∨ (SqT K H1 a xs ∧ R (Itt K a) H1))
theorem pi_seqA {X : Cx} {tg l : Expr} {tl : TE} (hl : PE X l tl) : PI X tg l (iSeqA X.K tl) := by
  refine ⟨fun pn s σ H R I h => ?_⟩
  refine thn (hl.run pn s σ H _ I h) fun v s1 ⟨x, H1, I1, rx, a, xs, ex, q1⟩ => ?_
  subst ex
  cases rx
  rcases q1 with ⟨hq, q⟩ | ⟨hq, q⟩
  · obtain ⟨its, rv, hp, hz⟩ := I1.list hq
    refine wpAny_pyIter_list hp.isList ?_
    exact ⟨s1.heap.objs.size, [s1.heap.objs.size], _, _, H1, rfl, I1.kept (t' := s1.toks) fun b o e => Heap.get?_push_of_some _ e, turn_list a _, ⟨_, Heap.get?_push_size _ rfl, rfl, rfl⟩, fun b hb => (List.mem_singleton.mp hb) ▸ I1.fpOk (Nat.le_refl _) (I1.hok.fresh (Nat.le_refl _)), q⟩
  · obtain ⟨its, rv, hp, hz⟩ := I1.tuple hq
    refine wpAny_pyIter_tuple (show s1.heap.IsTuple a its.toArray from hp) ?_
    exact ⟨s1.heap.objs.size, [s1.heap.objs.size], _, _, H1, rfl, I1.kept (t' := s1.toks) fun b o e => Heap.get?_push_of_some _ e, turn_tuple a _, ⟨_, Heap.get?_push_size _ rfl, rfl, rfl⟩, fun b hb => (List.mem_singleton.mp hb) ▸ I1.fpOk (Nat.le_refl _) (I1.hok.fresh (Nat.le_refl _)), q⟩
theorem pi_seqAK {X : Cx} {K : PySem.W.Frag} {tg l : Expr} {tl : TE} (e : X.K = K) (hl : PE X l tl) : PI X tg l (iSeqA K tl) := by subst e; exact pi_seqA hl
def BndF (P : Program) (w : World) (K : PySem.W.Frag) (mg : Str → Option Value) (base : Heap) (CX : CXT) (k : Nat) (x : Str) (ps : List Str) (sp : Sp) (n : Nat) (ks : List Str) (gV : List V → List V → List V) : Prop :=
  ∃ (f : Addr) (fd : FuncData) (g : List Value → List Value → List Value), PySem.W.keepIn K (.ref f) = true ∧ mg x = some (.ref f) ∧ FnG P w K mg base CX k f fd ps sp ∧ KBn K fd ps n ks g gV
section
variable {X : Cx} {CX : CXT} {k j n : Nat} {ps ks : List Str} {sp : Sp} {E : XK} {x : Str} {p pos : Pos} {e : Expr} {es : List Expr} {kws : List Keyword} {t tk : TA} {gV : List V → List V → List V}
theorem run_f {pn : List (Addr × Obj)} {σ : L2.St} {H : Hp} {s : Shared} {Q : VK} {us ws : List Value} {vs zs : List V} {f : Addr} {fd : FuncData} {g : List Value → List Value → List Value} (F : FnG X.prog X.w X.K X.mg X.base CX k f fd ps sp) (hr : RoomG k X.A)
    (hb : KBn X.K fd ps n ks g gV) (hx : Passes CX X E) (I : Inv X pn σ H s) (r : Vals vs us) (rz : Vals zs ws) (l1 : vs.length = n) (l2 : zs.length = ks.length) (h : sp (gV vs zs) H Q E) :
    wpAny (model X.prog X.w) X.A (call (.ref f) us (ks.zip ws)) (EP X pn σ Q) X.xe s := by
  have b := hb.to s us ws I.kIn (r.length.symm.trans l1) (rz.length.symm.trans l2)
  refine wpAny_call (codeAny_mono (F.run X.A X.stack s H ⟨us, ks.zip ws⟩ (g us ws) (gV vs zs) Q E hr I.env0 b (hb.rel r rz) h) fun y s' z => ?_)
  match y, z with
  | .error er, z => exact hx pn σ H s er s' I z
  | .ok (.ret u), z => exact I.after z
  | .ok .next, z => exact z.elim
  | .ok .brk, z => exact z.elim
  | .ok .cont, z => exact z.elim
def tF (n m : Nat) (sp : Sp) (gV : List V → List V → List V) (E : XK) (t tk : TA) : TE := fun σ H Q => t σ H fun vs H1 => tk σ H1 fun zs H2 => vs.length = n ∧ zs.length = m ∧ sp (gV vs zs) H2 Q E
/-- x(e, .., k = e, ..) -/
theorem pe_f (c : BndF X.prog X.w X.K X.mg X.base CX k x ps sp n ks gV) (hr : RoomG j X.A) (hk : k ≤ j) (hx : Passes CX X E) (hg : Gl X x) (ha : PA X (e :: es) t) (hkw : PK X kws tk)
    (hall : (backToKw pos (keywordEach kws X.env)).all (·.1.isSome) = true := by rfl) (hks : (backToKw pos (keywordEach kws X.env)).filterMap (·.1) = ks := by rfl)
    (hdb : (x == ("__debug__" : Str)) = false := by decide) (he : starEach (e :: es) X.env = (false, eval e X.env) :: starEach es X.env := by rfl)
    (hpl : ((backTo pos (starEach (e :: es) X.env)).any (·.1) || (backToKw pos (keywordEach kws X.env)).any (·.1.isNone)) = false := by rfl) :
    PE X (.Call (.Name x p) (e :: es) kws pos) (tF n ks.length sp gV E t tk) := by
  obtain ⟨f, fd, g, kp, hm, F, hb⟩ := c
  refine ⟨fun pn s σ H Q I h => wpAny_Call_Name_kw (ld_glob I hg hm ?_ hdb)⟩
  refine PySem.W.callWith_KW (h₀ := X.base) I.ok.mod.kin kp hall (thn (ha.run pos pn s σ H _ I h) fun us s1 ⟨vs, H1, I1, r, q⟩ => ?_) hpl he
  refine thn (hkw.run pos pn s1 σ H1 _ I1 q) fun ws s2 ⟨zs, H2, I2, rz, l1, l2, q2⟩ => ⟨I2.kIn, ?_⟩
  rw [hks]
  exact run_f F (hr.mono hk) hb hx I2 r rz l1 l2 q2
/-- x(k = e, ..) -/
theorem pe_f0 (c : BndF X.prog X.w X.K X.mg X.base CX k x ps sp 0 ks gV) (hr : RoomG j X.A) (hk : k ≤ j) (hx : Passes CX X E) (hg : Gl X x) (hkw : PK X kws tk)
    (hall : (backToKw pos (keywordEach kws X.env)).all (·.1.isSome) = true := by rfl) (hks : (backToKw pos (keywordEach kws X.env)).filterMap (·.1) = ks := by rfl)
    (hdb : (x == ("__debug__" : Str)) = false := by decide)
    (hpl : ((backTo pos (starEach [] X.env)).any (·.1) || (backToKw pos (keywordEach kws X.env)).any (·.1.isNone)) = false := by rfl) :
    PE X (.Call (.Name x p) [] kws pos) (tF 0 ks.length sp gV E tNil tk) := by
  obtain ⟨f, fd, g, kp, hm, F, hb⟩ := c
  refine ⟨fun pn s σ H Q I h => wpAny_Call_Name_kw (ld_glob I hg hm (PySem.W.callWith_KW0 (h₀ := X.base) I.ok.mod.kin kp hall ?_ hpl) hdb)⟩
  refine thn (hkw.run pos pn s σ H _ I h) fun ws s2 ⟨zs, H2, I2, rz, l1, l2, q2⟩ => ⟨I2.kIn, ?_⟩
  rw [hks]
  exact run_f F (hr.mono hk) hb hx I2 .nil rz l1 l2 q2
end
/-- a def whose last parameter has a default: all given -/
theorem bndf_of {P : Program} {w : World} {K : PySem.W.Frag} {mg : Str → Option Value} {base : Heap} {CX : CXT} {k n : Nat} {x q : Str} {params : Arguments} {body : List Stmt} {scope : Scope} {dvs : List V} {f : Addr} {fd : FuncData} {ps ks : List Str} {sp : Sp}
    (F : FunD K x q params body scope dvs [] f fd) (kp : PySem.W.keepIn K (.ref f) = true) (hm : mg x = some (.ref f)) (G : FnG P w K mg base CX k f fd ps sp) (g : {α : Type} → List α → List α → List α → List α) (hd : dvs ≠ [])
    (hrel : ∀ {vs ds zs : List V} {us its ws : List Value}, Vals vs us → Vals ds its → Vals zs ws → Vals (g vs ds zs) (g us its ws))
    (h : ∀ (T : Addr) (kV doc pm : Value) (an : Option Addr) (cdv ct : Value) (us its ws : List Value), us.length = n → its.length = dvs.length → ws.length = ks.length →
      ∃ k, bindArgs (PySem.W.fnOf x q params body scope (.ref T) kV doc pm an cdv ct) ⟨us, ks.zip ws⟩ = seqItems? (.ref T) >>= k ∧ k (some its.toArray) = pure (ps.zip (g us its ws))) :
    BndF P w K mg base CX k x ps sp n ks (fun vs zs => g vs dvs zs) := by
  obtain ⟨its, hb⟩ := F.kbindsD (ps := ps) n ks g hd hrel h
  exact ⟨f, fd, _, kp, hm, G, hb⟩
open PySem PySem.Spec PyProof.Rows
/-- an iterator over a text of small signs -/
abbrev SIt (h : Heap) (it : Addr) (x : Str) (t : Tok) (i : Nat) : Prop := h.IsStrIter it "str_ascii_iterator" x t i
theorem SIt.ext {h h' : Heap} {it b : Addr} {x : Str} {t : Tok} {i : Nat} (a : SIt h it x t i) (e : Heap.ExtBut b h h') (n : it ≠ b) : SIt h' it x t i :=
  let ⟨o, ho, r⟩ := a; ⟨o, e it o n ho, r⟩
section
variable {prog : Program} {w : World} {A : Around} {E : Value → Shared → Prop} {s : Shared}
theorem nextOf_s_item {it : Addr} {x : Str} {t : Tok} {i c : Nat} {Q : Value → Shared → Prop} (hit : SIt s.heap it x t i) (hx : x.cps[i]? = some c)
    (hQ : ∀ h', SIt h' it x t (i + 1) → Heap.SameBut it s.heap h' → Q (.str ⟨#[c]⟩ s.toks) { s with heap := h', toks := s.toks + 1 }) :
    wpAny (model prog w) A (Builtin.SmallTypes.nextOf (.ref it)) Q E s := by
  obtain ⟨o, ho, hc, hd⟩ := id hit
  unfold Builtin.SmallTypes.nextOf
  refine wpAny_bind (wpAny_callSpecial?_slot (name := Str.ofString "__next__") hit.typeIs F.slot_str_ascii_iterator_next (wpAny_call_entry F.slot_str_ascii_iterator_next hit.typeIs F.entry_str_ascii_iterator_next ?_ (F.args_str_ascii_iterator_next_1 _)))
  show wpAny _ _ (field (.ref it) 0 >>= _) _ _ s; refine wpAny_bind (wpAny_field ho hd (x := .str x t) rfl ?_)
  show wpAny _ _ (field (.ref it) 1 >>= _) _ _ s; refine wpAny_bind (wpAny_field ho hd (x := .int i 0) rfl ?_)
  simp only [Int.toNat_natCast, hx]
  refine wpAny_bind (wpAny_setField ho hd (by simp) (wpAny_bind (wpAny_mkStr (wpAny_pure ⟨_, rfl, wpAny_pure (hQ _ ⟨_, Heap.get?_update_self _ ho (Obj.isFreed_of_fields (Obj.data_mapFields hd _)), (Obj.cls_mapFields ..).trans hc, by rw [Obj.data_mapFields hd]; simp [rawInt]⟩ (Heap.SameBut.update ..))⟩) (by show 1 ≤ sizeLine; decide))))
theorem nextOf_s_end {it : Addr} {x : Str} {t : Tok} {i : Nat} {Q : Value → Shared → Prop} (hh : A.handled = none) (hit : SIt s.heap it x t i) (hx : x.cps[i]? = none)
    (hE : ∀ h' e, Heap.ExtBut it s.heap h' → (∃ o, h'.get? e = some o ∧ o.cls = .type "StopIteration") → E (.ref e) { s with heap := h' }) :
    wpAny (model prog w) A (Builtin.SmallTypes.nextOf (.ref it)) Q E s := by
  obtain ⟨o, ho, hc, hd⟩ := id hit
  unfold Builtin.SmallTypes.nextOf
  refine wpAny_bind (wpAny_callSpecial?_slot (name := Str.ofString "__next__") hit.typeIs F.slot_str_ascii_iterator_next (wpAny_call_entry F.slot_str_ascii_iterator_next hit.typeIs F.entry_str_ascii_iterator_next ?_ (F.args_str_ascii_iterator_next_1 _)))
  show wpAny _ _ (field (.ref it) 0 >>= _) _ _ s; refine wpAny_bind (wpAny_field ho hd (x := .str x t) rfl ?_)
  show wpAny _ _ (field (.ref it) 1 >>= _) _ _ s; refine wpAny_bind (wpAny_field ho hd (x := .int i 0) rfl ?_)
  simp only [Int.toNat_natCast, hx]
  refine wpAny_bind (wpAny_rule (wpAny_bind (wpAny_setField ho hd (by simp) (wpAny_bind (wpAny_letGo ?_)))))
  show wpAny _ _ (newExc (.type "StopIteration") [] >>= _) _ _ _; refine wpAny_bind ?_
  simp only [newExc, newTuple]
  refine wpAny_bind (wpAny_newObj_type ?_ (by size_fits)); refine wpAny_bind (m := firstArgMember _ _) (wpAny_of_eq (a := Value.none) (by first | rfl | (simp only [firstArgMember]; rfl)) ?_)
  refine wpAny_newObj_type ?_ (by size_fits); simp only [raiseNew]; refine wpAny_bind (wpAny_handled ?_)
  first | rw [show A.in1.handled = none from hh] | rw [hh]
  refine wpAny_bind (wpAny_pure (wpAny_throw ?_)); exact hE _ _ (((Heap.SameBut.update ..).extBut.push _).push _) ⟨_, Heap.get?_push_size _ rfl, rfl⟩
theorem zipS_next_item {z TI TO i1 i2 l1 l2 : Addr} {k1 k2 c1 c2 : Nat} {x y : Str} {t1 t2 : Tok} {a b : Value} {Q : Value → Shared → Prop} (D : ZipApart z TI TO i1 i2 l1 l2)
    (hz : IsZip s.heap z TI TO .none) (hTI : IsPair s.heap TI (.ref i1) (.ref i2)) (hTO : IsPair s.heap TO a b) (h1 : SIt s.heap i1 x t1 k1) (h2 : SIt s.heap i2 y t2 k2) (hx : x.cps[k1]? = some c1) (hy : y.cps[k2]? = some c2)
    (hQ : ∀ h' u v t, IsZip h' z TI TO (rawInt s.heap.objs.size) → IsPair h' TO (.str ⟨#[c1]⟩ u) (.str ⟨#[c2]⟩ v) → SIt h' i1 x t1 (k1 + 1) → SIt h' i2 y t2 (k2 + 1) → IsPair h' s.heap.objs.size (.str ⟨#[c1]⟩ u) (.str ⟨#[c2]⟩ v) →
      (∀ c o, c ≠ z → c ≠ TO → c ≠ i1 → c ≠ i2 → s.heap.get? c = some o → h'.get? c = some o) → Q (.ref s.heap.objs.size) { s with heap := h', toks := t }) :
    wpAny (model prog w) A (Builtin.«zip.__next__» ⟨[.ref z], []⟩) (fun fin s' => ∃ v, fin = .done (.ret v) ∧ Q v s') E s := by
  show wpAny _ _ (field (.ref z) 2 >>= _) _ _ _; refine wpAny_bind (wpAny_field hz rfl (x := .bool false) rfl ?_)
  show wpAny _ _ (field (.ref z) 3 >>= _) _ _ _; refine wpAny_bind (wpAny_field hz rfl (x := .ref TI) rfl ?_)
  refine wpAny_bind (wpAny_seqItems hTI rfl ?_); show wpAny _ _ (Builtin.SmallTypes.ownedTupleIsFree (.ref z) >>= _) _ _ _; refine wpAny_bind ?_
  unfold Builtin.SmallTypes.ownedTupleIsFree; refine wpAny_bind (wpAny_field hz rfl (x := .none) rfl (wpAny_pure ?_))
  simp only [if_true]; refine wpAny_bind (wpAny_rule ?_); refine wpAny_bind (wpAny_field hz rfl (x := .ref TO) rfl ?_)
  refine wpAny_bind (wpAny_setField_rec hz (by simp) fun h₁ hz₁ hs₁ => ?_); replace hz₁ : IsZip h₁ z TI TO .ellipsis := hz₁
  refine wpAny_bind ?_; simp only [List.zipIdx_cons, List.zipIdx_nil, List.forIn_cons, List.forIn_nil]
  refine wpAny_bind (wpAny_bind (wpAny_onRaise ?_)); show wpAny _ _ (Builtin.SmallTypes.nextOf (.ref i1) >>= _) _ _ _
  refine wpAny_bind (nextOf_s_item (h1.ext hs₁.extBut D.i1z) hx fun h₂ h1₂ hs₂ => wpAny_pure ?_)
  have hTO₂ : IsPair h₂ TO a b := hs₂.extBut _ _ D.TOi1 (hs₁.extBut _ _ D.TOz hTO); refine wpAny_bind (wpAny_seqItems hTO₂ rfl ?_)
  refine wpAny_bind (wpAny_updateSeq_pair hTO₂ fun h₃ hTO₃ hs₃ => ?_); replace hTO₃ : IsPair h₃ TO (.str ⟨#[c1]⟩ s.toks) b := hTO₃
  refine wpAny_bind (wpAny_letGo (wpAny_pure ?_)); refine wpAny_bind (wpAny_bind (wpAny_onRaise ?_)); show wpAny _ _ (Builtin.SmallTypes.nextOf (.ref i2) >>= _) _ _ _
  refine wpAny_bind (nextOf_s_item (((h2.ext hs₁.extBut D.i2z).ext hs₂.extBut D.i12.symm).ext hs₃.extBut D.TOi2.symm) hy fun h₄ h2₄ hs₄ => wpAny_pure ?_)
  have hTO₄ : IsPair h₄ TO (.str ⟨#[c1]⟩ s.toks) b := hs₄.extBut _ _ D.TOi2 hTO₃; refine wpAny_bind (wpAny_seqItems hTO₄ rfl ?_)
  refine wpAny_bind (wpAny_updateSeq_pair hTO₄ fun h₅ hTO₅ hs₅ => ?_); replace hTO₅ : IsPair h₅ TO (.str ⟨#[c1]⟩ s.toks) (.str ⟨#[c2]⟩ (s.toks + 1)) := hTO₅
  refine wpAny_bind (wpAny_letGo (wpAny_pure (wpAny_pure ?_))); refine wpAny_bind (wpAny_seqItems hTO₅ rfl ?_); refine wpAny_bind (wpAny_newTuple ?_)
  have hsz : h₅.objs.size = s.heap.objs.size := by rw [hs₅.1, hs₄.1, hs₃.1, hs₂.1]; exact hs₁.1
  have hz₅ : IsZip h₅ z TI TO .ellipsis := hs₅.extBut _ _ D.TOz.symm (hs₄.extBut _ _ D.i2z.symm (hs₃.extBut _ _ D.TOz.symm (hs₂.extBut _ _ D.i1z.symm hz₁)))
  have hk₅ : ∀ c o, c ≠ z → c ≠ TO → c ≠ i1 → c ≠ i2 → s.heap.get? c = some o → h₅.get? c = some o := fun c o n1 n2 n3 n4 e => hs₅.extBut _ _ n2 (hs₄.extBut _ _ n4 (hs₃.extBut _ _ n2 (hs₂.extBut _ _ n3 (hs₁.extBut _ _ n1 e))))
  have h1₅ : SIt h₅ i1 x t1 (k1 + 1) := ((h1₂.ext hs₃.extBut D.TOi1.symm).ext hs₄.extBut D.i12).ext hs₅.extBut D.TOi1.symm
  have h2₅ : SIt h₅ i2 y t2 (k2 + 1) := h2₄.ext hs₅.extBut D.TOi2.symm
  have hzlt : z < h₅.objs.size := Heap.lt_size hz₅
  show wpAny _ _ (Builtin.SmallTypes.ownedTupleHandOut (.ref z) (.ref h₅.objs.size) >>= _) _ _ _; refine wpAny_bind ?_; unfold Builtin.SmallTypes.ownedTupleHandOut
  have hz₆ : IsZip (h₅.push { cls := .type "tuple", data := .seq #[.str ⟨#[c1]⟩ s.toks, .str ⟨#[c2]⟩ (s.toks + 1)] }) z TI TO .ellipsis := Heap.get?_push_of_some _ hz₅
  refine wpAny_bind (wpAny_setField_rec hz₆ (by simp) fun h₇ hz₇ hs₇ => ?_); replace hz₇ : IsZip h₇ z TI TO (rawInt h₅.objs.size) := hz₇
  refine wpAny_setField_rec hz₇ (by simp) fun h₈ hz₈ hs₈ => ?_; replace hz₈ : IsZip h₈ z TI TO (rawInt h₅.objs.size) := hz₈
  have up : ∀ c o, c ≠ z → h₅.get? c = some o → h₈.get? c = some o := fun c o n e => hs₈.extBut _ _ n (hs₇.extBut _ _ n (Heap.get?_push_of_some _ e))
  have hT₈ : IsPair h₈ h₅.objs.size (.str ⟨#[c1]⟩ s.toks) (.str ⟨#[c2]⟩ (s.toks + 1)) := hs₈.extBut _ _ (Nat.ne_of_gt hzlt) (hs₇.extBut _ _ (Nat.ne_of_gt hzlt) (Heap.get?_push_size _ rfl))
  rw [hsz] at hz₈ hT₈
  refine wpAny_pure ⟨_, rfl, ?_⟩; show Q (.ref h₅.objs.size) _; rw [hsz]
  exact hQ h₈ _ _ _ hz₈ (up _ _ D.TOz hTO₅) (let ⟨o, e, r⟩ := h1₅; ⟨o, up _ o D.i1z e, r⟩) (let ⟨o, e, r⟩ := h2₅; ⟨o, up _ o D.i2z e, r⟩) hT₈ fun c o n1 n2 n3 n4 e => up c o n1 (hk₅ c o n1 n2 n3 n4 e)
theorem zipS_next_end {z TI TO i1 i2 l1 l2 : Addr} {k1 k2 : Nat} {x y : Str} {t1 t2 : Tok} {a b : Value} {Q : Fin → Shared → Prop} (hh : A.handled = none) (D : ZipApart z TI TO i1 i2 l1 l2)
    (hz : IsZip s.heap z TI TO .none) (hTI : IsPair s.heap TI (.ref i1) (.ref i2)) (hTO : IsPair s.heap TO a b) (h1 : SIt s.heap i1 x t1 k1) (h2 : SIt s.heap i2 y t2 k2) (hend : x.cps[k1]? = none ∨ y.cps[k2]? = none)
    (hE : ∀ h' t e, (∀ c o, c ≠ z → c ≠ TO → c ≠ i1 → c ≠ i2 → s.heap.get? c = some o → h'.get? c = some o) → (∃ o, h'.get? e = some o ∧ o.cls = .type "StopIteration") → E (.ref e) { s with heap := h', toks := t }) :
    wpAny (model prog w) A (Builtin.«zip.__next__» ⟨[.ref z], []⟩) Q E s := by
  show wpAny _ _ (field (.ref z) 2 >>= _) _ _ _; refine wpAny_bind (wpAny_field hz rfl (x := .bool false) rfl ?_)
  show wpAny _ _ (field (.ref z) 3 >>= _) _ _ _; refine wpAny_bind (wpAny_field hz rfl (x := .ref TI) rfl ?_)
  refine wpAny_bind (wpAny_seqItems hTI rfl ?_); show wpAny _ _ (Builtin.SmallTypes.ownedTupleIsFree (.ref z) >>= _) _ _ _; refine wpAny_bind ?_
  unfold Builtin.SmallTypes.ownedTupleIsFree; refine wpAny_bind (wpAny_field hz rfl (x := .none) rfl (wpAny_pure ?_))
  simp only [if_true]; refine wpAny_bind (wpAny_rule ?_); refine wpAny_bind (wpAny_field hz rfl (x := .ref TO) rfl ?_)
  refine wpAny_bind (wpAny_setField_rec hz (by simp) fun h₁ hz₁ hs₁ => ?_); replace hz₁ : IsZip h₁ z TI TO .ellipsis := hz₁
  refine wpAny_bind ?_; simp only [List.zipIdx_cons, List.zipIdx_nil, List.forIn_cons, List.forIn_nil]
  refine wpAny_bind (wpAny_bind (wpAny_onRaise ?_)); show wpAny _ _ (Builtin.SmallTypes.nextOf (.ref i1) >>= _) _ _ _
  cases hx : x.cps[k1]? with
  | none =>
    refine wpAny_bind (nextOf_s_end hh (h1.ext hs₁.extBut D.i1z) hx fun h₂ e hs₂ he => ?_); obtain ⟨oe, hoe, hce⟩ := he
    have hz₂ : IsZip h₂ z TI TO .ellipsis := hs₂ _ _ D.i1z.symm hz₁
    have hez : e ≠ z := fun q => by subst q; rw [hz₂] at hoe; cases hoe; simp at hce
    refine wpAny_setField_rec hz₂ (by simp) fun h₃ _ hs₃ => hE h₃ _ e (fun c o n1 _ n3 _ q => hs₃.extBut _ _ n1 (hs₂ _ _ n3 (hs₁.extBut _ _ n1 q))) ⟨oe, hs₃.extBut _ _ hez hoe, hce⟩
  | some c =>
    have hy : y.cps[k2]? = none := by rcases hend with h | h; (rw [hx] at h; cases h); exact h
    refine wpAny_bind (nextOf_s_item (h1.ext hs₁.extBut D.i1z) hx fun h₂ h1₂ hs₂ => wpAny_pure ?_)
    have hTO₂ : IsPair h₂ TO a b := hs₂.extBut _ _ D.TOi1 (hs₁.extBut _ _ D.TOz hTO); refine wpAny_bind (wpAny_seqItems hTO₂ rfl ?_)
    refine wpAny_bind (wpAny_updateSeq_pair hTO₂ fun h₃ hTO₃ hs₃ => ?_); refine wpAny_bind (wpAny_letGo (wpAny_pure ?_)); refine wpAny_bind (wpAny_bind (wpAny_onRaise ?_))
    show wpAny _ _ (Builtin.SmallTypes.nextOf (.ref i2) >>= _) _ _ _
    refine wpAny_bind (nextOf_s_end hh (((h2.ext hs₁.extBut D.i2z).ext hs₂.extBut D.i12.symm).ext hs₃.extBut D.TOi2.symm) hy fun h₄ e hs₄ he => ?_); obtain ⟨oe, hoe, hce⟩ := he
    have hz₄ : IsZip h₄ z TI TO .ellipsis := hs₄ _ _ D.i2z.symm (hs₃.extBut _ _ D.TOz.symm (hs₂.extBut _ _ D.i1z.symm hz₁))
    have hez : e ≠ z := fun q => by subst q; rw [hz₄] at hoe; cases hoe; simp at hce
    refine wpAny_setField_rec hz₄ (by simp) fun h₅ _ hs₅ => hE h₅ _ e (fun c o n1 n2 n3 n4 q => hs₅.extBut _ _ n1 (hs₄ _ _ n4 (hs₃.extBut _ _ n2 (hs₂.extBut _ _ n3 (hs₁.extBut _ _ n1 q))))) ⟨oe, hs₅.extBut _ _ hez hoe, hce⟩
theorem pyNext_zipS_item {z TI TO i1 i2 l1 l2 : Addr} {k1 k2 c1 c2 : Nat} {x y : Str} {t1 t2 : Tok} {a b : Value} {Q : Option Value → Shared → Prop} (D : ZipApart z TI TO i1 i2 l1 l2)
    (hz : IsZip s.heap z TI TO .none) (hTI : IsPair s.heap TI (.ref i1) (.ref i2)) (hTO : IsPair s.heap TO a b) (h1 : SIt s.heap i1 x t1 k1) (h2 : SIt s.heap i2 y t2 k2) (hx : x.cps[k1]? = some c1) (hy : y.cps[k2]? = some c2)
    (hQ : ∀ h' u v t, IsZip h' z TI TO (rawInt s.heap.objs.size) → IsPair h' TO (.str ⟨#[c1]⟩ u) (.str ⟨#[c2]⟩ v) → SIt h' i1 x t1 (k1 + 1) → SIt h' i2 y t2 (k2 + 1) → IsPair h' s.heap.objs.size (.str ⟨#[c1]⟩ u) (.str ⟨#[c2]⟩ v) →
      (∀ c o, c ≠ z → c ≠ TO → c ≠ i1 → c ≠ i2 → s.heap.get? c = some o → h'.get? c = some o) → Q (some (.ref s.heap.objs.size)) { s with heap := h', toks := t }) :
    wpAny (model prog w) A (pyNext (.ref z)) Q E s := by
  have hT : s.TypeIs (.ref z) "zip" := ⟨_, hz, rfl⟩
  unfold pyNext
  exact wpAny_bind (wpAny_attempt (wpAny_callSpecial?_slot (name := Str.ofString "__next__") hT F.slot_zip_next (wpAny_call_entry F.slot_zip_next hT F.entry_zip_next
      (zipS_next_item D hz hTI hTO h1 h2 hx hy fun h' u v t a1 a2 a3 a4 a5 a7 => wpAny_pure (hQ h' u v t a1 a2 a3 a4 a5 a7)) (F.args_zip_next_1 _))))
theorem pyNext_zipS_end {z TI TO i1 i2 l1 l2 : Addr} {k1 k2 : Nat} {x y : Str} {t1 t2 : Tok} {a b : Value} {Q : Option Value → Shared → Prop} (hh : A.handled = none) (D : ZipApart z TI TO i1 i2 l1 l2)
    (hz : IsZip s.heap z TI TO .none) (hTI : IsPair s.heap TI (.ref i1) (.ref i2)) (hTO : IsPair s.heap TO a b) (h1 : SIt s.heap i1 x t1 k1) (h2 : SIt s.heap i2 y t2 k2) (hend : x.cps[k1]? = none ∨ y.cps[k2]? = none)
    (hQ : ∀ h' t, (∀ c o, c ≠ z → c ≠ TO → c ≠ i1 → c ≠ i2 → s.heap.get? c = some o → h'.get? c = some o) → Q none { s with heap := h', toks := t }) : wpAny (model prog w) A (pyNext (.ref z)) Q E s := by
  have hT : s.TypeIs (.ref z) "zip" := ⟨_, hz, rfl⟩
  unfold pyNext
  refine wpAny_bind (wpAny_attempt (wpAny_callSpecial?_slot (name := Str.ofString "__next__") hT F.slot_zip_next (wpAny_call_entry F.slot_zip_next hT F.entry_zip_next
    (zipS_next_end hh D hz hTI hTO h1 h2 hend fun h' t e hk he => ?_) (F.args_zip_next_1 _))))
  obtain ⟨o, ho, hc⟩ := he
  exact wpAny_bind (wpAny_isInstance (T := "StopIteration") (b := true) ⟨o, ho, hc⟩ isSubtype_stop (wpAny_pure (hQ _ _ hk)))
end
abbrev zsH1 (h : Heap) (x : Str) (t : Tok) : Heap := h.push { cls := .type "str_ascii_iterator", data := .fields #[.str x t, .int 0 0] }
abbrev zsH2 (h : Heap) (x y : Str) (t u : Tok) : Heap := (zsH1 h x t).push { cls := .type "str_ascii_iterator", data := .fields #[.str y u, .int 0 0] }
abbrev zsH3 (h : Heap) (x y : Str) (t u : Tok) : Heap := (zsH2 h x y t u).push { cls := .type "tuple", data := .seq #[.ref h.objs.size, .ref (zsH1 h x t).objs.size] }
abbrev zsH4 (h : Heap) (x y : Str) (t u : Tok) : Heap := (zsH3 h x y t u).push { cls := .type "tuple", data := .seq #[.none, .none] }
abbrev zsH5 (h : Heap) (x y : Str) (t u : Tok) : Heap := (zsH4 h x y t u).push { cls := .type "zip", data := .fields #[.none, .bool false, .bool false, .ref (zsH2 h x y t u).objs.size, .ref (zsH3 h x y t u).objs.size] }
theorem meets_zipS (x y : Str) (t u : Tok) (hx : x.cps.all (· < 128) = true) (hy : y.cps.all (· < 128) = true) :
    Meets (Builtin.«zip.__new__» ⟨[.type "zip", .str x t, .str y u], []⟩) (fun _ R s => R (.ok (.ret (.ref (zsH4 s.heap x y t u).objs.size))) { s with heap := zsH5 s.heap x y t u }) :=
  .of_wp fun prog w A R s h => by
    obtain ⟨hp, g, d, tk, os⟩ := s
    have hsub := sub_zip
    wp_walk using wpAny_pyIter_ascii hx, wpAny_pyIter_ascii hy
    exact ⟨_, rfl, h⟩
section
variable {prog : Program} {w : World} {A : Around} {E : Value → Shared → Prop} {s : Shared}
theorem call_zipS {x y : Str} {t u : Tok} {Q : Value → Shared → Prop} (hx : x.cps.all (· < 128) = true) (hy : y.cps.all (· < 128) = true)
    (h : ∀ h', IsZip h' (s.heap.objs.size + 4) (s.heap.objs.size + 2) (s.heap.objs.size + 3) .none → IsPair h' (s.heap.objs.size + 2) (.ref s.heap.objs.size) (.ref (s.heap.objs.size + 1)) →
      IsPair h' (s.heap.objs.size + 3) .none .none → SIt h' s.heap.objs.size x t 0 → SIt h' (s.heap.objs.size + 1) y u 0 → h'.objs.size = s.heap.objs.size + 5 →
      (∀ c o, s.heap.get? c = some o → h'.get? c = some o) → Q (.ref (s.heap.objs.size + 4)) { s with heap := h' }) :
    wpAny (model prog w) A (call (.type "zip") [.str x t, .str y u]) Q E s := by
  refine callType_new F.called_zip (by decide) (F.typeCall_zip_2 _ _) (F.newCall_zip_2 _ _) (fun obj => F.args_object_init_3 obj _ _) F.entry_zip_new (meets_zipS x y t u hx hy) ?_
  have z1 : (zsH1 s.heap x t).objs.size = s.heap.objs.size + 1 := Heap.size_push ..
  have z2 : (zsH2 s.heap x y t u).objs.size = s.heap.objs.size + 2 := by rw [Heap.size_push, z1]
  have z3 : (zsH3 s.heap x y t u).objs.size = s.heap.objs.size + 3 := by rw [Heap.size_push, z2]
  have z4 : (zsH4 s.heap x y t u).objs.size = s.heap.objs.size + 4 := by rw [Heap.size_push, z3]
  have z5 : (zsH5 s.heap x y t u).objs.size = s.heap.objs.size + 5 := by rw [Heap.size_push, z4]
  have g5 : (zsH5 s.heap x y t u).get? (zsH4 s.heap x y t u).objs.size = some _ := Heap.get?_push_size _ rfl
  have g4 : (zsH5 s.heap x y t u).get? (zsH3 s.heap x y t u).objs.size = some _ := Heap.get?_push_of_some _ (Heap.get?_push_size _ rfl)
  have g3 : (zsH5 s.heap x y t u).get? (zsH2 s.heap x y t u).objs.size = some _ := Heap.get?_push_of_some _ (Heap.get?_push_of_some _ (Heap.get?_push_size _ rfl))
  have g2 : (zsH5 s.heap x y t u).get? (zsH1 s.heap x t).objs.size = some _ := Heap.get?_push_of_some _ (Heap.get?_push_of_some _ (Heap.get?_push_of_some _ (Heap.get?_push_size _ rfl)))
  have g1 : (zsH5 s.heap x y t u).get? s.heap.objs.size = some _ := Heap.get?_push_of_some _ (Heap.get?_push_of_some _ (Heap.get?_push_of_some _ (Heap.get?_push_of_some _ (Heap.get?_push_size _ rfl))))
  show _ ∧ _
  rw [z2, z3, z4] at g5
  rw [z1, z2] at g3
  rw [z3] at g4
  rw [z1] at g2
  rw [z4]
  exact ⟨⟨_, g5, rfl⟩, h _ g5 g3 g4 ⟨_, g1, rfl, rfl⟩ ⟨_, g2, rfl, rfl⟩ z5 fun c o q => Heap.get?_push_of_some _ (Heap.get?_push_of_some _ (Heap.get?_push_of_some _ (Heap.get?_push_of_some _ (Heap.get?_push_of_some _ q))))⟩
end
open PySem PySem.Spec PyProof.Rows
open L2
def ItzS (x y : Str) : It :=
  ⟨fun i _ => i < x.cps.size ∧ i < y.cps.size, fun i H v H' => ∃ T c d, v = .ref T ∧ H T = none ∧ H' = upd H T (.tup [.str ⟨#[c]⟩, .str ⟨#[d]⟩]) ∧ x.cps[i]? = some c ∧ y.cps[i]? = some d, fun i _ => x.cps.size ≤ i ∨ y.cps.size ≤ i⟩
theorem apartS (I : Nat) : ZipApart (I + 4) (I + 2) (I + 3) I (I + 1) (I + 2) (I + 2) := by constructor <;> (show ¬ ((_ : Nat) = _); omega)
theorem turn_zipS {P : Program} {w : World} {K : PySem.W.Frag} {elts : List Expr} {kk : Nat} {tpos : Pos} {x y : Str} {t1 t2 : Tok} {a b z TI TO i1 i2 : Addr} (D : ZipApart z TI TO i1 i2 a b) :
    Turn P w K (.Tuple elts kk tpos) (ItzS x y) [z, TI, TO, i1, i2] z (fun i h => IsZip h z TI TO .none ∧ IsPair h TI (.ref i1) (.ref i2) ∧ (∃ x y, IsPair h TO x y) ∧ SIt h i1 x t1 i ∧ SIt h i2 y t2 i) where
  mem := by simp
  obj := fun i h st c hc => by
    obtain ⟨hz, hTI, ⟨u, v, hTO⟩, ⟨o1, e1, _, d1⟩, ⟨o2, e2, _, d2⟩⟩ := st
    have e' : c = z ∨ c = TI ∨ c = TO ∨ c = i1 ∨ c = i2 := by simpa using hc
    rcases e' with q | q | q | q | q <;> rw [q]
    · exact ⟨_, hz, fun v q => nomatch q⟩
    · exact ⟨_, hTI, fun v q => nomatch q⟩
    · exact ⟨_, hTO, fun v q => nomatch q⟩
    · exact ⟨o1, e1, fun v q => by rw [d1] at q; cases q⟩
    · exact ⟨o2, e2, fun v q => by rw [d2] at q; cases q⟩
  keep := fun i h h' st k => by
    obtain ⟨hz, hTI, ⟨u, v, hTO⟩, ⟨o1, e1, r1⟩, ⟨o2, e2, r2⟩⟩ := st
    exact ⟨k z (by simp) _ hz, k TI (by simp) _ hTI, ⟨u, v, k TO (by simp) _ hTO⟩, ⟨o1, k i1 (by simp) _ e1, r1⟩, ⟨o2, k i2 (by simp) _ e2, r2⟩⟩
  item := by
    intro X hP hw hK hc i pins s σ H E I hf st hg
    subst hP hw hK
    obtain ⟨hz, hTI, ⟨x0, y0, hTO⟩, h1, h2⟩ := st
    obtain ⟨lx, ly⟩ := hg
    have hx : x.cps[i]? = some x.cps[i] := Array.getElem?_eq_getElem lx
    have hy : y.cps[i]? = some y.cps[i] := Array.getElem?_eq_getElem ly
    have hzl : z < s.heap.objs.size := Heap.lt_size hz
    refine pyNext_zipS_item D hz hTI hTO h1 h2 hx hy fun h' u v t z' TO' h1' h2' hT hk => ?_
    refine ⟨_, rfl, wpAny_letOwnedTupleGo_zip (s := { s with heap := h', toks := t }) z' fun h'' z'' sb => ?_⟩
    have hT2 : h''.get? s.heap.objs.size = some { cls := .type "tuple", data := .seq #[.str ⟨#[x.cps[i]]⟩ u, .str ⟨#[y.cps[i]]⟩ v] } := (sb.2 _ (Nat.ne_of_gt hzl)).trans hT
    have new : ObjOk X.prog X.w (upd H s.heap.objs.size (.tup [.str ⟨#[x.cps[i]]⟩, .str ⟨#[y.cps[i]]⟩])) h'' s.heap.objs.size (.tup [.str ⟨#[x.cps[i]]⟩, .str ⟨#[y.cps[i]]⟩]) :=
      ⟨by show 2 ≤ sizeLine; decide, [.str ⟨#[x.cps[i]]⟩ u, .str ⟨#[y.cps[i]]⟩ v], .cons ⟨_, rfl⟩ (.cons ⟨_, rfl⟩ .nil), ⟨_, hT2, rfl, _, rfl⟩⟩
    have I1 : Inv X pins σ (upd H s.heap.objs.size (.tup [.str ⟨#[x.cps[i]]⟩, .str ⟨#[y.cps[i]]⟩])) { s with heap := h'', toks := t } :=
      I.turnedNew (t' := t) (ch := [z, TI, TO, i1, i2]) (fun c o hb q => (sb.2 c (fun q' => hb (by simp [q']))).trans (hk c o (fun q' => hb (by simp [q'])) (fun q' => hb (by simp [q'])) (fun q' => hb (by simp [q'])) (fun q' => hb (by simp [q'])) q)) hf (Nat.le_refl _) new
    refine ⟨.ref s.heap.objs.size, _, I1, rfl, ⟨_, _, _, rfl, I.hok.fresh (Nat.le_refl _), rfl, hx, hy⟩, ⟨z'', ?_, ⟨_, _, (sb.2 _ D.TOz).trans TO'⟩, ?_, ?_⟩, fun c hcm => ?_⟩
    · exact (sb.2 _ D.TIz).trans (hk _ _ D.TIz D.TITO D.TIi1 D.TIi2 hTI)
    · exact let ⟨o, e, r⟩ := h1'; ⟨o, (sb.2 _ D.i1z).trans e, r⟩
    · exact let ⟨o, e, r⟩ := h2'; ⟨o, (sb.2 _ D.i2z).trans e, r⟩
    · have hlt : c < s.heap.objs.size := by
        have e' : c = z ∨ c = TI ∨ c = TO ∨ c = i1 ∨ c = i2 := by simpa using hcm
        rcases e' with q | q | q | q | q <;> rw [q]
        · exact hzl
        · exact Heap.lt_size hTI
        · exact Heap.lt_size hTO
        · obtain ⟨_, e1, _⟩ := h1; exact Heap.lt_size e1
        · obtain ⟨_, e2, _⟩ := h2; exact Heap.lt_size e2
      rw [upd_ne (Nat.ne_of_lt hlt)]
      exact (hf c hcm).1
  done := by
    intro X hP hw hK hc i pins s σ H E I hf st hg
    subst hP hw hK
    obtain ⟨hz, hTI, ⟨x0, y0, hTO⟩, h1, h2⟩ := st
    have he : x.cps[i]? = none ∨ y.cps[i]? = none := hg.elim (fun q => .inl (Array.getElem?_eq_none q)) fun q => .inr (Array.getElem?_eq_none q)
    exact pyNext_zipS_end (I.ok.hd hc) D hz hTI hTO h1 h2 he fun h' t hk => ⟨rfl, I.turnedL (t' := t) (ch := [z, TI, TO, i1, i2]) (fun c o hb q =>
      hk c o (fun q' => hb (by simp [q'])) (fun q' => hb (by simp [q'])) (fun q' => hb (by simp [q'])) (fun q' => hb (by simp [q'])) q) hf⟩
  self := fun A i s Q E st h => wpAny_pyIter_zip st.1 h
def SmallS (x : Str) : Prop := x.cps.all (· < 128) = true
def iZipS (ta : TA) : TI := fun σ H R => ta σ H fun vs H1 => ∃ x y, vs = [.str x, .str y] ∧ SmallS x ∧ SmallS y ∧ R (ItzS x y) H1
theorem pi_zipS {X : Cx} {e e2 : Expr} {ta : TA} {p pos tpos : Pos} {elts : List Expr} {kk : Nat} (hg : Gl X "zip") (hm : X.mg "zip" = none) (ha : PA X [e, e2] ta)
    (hs : starEach [e, e2] X.env = (false, eval e X.env) :: starEach [e2] X.env := by rfl) (hpl : (backTo pos (starEach [e2] X.env)).any (·.1) = false := by rfl) :
    PI X (.Tuple elts kk tpos) (.Call (.Name "zip" p) [e, e2] [] pos) (iZipS ta) := by
  refine ⟨fun pins s σ H R I h => ?_⟩
  refine Call_ (ld_blt I hg hm PyProof.Rows.boot_zip (PyProof.Rows.callWith_type1 (thn (ha.run pos pins s σ H _ I h) fun us s1 ⟨vs, H1, I1, r1, q1⟩ => ?_) hs hpl))
  obtain ⟨x, y, ex, hx, hy, q⟩ := q1
  subst ex
  cases r1 with
  | cons r rr =>
    cases rr with
    | cons r' rr =>
      cases rr
      obtain ⟨t, rfl⟩ := r
      obtain ⟨t', rfl⟩ := r'
      refine call_zipS hx hy fun h' hz hTI hTO h1 h2 hsz hk => wpAny_pyIter_zip hz ?_
      have I2 : Inv X pins σ H1 { s1 with heap := h' } := I1.kept (t' := s1.toks) hk
      refine ⟨s1.heap.objs.size + 4, [s1.heap.objs.size + 4, s1.heap.objs.size + 2, s1.heap.objs.size + 3, s1.heap.objs.size, s1.heap.objs.size + 1], _, _, H1, rfl, I2, turn_zipS (apartS s1.heap.objs.size), ⟨hz, hTI, ⟨_, _, hTO⟩, h1, h2⟩, fun c hcm => ?_, q⟩
      have e' : c = s1.heap.objs.size + 4 ∨ c = s1.heap.objs.size + 2 ∨ c = s1.heap.objs.size + 3 ∨ c = s1.heap.objs.size ∨ c = s1.heap.objs.size + 1 := by simpa using hcm
      have hle : s1.heap.objs.size ≤ c := by
        rcases e' with q | q | q | q | q <;> rw [q] <;> first | exact Nat.le_add_right _ _ | exact Nat.le_refl _
      exact I1.fpOk hle (I1.hok.fresh hle)
theorem walk_zipS {x y : Str} : L2.Walk (ItzS x y) (min x.length y.length) (fun _ => True) (fun i H v H' => ∃ T c d, v = .ref T ∧ H T = none ∧ H' = upd H T (.tup [.str ⟨#[c]⟩, .str ⟨#[d]⟩]) ∧ x.cps.toList[i]? = some c ∧ y.cps.toList[i]? = some d) := by
  refine ⟨fun i _ hi _ => ?_, fun _ _ => ?_, fun i H v H' hi _ y => ?_⟩
  · show i < x.length ∧ i < y.length
    omega
  · show x.length ≤ _ ∨ y.length ≤ _
    omega
  · obtain ⟨T, c, d, e1, e2, e3, e4, e5⟩ := y
    exact ⟨T, c, d, e1, e2, e3, by simpa using e4, by simpa using e5⟩
namespace M
def BL (l : List Nat) : Prop := ∀ c ∈ l, c = 48 ∨ c = 49
theorem BL.hd {c : Nat} {l : List Nat} (h : BL (c :: l)) : c = 48 ∨ c = 49 := h c (List.mem_cons_self ..)
theorem BL.app {x y : List Nat} (h : BL x) (k : BL y) : BL (x ++ y) := fun d hd => (List.mem_append.mp hd).elim (h d) (k d)
theorem BL.l {x y : List Nat} (h : BL (x ++ y)) : BL x := fun d hd => h d (List.mem_append_left _ hd)
theorem BL.r {x y : List Nat} (h : BL (x ++ y)) : BL y := fun d hd => h d (List.mem_append_right _ hd)
def size (w : Nat) (t : List Nat) : Nat := 2 ^ (w - t.length)
end M
namespace M
/-- the longest of the beginnings of a up to k signs that is among ts -/
def lgN (ts : List (List Nat)) (a : List Nat) : Nat → List Nat
  | 0 => []
  | k + 1 => if a.take (k + 1) ∈ ts then a.take (k + 1) else lgN ts a k
def lg (ts : List (List Nat)) (a : List Nat) : List Nat := lgN ts a a.length
/-- p is the longest one of ts with which a begins -/
structure IsLg (ts : List (List Nat)) (a p : List Nat) : Prop where
  mem : p ∈ ts
  pre : p <+: a
  top : ∀ q ∈ ts, q <+: a → q.length ≤ p.length
theorem IsLg.uniq {ts : List (List Nat)} {a p q : List Nat} (h : IsLg ts a p) (k : IsLg ts a q) : p = q := by
  have e : p.length = q.length := Nat.le_antisymm (k.top p h.mem h.pre) (h.top q k.mem k.pre)
  rw [List.prefix_iff_eq_take.mp h.pre, List.prefix_iff_eq_take.mp k.pre, e]
/-- whose cell a stretch lies in, itself left out -/
def par (ts : List (List Nat)) (t : List Nat) : List Nat := lg ts t.dropLast
end M
open PySem PySem.Spec PyProof.Rows L2
open PySem PySem.Spec PySem.Calls PyProof.Rows
open L2 hiding pass0
section
variable {X : Cx} {pn : List (Addr × Obj)} {σ : L2.St} {H : Hp} {s : Shared}
theorem star_dk {a : Addr} {kvs : List (Key × V)} {E : Value → Shared → Prop} {Q : List Value → Shared → Prop} (hcalm : X.calm = true) (I : Inv X pn σ H s) (h : Rd H a (.dK kvs))
    (hQ : ∀ us s', Inv X pn σ H s' → Vals (kvs.map fun kv => kV kv.1) us → Q us s') : PySem.W.StarOf (model X.prog X.w) X.A E (.ref a) Q s := by
  obtain ⟨z, lo, ws, rel, dd⟩ := dk_rd I.hok h
  obtain ⟨ep, hat⟩ := dd.dictAt
  have hT : s.TypeIs (.ref a) "dict" := by
    obtain ⟨o, _, e1, e2, _⟩ := hat
    exact ⟨o, e1, e2.1⟩
  have ek : (kvs.map fun kv => kV kv.1) = ws.map fun p => kV p.1 := by
    have e := congrArg (List.map kV) rel.keys
    rwa [List.map_map, List.map_map] at e
  unfold PySem.W.StarOf notIterableAtAll
  refine wpAny_bind (wpAny_specialOf hT PySem.F.slot_dict_iter.lookup (wpAny_pure ⟨rfl, ?_⟩))
  refine PySem.W.kdu_collect (PySem.W.kdl_dict (knd := mixKind X.prog X.w) (kvs := ws) (ep := ep) lo) (I.ok.hd hcalm) hat (by rw [← rel.length]; exact z) fun h' tk acc hk hacc => ?_
  refine hQ _ _ (I.kept hk) ?_
  rw [ek]
  exact keys_at (by rw [Array.length_toList]; exact hacc.1) fun j v e => hacc.2 j v (by rw [← Array.getElem?_toList]; exact e)
end
def tStarD (te : TE) (t : TA) : TA := fun σ H Q => te σ H fun x H1 => ∃ a kvs, x = V.ref a ∧ Rd H1 a (.dK kvs) ∧ t σ H1 fun ys H2 => Q ((kvs.map fun kv => kV kv.1) ++ ys) H2
section
variable {X : Cx} {e : Expr} {es : List Expr} {te : TE} {t : TA} {p : Pos}
theorem pa_starD (hcalm : X.calm = true) (he : PE X e te) (hr : PA X es t) (hs : starEach (.Starred e p :: es) X.env = (true, eval e X.env) :: starEach es X.env := by rfl) : PA X (.Starred e p :: es) (tStarD te t) := by
  refine ⟨fun pos pn s σ H Q I h => ?_⟩
  refine PySem.W.items_star (thn (he.run pn s σ H _ I h) fun v s1 ⟨y, H1, I1, ry, a, kvs, ey, hx, q⟩ => ?_) hs
  subst ey
  obtain rfl : v = Value.ref a := ry
  refine star_dk hcalm I1 hx fun us s2 I2 rv => ?_
  exact thn (hr.run pos pn s2 σ H1 _ I2 q) fun ws s3 ⟨vs, H3, I3, r3, q3⟩ => ⟨_, H3, I3, rv.append r3, q3⟩
end
namespace M
/-- one of them is its beginning -/
def frB (fs : List (List Nat)) (z : List Nat) : Bool := fs.any fun f => decide (f <+: z)
end M
open PySem PySem.Spec PyProof.Rows L2
/-- of bulk at most N, depth at most D -/
structure Fit (N D : Nat) (d : PyData) : Prop where
  lay : d.canLay0 = true
  sh : d.showable = true
  dp : d.depth ≤ D
  ls : d.leavesShort 13 = true
  bk : d.bulk ≤ N
theorem Fit.mono {N D N' D' : Nat} {d : PyData} (h : Fit N D d) (hN : N ≤ N') (hD : D ≤ D') : Fit N' D' d := ⟨h.lay, h.sh, Nat.le_trans h.dp hD, h.ls, Nat.le_trans h.bk hN⟩
theorem Fit.non {N D : Nat} : Fit N D .none := ⟨rfl, rfl, Nat.zero_le _, rfl, Nat.zero_le _⟩
theorem Fit.bool {N D : Nat} (b : Bool) : Fit N D (.bool b) := ⟨rfl, rfl, Nat.zero_le _, rfl, Nat.zero_le _⟩
theorem Fit.str {N D : Nat} {z : Str} (h : ∀ c ∈ z.cps.toList, c < 128) (l : z.length ≤ N) : Fit N D (.str z) := by
  refine ⟨?_, rfl, Nat.zero_le _, ?_, l⟩
  · show (z.cps.all fun c => decide (c < 0x110000)) = true
    refine Array.all_eq_true_iff_forall_mem.mpr fun c hc => decide_eq_true ?_
    have := h c (by simpa using hc)
    omega
  · show (z.cps.toList.all fun c => decide (c < 16 ^ 8)) = true
    exact List.all_eq_true.mpr fun c hc => decide_eq_true (by have := h c hc; have : (128 : Nat) ≤ 16 ^ 8 := by decide
                                                              omega)
theorem Fit.int {N D : Nat} {i : Int} (h : ((PyData.shown (.int i)).length ≤ 13 ∧ i.natAbs < 2 ^ 1000)) : Fit N D (.int i) := by
  refine ⟨rfl, ?_, Nat.zero_le _, decide_eq_true h.1, Nat.zero_le _⟩
  refine decide_eq_true ?_
  rcases Nat.eq_zero_or_pos i.natAbs with e | e
  · rw [e]; decide
  · have := (Nat.log2_lt (by omega)).mpr h.2
    omega
theorem fit_all {N D : Nat} : ∀ {ds : List PyData}, (∀ d ∈ ds, Fit N D d) → PyData.canLayAll0 ds = true ∧ PyData.showableAll ds = true ∧ PyData.depthAll ds ≤ D ∧ PyData.leavesShortAll 13 ds = true ∧ PyData.bulkAll ds ≤ (N + 1) * ds.length
  | [], _ => ⟨by simp only [PyData.canLayAll0], by simp only [PyData.showableAll], by simp only [PyData.depthAll]; omega, by simp only [PyData.leavesShortAll], by simp only [PyData.bulkAll]; omega⟩
  | d :: ds, h => by
    have h1 := h d (List.mem_cons_self ..)
    obtain ⟨a1, a2, a3, a4, a5⟩ := fit_all (ds := ds) fun x hx => h x (List.mem_cons_of_mem _ hx)
    have b3 := h1.dp
    have b5 := h1.bk
    refine ⟨?_, ?_, ?_, ?_, ?_⟩
    · simp only [PyData.canLayAll0, h1.lay, a1, Bool.and_self]
    · simp only [PyData.showableAll, h1.sh, a2, Bool.and_self]
    · simp only [PyData.depthAll]; omega
    · simp only [PyData.leavesShortAll, h1.ls, a4, Bool.and_self]
    · simp only [PyData.bulkAll, List.length_cons]
      rw [Nat.mul_add]
      omega
theorem Fit.list {N D : Nat} {ds : List PyData} (h : ∀ d ∈ ds, Fit N D d) : Fit ((N + 1) * ds.length) (D + 1) (.list ds) := by
  obtain ⟨a1, a2, a3, a4, a5⟩ := fit_all h
  exact ⟨by simpa only [PyData.canLay0] using a1, by simpa only [PyData.showable] using a2, by simp only [PyData.depth]; omega, by simpa only [PyData.leavesShort] using a4, by simpa only [PyData.bulk] using a5⟩
theorem Fit.tuple {N D : Nat} {ds : List PyData} (h : ∀ d ∈ ds, Fit N D d) : Fit ((N + 1) * ds.length) (D + 1) (.tuple ds) := by
  obtain ⟨a1, a2, a3, a4, a5⟩ := fit_all h
  exact ⟨by simpa only [PyData.canLay0] using a1, by simpa only [PyData.showable] using a2, by simp only [PyData.depth]; omega, by simpa only [PyData.leavesShort] using a4, by simpa only [PyData.bulk] using a5⟩
theorem Fit.rp {K : PySem.W.Frag} {H : Hp} {x : V} {d : PyData} {N D : Nat} (h : Fit N D d) (g : Dp K H x d) (hN : N ≤ 1048576) (hD : D ≤ 50) : Rp K H x d ∧ PyData.showable d = true ∧ PyData.depth d ≤ 50 ∧ d.shown.length ≤ sizeLine :=
  ⟨.dat g (PyData.hasDict_of_canLay d h.lay), h.sh, Nat.le_trans h.dp hD, PyData.shown_fits_bulk (by decide) (by decide) h.ls (Nat.le_trans h.bk (Nat.le_trans hN (by decide)))⟩
theorem Fit.shp {d : PyData} {N D : Nat} (h : Fit N D d) (hD : D ≤ 50) : SeqAt.shaped d = true := by
  show (d.canLay0 && decide (d.depth ≤ 64)) = true
  rw [h.lay, decide_eq_true (by have := h.dp; omega)]
  rfl
theorem Fit.eqv {d : PyData} {N D : Nat} (h : Fit N D d) : PyData.eqv d d = true := SeqAt.eqv_refl d h.lay
open PySem PySem.Spec PyProof.Rows L2
open PySem PySem.Spec PySem.Calls PyProof.Rows
open L2 hiding pass0
section
variable {X : Cx} {K : PySem.W.Frag} {o e : Expr} {es : List Expr} {to : TE} {t : TA} {name : Str} {apos cpos : Pos} {T id : String} {r : V → List V → Hp → VK → Prop}
theorem pe_bmK (eK : X.K = K) (pa : PlainAttrs T) (slot : Slot T name id) (hty : typeOf (.builtin id) = pure (.type "method_descriptor")) (hm : MtR X id r) (ho : PE X o to) (ha : PA X (e :: es) t)
    (hbase : attributeBase o name X.env (eval o X.env) = eval o X.env := by rfl)
    (hfew : ((backTo cpos (starEach (e :: es) X.env)).all (fun x => !x.1) && (backToKw cpos (keywordEach [] X.env)).all (fun x => x.1.isSome)
      && decide ((e :: es).length + ([] : List Keyword).length + (if ([] : List Keyword).isEmpty then 0 else 1) < 30)) = true := by rfl)
    (hline : (apos.endLine == cpos.line) = true := by rfl) (hs : starEach (e :: es) X.env = (false, eval e X.env) :: starEach es X.env := by rfl) (hplain : (backTo cpos (starEach es X.env)).any (·.1) = false := by rfl) :
    PE X (.Call (.Attribute o name apos) (e :: es) [] cpos) (tBM K T r to t) := by
  subst eK
  exact pe_bm pa slot hty hm ho ha hbase hfew hline hs hplain
end
theorem fnG_core0 {P : Program} {w : World} {K : PySem.W.Frag} {mg : Str → Option Value} {base : Heap} {CX : CXT} {f : Addr} {x q : Str} {args : Arguments} {body : List Stmt} {scope : Scope} {oc : Value} {od : Option Addr} {dV kV doc pm cdv ct : Value} {an : Option Addr} {osl : Array (Option Value)} {N ps : List Str} {k : Nat} {sp : Sp}
    (lk : K.lookup f = some ⟨oc, od, .func (PySem.W.fnOf x q args body scope dV kV doc pm an cdv ct), osl⟩) (hcd : PySem.W.codeIn K cdv q = true) (S : FnScope N ps scope) (len : ∀ vs H Q E, sp vs H Q E → vs.length = ps.length)
    (hb : ∀ (A : Around) (outer : List Env) (s : Shared) (H : Hp) (vs : List V) (Q : VK) (E : XK), RoomG k (A.deeper (envOfC q scope s.heap.objs.size f cdv)) → sp vs H Q E →
      ∃ t, PSs (cxOf CX P w K mg base N q scope f cdv A outer s H E).nox body t ∧ t { nx := fun _ H' => Q .non H', rt := Q } (start N vs) H) : FnG P w K mg base CX (k + 1) f (PySem.W.fnOf x q args body scope dV kV doc pm an cdv ct) ps sp := fnG_core lk hcd S len fun A outer s H vs Q E hr h => let ⟨t, h1, h2⟩ := hb A outer s H vs Q E hr h; ⟨t, h1.nox, h2⟩
open PySem PySem.Spec PySem.Calls PyProof.Rows
open L2 hiding pass0
open PySem PySem.Spec PySem.Calls PyProof.Rows
open L2 hiding pass0
section
variable {X : Cx} {CX : CXT} {k j : Nat} {C : Addr} {q : Str} {st : Stmt} {ps : List Str} {sp : Sp} {E : XK}
def rReprO (C : Addr) (sp : Sp) (E : XK) : List V → Hp → VK → Prop := fun xs H Q => ∃ a dx fs, xs = [.ref a] ∧ H a = some (.ins C dx fs) ∧ sp [.ref a] H (fun v H' => ∃ z : Str, v = .str z ∧ Q v H') E
theorem call_reprO (c : Mth X.prog X.w X.K X.mg X.base CX k C "__repr__" q st ps sp) (hr : RoomG j X.A) (hk : k + 1 ≤ j) (hx : Passes CX X E) (b : BndMP "__repr__" q st ps) (hu : X.A.units + 60 < cLine) : CallR X (.builtin "repr") (rReprO C sp E) := by
  intro pins s σ H xs us Q I r h
  obtain ⟨f, fd, F, hm, hfi, G⟩ := c.ex
  obtain ⟨oc, od, kV, doc, pm, an, cdv, ct, osl, rfl, lk, hcd⟩ := F.ex
  obtain ⟨a, dx, fs, rfl, ea, q⟩ := h
  obtain rfl := Vals.ref1 r
  obtain ⟨mA, O, _, _, _, _⟩ := ins_get I.hok ea
  obtain ⟨od', J, _⟩ := O.look
  have h1 := G.len _ _ _ _ q
  refine Calls.call_function_entry PySem.F.kind_repr PySem.F.plain_repr PySem.F.entry_repr (PySem.F.args_repr1 _) ?_
  unfold Builtin.«repr»
  refine wpAny_bind (m := oneArg "repr" _) (wpAny_pure ?_)
  refine wpAny_bind (wpAny_cRoomFor (show X.A.units + 1 < cLine by omega) ?_)
  refine wpAny_bind (m := specialOf (.ref a) (Str.ofString "__repr__")) (wpAny_bind (J.type.here ((PySem.W.looks_findIn I.kIn hm.at_).here ?_)))
  show wpAny _ _ (if (some (Value.ref f)).isNone = true then _ else _) _ _ _
  rw [if_neg (by simp)]
  refine wpAny_bind (m := callSpecialIfBound? (.ref a) (Str.ofString "__repr__") _) (PySem.W.ifBound_K I.kIn J hm.at_ hm.fn (run_in1 G (hr.mono hk) (.of_eq (b kV doc pm cdv ct an [.ref a] h1)) hx I (.cons rfl .nil : Vals [.ref a] [.ref a]) q fun u s' z => ?_))
  obtain ⟨v, H', I3, rv, n, rfl, q3⟩ := z
  obtain ⟨tk, rfl⟩ := rv
  refine wpAny_bind (wpAny_isInstance (typeIs_str _ _ _) isSubtype_str_str ?_)
  rw [if_pos rfl]
  exact wpAny_pure ⟨_, rfl, .str n, H', I3, ⟨_, rfl⟩, q3⟩
end
open PySem PySem.Spec PySem.Calls PyProof.Rows
open L2 hiding pass0
/-- room, and nothing but lists at as is being shown -/
structure RoomC (k : Nat) (A : Around) (L : Addr) : Prop where
  r : Room k A
  g : ∃ g, A.guards = some g ∧ ∀ b, b ≠ L → Clear g b
def kvText (p : Str × Str) : Str := reprText p.1 ++ (": " : Str) ++ reprText p.2
theorem ent_tk {P : Program} {w : World} {h : Heap} : ∀ {m : List (Str × Str)} {es : List DictEntry} {vs : List (Key × Value)}, KV (m.map fun p => ((Sum.inr p.1 : Key), V.str p.2)) vs → PySem.Pairs (mixKind P w) es vs →
    (∀ p ∈ m, (reprText p.1).length ≤ sizeLine ∧ (reprText p.2).length ≤ sizeLine) → ReprEntriesK P w [] h 0 es (m.map kvText)
  | [], _, _, .nil, .nil, _ => .nil
  | p :: m, _, _, .cons hk hr, .cons q1 q2 qr, hz => by
    obtain ⟨k1, k2⟩ := hk
    have z := hz p List.mem_cons_self
    refine ReprEntriesK.cons ?_ ?_ (ent_tk hr qr fun x hx => hz x (List.mem_cons_of_mem _ hx))
    · rw [mixKind_is, ← k1] at q1
      rcases keyIs_shape q1 with ⟨i, t, e, _⟩ | ⟨x, t, e, e2⟩
      · cases e
      · cases e
        rw [e2]
        exact ReprK.of_is (ReprIs.str _ t z.1) _ _ _
    · obtain ⟨t, e⟩ : ∃ t, _ = Value.str p.2 t := k2
      rw [q2, e]
      exact ReprK.of_is (ReprIs.str _ t z.2) _ _ _
section
variable {X : Cx}
def tFmtD (L : Addr) (te : TE) : TE := fun σ H Q => te σ H fun x H1 => ∃ (a : Addr) (m : List (Str × Str)), x = .ref a ∧ H1 a = some (.dK (m.map fun p => ((Sum.inr p.1 : Key), V.str p.2))) ∧ a ≠ L ∧
  (∀ p ∈ m, (reprText p.1).length ≤ sizeLine ∧ (reprText p.2).length ≤ sizeLine) ∧ (dictText (m.map kvText)).length ≤ sizeLine ∧ Q (.str (dictText (m.map kvText))) H1
theorem pe_fmtD {k : Nat} {L : Addr} {e : Expr} {te : TE} {pos : Pos} (hr : RoomC k X.A L) (he : PE X e te) : PE X (.FormattedValue e 114 none pos) (tFmtD L te) := by
  refine ⟨fun pins s σ H Q I h => ?_⟩
  refine wpAny_FormattedValue_repr (thn (he.run pins s σ H _ I h) fun v s1 hv => ?_)
  obtain ⟨x, H1, I1, r1, a, m, rfl, ha, hne, hz, hl, q⟩ := hv
  obtain rfl : v = Value.ref a := r1
  obtain ⟨z, ns, vs, rel, o, es, ep, g1, g2, g3, g4, g5, g6⟩ := dk_of I1.hok ha
  obtain ⟨g, hg, hc⟩ := hr.g
  have un := hr.r.un
  refine wpAny_pyReprObj_dictK (h₀ := s1.heap) (as := []) (d := 0) g1 g2.1 g3 ns (by simp) (ent_tk rel g5 hz) hg (fun b hb => ?_) (by omega) (fun _ _ e => e) (fun h' u tk hk => ?_) hl
  · rw [List.mem_singleton] at hb
    subst hb
    exact hc _ hne
  · have I2 := I1.kept (t' := tk) hk
    exact wpAny_formatField_str ⟨.str (dictText (m.map kvText)), H1, I2, ⟨_, rfl⟩, q⟩ ⟨.str (dictText (m.map kvText)), H1, I2.tok _, ⟨_, rfl⟩, q⟩ hl
end
/-- as FnG, while the list at L is being shown -/
structure FnC (P : Program) (w : World) (K : PySem.W.Frag) (mg : Str → Option Value) (base : Heap) (CX : CXT) (k : Nat) (L : Addr) (f : Addr) (fd : FuncData) (ps : List Str) (sp : Sp) : Prop where
  len : ∀ vs H Q E, sp vs H Q E → vs.length = ps.length
  run : ∀ (A : Around) (outer : List Env) (s : Shared) (H : Hp) (args : Args) (us : List Value) (vs : List V) (Q : VK) (E : XK),
    RoomC k A L → Env0 P w K mg base A outer s H → BindsTo s fd args (ps.zip us) → Vals vs us → sp vs H Q E → codeAny (model P w) A (.call (.ref f) args) (CR CX outer P w H s Q E) s
theorem RoomC.mono {j k : Nat} {A : Around} {L : Addr} (x : RoomC k A L) (h : j ≤ k) : RoomC j A L := ⟨x.r.mono h, x.g⟩
theorem RoomC.deeper {k : Nat} {A : Around} {L : Addr} (x : RoomC (k + 1) A L) (e : Env) : RoomC k (A.deeper e) L := ⟨x.r.deeper e, x.g⟩
theorem RoomC.ofG {k : Nat} {A : Around} (x : RoomG k A) (L : Addr) : RoomC k A L := ⟨x.r, [], x.g, fun b _ => Clear.nil b⟩
section
variable {P : Program} {w : World} {K : PySem.W.Frag} {mg : Str → Option Value} {base : Heap} {CX : CXT}
theorem FnC.toG {k : Nat} {L f : Addr} {fd : FuncData} {ps : List Str} {sp : Sp} (F : FnC P w K mg base CX k L f fd ps sp) : FnG P w K mg base CX k f fd ps sp :=
  ⟨F.len, fun A outer s H args us vs Q E hr => F.run A outer s H args us vs Q E (.ofG hr L)⟩
end
/-- a method m of the class at C, while the list at L is being shown -/
structure MthC (P : Program) (w : World) (K : PySem.W.Frag) (mg : Str → Option Value) (base : Heap) (CX : CXT) (k : Nat) (C L : Addr) (m q : Str) (st : Stmt) (ps : List Str) (sp : Sp) : Prop where
  ex : ∃ (f : Addr) (fd : FuncData), Fun K m q st f fd ∧ Meth K C m f ∧ PySem.W.fnIn K f = true ∧ FnC P w K mg base CX k L f fd ps sp
theorem MthC.to {P : Program} {w : World} {K : PySem.W.Frag} {mg : Str → Option Value} {base : Heap} {CX : CXT} {k : Nat} {C L : Addr} {m q : Str} {st : Stmt} {ps : List Str} {sp : Sp} (c : MthC P w K mg base CX k C L m q st ps sp) : Mth P w K mg base CX k C m q st ps sp := by
  obtain ⟨f, fd, F, hm, hf, G⟩ := c.ex
  exact ⟨f, fd, F, hm, hf, G.toG⟩
open PySem PySem.Spec PyProof.Rows L2
open PySem PySem.Spec PyProof.Rows L2
def d3 (ds : List (PyData × PyData)) (a b : Int) : PyData := .list [.dict ds, .int a, .int b]
theorem fit_kv {N D : Nat} : ∀ {ds : List (PyData × PyData)}, (∀ p ∈ ds, Fit N D p.1 ∧ Fit N D p.2) → PyData.showableKv ds = true ∧ PyData.depthKv ds ≤ D ∧ PyData.leavesShortKv 13 ds = true ∧ PyData.bulkKv ds ≤ (2 * N + 2) * ds.length
  | [], _ => ⟨by simp only [PyData.showableKv], by simp only [PyData.depthKv]; omega, by simp only [PyData.leavesShortKv], by simp only [PyData.bulkKv]; omega⟩
  | (a, b) :: ds, h => by
    obtain ⟨h1, h2⟩ := h (a, b) (List.mem_cons_self ..)
    obtain ⟨a2, a3, a4, a5⟩ := fit_kv (ds := ds) fun x hx => h x (List.mem_cons_of_mem _ hx)
    have b3 := h1.dp
    have b5 := h1.bk
    have c3 := h2.dp
    have c5 := h2.bk
    simp only at b3 b5 c3 c5
    refine ⟨?_, ?_, ?_, ?_⟩
    · simp only [PyData.showableKv, h1.sh, h2.sh, a2, Bool.and_self]
    · simp only [PyData.depthKv]; omega
    · simp only [PyData.leavesShortKv, h1.ls, h2.ls, a4, Bool.and_self]
    · simp only [PyData.bulkKv, List.length_cons]
      rw [Nat.mul_add]
      omega
/-- such data is small -/
theorem d3_ok {m : List (Str × Str)} {a b : Int} (h : ∀ p ∈ m, (∀ c ∈ p.1.cps.toList, c < 128) ∧ (∀ c ∈ p.2.cps.toList, c < 128) ∧ p.1.length ≤ 200 ∧ p.2.length ≤ 200) (l : m.length ≤ 40) (ha : 0 ≤ a) (ha2 : a ≤ 1000) (hb : 0 ≤ b) (hb2 : b ≤ 1000) :
    PyData.showable (d3 (m.map fun p => (PyData.str p.1, PyData.str p.2)) a b) = true ∧ PyData.depth (d3 (m.map fun p => (PyData.str p.1, PyData.str p.2)) a b) ≤ 50 ∧ (d3 (m.map fun p => (PyData.str p.1, PyData.str p.2)) a b).shown.length ≤ sizeLine := by
  obtain ⟨k1, k2, k3, k4⟩ := fit_kv (N := 200) (D := 0) (ds := m.map fun p => (PyData.str p.1, PyData.str p.2)) (by
    intro p hp
    obtain ⟨q, hq, rfl⟩ := List.mem_map.mp hp
    obtain ⟨q1, q2, q3, q4⟩ := h q hq
    exact ⟨Fit.str q1 q3, Fit.str q2 q4⟩)
  have hi : ∀ i : Int, 0 ≤ i → i ≤ 1000 → Fit 0 0 (.int i) := fun i h0 h1 => Fit.int ⟨PyData.shown_int_le (Nat.lt_of_le_of_lt (m := 1000) (by omega) (by decide)), Nat.lt_of_le_of_lt (m := 1000) (by omega) (by decide)⟩
  have ia := hi a ha ha2
  have ib := hi b hb hb2
  have k5 : (m.map fun p => (PyData.str p.1, PyData.str p.2)).length ≤ 40 := by rw [List.length_map]; exact l
  generalize (m.map fun p => (PyData.str p.1, PyData.str p.2)) = ds at *
  refine ⟨?_, ?_, PyData.shown_fits_bulk (B := 13) (by decide) (by decide) ?_ ?_⟩
  · simp only [d3, PyData.showable, PyData.showableAll, k1, Bool.and_self, Bool.and_true, Bool.true_and, Bool.and_eq_true]
    exact ⟨by simpa only [PyData.showable] using ia.sh, by simpa only [PyData.showable] using ib.sh⟩
  · simp only [d3, PyData.depth, PyData.depthAll]
    omega
  · simp only [d3, PyData.leavesShort, PyData.leavesShortAll, k3, Bool.and_self, Bool.and_true, Bool.true_and, Bool.and_eq_true]
    exact ⟨by simpa only [PyData.leavesShort] using ia.ls, by simpa only [PyData.leavesShort] using ib.ls⟩
  · simp only [d3, PyData.bulk, PyData.bulkAll]
    have : 402 * ds.length ≤ 402 * 40 := Nat.mul_le_mul_left _ k5
    have e : (2 ^ 20 : Nat) = 1048576 := by decide
    omega
open PySem PySem.Spec PyProof.Rows L2
/-- a set of goals (none: all of them), a need -/
abbrev SNd := Option (List Str) × Nat
def shr (x y : List Str) : List Str := x.filter fun g => decide (g ∈ y)
def both2 (a b : SNd) : SNd := match a.1, b.1 with
  | none, _ => (b.1, a.2 + b.2)
  | some x, none => (some x, a.2 + b.2)
  | some x, some y => if shr x y = [] then (some (tsort (x ++ y)), a.2 + b.2 + 1) else (some (shr x y), a.2 + b.2)
def SNk (lab : List Nat → Option Str) : Nat → List Nat → SNd
  | 0, t => ((lab t).map fun g => [g], 0)
  | k + 1, t => both2 (SNk lab k (t ++ [48])) (SNk lab k (t ++ [49]))
def inS (s : SNd) (g : Str) : Bool := match s.1 with
  | none => true
  | some x => decide (g ∈ x)
def cst (s : SNd) (g : Str) : Nat := s.2 + if inS s g = true then 0 else 1
theorem both_nl (i : Nat) (b : SNd) : both2 (none, i) b = (b.1, i + b.2) := rfl
theorem both_nr (a : SNd) (j : Nat) : both2 a (none, j) = (a.1, a.2 + j) := by
  obtain ⟨a, i⟩ := a
  cases a <;> rfl
theorem both_ss (x y : List Str) (i j : Nat) : both2 (some x, i) (some y, j) = if shr x y = [] then (some (tsort (x ++ y)), i + j + 1) else (some (shr x y), i + j) := rfl
theorem cst_none (i : Nat) (g : Str) : cst (none, i) g = i := rfl
theorem cst_some (x : List Str) (i : Nat) (g : Str) : cst (some x, i) g = i + if g ∈ x then 0 else 1 := by
  unfold cst inS
  by_cases q : g ∈ x
  · simp [q]
  · simp [q]
theorem cst_low (s : SNd) (g h : Str) : cst s g ≤ cst s h + 1 := by
  unfold cst
  split <;> split <;> omega
theorem cst_need (s : SNd) (g : Str) : s.2 ≤ cst s g := Nat.le_add_right _ _
theorem mem_shr {x y : List Str} {g : Str} : g ∈ shr x y ↔ g ∈ x ∧ g ∈ y := by
  unfold shr
  rw [List.mem_filter, decide_eq_true_iff]
theorem shr_nil {x y : List Str} (h : shr x y = []) (g : Str) : ¬ (g ∈ x ∧ g ∈ y) := fun q => by
  have := mem_shr.mpr q
  rw [h] at this
  cases this
theorem mem_tsort {x : List Str} {g : Str} : g ∈ tsort x ↔ g ∈ x := (tsort_perm x).mem_iff
theorem cst_both (a b : SNd) (g : Str) : cst (both2 a b) g ≤ cst a g + cst b g := by
  obtain ⟨a, i⟩ := a
  obtain ⟨b, j⟩ := b
  cases a with
  | none =>
    rw [both_nl]
    cases b with
    | none => rw [cst_none, cst_none, cst_none]; exact Nat.le_refl _
    | some y => rw [cst_none, cst_some, cst_some]; omega
  | some x =>
    cases b with
    | none => rw [both_nr, cst_none, cst_some, cst_some]; show i + j + _ ≤ _; omega
    | some y =>
      rw [both_ss, cst_some, cst_some]
      by_cases q : shr x y = []
      · rw [if_pos q, cst_some]
        have := shr_nil q g
        by_cases h1 : g ∈ x
        · have h2 : g ∉ y := fun h => this ⟨h1, h⟩
          rw [if_pos (mem_tsort.mpr (List.mem_append_left _ h1)), if_pos h1, if_neg h2]
          omega
        · by_cases h2 : g ∈ y
          · rw [if_pos (mem_tsort.mpr (List.mem_append_right _ h2)), if_neg h1, if_pos h2]
            omega
          · rw [if_neg h1, if_neg h2]
            split <;> omega
      · rw [if_neg q, cst_some]
        by_cases h : g ∈ shr x y
        · rw [if_pos h]
          omega
        · rw [if_neg h]
          have : ¬ (g ∈ x ∧ g ∈ y) := fun q => h (mem_shr.mpr q)
          by_cases h1 : g ∈ x
          · rw [if_neg fun h2 => this ⟨h1, h2⟩]; omega
          · rw [if_neg h1]; omega
theorem SNk_even {lab : List Nat → Option Str} {o : Option Str} : ∀ {k : Nat} {t : List Nat}, (∀ y, M.BL y → y.length = k → lab (t ++ y) = o) → SNk lab k t = (o.map fun g => [g], 0)
  | 0, t, h => by
    have := h [] (fun c hc => by cases hc) rfl
    rw [List.append_nil] at this
    unfold SNk
    rw [this]
  | k + 1, t, h => by
    unfold SNk
    have st : ∀ b : Nat, b = 48 ∨ b = 49 → SNk lab k (t ++ [b]) = (o.map fun g => [g], 0) := fun b hb => SNk_even fun y hy ly => by
      rw [List.append_assoc]
      refine h ([b] ++ y) (fun c hc => ?_) (by rw [List.length_append, ly]; show 1 + k = _; omega)
      rcases List.mem_append.mp hc with q | q
      · rw [List.mem_singleton] at q
        rw [q]; exact hb
      · exact hy c q
    rw [st 48 (.inl rfl), st 49 (.inr rfl)]
    cases o with
    | none => rfl
    | some g =>
      show both2 (some [g], 0) (some [g], 0) = _
      rw [both_ss]
      have e : shr [g] [g] = [g] := by unfold shr; simp
      rw [e, if_neg (by simp)]
      rfl
/-- rows below a stretch, and what they lead to, want at least so many -/
theorem SNk_rows {lab : List Nat → Option Str} {G : List Nat → Str} {ks : List (List Nat)} : ∀ {k : Nat} {t : List Nat}, (∀ y, M.BL y → y.length = k → lab (t ++ y) = some (G (t ++ y)) ∨ lab (t ++ y) = none) →
    (∀ y b, M.BL (y ++ [b]) → y.length < k → t ++ y ++ [b] ∉ ks → G (t ++ y ++ [b]) = G (t ++ y)) →
    cst (SNk lab k t) (G t) ≤ ks.countP fun s => decide (t <+: s) && !decide (s = t)
  | 0, t, h, _ => by
    have := h [] (fun c hc => by cases hc) rfl
    rw [List.append_nil] at this
    unfold SNk
    rcases this with e | e
    · rw [e]
      show cst (some [G t], 0) (G t) ≤ _
      rw [cst_some, if_pos (List.mem_singleton.mpr rfl)]
      exact Nat.zero_le _
    · rw [e]; exact Nat.zero_le _
  | k + 1, t, h, hg => by
    have st : ∀ b : Nat, b = 48 ∨ b = 49 → cst (SNk lab k (t ++ [b])) (G t) ≤ ks.countP fun s => decide (t ++ [b] <+: s) := fun b hb => by
      have hbl : M.BL [b] := fun c hc => by rw [List.mem_singleton] at hc; rw [hc]; exact hb
      have ih := SNk_rows (lab := lab) (G := G) (ks := ks) (k := k) (t := t ++ [b]) (fun y hy ly => by
        rw [List.append_assoc]
        exact h ([b] ++ y) (hbl.app hy) (by rw [List.length_append, ly]; show 1 + k = _; omega)) (fun y c hy ly hn => by
        have := hg ([b] ++ y) c (by rw [List.append_assoc]; exact hbl.app hy) (by rw [List.length_append]; show 1 + _ < _; omega) (by rw [← List.append_assoc]; exact hn)
        rw [← List.append_assoc] at this
        exact this)
      by_cases q : t ++ [b] ∈ ks
      · have e : ks.countP (fun s => decide (t ++ [b] <+: s) && !decide (s = t ++ [b])) + 1 ≤ ks.countP (fun s => decide (t ++ [b] <+: s)) := by
          have h1 : 0 < ks.countP (fun s => decide (s = t ++ [b])) := List.countP_pos_iff.mpr ⟨_, q, decide_eq_true rfl⟩
          rw [List.countP_eq_length_filter] at h1
          rw [List.countP_eq_length_filter, List.countP_eq_length_filter]
          have : ∀ l : List (List Nat), (l.filter fun s => decide (t ++ [b] <+: s)).length = (l.filter fun s => decide (t ++ [b] <+: s) && !decide (s = t ++ [b])).length + (l.filter fun s => decide (s = t ++ [b])).length := fun l => by
            induction l with
            | nil => rfl
            | cons s l ih =>
              by_cases c : s = t ++ [b]
              · subst c
                simp [ih]
                omega
              · by_cases c2 : t ++ [b] <+: s <;> simp [c, c2, ih] <;> omega
          have := this ks
          omega
        have := cst_low (SNk lab k (t ++ [b])) (G t) (G (t ++ [b]))
        omega
      · have e1 : G (t ++ [b]) = G t := by
          have := hg [] b (by simpa using hbl) (Nat.succ_pos _) (by rw [List.append_nil]; exact q)
          rw [List.append_nil] at this
          exact this
        rw [← e1]
        refine Nat.le_trans ih (List.countP_mono_left fun s _ h => ?_)
        exact ((Bool.and_eq_true _ _).mp h).1
    have e : ks.countP (fun s => decide (t ++ [48] <+: s)) + ks.countP (fun s => decide (t ++ [49] <+: s)) ≤ ks.countP fun s => decide (t <+: s) && !decide (s = t) := by
      have : ∀ l : List (List Nat), l.countP (fun s => decide (t ++ [48] <+: s)) + l.countP (fun s => decide (t ++ [49] <+: s)) ≤ l.countP fun s => decide (t <+: s) && !decide (s = t) := fun l => by
        induction l with
        | nil => exact Nat.le_refl _
        | cons s l ih =>
          rw [List.countP_cons, List.countP_cons, List.countP_cons]
          have ne : ∀ b : Nat, t ++ [b] <+: s → (decide (t <+: s) && !decide (s = t)) = true := fun b hb => by
            have h1 : t <+: s := (List.prefix_append t [b]).trans hb
            have h2 : s ≠ t := fun e => by
              have := hb.length_le
              rw [e, List.length_append] at this
              have : t.length + 1 ≤ t.length := this
              omega
            rw [decide_eq_true h1, decide_eq_false h2]
            rfl
          by_cases a0 : t ++ [48] <+: s
          · have a1 : ¬ t ++ [49] <+: s := fun a1 => by
              obtain ⟨y, ey⟩ := a0
              obtain ⟨z, ez⟩ := a1
              rw [← ez, List.append_assoc, List.append_assoc] at ey
              have := List.append_cancel_left ey
              cases this
            rw [if_pos (decide_eq_true a0), if_neg (by simpa using a1), if_pos (ne 48 a0)]
            omega
          · by_cases a1 : t ++ [49] <+: s
            · rw [if_neg (by simpa using a0), if_pos (decide_eq_true a1), if_pos (ne 49 a1)]
              omega
            · rw [if_neg (by simpa using a0), if_neg (by simpa using a1)]
              omega
      exact this ks
    have h0 := st 48 (.inl rfl)
    have h1 := st 49 (.inr rfl)
    have := cst_both (SNk lab k (t ++ [48])) (SNk lab k (t ++ [49])) (G t)
    unfold SNk
    omega
/-- what may stand in a set -/
theorem SNk_sub {lab : List Nat → Option Str} {GS : List Str} : ∀ {k : Nat} {t : List Nat}, (∀ y g, M.BL y → y.length = k → lab (t ++ y) = some g → g ∈ GS) → ∀ x, (SNk lab k t).1 = some x → x.Nodup ∧ x ≠ [] ∧ ∀ g ∈ x, g ∈ GS
  | 0, t, h, x, e => by
    unfold SNk at e
    have h0 := h []
    rw [List.append_nil] at h0
    cases hl : lab t with
    | none => rw [hl] at e; cases e
    | some g =>
      rw [hl] at e
      cases e
      refine ⟨by simp, by simp, fun z hz => ?_⟩
      rw [List.mem_singleton] at hz
      rw [hz]
      exact h0 g (fun c hc => by cases hc) rfl hl
  | k + 1, t, h, x, e => by
    have st : ∀ b : Nat, b = 48 ∨ b = 49 → ∀ x, (SNk lab k (t ++ [b])).1 = some x → x.Nodup ∧ x ≠ [] ∧ ∀ g ∈ x, g ∈ GS := fun b hb => SNk_sub fun y g hy ly => by
      rw [List.append_assoc]
      refine h ([b] ++ y) g (fun c hc => ?_) (by rw [List.length_append, ly]; show 1 + k = _; omega)
      rcases List.mem_append.mp hc with q | q
      · rw [List.mem_singleton] at q
        rw [q]; exact hb
      · exact hy c q
    unfold SNk at e
    have s0 := st 48 (.inl rfl)
    have s1 := st 49 (.inr rfl)
    generalize SNk lab k (t ++ [48]) = a at e s0
    generalize SNk lab k (t ++ [49]) = b at e s1
    obtain ⟨a, i⟩ := a
    obtain ⟨b, j⟩ := b
    cases a with
    | none => rw [both_nl] at e; exact s1 x e
    | some x0 =>
      cases b with
      | none => rw [both_nr] at e; exact s0 x e
      | some y0 =>
        obtain ⟨n0, ne0, m0⟩ := s0 x0 rfl
        obtain ⟨n1, ne1, m1⟩ := s1 y0 rfl
        rw [both_ss] at e
        by_cases q : shr x0 y0 = []
        · rw [if_pos q] at e
          cases e
          refine ⟨(tsort_perm _).nodup_iff.mpr (List.nodup_append.mpr ⟨n0, n1, fun a ha b hb e => shr_nil q a ⟨ha, e ▸ hb⟩⟩), fun e => ?_, fun g hg => ?_⟩
          · have := (tsort_perm (x0 ++ y0)).length_eq
            rw [e, List.length_append] at this
            have h2 : x0.length ≠ 0 := fun z => ne0 (List.eq_nil_of_length_eq_zero z)
            have h3 : ([] : List Str).length = 0 := rfl
            omega
          · rcases List.mem_append.mp (mem_tsort.mp hg) with h | h
            · exact m0 g h
            · exact m1 g h
        · rw [if_neg q] at e
          cases e
          exact ⟨List.filter_sublist.nodup n0, q, fun g hg => m0 g (mem_shr.mp hg).1⟩
open PySem PySem.Spec PySem.Calls PyProof.Rows L2
open PySem PySem.Spec PySem.Calls PyProof.Rows L2
def tFrz (te : TE) : TE := fun σ H Q => te σ H fun x H1 => ∃ d u, x = .ref d ∧ H1 d = some u ∧ Mut (some u) ∧ ∀ od, Q (.ref d) (upd H1 d (.frz od u))
theorem pe_frz {X : Cx} {e : Expr} {te : TE} (h : PE X e te) : PE X e (tFrz te) := by
  refine ⟨fun pins s σ H Q I hw => ?_⟩
  refine thn (h.run pins s σ _ _ I hw) fun v s1 ⟨x, H1, I1, r, d, u, ex, hd, mu, q⟩ => ?_
  subst ex
  obtain ⟨od, I2⟩ := I1.lock hd mu
  exact ⟨.ref d, _, I2, r, q od⟩
open PySem PySem.Spec PyProof.Rows LamX
open L2 hiding pass0
/-- the lambda, called with a text: the heap stands -/
theorem lam_str {X : Cx} {pins : List (Addr × Obj)} {σ : L2.St} {H : Hp} {s : Shared} (I : Inv X pins σ H s) {f c' : Addr} {qual y : Str} {params : Arguments} {scope : Scope} {pm ctv : Value} {p1 p2 p3 : Pos} (S : FnScope [y] [y] scope) (hr : RoomG 2 X.A)
    (hf : s.heap.get? f = some (PySem.W.kla_obj "<lambda>" qual params (.Call (.Name "str" p1) [.Name y p2] [] p3) scope [] pm c' ctv)) (hc : H c' = some (CodeO c' qual))
    (hbind : ∀ u : Value, bindArgs (PySem.W.kla_fn "<lambda>" qual params (.Call (.Name "str" p1) [.Name y p2] [] p3) scope [] pm (.ref c') ctv) ⟨[u], []⟩ = pure [(y, u)])
    (hy : scope.names.lookup y = some .local) (hstr : X.mg "str" = none) (hgl : scope.names.lookup ("str" : Str) = some .globalImplicit) (hd1 : (y == ("__debug__" : Str)) = false) {x : Str} {t : Tok} (h : Heap) (tk : Nat) (kp : ∀ b o, s.heap.get? b = some o → h.get? b = some o) :
    wpAny (model X.prog X.w) X.A.in1.in1 (call (.ref f) [.str x t]) (PySem.W.KeyPure (.str x) { s with heap := h, toks := tk }) (fun _ _ => False) { s with heap := h, toks := tk } := by
  have I1 : Inv X pins σ H { s with heap := h, toks := tk } := I.kept kp
  have e0 := I1.env0.in1.in1
  have at1 := kp _ _ hf
  have r2 : Room 1 X.A.in1.in1 := ⟨hr.r.hd, by have := hr.r.dp; show X.A.depth + _ + 5 < _; omega, by have := hr.r.un; show X.A.units + 1 + 1 + _ + 200 < _; omega⟩
  obtain ⟨⟨oc, vs, tq, k1, k2, k3⟩, _, _⟩ := e0.hok c' _ hc
  have lim : h.NoLimit := e0.mod.nolimit.keeps fun b o e => (e0.bs b o e).1
  refine wpAny_call ?_
  refine PySem.W.kla_callFunE r2.depth at1 rfl S.co S.gen rfl ⟨c', oc, vs, tq, rfl, k1, k2, k3⟩ ?_
  rw [hbind]
  refine wpAny_pure (wpAny_newFunctionEnv_cells S.kind (fun z hz => ?_) fun env he s1 xc => ?_)
  · rw [List.mem_singleton] at hz
    subst hz
    exact .inl hy
  obtain rfl : env = envOfC qual scope h.objs.size f (.ref c') := he
  have I2 : Inv (cxOf C8.CX0 X.prog X.w X.K X.mg X.base [y] qual scope f (.ref c') X.A.in1.in1 X.stack { s with heap := h, toks := tk } H C8.E0) [] (L2.start [y] [.str x]) H s1 := inv_start (ps := [y]) (us := [.str x t]) (vs := [.str x]) S r2.hd e0 rfl (.cons ⟨t, rfl⟩ .nil) xc
  refine ⟨lim.keeps xc.toInCall.keep, PySem.W.kla_codeExpr ?_⟩
  refine wpAny_Call_Name_kw (ld_blt (pins := []) I2 hgl hstr (by decide +kernel : bootBuiltins "str" = some (.type "str")) ?_ (by decide) (by decide))
  refine PyProof.Rows.callWith_type1 ?_
  have hm := bindL_get (kindOf := (envOfC qual scope h.objs.size f (.ref c')).kindOf) (P := [y]) (vs := [Value.str x t]) (i := 0) (m := fun _ => none) (by simp) rfl rfl hy
  obtain ⟨h1, tk1, rfl, hk⟩ := xc.done
  have fin : PySem.W.KeyPure (.str x) { s with heap := h, toks := tk } (.str x t) { s with heap := h1, toks := tk1 } := ⟨h1, tk1, rfl, hk, .str x t⟩
  refine Calls.spliced_cons (wpAny_Name (wpAny_loadName_local (env := envOfC qual scope h.objs.size f (.ref c')) S.kind hy xc.toInCall.ns hm (Calls.spliced_nil ?_)) hd1)
  exact PySem.P.str_of_str fin
/-- as a call's key -/
def rSortLam (TT : List (Addr × Str)) : V → Hp → VK → Prop := fun v H Q => Tabs TT H ∧ ∃ (a : Addr) (xs : List Str), v = V.ref a ∧ H a = some (.lst (xs.map V.str)) ∧ ∀ H1, ExtN H H1 → Tabs TT H1 → ∀ p, H1 p = none → Q (.ref p) (upd H1 p (.lst ((tsort xs).map V.str)))
def tSortLam (TT : List (Addr × Str)) (te : TE) : TE := fun σ H Q => te σ H fun v H1 => rSortLam TT v H1 Q
theorem pe_sortLam {X : Cx} {TT : List (Addr × Str)} {c P : Addr} {y : Str} {params : Arguments} {scope : Scope} {p1 p2 p3 lpos p kp pos : Pos} {e : Expr} {te : TE} (TB : TabB X.base X.mg c P) (hcode : X.env.code = .ref c) (hmT : (P, X.env.qual ++ "<lambda>") ∈ TT) (hu : ∀ q ∈ TT, q.1 = P → q.2 = X.env.qual ++ "<lambda>") (S : FnScope [y] [y] scope) (hr : RoomG 2 X.A)
    (hdef : defaultsOf params X.env = ([], [])) (hbind : ∀ (q : Str) (pm cv ctv : Value) (u : Value), bindArgs (PySem.W.kla_fn "<lambda>" q params (.Call (.Name "str" p1) [.Name y p2] [] p3) scope [] pm cv ctv) ⟨[u], []⟩ = pure [(y, u)])
    (hcl : cloFrom X.env.cells scope.names [] = []) (hy : scope.names.lookup y = some .local) (hstr : X.mg "str" = none) (hgl : scope.names.lookup ("str" : Str) = some .globalImplicit) (hd1 : (y == ("__debug__" : Str)) = false)
    (hg : Gl X "sorted") (hm : X.mg "sorted" = none) (ha : PE X e te)
    (hs : starEach [e] X.env = (false, eval e X.env) :: starEach [] X.env := by rfl) (he : backTo pos (starEach [e] X.env) = (false, eval e X.env) :: backTo pos (starEach [] X.env) := by rfl) (hpl : (backTo pos (starEach [e] X.env)).any (·.1) = false := by rfl) :
    PE X (.Call (.Name "sorted" p) [e] [⟨some "key", .Lambda params (.Call (.Name "str" p1) [.Name y p2] [] p3) scope lpos, kp⟩] pos) (tSortLam TT te) := by
  refine ⟨fun pins s σ H Q I h => ?_⟩
  refine wpAny_Call_Name_kw (ld_blt I hg hm (by decide +kernel : bootBuiltins "sorted" = some (.builtin "sorted")) ?_ (by decide) (by decide))
  refine PyProof.Rows.callWith_kw (thn ((pa_cons ha pa_nil hs).run pos pins s σ H (fun vs H1 => match vs with | [v] => rSortLam TT v H1 Q | _ => False) I h) fun us s1 ⟨vs, H1, I1, r1, q1⟩ => ?_) he hpl rfl rfl
  obtain ⟨v, rfl⟩ : ∃ v, vs = [v] := by
    match vs, q1 with
    | [v], _ => exact ⟨v, rfl⟩
  obtain ⟨u, rfl, ru⟩ := vals1 r1
  obtain ⟨hT, a, xs, rfl, ea, q⟩ := (show rSortLam TT v H1 Q from q1)
  obtain rfl : u = Value.ref a := ru
  show wpAny _ _ (evalAll [(do let v ← eval (.Lambda params (.Call (.Name "str" p1) [.Name y p2] [] p3) scope lpos) X.env; standAt pos; pure v)]) _ _ s1
  refine wpAny_evalAll_cons (wpAny_bind (lam_make2 I1 TB hcode hmT hu hT hdef (fun y hy e => absurd e (S.nofree y hy)) fun f c' pm1 ctv H2 s2 I2 eN T2 e1 e2 e3 e4 => wpAny_bind (wpAny_standAt (wpAny_pure (wpAny_evalAll_nil ?_)))))
  rw [hcl] at e1
  have ea2 : H2 a = some (.lst (xs.map V.str)) := eN _ _ ea (fun _ z => by cases z)
  obtain ⟨its, rv, hl, hz⟩ := I2.list (SqL.of ea2)
  rw [List.length_map] at hz
  show wpAny _ _ (call (.builtin "sorted") [.ref a] [(Str.ofString "key", .ref f)]) _ _ s2
  exact PySem.W.sorted_key_data (fun x : Str => PyData.str x) hl.isList (ea_strs rv.strs) (strs_alike xs) (strs_sortable xs) hz (fun x _ => by have := str_depth x; have := hr.u; omega) (PyProof.Rows.ksk_s1 _ _) (fun _ => PyProof.Rows.ksk_l1 _ _) (fun _ => PyProof.Rows.ksk_t1 _ _)
    (fun v x ⟨t, ev⟩ _ h tk kp => by subst ev; exact lam_str I2 S hr e1 e4 (hbind _ _ _ _) hy hstr hgl hd1 h tk kp) fun out c h' tk k _ e _ ea => sortK_out I2 hz (Nat.le_succ _) (fun p np => q H2 eN T2 p np) k e ea
open PySem PySem.Spec PyProof.Rows
open L2 hiding pass0
open PySem PySem.Spec PyProof.Rows LamX
open L2 hiding pass0
open PySem PySem.Spec PyProof.Rows LamX
open L2 hiding pass0
section
variable {P : Program} {w : World} {K : PySem.W.Frag} {mg : Str → Option Value} {base : Heap} {CX : CXT}
theorem nm_ofL {x : Str} {st : Stmt} {f : Addr} {cdv kV doc pm ct oc : Value} {an od : Option Addr} {osl : Array (Option Value)} {N ps : List Str} {k : Nat} {sp : Sp} (lk : K.lookup f = some ⟨oc, od, .func (PySem.W.fnOf x x (defArgs st) (defBody st) (defScope st) .none kV doc pm an cdv ct), osl⟩)
    (hcd : PySem.W.codeIn K cdv x = true) (hk : PySem.W.keepIn K (.ref f) = true) (hm : mg x = some (.ref f)) (S : FnScope N ps (defScope st)) (len : ∀ vs H Q E, sp vs H Q E → vs.length = ps.length)
    (hb : ∀ (A : Around) (outer : List Env) (s : Shared) (H : Hp) (vs : List V) (Q : VK) (E : XK), RoomG k (A.deeper (envOfC x (defScope st) s.heap.objs.size f cdv)) → sp vs H Q E →
      ∃ t, PSs (cxOf CX P w K mg base N x (defScope st) f cdv A outer s H E) (defBody st) t ∧ t { nx := fun _ H' => Q .non H', rt := Q } (start N vs) H) : Nm P w K mg base CX (k + 1) x st ps sp := by
  refine ⟨f, _, fun_mk (st := st) lk hcd hk, hm, len, ?_⟩
  intro A outer s H args us vs Q E hr e0 bt rv hs
  have hl := len _ _ _ _ hs
  have kin : K.In s.heap := e0.mod.kin.keeps fun b o e => (e0.bs b o e).1
  have lim : s.heap.NoLimit := e0.mod.nolimit.keeps fun b o e => (e0.bs b o e).1
  refine codeAny_call_function hr.r.depth (kin _ _ lk) rfl S.co S.gen rfl (PySem.W.codeRec_of kin hcd) (bt _ _ _ _ ?_)
  refine wpAny_newFunctionEnv_cells S.kind (fun ⟨n, v⟩ hy => (S.par n (List.of_mem_zip hy).1).elim .inl fun q => .inr ⟨q, PySem.W.cellsFrom_some _ _ _ (.inl q)⟩) fun env he s1 x1 => ?_
  subst he
  refine ⟨lim.keeps x1.toInCall.keep, codeAny_func ?_⟩
  obtain ⟨t, ht, hq⟩ := hb A outer s H vs Q E (hr.deeper _) hs
  have I : Inv (cxOf CX P w K mg base N x (defScope st) f cdv A outer s H E) [] (start N vs) H s1 := inv_start S hr.r.hd e0 hl rv x1
  refine wpAny_mono (ht.run [] s1 _ H _ I hq) (fun fl s2 z => ?_) fun e s2 z => z
  match fl, z with
  | .ret u, ⟨v, σ', H', J, r2, q⟩ => exact ⟨v, H', J.os, J.bare, J.base, J.hok, r2, q⟩
  | .next, ⟨σ', H', J, q⟩ => exact ⟨.non, H', J.os, J.bare, J.base, J.hok, rfl, q⟩
  | .brk, ⟨_, _, _, q⟩ => exact q.elim
  | .cont, ⟨_, _, _, q⟩ => exact q.elim
end
open PySem PySem.Spec PyProof.Rows L2
/-- an item of such a list -/
inductive Rf (H : Hp) : V → PyData → Prop
  | atom {v : V} {d : PyData} : vD v = some d → Rf H v d
  | dct {a : Addr} {kvs : List (Key × V)} {ds : List (PyData × PyData)} : H a = some (.dK kvs) → Flat kvs ds → Rf H (.ref a) (.dict ds)
section
variable {X : Cx} {pins : List (Addr × Obj)} {σ : L2.St} {H : Hp} {s : Shared}
theorem Rf.reads (I : Inv X pins σ H s) {x : V} {d : PyData} {u : Value} (h : Rf H x d) (r : RelV x u) : ∃ as, Reads s.heap u d as ∧ sysModules ∉ as := by
  cases h with
  | atom h => exact ⟨[], vD_reads h r, by simp⟩
  | dct h1 h2 =>
    obtain ⟨as, rd, hm⟩ := Rp.reads (X := X) I (Rp.dct h1 h2) r
    exact ⟨as, rd, hm (by simp [PyData.hasDict])⟩
end
/-- small data, dicts too -/
structure FitR (N D : Nat) (d : PyData) : Prop where
  sh : d.showable = true
  dp : d.depth ≤ D
  ls : d.leavesShort 13 = true
  bk : d.bulk ≤ N
theorem Fit.r {N D : Nat} {d : PyData} (h : Fit N D d) : FitR N D d := ⟨h.sh, h.dp, h.ls, h.bk⟩
theorem FitR.mono {N D N' D' : Nat} {d : PyData} (h : FitR N D d) (hN : N ≤ N') (hD : D ≤ D') : FitR N' D' d := ⟨h.sh, Nat.le_trans h.dp hD, h.ls, Nat.le_trans h.bk hN⟩
theorem FitR.dict {N D : Nat} {ds : List (PyData × PyData)} (h : ∀ p ∈ ds, Fit N D p.1 ∧ Fit N D p.2) : FitR ((2 * N + 2) * ds.length) (D + 1) (.dict ds) := by
  obtain ⟨k1, k2, k3, k4⟩ := fit_kv h
  exact ⟨by simpa only [PyData.showable] using k1, by simp only [PyData.depth]; omega, by simpa only [PyData.leavesShort] using k3, by simpa only [PyData.bulk] using k4⟩
theorem fitR_all {N D : Nat} : ∀ {ds : List PyData}, (∀ d ∈ ds, FitR N D d) → PyData.showableAll ds = true ∧ PyData.depthAll ds ≤ D ∧ PyData.leavesShortAll 13 ds = true ∧ PyData.bulkAll ds ≤ (N + 1) * ds.length
  | [], _ => ⟨by simp only [PyData.showableAll], by simp only [PyData.depthAll]; omega, by simp only [PyData.leavesShortAll], by simp only [PyData.bulkAll]; omega⟩
  | d :: ds, h => by
    have h1 := h d (List.mem_cons_self ..)
    obtain ⟨a2, a3, a4, a5⟩ := fitR_all (ds := ds) fun x hx => h x (List.mem_cons_of_mem _ hx)
    have b3 := h1.dp
    have b5 := h1.bk
    refine ⟨?_, ?_, ?_, ?_⟩
    · simp only [PyData.showableAll, h1.sh, a2, Bool.and_self]
    · simp only [PyData.depthAll]; omega
    · simp only [PyData.leavesShortAll, h1.ls, a4, Bool.and_self]
    · simp only [PyData.bulkAll, List.length_cons]
      rw [Nat.mul_add]
      omega
theorem FitR.list {N D : Nat} {ds : List PyData} (h : ∀ d ∈ ds, FitR N D d) : FitR ((N + 1) * ds.length) (D + 1) (.list ds) := by
  obtain ⟨a2, a3, a4, a5⟩ := fitR_all h
  exact ⟨by simpa only [PyData.showable] using a2, by simp only [PyData.depth]; omega, by simpa only [PyData.leavesShort] using a4, by simpa only [PyData.bulk] using a5⟩
theorem FitR.ok {d : PyData} {N D : Nat} (h : FitR N D d) (hN : N ≤ 1048576) (hD : D ≤ 50) : PyData.showable d = true ∧ PyData.depth d ≤ 50 ∧ d.shown.length ≤ sizeLine :=
  ⟨h.sh, Nat.le_trans h.dp hD, PyData.shown_fits_bulk (by decide) (by decide) h.ls (Nat.le_trans h.bk (Nat.le_trans hN (by decide)))⟩
open PySem PySem.Spec PyProof.Rows L2 LamX
theorem law_gT {P : Program} {w : World} {K : PySem.W.Frag} {mg mb : Str → Option Value} {CX : CXT} {k : Nat} {a fa : Addr} {cs : List (Addr × Addr)} {fd : FuncData} {x : Str} {sp : Sp} {s₁ : Shared} {vs : List Value} {ns : List Int}
    (KX : K.In s₁.heap) (hG : s₁.heap.Ns mainGlobals mg) (hB : s₁.heap.Ns builtinsNs mb) (hBB : ∀ x : Str, x ≠ "__name__" → mb x = bootBuiltins x) (hL : s₁.heap.NoLimit) (hgen : s₁.gens = #[])
    (hbm : ∃ (bm : Addr) (ob : Obj), mg "__builtins__" = some (.ref bm) ∧ bm ≠ builtinsNs ∧ s₁.heap.get? bm = some ob ∧ ob.cls = .type "module" ∧ ob.dict = some builtinsNs ∧ ob.data = .plain)
    (hT : ∀ p ∈ cs, s₁.heap.get? p.2 = some (PySem.W.tabObj #[])) (nT : ∀ p ∈ cs, K.lookup p.2 = none) (hC : ∀ p ∈ cs, PySem.W.CodeHd s₁.heap p.1 p.2)
    (ha : s₁.heap.get? a = some { cls := .type "list", data := .seq vs.toArray }) (hi : IntsAre vs ns) (hl : ns.length ≤ sizeLine) (hr : RoomG k callerA)
    (F : ∀ base : Heap, K.In base → base.Ns mainGlobals mg → (∀ p ∈ cs, TabB base mg p.1 p.2) → FnG P w K mg base CX k fa fd [x] sp) (hbind : ∀ (s : Shared) (u : Value), BindsTo s fd ⟨[u], []⟩ [(x, u)])
    (hsp : ∀ H : Hp, SqL K H a (ns.map V.int) → (∀ p ∈ cs, H p.2 = some (.tbl #[])) → sp [.ref a] H (fun v _ => v = .bl true) fun _ _ _ => False)
    (hCX : ∀ H e s', CX [] H s₁ (fun _ _ _ => False) e s' → False) :
    codeAny (model P w) callerA (.call (.ref fa) ⟨[.ref a], []⟩) (fun r s' => r = .ok (.ret (.bool true)) ∧ OldK s₁.heap s'.heap ∧ s'.os = s₁.os ∧ AllBare s'.gens) s₁ := by
  let so : Obj := { cls := .type "list", data := .seq vs.toArray }
  have inT : ∀ b, (∃ p ∈ cs, p.2 = b) → s₁.heap.get? b = some (PySem.W.tabObj #[]) := fun b ⟨p, hp, e⟩ => e ▸ hT p hp
  have aT : ¬ ∃ p ∈ cs, p.2 = a := fun z => by
    have q := ha.symm.trans (inT a z)
    injection q with q
    injection q with _ _ q
    cases q
  have main : ∀ H : Hp, (∀ b, H b = none ∨ (b = a ∧ K.lookup a = none ∧ H b = some (.frz so (.lst (ns.map V.int)))) ∨ ((∃ p ∈ cs, p.2 = b) ∧ H b = some (.tbl #[]))) → (∀ p ∈ cs, H p.2 = some (.tbl #[])) → SqL K H a (ns.map V.int) → HOk P w H s₁.heap →
      codeAny (model P w) callerA (.call (.ref fa) ⟨[.ref a], []⟩) (fun r s' => r = .ok (.ret (.bool true)) ∧ OldK s₁.heap s'.heap ∧ s'.os = s₁.os ∧ AllBare s'.gens) s₁ := by
    intro H only hTb hS hok
    have isNone : ∀ {b : Addr} {o : Obj}, s₁.heap.get? b = some o → (b = a → K.lookup a = none → o = so → False) → ((∃ p ∈ cs, p.2 = b) → o = PySem.W.tabObj #[] → False) → H b = none := fun {b o} e n m => by
      rcases only b with q | ⟨q1, q2, q3⟩ | ⟨q1, q2⟩
      · exact q
      · refine (n q1 q2 ?_).elim
        subst q1
        exact Option.some.inj (e.symm.trans ha)
      · exact (m q1 (Option.some.inj (e.symm.trans (inT b q1)))).elim
    have at' : ∀ {b : Addr} {o : Obj}, s₁.heap.get? b = some o → o ≠ so → o ≠ PySem.W.tabObj #[] → (hidT s₁.heap H).get? b = some o := fun {b o} e n m => hidT_get e (isNone e (fun _ _ z => n z) fun _ z => m z)
    have nsOf : ∀ {b : Addr} {m : Str → Option Value}, s₁.heap.Ns b m → (hidT s₁.heap H).Ns b m := fun {b m} ⟨o, es, ep, e, d, r⟩ =>
      ⟨o, es, ep, at' e (fun z => by subst z; cases d) (fun z => by subst z; cases d), d, r⟩
    have hK : K.In (hidT s₁.heap H) := fun b o e => hidT_get (KX b o e) (isNone (KX b o e) (fun y z _ => by subst y; rw [z] at e; cases e) fun ⟨p, hp, y⟩ _ => by subst y; rw [nT p hp] at e; cases e)
    have hM : Mod K mg (hidT s₁.heap H) := ⟨hK, nsOf hG, ⟨mb, nsOf hB, hBB⟩, hL.elim fun mc z => ⟨mc, nsOf z.1, z.2⟩⟩
    have TB : ∀ p ∈ cs, TabB (hidT s₁.heap H) mg p.1 p.2 := fun p hp => by
      refine ⟨?_, ?_, fun z => ?_⟩
      · obtain ⟨o, us, file, tf, fl, tg, inF, text, tt, e1, e2, e3, e4⟩ := hC p hp
        exact ⟨o, us, file, tf, fl, tg, inF, text, tt, at' e1 (fun z => by subst z; injection e2 with e2; exact absurd e2 (by decide)) (fun z => by subst z; cases e2), e2, e3, e4⟩
      · obtain ⟨bm, ob, b1, b2, b3, b4, b5, b6⟩ := hbm
        refine ⟨bm, ob, b1, b2, fun q => ?_, fun q => ?_, at' b3 (fun z => by subst z; injection b4 with b4; exact absurd b4 (by decide)) (fun z => by subst z; cases b4), b4, b5, b6⟩
        · obtain ⟨o, es, ep, e, d, _⟩ := hG
          rw [q, e] at b3
          cases b3
          rw [d] at b6
          cases b6
        · have z := b3.symm.trans (q ▸ hT p hp)
          cases z
          cases b4
      · obtain ⟨o, es, ep, e, d, _⟩ := hG
        have y := e.symm.trans (z ▸ hT p hp)
        cases y
        cases d
    have nofr : ∀ b : Addr, b ∉ frs ([] : List Env) := fun b z => by cases z
    have e0 : Env0 P w K mg (hidT s₁.heap H) callerA [] s₁ H := ⟨rfl, hM, fun b o e => of_hidT e, by rw [hidT_size] <;> exact Nat.le_refl _, trivial, fun b z => (nofr b z).elim, hok, .of_eq hgen⟩
    refine codeAny_mono ((F _ hK (nsOf hG) TB).run callerA [] s₁ H ⟨[.ref a], []⟩ [.ref a] [.ref a] _ _ hr e0 (hbind s₁ (.ref a)) (.cons rfl .nil) (hsp H hS hTb)) fun r s' z => ?_
    match r, z with
    | .error e, z => exact (hCX H e s' z).elim
    | .ok .next, z => exact z.elim
    | .ok .brk, z => exact z.elim
    | .ok .cont, z => exact z.elim
    | .ok (.ret u), ⟨v, H', os, bare, un, hok', rv, q⟩ =>
      obtain rfl : v = .bl true := q
      obtain rfl : u = Value.bool true := rv
      have grown : ∀ b, (∃ p ∈ cs, p.2 = b) → ∃ more : Array Value, s'.heap.get? b = some (PySem.W.tabObj more) := fun b ⟨p, hp, e⟩ => by
        subst e
        obtain ⟨more, y⟩ := un.tbls p.2 #[] (hTb p hp)
        exact ⟨_, hok' p.2 _ y⟩
      have kept : ∀ b o, s₁.heap.get? b = some o → (¬ ∃ p ∈ cs, p.2 = b) → s'.heap.get? b = some o := fun b o e n => by
        rcases only b with y | ⟨_, _, y⟩ | ⟨y, _⟩
        · exact un.keep b o e y (nofr b) (by intro c; cases c)
        · obtain ⟨e1, _⟩ := hok b _ y
          obtain ⟨e2, _⟩ := hok' b _ (un.frzs b _ _ y)
          exact e2.trans (e1.symm.trans e)
        · exact (n y).elim
      refine ⟨rfl, ⟨fun b o e => ?_, fun b o e => ?_⟩, os, bare⟩
      · rcases Classical.em (∃ p ∈ cs, p.2 = b) with y | y
        · obtain ⟨more, hm⟩ := grown b y
          have eo : o = PySem.W.tabObj #[] := Option.some.inj (e.symm.trans (inT b y))
          subst eo
          obtain ⟨p, hp, rfl⟩ := y
          exact .inr (.inl ⟨((hC p hp).tab (hT p hp)).isCodeTable, rfl, #[], more, rfl, by rw [Array.empty_append]; exact hm⟩)
        · exact .inl (kept b o e y)
      · rcases Classical.em (∃ p ∈ cs, p.2 = b) with y | y
        · obtain ⟨more, hm⟩ := grown b y
          exact ⟨_, hm⟩
        · exact ⟨o, kept b o e y⟩
  have dT : ∀ b : Addr, Decidable (∃ p ∈ cs, p.2 = b) := fun b => Classical.propDecidable _
  cases hk : K.lookup a with
  | some o =>
    have e : o = so := Option.some.inj ((KX a o hk).symm.trans ha)
    subst e
    refine main (fun b => if ∃ p ∈ cs, p.2 = b then some (.tbl #[]) else none) (fun b => ?_) (fun p hp => if_pos ⟨p, hp, rfl⟩) (.inr ⟨so, vs.toArray, _, hk, rfl, rfl, rfl, by rw [List.size_toArray, hi.length]; exact hl, by simpa using vals_ints hi⟩) fun b u z => ?_
    · by_cases y : ∃ p ∈ cs, p.2 = b
      · exact .inr (.inr ⟨y, if_pos y⟩)
      · exact .inl (if_neg y)
    · by_cases y : ∃ p ∈ cs, p.2 = b
      · obtain rfl : HO.tbl #[] = u := Option.some.inj ((if_pos y).symm.trans z)
        exact inT b y
      · have z' := (if_neg y).symm.trans z
        cases z'
  | none =>
    have at_a : (fun b : Addr => if b = a then some (HO.frz so (.lst (ns.map V.int))) else if ∃ p ∈ cs, p.2 = b then some (HO.tbl #[]) else none) a = some (HO.frz so (.lst (ns.map V.int))) := if_pos rfl
    refine main (fun b => if b = a then some (.frz so (.lst (ns.map V.int))) else if ∃ p ∈ cs, p.2 = b then some (.tbl #[]) else none) (fun b => ?_) (fun p hp => (if_neg fun z => aT ⟨p, hp, z⟩).trans (if_pos ⟨p, hp, rfl⟩)) (.inl (.inr ⟨so, at_a⟩)) fun b u z => ?_
    · by_cases y : b = a
      · exact .inr (.inl ⟨y, hk, if_pos y⟩)
      · by_cases y2 : ∃ p ∈ cs, p.2 = b
        · exact .inr (.inr ⟨y2, (if_neg y).trans (if_pos y2)⟩)
        · exact .inl ((if_neg y).trans (if_neg y2))
    · by_cases y : b = a
      · subst y
        obtain rfl : HO.frz so (.lst (ns.map V.int)) = u := Option.some.inj (at_a.symm.trans z)
        exact ⟨ha, by rw [List.length_map] <;> exact hl, vs, _, vals_ints hi, ha⟩
      · by_cases y2 : ∃ p ∈ cs, p.2 = b
        · obtain rfl : HO.tbl #[] = u := Option.some.inj (((if_neg y).trans (if_pos y2)).symm.trans z)
          exact inT b y2
        · have z' : (none : Option HO) = some u := ((if_neg y).trans (if_neg y2)).symm.trans z
          cases z'
theorem walk_gT {l : PySem.W.OpenLaw} {n k : Nat} {q : Program} {loose : List Str} {XP : (Str → Option Value) → Heap → Prop} {YP : World → Heap → Prop} {d : DefRec} {K : Params → PySem.W.Frag} {CX : World → CXT} {x : Str} {cs : List (Addr × Addr)}
    (hn : l.most = some n) (hn2 : n ≤ sizeLine) (hdf : d.params.defaults = []) (hr : RoomG k callerA) (hY : ∀ (w : World) (h : Heap), YP w h → (K w.params).In h)
    (hT : ∀ (w : World) (h : Heap), YP w h → ∀ p ∈ cs, h.get? p.2 = some (PySem.W.tabObj #[])) (nT : ∀ (w : World), ∀ p ∈ cs, (K w.params).lookup p.2 = none) (hC : ∀ (w : World), ∀ p ∈ cs, PySem.W.codeHdIn (K w.params) p.1 p.2 = true)
    (F : ∀ (w : World) (mg : Str → Option Value) (fa : Addr) (h : Heap), (K w.params).In h → h.Ns mainGlobals mg → mg d.name = some (.ref fa) →
      ∃ (fd : FuncData) (sp : Sp), (∀ (s : Shared) (u : Value), BindsTo s fd ⟨[u], []⟩ [(x, u)]) ∧
        (∀ (H : Hp) (a : Addr) (ns : List Int), ns.length ≤ n → SqL (K w.params) H a (ns.map V.int) → (∀ p ∈ cs, H p.2 = some (.tbl #[])) → sp [.ref a] H (fun v _ => v = .bl true) fun _ _ _ => False) ∧
        ∀ base : Heap, (K w.params).In base → base.Ns mainGlobals mg → (∀ p ∈ cs, TabB base mg p.1 p.2) → FnG l.prog w (K w.params) mg base (CX w) k fa fd [x] sp)
    (hCX : ∀ (w : World) (H : Hp) (s : Shared) (e : Value) (s' : Shared), CX w [] H s (fun _ _ _ => False) e s' → False) : PySem.W.WalkO q loose XP YP l.row.toRowW d [] (fun f vs => PySem.call f vs) := by
  refine Att.attach_call hn hdf fun w s₀ s₁ mg mb fa o pm cd doc a vs ns G Y ho hd hcd hmg hobj hints hlen hg => ?_
  obtain ⟨fd, sp, hb, hs, hF⟩ := F w mg fa _ (hY w _ Y) G.T.g hmg
  exact law_gT (cs := cs) (hY w _ Y) G.T.g G.T.b G.T.builtins G.T.nolimit hg G.T.bmain (hT w _ Y) (nT w) (fun p hp => PySem.W.codeHd_of_K (hY w _ Y) (hC w p hp)) hobj hints (Nat.le_trans hlen hn2) hr hF hb (fun H hS hH => hs H a ns hlen hS hH) fun H e s' => hCX w H s₁ e s'
open PySem PySem.Spec PyProof.Rows
open L2 hiding pass0
open L2 (cxOf)
def top (i : Nat) : Stmt := PySem.Challenge.pw_coverways_k35_whole_packs_told.main.body.getD i (.Pass ⟨0, 0, 0, 0⟩)
abbrev s_law_pot : Stmt := top 65
theorem sc_law_pot : FnScope ["_law_script", "_law_k", "_law_start"] ["_law_script", "_law_k"] (defScope s_law_pot) := ⟨rfl, rfl, rfl, by decide +kernel, rfl, by decide +kernel, by decide +kernel⟩
theorem bp_law_pot : BndP "_law_pot" s_law_pot ["_law_script", "_law_k"] := fun _ _ _ _ _ _ us h => match us, h with | [_, _], _ => rfl
abbrev s_law_draw : Stmt := top 66
theorem sc_law_draw : FnScope ["_law_pot_here", "_law_many", "_law_digit"] ["_law_pot_here", "_law_many"] (defScope s_law_draw) := ⟨rfl, rfl, rfl, by decide +kernel, rfl, by decide +kernel, by decide +kernel⟩
theorem bp_law_draw : BndP "_law_draw" s_law_draw ["_law_pot_here", "_law_many"] := fun _ _ _ _ _ _ us h => match us, h with | [_, _], _ => rfl
abbrev s_law_pick : Stmt := top 67
theorem sc_law_pick : FnScope ["_law_pot_here", "_law_some"] ["_law_pot_here", "_law_some"] (defScope s_law_pick) := ⟨rfl, rfl, rfl, by decide +kernel, rfl, by decide +kernel, by decide +kernel⟩
theorem bp_law_pick : BndP "_law_pick" s_law_pick ["_law_pot_here", "_law_some"] := fun _ _ _ _ _ _ us h => match us, h with | [_, _], _ => rfl
/-- what the top leaves of the built-in names -/
structure Txt (K : PySem.W.Frag) (mg : Str → Option Value) : Prop where
  b_len : mg "len" = none
  b_abs : mg "abs" = none
  b_max : mg "max" = none
  b_min : mg "min" = none
  b_int : mg "int" = none
  b_divmod : mg "divmod" = none
  b_range : mg "range" = none
  b_repr : mg "repr" = none
  b_all : mg "all" = none
  b_str : mg "str" = none
  b_bool : mg "bool" = none
  b_isinstance : mg "isinstance" = none
  b_tuple : mg "tuple" = none
  b_dict : mg "dict" = none
  b_list : mg "list" = none
  b_sorted : mg "sorted" = none
  b_zip : mg "zip" = none
  b_enumerate : mg "enumerate" = none
  b_sum : mg "sum" = none
  b_any : mg "any" = none
  b_reversed : mg "reversed" = none
def PotAt (H : Hp) (p : Addr) : Prop := ∃ a b : Int, H p = some (.lst [.int a, .int b]) ∧ 0 ≤ a ∧ 0 ≤ b ∧ b < 2147483648
/-- all that stood stands, but for the pot at p -/
structure Go (p : Addr) (H H' : Hp) : Prop where
  pot : PotAt H' p
  keep : ∀ a o, H a = some o → a ≠ p → H' a = some o
theorem Go.trans {p : Addr} {H H1 H2 : Hp} (a : Go p H H1) (b : Go p H1 H2) : Go p H H2 := ⟨b.pot, fun c o h n => b.keep c o (a.keep c o h n) n⟩
theorem Go.refl {p : Addr} {H : Hp} (h : PotAt H p) : Go p H H := ⟨h, fun _ _ e _ => e⟩
theorem Go.new {p q : Addr} {H H1 : Hp} {o : HO} (g : Go p H H1) (h : H1 q = none) : Go p H (upd H1 q o) := by
  obtain ⟨a, b, e, r⟩ := g.pot
  refine ⟨⟨a, b, by rw [upd_ne (ne_of_none e h)]; exact e, r⟩, fun c u hc n => ?_⟩
  have := g.keep c u hc n
  rw [upd_ne (ne_of_none this h)]
  exact this
theorem Go.lst {K : PySem.W.Frag} {p a : Addr} {H H' : Hp} {xs : List V} (g : Go p H H') (n : a ≠ p) (h : SqL K H a xs) : SqL K H' a xs := by
  rcases h with (h | ⟨o, h⟩) | h
  · exact .inl (.inl (g.keep _ _ h n))
  · exact .inl (.inr ⟨o, g.keep _ _ h n⟩)
  · exact .inr h
theorem Go.fresh {p q : Addr} {H H' : Hp} (g : Go p H H') (hp : PotAt H p) (h : H' q = none) : H q = none := by
  cases e : H q with
  | none => rfl
  | some o =>
    by_cases n : q = p
    · subst n
      obtain ⟨a, b, e2, _⟩ := g.pot
      rw [h] at e2
      cases e2
    · have := g.keep q o e n
      rw [h] at this
      cases this
theorem szl {n : Nat} (h : n ≤ 1000000) : n ≤ sizeLine := Nat.le_trans h (by decide)
theorem szt {n : Nat} (h : n < 1000000) : n < sizeLine := Nat.lt_of_lt_of_le h (by decide)
theorem nonn {H : Hp} {a b : Addr} {o : HO} (h' : H b = none) (h : H a = some o) : a ≠ b := ne_of_none h h'
theorem Go.kp {p a : Addr} {H H' : Hp} {o : HO} (g : Go p H H') (h : H a = some o) (n : a ≠ p) : H' a = some o := g.keep a o h n
theorem updn {H : Hp} {a b : Addr} {o u : HO} (n : b ≠ a) (h : H b = some u) : upd H a o b = some u := (upd_ne n).trans h
local macro_rules | `(tactic| walk_at "hp") => `(tactic| first | assumption | exact upd_same | exact updn (by walk_at "ne") (by walk_at "hp") | exact Go.kp (by assumption) (by walk_at "hp") (by walk_at "ne"))
local macro_rules | `(tactic| walk_at "ne") => `(tactic| first | assumption | exact Ne.symm (by assumption) | exact nonn (by assumption) (by walk_at "hp") | exact Ne.symm (nonn (by assumption) (by walk_at "hp")))
local macro_rules | `(tactic| walk_at "sq") => `(tactic| first | assumption | exact SqL.of (by walk_at "hp") | exact SqT.of (by walk_at "hp") | exact Go.lst (by assumption) (by walk_at "ne") (by walk_at "sq"))
local macro_rules | `(tactic| walk_at "sz") => `(tactic| first | assumption | exact szl (Nat.le_of_ble_eq_true rfl) | (apply szl; first | omega | (simp; omega)) | (apply szt; first | omega | (simp; omega)))
local macro_rules | `(tactic| walk_at "len") => `(tactic| first | exact Or.inl ⟨_, (by walk_at "sq"), rfl⟩ | exact ⟨(by walk_at "sz"), rfl⟩ | exact Or.inr ⟨_, (by walk_at "sq"), rfl⟩)
local macro_rules | `(tactic| walk_at "ar") => `(tactic| first | assumption | omega | decide | exact upd_same | rfl | walk_at "sz" | (simp only [CDiv, CMul, CPow]; first | omega | decide) | (refine ⟨?_, ?_⟩ <;> first | omega | decide))
local macro_rules | `(tactic| walk_at "at") => `(tactic| first | rfl | assumption | decide)
local macro_rules | `(tactic| walk_at "s1") => `(tactic| first
  | (refine ⟨_, rfl, ?_⟩)
  | (refine ⟨_, _, rfl, rfl, ?_⟩)
  | (refine Or.inl ⟨_, _, _, _, rfl, rfl, by walk_at "sq", by walk_at "at", ?_⟩)
  | (refine Or.inr (Or.inl ⟨_, _, _, _, rfl, rfl, by walk_at "sq", by walk_at "at", ?_⟩))
  | (refine Or.inl ⟨_, rfl, ?_⟩)
  | (refine And.intro (by walk_at "ar") ?_)
  | (refine ⟨_, _, rfl, ?_⟩)
  | (refine ⟨_, _, rfl, (by walk_at "sq"), rfl, ?_⟩)
  | (refine ⟨_, _, rfl, (by walk_at "len"), ?_⟩)
  | (refine ⟨_, _, _, _, rfl, rfl, (by walk_at "hp"), rfl, ?_⟩)
  | (refine fun q (hq : _ = none) => ?_)
  | (intro _; intros))
local macro_rules | `(tactic| walk_at "go") => `(tactic| first | assumption | exact Go.refl (by assumption) | exact Go.new (by walk_at "go") (by assumption) | exact Go.trans (by walk_at "go") (by assumption))
local macro_rules | `(tactic| walk_at "pot") => `(tactic| first | assumption | exact Go.pot (by assumption) | exact Go.pot (by walk_at "go"))
theorem atI_ok {α : Type} {xs : List α} {d : Int} (h0 : 0 ≤ d) (h1 : d < (xs.length : Int)) : ∃ v, v ∈ xs ∧ atI xs d = some v := by
  obtain ⟨j, rfl⟩ := Int.eq_ofNat_of_zero_le h0
  have hj : j < xs.length := by omega
  exact ⟨xs[j], List.getElem_mem hj, atI_nat (by simp [hj])⟩
theorem potb (x M : Int) (h0 : 0 < M) (h1 : M < 2147483648) : 0 ≤ x % M + 1 ∧ x % M + 1 < 2147483648 := by
  have := Int.emod_nonneg x (show M ≠ 0 by omega)
  have := Int.emod_lt_of_pos x h0
  omega
theorem emodb (x M : Int) (h0 : 0 < M) (h1 : M ≤ 2147483648) : x % M < 2147483648 := by
  have := Int.emod_lt_of_pos x h0
  omega
theorem max0 {x : Int} : 0 ≤ (if x > 0 then x else 0) := by split <;> omega
theorem Go.mut {p D : Addr} {H H1 : Hp} {o : HO} (g : Go p H H1) (n : H D = none) (np : D ≠ p) : Go p H (upd H1 D o) := by
  obtain ⟨a, b, e, r⟩ := g.pot
  exact ⟨⟨a, b, by rw [upd_ne (Ne.symm np)]; exact e, r⟩, fun c u hc nc => by rw [upd_ne (ne_of_none hc n)]; exact g.keep c u hc nc⟩
theorem PotAt.ne {p q : Addr} {H : Hp} (h : PotAt H p) (n : H q = none) : q ≠ p := by
  obtain ⟨a, b, e, _⟩ := h
  exact (ne_of_none e n).symm
/-- a def that raises nothing -/
theorem nm_of0 {P : Program} {w : World} {K : PySem.W.Frag} {mg : Str → Option Value} {base : Heap} {CX : CXT} {x : Str} {st : Stmt} {f : Addr} {fd : FuncData} {N ps : List Str} {k : Nat} {sp : Sp} (F : Fun K x x st f fd) (hm : mg x = some (.ref f)) (S : FnScope N ps (defScope st)) (len : ∀ vs H Q E, sp vs H Q E → vs.length = ps.length)
    (hb : ∀ (cdv : Value) (A : Around) (outer : List Env) (s : Shared) (H : Hp) (vs : List V) (Q : VK) (E : XK), RoomG k (A.deeper (envOfC x (defScope st) s.heap.objs.size f cdv)) → sp vs H Q E →
      ∃ t, PSs (cxOf CX P w K mg base N x (defScope st) f cdv A outer s H E).nox (defBody st) t ∧ t { nx := fun _ H' => Q .non H', rt := Q } (start N vs) H) : Nm P w K mg base CX (k + 1) x st ps sp :=
  nm_of F hm S len fun cdv A outer s H vs Q E hr h => let ⟨t, h1, h2⟩ := hb cdv A outer s H vs Q E hr h; ⟨t, h1.nox, h2⟩
theorem Go.put {p : Addr} {H H1 : Hp} {a b : Int} (g : Go p H H1) (ha : 0 ≤ a) (hb : 0 ≤ b) (hb2 : b < 2147483648) : Go p H (upd H1 p (.lst [.int a, .int b])) :=
  ⟨⟨a, b, upd_same, ha, hb, hb2⟩, fun c o e n => by rw [upd_ne n]; exact g.keep c o e n⟩
theorem Go.any {p : Addr} {H : Hp} (q : Addr) (o : HO) (h : PotAt H p) (n : H q = none) : Go p H (upd H q o) := (Go.refl h).new n
@[irreducible] def spPot (K : PySem.W.Frag) : Sp := fun vs H Q _ => ∃ (a : Addr) (ns : List Int) (k : Int), vs = [.ref a, .int k] ∧ SqL K H a (ns.map V.int) ∧ ns.length ≤ 63 ∧ 0 ≤ k ∧ k ≤ 100 ∧
  ∀ p H', H p = none → PotAt H' p → (∀ b o, H b = some o → H' b = some o) → Q (.ref p) H'
@[irreducible] def spDraw : Sp := fun vs H Q _ => ∃ (p : Addr) (n : Int), vs = [.ref p, .int n] ∧ PotAt H p ∧ 0 < n ∧ n < 1073741824 ∧ ∀ (d : Int) H', 0 ≤ d → d < n → Go p H H' → Q (.int d) H'
@[irreducible] def spAmong (K : PySem.W.Frag) : Sp := fun vs H Q _ => ∃ (p : Addr) (x : V), vs = [.ref p, x] ∧ PotAt H p ∧
  ((∃ (a : Addr) (xs : List V), x = .ref a ∧ a ≠ p ∧ SqL K H a xs ∧ 0 < xs.length ∧ xs.length ≤ 1000 ∧ ∀ v ∈ xs, ∀ H', Go p H H' → Q v H') ∨
   (∃ z : Str, x = .str z ∧ 0 < z.length ∧ z.length ≤ 1000 ∧ ∀ c ∈ z.cps.toList, ∀ H', Go p H H' → Q (.str ⟨#[c]⟩) H'))
def Bits (z : Str) : Prop := ∀ c ∈ z.cps.toList, c = 48 ∨ c = 49
section
variable {K : PySem.W.Frag} {p a : Addr} {n lo hi k : Int} {H : Hp} {Q : VK} {E : XK} {xs : List V} {z : Str} {ns : List Int}
theorem pot_go (hS : SqL K H a (ns.map V.int)) (hl : ns.length ≤ 63) (h0 : 0 ≤ k) (h1 : k ≤ 100) (q : ∀ p H', H p = none → PotAt H' p → (∀ b o, H b = some o → H' b = some o) → Q (.ref p) H') : spPot K [.ref a, .int k] H Q E := by
  unfold spPot
  exact ⟨a, ns, k, rfl, hS, hl, h0, h1, q⟩
theorem draw_go (hp : PotAt H p) (h0 : 0 < n) (h1 : n < 1073741824) (q : ∀ (d : Int) H', 0 ≤ d → d < n → Go p H H' → Q (.int d) H') : spDraw [.ref p, .int n] H Q E := by
  unfold spDraw
  exact ⟨p, n, rfl, hp, h0, h1, q⟩
theorem among_l (hp : PotAt H p) (na : a ≠ p) (hS : SqL K H a xs) (h0 : 0 < xs.length) (h1 : xs.length ≤ 1000) (q : ∀ v ∈ xs, ∀ H', Go p H H' → Q v H') : spAmong K [.ref p, .ref a] H Q E := by
  unfold spAmong
  exact ⟨p, _, rfl, hp, .inl ⟨a, xs, rfl, na, hS, h0, h1, q⟩⟩
end
section
variable {P : Program} {w : World} {K : PySem.W.Frag} {mg : Str → Option Value} {base : Heap} {f : Addr} {fd : FuncData}
theorem ok_draw (F : Fun K "_law_draw" "_law_draw" s_law_draw f fd) (hm : mg "_law_draw" = some (.ref f)) (T : Txt K mg) : Nm P w K mg base CX0 1 "_law_draw" s_law_draw ["_law_pot_here", "_law_many"] spDraw := by
  refine nm_of F hm sc_law_draw (fun vs H Q E h => ?_) fun cdv A outer s H vs Q E hr h => ?_
  · unfold spDraw at h
    obtain ⟨p, n, rfl, _⟩ := h
    rfl
  · unfold spDraw at h
    obtain ⟨p, n, rfl, ⟨a, b, hp, ha, hb, hb2⟩, hn, hn2, k⟩ := h
    refine ⟨_, (pss_cons (ps_if (pt_cmpR op_gt (pe_ix (ix_seqK (K := K) rfl) (pv 0) pe_int (fun _ _ => rfl)) pe_int (nomark _)) (pss_cons (ps_asg (pe_callB call_divmod (by rfl) T.b_divmod (by decide +kernel) (pa_cons (pe_ix (ix_seqK (K := K) rfl) (pv 0) pe_int (fun _ _ => rfl)) (pa_cons (pv 1) pa_nil))) (pg_tup (by rfl) (pgs_cons (pg_sub (pv 0) pe_int set_list) (pgs_cons (pg_name (i := 2) sc_law_draw.nd rfl (by first | exact Or.inl rfl | exact Or.inr rfl)) pgs_nil))))
      (pss_one (ps_ret (pv 2)))) pss_nil)
      (pss_cons (ps_asg (pe_op op_mod (pe_callTy call_int1 (by rfl) T.b_int (by decide +kernel) (pa_cons (pe_op op_add (pe_op op_mul (pe_ix (ix_seqK (K := K) rfl) (pv 0) pe_int (fun _ _ => rfl)) pe_int) pe_int) pa_nil)) pe_int) (pg_sub (pv 0) pe_int set_list))
      (pss_one (ps_ret (pe_op op_mod (pe_callTy call_int1 (by rfl) T.b_int (by decide +kernel) (pa_cons (pe_op op_fdiv (pe_op op_mod (pe_callTy call_int1 (by rfl) T.b_int (by decide +kernel) (pa_cons (pe_op op_mul (pe_ix (ix_seqK (K := K) rfl) (pv 0) pe_int (fun _ _ => rfl)) (pe_ix (ix_seqK (K := K) rfl) (pv 0) pe_int (fun _ _ => rfl))) pa_nil)) pe_int) pe_int) pa_nil)) (pv 1)))))), ?_⟩
    have g0 : PotAt H p := ⟨a, b, hp, ha, hb, hb2⟩
    repeat walk_at "s1"
    refine ite2 (fun c => ?_) fun c => ?_
    · have c' : 0 < a := of_decide_eq_true c
      repeat walk_at "s1"
      rename_i q hq
      exact k _ _ (Int.emod_nonneg _ (by omega)) (Int.emod_lt_of_pos _ hn) (((Go.refl g0).new hq).put (Int.ediv_nonneg ha (by omega)) hb hb2)
    · repeat walk_at "s1"
      exact k _ _ (Int.emod_nonneg _ (by omega)) (Int.emod_lt_of_pos _ hn) ((Go.refl g0).put ha (Int.emod_nonneg _ (by decide)) (emodb _ _ (by decide) (by decide)))
theorem ok_pot (F : Fun K "_law_pot" "_law_pot" s_law_pot f fd) (hm : mg "_law_pot" = some (.ref f)) (T : Txt K mg) : Nm P w K mg base CX0 1 "_law_pot" s_law_pot ["_law_script", "_law_k"] (spPot K) := by
  refine nm_of F hm sc_law_pot (fun vs H Q E h => ?_) fun cdv A outer s H vs Q E hr h => ?_
  · unfold spPot at h
    obtain ⟨a, ns, k, rfl, _⟩ := h
    rfl
  · unfold spPot at h
    obtain ⟨a, ns, k, rfl, hS, hl, hk, hk2, kk⟩ := h
    refine ⟨_, (pss_cons (ps_set (i := 2) sc_law_pot.nd rfl (by first | exact Or.inl rfl | exact Or.inr rfl) (pe_op op_add (pe_op op_mul pe_int (pv 1)) pe_int))
      (pss_cons (ps_if (pt_cmpR op_lt (pv 1) (pe_callB (call_lenK (K := K) rfl) (by rfl) T.b_len PySem.boot_len (pa_cons (pv 0) pa_nil)) (nomark _)) (pss_one (ps_set (i := 2) sc_law_pot.nd rfl (by first | exact Or.inl rfl | exact Or.inr rfl) (pe_callB call_abs (by rfl) T.b_abs (by decide +kernel) (pa_cons (pe_ix (ix_seqK (K := K) rfl) (pv 0) (pv 1) (fun _ _ => rfl)) pa_nil)))) pss_nil)
      (pss_one (ps_ret (pe_lst (pa_cons (pe_callB (call_max2 rfl) (by rfl) T.b_max (by decide +kernel) (pa_cons pe_int (pa_cons (pe_op op_sub (pv 2) (pe_op op_pow pe_int pe_int)) pa_nil))) (pa_cons (pe_op op_add (pe_op op_mod (pe_callTy call_int1 (by rfl) T.b_int (by decide +kernel) (pa_cons (pe_op op_add (pe_op op_add (pe_op op_mul (pe_op op_mod (pe_callTy call_int1 (by rfl) T.b_int (by decide +kernel) (pa_cons (pv 2) pa_nil)) pe_int) pe_int) (pe_op op_mul pe_int (pv 1))) pe_int) pa_nil)) pe_int) pe_int) pa_nil))))))), ?_⟩
    repeat walk_at "s1"
    refine ite2 (fun c => ?_) fun c => ?_
    · have c' : k < (ns.length : Int) := by have := of_decide_eq_true c; rw [List.length_map] at this; exact this
      have hat : atI (ns.map V.int) k = some (.int (ns.getD k.toNat 0)) := by
        obtain ⟨j, rfl⟩ := Int.eq_ofNat_of_zero_le hk
        have hj : j < ns.length := by omega
        refine atI_nat ?_
        simp [List.getElem?_map, hj, List.getD]
      iterate 30 (try walk_at "s1")
      refine kk _ _ (by assumption) ⟨_, _, upd_same, ?_, ?_, ?_⟩ fun b o e => updn (nonn (by assumption) e) e
      · exact max0
      · exact (potb _ _ (by decide) (by decide)).1
      · exact (potb _ _ (by decide) (by decide)).2
    · iterate 30 (try walk_at "s1")
      refine kk _ _ (by assumption) ⟨_, _, upd_same, ?_, ?_, ?_⟩ fun b o e => updn (nonn (by assumption) e) e
      · exact max0
      · exact (potb _ _ (by decide) (by decide)).1
      · exact (potb _ _ (by decide) (by decide)).2
theorem ok_among (F : Fun K "_law_pick" "_law_pick" s_law_pick f fd) (hm : mg "_law_pick" = some (.ref f)) (T : Txt K mg) (c_law_draw : Nm P w K mg base CX0 1 "_law_draw" s_law_draw ["_law_pot_here", "_law_many"] spDraw) :
    Nm P w K mg base CX0 2 "_law_pick" s_law_pick ["_law_pot_here", "_law_some"] (spAmong K) := by
  refine nm_of F hm sc_law_pick (fun vs H Q E h => ?_) fun cdv A outer s H vs Q E hr h => ?_
  · unfold spAmong at h
    obtain ⟨p, x, rfl, _⟩ := h
    rfl
  · unfold spAmong at h
    obtain ⟨p, x, rfl, hp, h⟩ := h
    refine ⟨_, (pss_one (ps_ret (pe_ix (ix_seqK (K := K) rfl) (pv 1) (pe_g c_law_draw hr (by decide) L2.pass0 bp_law_draw (by rfl) (pa_cons (pv 0) (pa_cons (pe_callB (call_lenK (K := K) rfl) (by rfl) T.b_len PySem.boot_len (pa_cons (pv 1) pa_nil)) pa_nil))) (fun _ _ => rfl)))), ?_⟩
    rcases h with ⟨a, xs, rfl, na, hS, l0, l1, k⟩ | ⟨z, rfl, l0, l1, k⟩
    · iterate 4 walk_at "s1"
      refine draw_go hp (by omega) (by omega) fun d H' h0 h1 g => ?_
      obtain ⟨v, hv, hat⟩ := atI_ok (xs := xs) h0 h1
      exact Or.inl ⟨_, _, _, _, rfl, rfl, g.lst na hS, hat, k v hv H' g⟩
    · iterate 4 walk_at "s1"
      refine draw_go hp (by omega) (by omega) fun d H' h0 h1 g => ?_
      obtain ⟨c, hc, hat⟩ := atI_ok (xs := z.cps.toList) h0 (by rw [Array.length_toList]; exact h1)
      exact Or.inr (Or.inr ⟨_, _, c, rfl, rfl, szl (by omega), hat, k c hc H' g⟩)
end
open PySem PySem.Spec PyProof.Rows
open L2 hiding pass0
abbrev s_is_count : Stmt := top 20
theorem sc_is_count : FnScope ["value"] ["value"] (defScope s_is_count) := ⟨rfl, rfl, rfl, by decide +kernel, rfl, by decide +kernel, by decide +kernel⟩
theorem bp_is_count : BndP "is_count" s_is_count ["value"] := fun _ _ _ _ _ _ us h => match us, h with | [_], _ => rfl
abbrev s_is_width : Stmt := top 21
theorem sc_is_width : FnScope ["value"] ["value"] (defScope s_is_width) := ⟨rfl, rfl, rfl, by decide +kernel, rfl, by decide +kernel, by decide +kernel⟩
theorem bp_is_width : BndP "is_width" s_is_width ["value"] := fun _ _ _ _ _ _ us h => match us, h with | [_], _ => rfl
abbrev s_is_bits : Stmt := top 22
theorem sc_is_bits : FnScope ["value", "bit"] ["value"] (defScope s_is_bits) := ⟨rfl, rfl, rfl, by decide +kernel, rfl, by decide +kernel, by decide +kernel⟩
theorem bp_is_bits : BndP "is_bits" s_is_bits ["value"] := fun _ _ _ _ _ _ us h => match us, h with | [_], _ => rfl
abbrev s_is_name : Stmt := top 23
theorem sc_is_name : FnScope ["value", "letter"] ["value"] (defScope s_is_name) := ⟨rfl, rfl, rfl, by decide +kernel, rfl, by decide +kernel, by decide +kernel⟩
theorem bp_is_name : BndP "is_name" s_is_name ["value"] := fun _ _ _ _ _ _ us h => match us, h with | [_], _ => rfl
abbrev s_is_goal : Stmt := top 24
theorem sc_is_goal : FnScope ["value"] ["value"] (defScope s_is_goal) := ⟨rfl, rfl, rfl, by decide +kernel, rfl, by decide +kernel, by decide +kernel⟩
theorem bp_is_goal : BndP "is_goal" s_is_goal ["value"] := fun _ _ _ _ _ _ us h => match us, h with | [_], _ => rfl
abbrev s_check_width : Stmt := top 27
theorem sc_check_width : FnScope ["width"] ["width"] (defScope s_check_width) := ⟨rfl, rfl, rfl, by decide +kernel, rfl, by decide +kernel, by decide +kernel⟩
theorem bp_check_width : BndP "check_width" s_check_width ["width"] := fun _ _ _ _ _ _ us h => match us, h with | [_], _ => rfl
abbrev s_is_stretch : Stmt := top 26
theorem sc_is_stretch : FnScope ["width", "value"] ["width", "value"] (defScope s_is_stretch) := ⟨rfl, rfl, rfl, by decide +kernel, rfl, by decide +kernel, by decide +kernel⟩
theorem bp_is_stretch : BndP "is_stretch" s_is_stretch ["width", "value"] := fun _ _ _ _ _ _ us h => match us, h with | [_, _], _ => rfl
abbrev s_is_address : Stmt := top 25
theorem sc_is_address : FnScope ["width", "value"] ["width", "value"] (defScope s_is_address) := ⟨rfl, rfl, rfl, by decide +kernel, rfl, by decide +kernel, by decide +kernel⟩
theorem bp_is_address : BndP "is_address" s_is_address ["width", "value"] := fun _ _ _ _ _ _ us h => match us, h with | [_, _], _ => rfl
abbrev s_check_address : Stmt := top 29
theorem sc_check_address : FnScope ["width", "address"] ["width", "address"] (defScope s_check_address) := ⟨rfl, rfl, rfl, by decide +kernel, rfl, by decide +kernel, by decide +kernel⟩
theorem bp_check_address : BndP "check_address" s_check_address ["width", "address"] := fun _ _ _ _ _ _ us h => match us, h with | [_, _], _ => rfl
/-- the constants of the text -/
structure Cst (K : PySem.W.Frag) (mg : Str → Option Value) where
  c_MOST_WIDTH : ∃ u, mg "MOST_WIDTH" = some u ∧ RelV (.int 100) u
  c_MOST_LETTERS : ∃ u, mg "MOST_LETTERS" = some u ∧ RelV (.int 6) u
  c_LETTERS : ∃ u, mg "LETTERS" = some u ∧ RelV (.str "abcdefghijklmnopqrstuvwxyz") u
  aN : Addr
  c_NO_NAMES : ∃ u, mg "NO_NAMES" = some u ∧ RelV (.ref aN) u
  tN : ∀ H, SqT K H aN [.str "home", .str "hole", .str "ring", .str "all", .str "none"]
  aE : Addr
  c_ENDS : ∃ u, mg "ENDS" = some u ∧ RelV (.ref aE) u
  tE : ∀ H, SqT K H aE [.str "home", .str "hole"]
def bitsB (z : Str) : Bool := z.cps.toList.all fun c => decide (c ∈ ("01" : Str).cps.toList)
theorem bitsB_of {z : Str} (h : Bits z) : bitsB z = true := List.all_eq_true.mpr fun c hc => by
  rcases h c hc with rfl | rfl <;> exact decide_eq_true (by decide)
theorem Bits.of {z : Str} (h : bitsB z = true) : Bits z := fun c hc => by
  have := of_decide_eq_true (List.all_eq_true.mp h c hc)
  have h2 : c ∈ [48, 49] := this
  simpa using h2
def Low (z : Str) : Prop := ∀ c ∈ z.cps.toList, c < 128
theorem Bits.low {z : Str} (h : Bits z) : Low z := fun c hc => by
  have := h c hc
  omega
theorem Low.small {z : Str} (h : Low z) : SmallS z := by
  refine Array.all_eq_true_iff_forall_mem.mpr fun c hc => decide_eq_true (h c (by simpa using hc))
@[irreducible] def spI (g : Int → Bool) : Sp := fun vs H Q _ => ∃ n : Int, vs = [.int n] ∧ Q (.bl (g n)) H
@[irreducible] def spT (g : Str → Bool) : Sp := fun vs H Q _ => ∃ z : Str, vs = [.str z] ∧ z.length ≤ 1000 ∧ ∀ H', Same H H' → Q (.bl (g z)) H'
/-- a value of a kind: the name of its type -/
inductive Od (p : Addr) (H : Hp) : V → String → Prop
  | int (i : Int) : Od p H (.int i) "int"
  | bl (b : Bool) : Od p H (.bl b) "bool"
  | non : Od p H .non "NoneType"
  | str {z : Str} (l : z.length ≤ 1000) : Od p H (.str z) "str"
  | lst {a : Addr} {xs : List V} (n : a ≠ p) (e : H a = some (.lst xs)) : Od p H (.ref a) "list"
  | tup {a : Addr} {xs : List V} (n : a ≠ p) (e : H a = some (.tup xs)) : Od p H (.ref a) "tuple"
  | dK {a : Addr} {kvs : List (Key × V)} (n : a ≠ p) (e : H a = some (.dK kvs)) : Od p H (.ref a) "dict"
/-- all stands but perhaps p -/
def Kp (p : Addr) (H H' : Hp) : Prop := ∀ b o, H b = some o → b ≠ p → H' b = some o
theorem Same.kp {p : Addr} {H H' : Hp} (s : Same H H') : Kp p H H' := fun b o e _ => s b o e
theorem Od.kp {p : Addr} {H H' : Hp} {x : V} {s : String} (h : Od p H x s) (k : Kp p H H') : Od p H' x s := by
  cases h with
  | int i => exact .int i
  | bl b => exact .bl b
  | non => exact .non
  | str l => exact .str l
  | lst n e => exact .lst n (k _ _ e n)
  | tup n e => exact .tup n (k _ _ e n)
  | dK n e => exact .dK n (k _ _ e n)
theorem Od.ty {K : PySem.W.Frag} {p : Addr} {H : Hp} {x : V} {s : String} (h : Od p H x s) : TyX K H x (.type s) := by
  cases h with
  | int i => exact .base (.int _)
  | bl b => exact .base (.bl b)
  | non => exact .base .non
  | str l => exact .base (.str _)
  | lst n e => exact .base (.lst e)
  | tup n e => exact .base (.tup e)
  | dK n e => exact .base (.dK e)
/-- it is of one of these -/
theorem Od.nm {p : Addr} {H : Hp} {x : V} {s : String} (h : Od p H x s) : s = "int" ∨ s = "bool" ∨ s = "NoneType" ∨ s = "str" ∨ s = "list" ∨ s = "tuple" ∨ s = "dict" := by
  cases h <;> simp
theorem Od.kit {p : Addr} {H : Hp} {x : V} {s : String} (h : Od p H x s) : kitB s "str" = some (decide (s = "str")) ∧ kitB s "tuple" = some (decide (s = "tuple")) ∧ kitB s "list" = some (decide (s = "list")) := by
  rcases h.nm with rfl | rfl | rfl | rfl | rfl | rfl | rfl <;> decide +kernel
/-- of a text, and of nothing else -/
def liS (g : Str → Bool) : V → Bool
  | .str z => g z
  | _ => false
theorem Od.two {p : Addr} {H : Hp} {x : V} {s : String} (h : Od p H x s) : (∃ z, x = .str z ∧ s = "str" ∧ z.length ≤ 1000) ∨ (s ≠ "str" ∧ ∀ g, liS g x = false) := by
  cases h with
  | str l => exact .inl ⟨_, rfl, rfl, l⟩
  | int i => exact .inr ⟨by decide, fun _ => rfl⟩
  | bl b => exact .inr ⟨by decide, fun _ => rfl⟩
  | non => exact .inr ⟨by decide, fun _ => rfl⟩
  | lst n e => exact .inr ⟨by decide, fun _ => rfl⟩
  | tup n e => exact .inr ⟨by decide, fun _ => rfl⟩
  | dK n e => exact .inr ⟨by decide, fun _ => rfl⟩
@[irreducible] def spTo (g : Str → Bool) : Sp := fun vs H Q _ => ∃ (p : Addr) (x : V) (s : String), vs = [x] ∧ Od p H x s ∧ ∀ H', Same H H' → Q (.bl (liS g x)) H'
@[irreducible] def spIT (g : Int → Str → Bool) : Sp := fun vs H Q _ => ∃ (p : Addr) (n : Int) (x : V) (s : String), vs = [.int n, x] ∧ 1 ≤ n ∧ n ≤ 100 ∧ Od p H x s ∧ ∀ H', Same H H' → Q (.bl (liS (g n) x)) H'
@[irreducible] def spCW : Sp := fun vs H Q _ => ∃ n : Int, vs = [.int n] ∧ 1 ≤ n ∧ n ≤ 100 ∧ ∀ H', Same H H' → Q .non H'
/-- a check of a text that is right -/
@[irreducible] def spCT (g : Int → Str → Bool) : Sp := fun vs H Q _ => ∃ (n : Int) (z : Str), vs = [.int n, .str z] ∧ 1 ≤ n ∧ n ≤ 100 ∧ z.length ≤ 1000 ∧ g n z = true ∧ ∀ H', Same H H' → Q .non H'
def cntB (n : Int) : Bool := decide (0 ≤ n)
def widB (n : Int) : Bool := decide (1 ≤ n) && decide (n ≤ 100)
def strB (n : Int) (z : Str) : Bool := bitsB z && decide ((z.length : Int) ≤ n)
def adrB (n : Int) (z : Str) : Bool := bitsB z && decide ((z.length : Int) = n)
section
variable {g : Int → Bool} {gt : Str → Bool} {g2 : Int → Str → Bool} {n : Int} {z : Str} {H : Hp} {Q : VK} {E : XK}
theorem i_go (q : Q (.bl (g n)) H) : spI g [.int n] H Q E := by
  unfold spI
  exact ⟨n, rfl, q⟩
theorem t_go (h : z.length ≤ 1000) (q : ∀ H', Same H H' → Q (.bl (gt z)) H') : spT gt [.str z] H Q E := by
  unfold spT
  exact ⟨z, rfl, h, q⟩
theorem to_go (h : z.length ≤ 1000) (q : ∀ H', Same H H' → Q (.bl (gt z)) H') : spTo gt [.str z] H Q E := by
  unfold spTo
  exact ⟨(0 : Nat), _, _, rfl, .str h, q⟩
theorem too_go {p : Addr} {x : V} {s : String} (h : Od p H x s) (q : ∀ H', Same H H' → Q (.bl (liS gt x)) H') : spTo gt [x] H Q E := by
  unfold spTo
  exact ⟨p, x, s, rfl, h, q⟩
theorem it_go (h0 : 1 ≤ n) (h1 : n ≤ 100) (h : z.length ≤ 1000) (q : ∀ H', Same H H' → Q (.bl (g2 n z)) H') : spIT g2 [.int n, .str z] H Q E := by
  unfold spIT
  exact ⟨(0 : Nat), n, _, _, rfl, h0, h1, .str h, q⟩
theorem ito_go {p : Addr} {x : V} {s : String} (h0 : 1 ≤ n) (h1 : n ≤ 100) (h : Od p H x s) (q : ∀ H', Same H H' → Q (.bl (liS (g2 n) x)) H') : spIT g2 [.int n, x] H Q E := by
  unfold spIT
  exact ⟨p, n, x, s, rfl, h0, h1, h, q⟩
theorem cw_go (h0 : 1 ≤ n) (h1 : n ≤ 100) (q : ∀ H', Same H H' → Q .non H') : spCW [.int n] H Q E := by
  unfold spCW
  exact ⟨n, rfl, h0, h1, q⟩
theorem ct_go (h0 : 1 ≤ n) (h1 : n ≤ 100) (h : z.length ≤ 1000) (hg : g2 n z = true) (q : ∀ H', Same H H' → Q .non H') : spCT g2 [.int n, .str z] H Q E := by
  unfold spCT
  exact ⟨n, z, rfl, h0, h1, h, hg, q⟩
end
theorem k_ii : kitB "int" "int" = some true := by decide +kernel
theorem k_ib : kitB "int" "bool" = some false := by decide +kernel
theorem k_ss : kitB "str" "str" = some true := by decide +kernel
section
variable {P : Program} {w : World} {K : PySem.W.Frag} {mg : Str → Option Value} {base : Heap} {f : Addr} {fd : FuncData}
theorem ok_is_count (F : Fun K "is_count" "is_count" s_is_count f fd) (hm : mg "is_count" = some (.ref f)) (T : Txt K mg) : Nm P w K mg base CX0 1 "is_count" s_is_count ["value"] (spI cntB) := by
  refine nm_of F hm sc_is_count (fun vs H Q E h => ?_) fun cdv A outer s H vs Q E hr h => ?_
  · unfold spI at h
    obtain ⟨n, rfl, k⟩ := h
    subst_vars
    rfl
  unfold spI at h
  obtain ⟨n, rfl, k⟩ := h
  refine ⟨_, (pss_one (ps_ret (pe_and (pe_callB (call_isiK' (K := K) rfl) (by rfl) T.b_isinstance (by decide +kernel) (pa_cons (pv 0) (pa_cons (pe_ty "int" (by rfl) T.b_int (by decide +kernel)) pa_nil))) (pe_and (pe_not (pe_callB (call_isiK' (K := K) rfl) (by rfl) T.b_isinstance (by decide +kernel) (pa_cons (pv 0) (pa_cons (pe_ty "bool" (by rfl) T.b_bool (by decide +kernel)) pa_nil)))) (pe_one (pe_cmpR op_ge (pv 0) pe_int (nomark _))))))), ?_⟩
  repeat walk_at "s1"
  refine ⟨_, _, _, _, _, rfl, .ty _, .base (.int _), kit_ty k_ii, ?_⟩
  refine ⟨_, rfl, iteT ?_⟩
  repeat walk_at "s1"
  refine ⟨_, _, _, _, _, rfl, .ty _, .base (.int _), kit_ty k_ib, ?_⟩
  repeat walk_at "s1"
  exact k
theorem ok_is_width (F : Fun K "is_width" "is_width" s_is_width f fd) (hm : mg "is_width" = some (.ref f)) (T : Txt K mg) (C : Cst K mg) (c_is_count : Nm P w K mg base CX0 1 "is_count" s_is_count ["value"] (spI cntB)) : Nm P w K mg base CX0 2 "is_width" s_is_width ["value"] (spI widB) := by
  refine nm_of F hm sc_is_width (fun vs H Q E h => ?_) fun cdv A outer s H vs Q E hr h => ?_
  · unfold spI at h
    obtain ⟨n, rfl, k⟩ := h
    subst_vars
    rfl
  unfold spI at h
  obtain ⟨n, rfl, k⟩ := h
  refine ⟨_, (pss_one (ps_ret (pe_and (pe_g c_is_count hr (by decide) L2.pass0 bp_is_count (by rfl) (pa_cons (pv 0) pa_nil)) (pe_one (pe_chain op_le op_le pe_int (pv 0) (pe_cst (by rfl) C.c_MOST_WIDTH)))))), ?_⟩
  repeat walk_at "s1"
  refine i_go ?_
  refine ⟨_, rfl, ?_⟩
  refine ite2 (fun c => ?_) fun c => ?_
  · repeat walk_at "s1"
    refine ite2 (fun c1 => ?_) fun c1 => ?_
    · repeat walk_at "s1"
      have e : widB n = decide (n ≤ 100) := by show (decide _ && _) = _; rw [c1, Bool.true_and]
      rw [e] at k; exact k
    · have e : widB n = false := by show (decide _ && _) = _; rw [Bool.eq_false_iff.mpr c1, Bool.false_and]
      rw [e] at k; exact k
  · have c' : ¬ 0 ≤ n := fun q => c (decide_eq_true q)
    have e : widB n = false := by show (decide _ && _) = _; rw [decide_eq_false (show ¬ 1 ≤ n by omega)]; rfl
    rw [e] at k; exact k
theorem ok_is_bits (F : Fun K "is_bits" "is_bits" s_is_bits f fd) (hm : mg "is_bits" = some (.ref f)) (T : Txt K mg) : Nm P w K mg base CX0 1 "is_bits" s_is_bits ["value"] (spTo bitsB) := by
  refine nm_of F hm sc_is_bits (fun vs H Q E h => ?_) fun cdv A outer s H vs Q E hr h => ?_
  · unfold spTo at h
    obtain ⟨p, x, s, rfl, ho, k⟩ := h
    subst_vars
    rfl
  unfold spTo at h
  obtain ⟨p, x, s, rfl, ho, k⟩ := h
  refine ⟨_, (pss_one (ps_ret (pe_and (pe_callB (call_isiK' (K := K) rfl) (by rfl) T.b_isinstance (by decide +kernel) (pa_cons (pv 0) (pa_cons (pe_ty "str" (by rfl) T.b_str (by decide +kernel)) pa_nil))) (pe_one (pe_callB (call_allK (K := K) rfl rfl) (by rfl) T.b_all (by decide +kernel) (pa_cons (pe_lc (own := [("bit", 1)]) (g := (gName 1)) (by rfl) sc_is_bits.nd (pi_str (pv 0)) (blkOk_by (own := [("bit", 1)]) (N := ["value", "bit"]) (sc := defScope s_is_bits) (by decide +kernel)) (fun _ _ _ _ _ => (pg_name (i := 1) sc_is_bits.nd rfl (by first | exact Or.inl rfl | exact Or.inr rfl))) (fun _ _ _ _ _ => pts_nil) (fun _ _ _ _ _ => (pe_cmpR op_in_sign (pv 1) pe_str rfl))) pa_nil)))))), ?_⟩
  rcases ho.two with ⟨z, rfl, rfl, hz'⟩ | ⟨ns, nl⟩
  case inr =>
    rw [nl] at k
    have kb := ho.kit.1
    rw [decide_eq_false ns] at kb
    repeat walk_at "s1"
    refine ⟨_, _, _, _, _, rfl, .ty _, ho.ty, kit_ty kb, ?_⟩
    refine ⟨_, rfl, iteF ?_⟩
    exact k H (Same.refl H)
  repeat walk_at "s1"
  refine ⟨_, _, _, _, _, rfl, .ty _, .base (.str _), kit_ty k_ss, ?_⟩
  refine ⟨_, rfl, iteT ?_⟩
  repeat walk_at "s1"
  rename_i D nD
  have hz : z.cps.size ≤ 1000 := hz'
  refine lc_it walk_str (fun i H1 => H1 D = some (.lst (((z.cps.toList.take i).map fun c => decide (c ∈ ("01" : Str).cps.toList)).map V.bl)) ∧ Same H H1) ⟨upd_same, fun b o e => updn (nonn nD e) e⟩ (fun _ _ _ _ => trivial) ?_ ?_
  · rintro i x H1 H2 hi ⟨hD, sm⟩ ⟨rfl, c, hc, rfl⟩
    refine ⟨rfl, ?_⟩
    dsimp only [tYes]
    rw [if_pos rfl]
    repeat walk_at "s1"
    refine ⟨_, hD, szt (by rw [List.length_map, List.length_map, List.length_take]; omega), ?_, fun b o e => updn (nonn nD e) (sm b o e)⟩
    rw [upd_same, List.take_add_one, Array.getElem?_toList, hc, List.map_append, List.map_append]
    rfl
  · rintro H1 ⟨hD, sm⟩
    rw [List.take_of_length_le (by rw [Array.length_toList]; exact Nat.le_refl _)] at hD
    refine ⟨_, _, rfl, SqL.of hD, ?_⟩
    have hk : Q (.bl (bitsB z)) H1 := k H1 sm
    have e : bitsB z = ((z.cps.toList.map fun c => decide (c ∈ ("01" : Str).cps.toList)).all id) := by rw [List.all_map]; rfl
    rw [e] at hk
    exact hk
theorem ok_check_width (F : Fun K "check_width" "check_width" s_check_width f fd) (hm : mg "check_width" = some (.ref f)) (T : Txt K mg) (c_is_width : Nm P w K mg base CX0 2 "is_width" s_is_width ["value"] (spI widB)) : Nm P w K mg base CX0 3 "check_width" s_check_width ["width"] (spCW) := by
  refine nm_of F hm sc_check_width (fun vs H Q E h => ?_) fun cdv A outer s H vs Q E hr h => ?_
  · unfold spCW at h
    obtain ⟨n, rfl, h0, h1, k⟩ := h
    subst_vars
    rfl
  unfold spCW at h
  obtain ⟨n, rfl, h0, h1, k⟩ := h
  refine ⟨_, (pss_one (ps_if (pt_not (pt_val (pe_g c_is_width hr (by decide) L2.pass0 bp_is_width (by rfl) (pa_cons (pv 0) pa_nil)))) (pss_one ps_never) pss_nil)), ?_⟩
  repeat walk_at "s1"
  refine i_go ?_
  repeat walk_at "s1"
  have e : widB n = true := by show (decide _ && decide _) = true; rw [decide_eq_true h0, decide_eq_true h1]; rfl
  rw [e]
  refine iteF ?_
  exact k H (Same.refl H)
theorem ok_is_stretch (F : Fun K "is_stretch" "is_stretch" s_is_stretch f fd) (hm : mg "is_stretch" = some (.ref f)) (T : Txt K mg) (c_check_width : Nm P w K mg base CX0 3 "check_width" s_check_width ["width"] (spCW)) (c_is_bits : Nm P w K mg base CX0 1 "is_bits" s_is_bits ["value"] (spTo bitsB)) : Nm P w K mg base CX0 4 "is_stretch" s_is_stretch ["width", "value"] (spIT strB) := by
  refine nm_of F hm sc_is_stretch (fun vs H Q E h => ?_) fun cdv A outer s H vs Q E hr h => ?_
  · unfold spIT at h
    obtain ⟨p, n, x, s, rfl, h0, h1, ho, k⟩ := h
    subst_vars
    rfl
  unfold spIT at h
  obtain ⟨p, n, x, s, rfl, h0, h1, ho, k⟩ := h
  refine ⟨_, (pss_cons (ps_expr (pe_g c_check_width hr (by decide) L2.pass0 bp_check_width (by rfl) (pa_cons (pv 0) pa_nil)))
      (pss_one (ps_ret (pe_and (pe_g c_is_bits hr (by decide) L2.pass0 bp_is_bits (by rfl) (pa_cons (pv 1) pa_nil)) (pe_one (pe_cmpR op_le (pe_callB (call_lenK (K := K) rfl) (by rfl) T.b_len PySem.boot_len (pa_cons (pv 1) pa_nil)) (pv 0) (nomark _))))))), ?_⟩
  repeat walk_at "s1"
  refine cw_go h0 h1 fun H1 sm => ?_
  repeat walk_at "s1"
  rcases ho.two with ⟨z, rfl, rfl, hz⟩ | ⟨ns, nl⟩
  case inr =>
    refine too_go (ho.kp (Same.kp sm)) fun H2 sm2 => ?_
    have hk := k H2 (sm.trans sm2)
    rw [nl] at hk ⊢
    exact ⟨_, rfl, iteF hk⟩
  refine to_go hz fun H2 sm2 => ?_
  have hk : Q (.bl (strB n z)) H2 := k H2 (sm.trans sm2)
  refine ⟨_, rfl, ?_⟩
  cases c : bitsB z with
  | true =>
    refine iteT ?_
    repeat walk_at "s1"
    have e : strB n z = decide ((z.length : Int) ≤ n) := by show (bitsB _ && _) = _; rw [c]; rfl
    rw [e] at hk
    exact hk
  | false =>
    have e : strB n z = false := by show (bitsB _ && _) = _; rw [c]; rfl
    rw [e] at hk
    exact iteF hk
theorem ok_is_address (F : Fun K "is_address" "is_address" s_is_address f fd) (hm : mg "is_address" = some (.ref f)) (T : Txt K mg) (c_is_stretch : Nm P w K mg base CX0 4 "is_stretch" s_is_stretch ["width", "value"] (spIT strB)) : Nm P w K mg base CX0 5 "is_address" s_is_address ["width", "value"] (spIT adrB) := by
  refine nm_of F hm sc_is_address (fun vs H Q E h => ?_) fun cdv A outer s H vs Q E hr h => ?_
  · unfold spIT at h
    obtain ⟨p, n, x, s, rfl, h0, h1, ho, k⟩ := h
    subst_vars
    rfl
  unfold spIT at h
  obtain ⟨p, n, x, s, rfl, h0, h1, ho, k⟩ := h
  refine ⟨_, (pss_one (ps_ret (pe_and (pe_g c_is_stretch hr (by decide) L2.pass0 bp_is_stretch (by rfl) (pa_cons (pv 0) (pa_cons (pv 1) pa_nil))) (pe_one (pe_cmpR op_eq (pe_callB (call_lenK (K := K) rfl) (by rfl) T.b_len PySem.boot_len (pa_cons (pv 1) pa_nil)) (pv 0) (nomark _)))))), ?_⟩
  repeat walk_at "s1"
  rcases ho.two with ⟨z, rfl, rfl, hz⟩ | ⟨ns, nl⟩
  case inr =>
    refine ito_go h0 h1 ho fun H2 sm2 => ?_
    have hk := k H2 sm2
    rw [nl] at hk ⊢
    exact ⟨_, rfl, iteF hk⟩
  refine it_go h0 h1 hz fun H2 sm2 => ?_
  have hk : Q (.bl (adrB n z)) H2 := k H2 sm2
  refine ⟨_, rfl, ?_⟩
  cases c : strB n z with
  | true =>
    refine iteT ?_
    repeat walk_at "s1"
    have c' : (bitsB z && decide ((z.length : Int) ≤ n)) = true := c
    have e : adrB n z = decide (V.int (z.length : Int) = V.int n) := by
      show (bitsB z && decide ((z.length : Int) = n)) = _
      rw [Bool.and_eq_true] at c'
      rw [c'.1, Bool.true_and]
      exact decide_eq_decide.mpr ⟨fun q => by rw [q], fun q => V.int.inj q⟩
    rw [e] at hk
    exact hk
  | false =>
    have e : adrB n z = false := by
      have c' : (bitsB z && decide ((z.length : Int) ≤ n)) = false := c
      show (bitsB z && decide ((z.length : Int) = n)) = false
      cases b : bitsB z with
      | false => rfl
      | true =>
        rw [b, Bool.true_and] at c'
        have := of_decide_eq_false c'
        rw [Bool.true_and]
        exact decide_eq_false (by omega)
    rw [e] at hk
    exact iteF hk
theorem ok_check_address (F : Fun K "check_address" "check_address" s_check_address f fd) (hm : mg "check_address" = some (.ref f)) (T : Txt K mg) (c_is_address : Nm P w K mg base CX0 5 "is_address" s_is_address ["width", "value"] (spIT adrB)) : Nm P w K mg base CX0 6 "check_address" s_check_address ["width", "address"] (spCT adrB) := by
  refine nm_of F hm sc_check_address (fun vs H Q E h => ?_) fun cdv A outer s H vs Q E hr h => ?_
  · unfold spCT at h
    obtain ⟨n, z, rfl, h0, h1, hz, hg, k⟩ := h
    subst_vars
    rfl
  unfold spCT at h
  obtain ⟨n, z, rfl, h0, h1, hz, hg, k⟩ := h
  refine ⟨_, (pss_one (ps_if (pt_not (pt_val (pe_g c_is_address hr (by decide) L2.pass0 bp_is_address (by rfl) (pa_cons (pv 0) (pa_cons (pv 1) pa_nil))))) (pss_one ps_never) pss_nil)), ?_⟩
  repeat walk_at "s1"
  refine it_go h0 h1 hz fun H2 sm2 => ?_
  repeat walk_at "s1"
  rw [hg]
  refine iteF ?_
  exact k H2 sm2
end
def nameB (z : Str) : Bool := decide (1 ≤ (z.length : Int)) && decide ((z.length : Int) ≤ 6) && !inV (.str z) [.str "home", .str "hole", .str "ring", .str "all", .str "none"] && z.cps.toList.all fun c => decide (c ∈ ("abcdefghijklmnopqrstuvwxyz" : Str).cps.toList)
def goalB (z : Str) : Bool := nameB z || inV (.str z) [.str "home", .str "hole"]
section
variable {P : Program} {w : World} {K : PySem.W.Frag} {mg : Str → Option Value} {base : Heap} {f : Addr} {fd : FuncData}
theorem ok_is_name (F : Fun K "is_name" "is_name" s_is_name f fd) (hm : mg "is_name" = some (.ref f)) (T : Txt K mg) (C : Cst K mg) : Nm P w K mg base CX0 1 "is_name" s_is_name ["value"] (spT nameB) := by
  refine nm_of F hm sc_is_name (fun vs H Q E h => ?_) fun cdv A outer s H vs Q E hr h => ?_
  · unfold spT at h
    obtain ⟨z, rfl, hz0, k⟩ := h
    subst_vars
    rfl
  unfold spT at h
  obtain ⟨z, rfl, hz0, k⟩ := h
  refine ⟨_, (pss_cons (ps_if (PW.pt (pw_or (pt_not (pt_val (pe_callB (call_isiK' (K := K) rfl) (by rfl) T.b_isinstance (by decide +kernel) (pa_cons (pv 0) (pa_cons (pe_ty "str" (by rfl) T.b_str (by decide +kernel)) pa_nil))))) (pw_or1 (pt_not (pt_chain op_le op_le pe_int (pe_callB (call_lenK (K := K) rfl) (by rfl) T.b_len PySem.boot_len (pa_cons (pv 0) pa_nil)) (pe_cst (by rfl) C.c_MOST_LETTERS)))))) (pss_one (ps_ret pe_bl)) pss_nil)
      (pss_one (ps_ret (pe_and (pe_cmpR (op_notInK (K := K) rfl) (pv 0) (pe_cst (by rfl) C.c_NO_NAMES) rfl) (pe_one (pe_callB (call_allK (K := K) rfl rfl) (by rfl) T.b_all (by decide +kernel) (pa_cons (pe_lc (own := [("letter", 1)]) (g := (gName 1)) (by rfl) sc_is_name.nd (pi_str (pv 0)) (blkOk_by (own := [("letter", 1)]) (N := ["value", "letter"]) (sc := defScope s_is_name) (by decide +kernel)) (fun _ _ _ _ _ => (pg_name (i := 1) sc_is_name.nd rfl (by first | exact Or.inl rfl | exact Or.inr rfl))) (fun _ _ _ _ _ => pts_nil) (fun _ _ _ _ _ => (pe_cmpR op_in_sign (pv 1) (pe_cst (by rfl) C.c_LETTERS) rfl))) pa_nil))))))), ?_⟩
  repeat walk_at "s1"
  refine ⟨_, _, _, _, _, rfl, .ty _, .base (.str _), kit_ty k_ss, ?_⟩
  refine ⟨_, rfl, ?_⟩
  refine iteF ?_
  repeat walk_at "s1"
  refine ite2 (fun c1 => ?_) fun c1 => ?_
  · have c1' := of_decide_eq_true c1
    repeat walk_at "s1"
    by_cases c2 : (z.length : Int) ≤ 6
    · rw [decide_eq_true c2]
      refine iteF ?_
      repeat walk_at "s1"
      refine ⟨_, _, rfl, Or.inr (C.tN _), rfl, rfl, ?_⟩
      refine ⟨_, rfl, ?_⟩
      cases c3 : inV (V.str z) [.str "home", .str "hole", .str "ring", .str "all", .str "none"] with
      | true =>
        refine iteF ?_
        have hk := k H (Same.refl H)
        have e : nameB z = false := by
          show (decide _ && decide _ && !inV _ _ && _) = false
          rw [c3]
          simp
        rw [e] at hk
        exact hk
      | false =>
        refine iteT ?_
        repeat walk_at "s1"
        rename_i D nD
        have hz' : z.cps.size ≤ 1000 := hz0
        refine lc_it walk_str (fun i H1 => H1 D = some (.lst (((z.cps.toList.take i).map fun c => decide (c ∈ ("abcdefghijklmnopqrstuvwxyz" : Str).cps.toList)).map V.bl)) ∧ Same H H1) ⟨upd_same, fun b o e => updn (nonn nD e) e⟩ (fun _ _ _ _ => trivial) ?_ ?_
        · rintro i x H1 H2 hi ⟨hD, sm⟩ ⟨rfl, c, hc, rfl⟩
          refine ⟨rfl, ?_⟩
          dsimp only [tYes]
          rw [if_pos rfl]
          repeat walk_at "s1"
          refine ⟨_, hD, szt (by rw [List.length_map, List.length_map, List.length_take]; omega), ?_, fun b o e => updn (nonn nD e) (sm b o e)⟩
          rw [upd_same, List.take_add_one, Array.getElem?_toList, hc, List.map_append, List.map_append]
          rfl
        · rintro H1 ⟨hD, sm⟩
          rw [List.take_of_length_le (by rw [Array.length_toList]; exact Nat.le_refl _)] at hD
          refine ⟨_, _, rfl, SqL.of hD, ?_⟩
          have hk := k H1 sm
          have e : nameB z = ((z.cps.toList.map fun c => decide (c ∈ ("abcdefghijklmnopqrstuvwxyz" : Str).cps.toList)).all id) := by
            show (decide _ && decide _ && !inV _ _ && _) = _
            rw [c3, decide_eq_true c1', decide_eq_true c2, List.all_map]
            rfl
          rw [e] at hk
          exact hk
    · rw [decide_eq_false c2]
      refine iteT ?_
      have hk := k H (Same.refl H)
      have e : nameB z = false := by
        show (decide _ && decide _ && !inV _ _ && _) = false
        rw [decide_eq_false c2]
        simp
      rw [e] at hk
      exact hk
  · repeat walk_at "s1"
    refine iteT ?_
    have hk := k H (Same.refl H)
    have e : nameB z = false := by
      show (decide (1 ≤ (z.length : Int)) && decide _ && !inV _ _ && _) = false
      rw [Bool.eq_false_iff.mpr c1]
      simp
    rw [e] at hk
    exact hk
theorem ok_is_goal (F : Fun K "is_goal" "is_goal" s_is_goal f fd) (hm : mg "is_goal" = some (.ref f)) (T : Txt K mg) (C : Cst K mg) (c_is_name : Nm P w K mg base CX0 1 "is_name" s_is_name ["value"] (spT nameB)) : Nm P w K mg base CX0 2 "is_goal" s_is_goal ["value"] (spT goalB) := by
  refine nm_of F hm sc_is_goal (fun vs H Q E h => ?_) fun cdv A outer s H vs Q E hr h => ?_
  · unfold spT at h
    obtain ⟨z, rfl, hz, k⟩ := h
    subst_vars
    rfl
  unfold spT at h
  obtain ⟨z, rfl, hz, k⟩ := h
  refine ⟨_, (pss_one (ps_ret (pe_or (pe_g c_is_name hr (by decide) L2.pass0 bp_is_name (by rfl) (pa_cons (pv 0) pa_nil)) (pe_one (pe_and (pe_callB (call_isiK' (K := K) rfl) (by rfl) T.b_isinstance (by decide +kernel) (pa_cons (pv 0) (pa_cons (pe_ty "str" (by rfl) T.b_str (by decide +kernel)) pa_nil))) (pe_one (pe_cmpR (op_inK (K := K) rfl) (pv 0) (pe_cst (by rfl) C.c_ENDS) rfl))))))), ?_⟩
  repeat walk_at "s1"
  refine t_go hz fun H1 sm => ?_
  refine ⟨_, rfl, ?_⟩
  have hk := k H1 sm
  cases c : nameB z with
  | true =>
    refine iteT ?_
    have e : goalB z = true := by show (nameB _ || _) = true; rw [c]; rfl
    rw [e] at hk
    exact hk
  | false =>
    refine iteF ?_
    repeat walk_at "s1"
    refine ⟨_, _, _, _, _, rfl, .ty _, .base (.str _), kit_ty k_ss, ?_⟩
    refine ⟨_, rfl, ?_⟩
    refine iteT ?_
    repeat walk_at "s1"
    refine ⟨_, _, rfl, Or.inr (C.tE _), rfl, rfl, ?_⟩
    have e : goalB z = inV (V.str z) [.str "home", .str "hole"] := by show (nameB _ || _) = _; rw [c]; rfl
    rw [e] at hk
    exact hk
end
open PySem PySem.Spec PyProof.Rows
open L2 hiding pass0
def sx (t : List Nat) : V := .str (SX.S t)
theorem sx_bits {t : List Nat} (h : M.BL t) : Bits (SX.S t) := fun c hc => h c (by rw [SX.S] at hc; simpa using hc)
theorem sx_len (t : List Nat) : (SX.S t).length = t.length := SX.S_len t
theorem tl_S (t : List Nat) : (SX.S t).cps.toList = t := by unfold SX.S; simp
theorem S_inj {a b : List Nat} (h : SX.S a = SX.S b) : a = b := by
  have := congrArg (fun z : Str => z.cps.toList) h
  rwa [tl_S, tl_S] at this
/-- a list or a tuple of stretches -/
def ArgAt (H : Hp) (a : Addr) (ts : List (List Nat)) : Prop := H a = some (.lst (ts.map sx)) ∨ H a = some (.tup (ts.map sx))
def Fits (n : Nat) (ts : List (List Nat)) : Prop := ∀ t ∈ ts, M.BL t ∧ t.length ≤ n
theorem ArgAt.same {H H' : Hp} {a : Addr} {ts : List (List Nat)} (h : ArgAt H a ts) (s : Same H H') : ArgAt H' a ts := h.elim (fun e => .inl (s _ _ e)) fun e => .inr (s _ _ e)
theorem str_ok {n : Nat} {t : List Nat} (hb : M.BL t) (hl : t.length ≤ n) : strB n (SX.S t) = true := by
  show (bitsB _ && decide (((SX.S t).length : Int) ≤ n)) = true
  rw [bitsB_of (sx_bits hb), sx_len, decide_eq_true (by omega)]
  rfl
open PySem PySem.Spec PyProof.Rows
open L2 hiding pass0
abbrev s_longest_beginning : Stmt := top 33
theorem sc_longest_beginning : FnScope ["known", "bits", "length"] ["known", "bits"] (defScope s_longest_beginning) := ⟨rfl, rfl, rfl, by decide +kernel, rfl, by decide +kernel, by decide +kernel⟩
theorem bp_longest_beginning : BndP "longest_beginning" s_longest_beginning ["known", "bits"] := fun _ _ _ _ _ _ us h => match us, h with | [_, _], _ => rfl
def skey (t : List Nat) : Key := Sum.inr (SX.S t)
theorem skey_inj {a b : List Nat} (h : skey a = skey b) : a = b := S_inj (Sum.inr.inj h)
def fd (ks : List (List Nat)) (g : List Nat → V) : List (Key × V) := ks.map fun t => (skey t, g t)
theorem fd_len (ks : List (List Nat)) (g : List Nat → V) : (fd ks g).length = ks.length := List.length_map ..
theorem fd_keys (ks : List (List Nat)) (g : List Nat → V) : (fd ks g).map (·.1) = (ks.map SX.S).map Sum.inr := by
  unfold fd
  rw [List.map_map, List.map_map]
  rfl
theorem fd_get (ks : List (List Nat)) (g : List Nat → V) (i : Nat) : (fd ks g)[i]? = (ks[i]?).map fun t => (skey t, g t) := List.getElem?_map ..
theorem fd_val {ks : List (List Nat)} {g : List Nat → V} {t : List Nat} : valV (fd ks g) (skey t) = if t ∈ ks then some (g t) else none := by
  induction ks with
  | nil => rfl
  | cons s ks ih =>
    show valV ((skey s, g s) :: fd ks g) (skey t) = _
    by_cases e : s = t
    · subst e
      rw [valV_pos rfl, if_pos (List.mem_cons_self ..)]
    · rw [valV_neg (fun q => e (skey_inj q)), ih]
      by_cases m : t ∈ ks
      · rw [if_pos m, if_pos (List.mem_cons_of_mem _ m)]
      · rw [if_neg m, if_neg (fun q => (List.mem_cons.mp q).elim (fun q => e q.symm) m)]
theorem fd_has {ks : List (List Nat)} {g : List Nat → V} {t : List Nat} : (valV (fd ks g) (skey t)).isSome = decide (t ∈ ks) := by
  rw [fd_val]
  by_cases m : t ∈ ks <;> simp [m]
theorem fd_congr {ks : List (List Nat)} {g g' : List Nat → V} (h : ∀ t ∈ ks, g t = g' t) : fd ks g = fd ks g' := List.map_congr_left fun t ht => by rw [h t ht]
def fup {α : Type} (g : List Nat → α) (t : List Nat) (v : α) : List Nat → α := fun x => if x = t then v else g x
theorem fup_at {α : Type} {g : List Nat → α} {t : List Nat} {v : α} : fup g t v t = v := if_pos rfl
theorem fup_ne {α : Type} {g : List Nat → α} {t x : List Nat} {v : α} (h : x ≠ t) : fup g t v x = g x := if_neg h
theorem fd_any {ks : List (List Nat)} {g : List Nat → V} {t : List Nat} : ((fd ks g).any fun kv => decide (kv.1 = skey t)) = decide (t ∈ ks) := by
  rw [valV_any, fd_has]
theorem fd_put {ks : List (List Nat)} {g : List Nat → V} {t : List Nat} {v : V} : putK (fd ks g) (skey t) v = fd (if t ∈ ks then ks else ks ++ [t]) (fup g t v) := by
  unfold putK
  rw [fd_any]
  by_cases m : t ∈ ks
  · rw [decide_eq_true m, if_pos rfl, if_pos m]
    unfold fd
    rw [List.map_map]
    refine List.map_congr_left fun s hs => ?_
    show (if skey s = skey t then (skey s, v) else (skey s, g s)) = _
    by_cases e : s = t
    · rw [if_pos (by rw [e]), e, fup_at]
    · rw [if_neg (fun q => e (skey_inj q)), fup_ne e]
  · rw [decide_eq_false m, if_neg Bool.false_ne_true, if_neg m]
    unfold fd
    rw [List.map_append]
    show _ = _ ++ [(skey t, fup g t v t)]
    rw [fup_at]
    congr 1
    exact List.map_congr_left fun s hs => by rw [fup_ne (fun q : s = t => m (q ▸ hs))]
@[irreducible] def spLB : Sp := fun vs H Q _ => ∃ (D : Addr) (ks : List (List Nat)) (g : List Nat → V) (a : List Nat), vs = [.ref D, sx a] ∧ Rd H D (.dK (fd ks g)) ∧ [] ∈ ks ∧ a.length ≤ 1000 ∧ ∀ H', Same H H' → Q (sx (M.lg ks a)) H'
theorem cut_S (t : List Nat) {d : Int} {k : Nat} (h : d = k) : cutS (SX.S t) none (some d) = SX.S (t.take k) := by
  subst h
  show SX.S _ = SX.S _
  refine congrArg SX.S ?_
  show ((SX.S t).cps.toList.drop 0).take (HT.sIx (SX.S t).length (SX.S t).length (some (k : Int)) - 0) = t.take k
  rw [HT.sIx_nat, List.drop_zero, Nat.sub_zero, tl_S, sx_len]
  by_cases c : k ≤ t.length
  · rw [Nat.min_eq_left c]
  · rw [List.take_of_length_le (by omega), List.take_of_length_le (by omega)]
theorem rd_same {H H' : Hp} {a : Addr} {o : HO} (h : Rd H a o) (s : Same H H') : Rd H' a o := h.elim (fun e => .inl (s _ _ e)) fun ⟨b, e⟩ => .inr ⟨b, s _ _ e⟩
def stp (acc : List Str) (z : Str) : List Str := if z ∈ acc then acc else acc ++ [z]
def dd (zs : List Str) : List Str := zs.foldl stp []
theorem dc_it {J : It} {n : Nat} {G : Hp → Prop} {Y : Nat → Hp → V → Hp → Prop} (w : L2.Walk J n G Y) {g : TG} {tt : TT} {tk tv : TE} {vs : List Nat} {σ : L2.St} {H1 : Hp} {D : Addr} {Qd : Hp → Prop} (Pv : Nat → Hp → Prop) (h0 : Pv 0 (upd H1 D (.dK []))) (hG : ∀ i H, i ≤ n → Pv i H → G H)
    (hs : ∀ i x H H', i < n → Pv i H → Y i H x H' → g x (wipe σ vs) H' fun σ2 H2 => wipe σ2 vs = wipe σ vs ∧ tt σ2 H2 fun b H3 =>
      if b = true then tk σ2 H3 fun y H4 => tv σ2 H4 fun z H5 => ∃ kvs k, y = kV k ∧ H5 D = some (.dK kvs) ∧ kvs.length < sizeLine ∧ Pv (i + 1) (upd H5 D (.dK (putK kvs k z))) else Pv (i + 1) H3) (hd : ∀ H, Pv n H → Qd H) :
    ∃ W : Nat → Nat → Hp → Prop, (∃ m, W 0 m (upd H1 D (.dK []))) ∧ ∀ i m H, W i m H →
      (J.stop i H ∧ Qd H) ∨ (J.go i H ∧ ∃ Nx : Hp → Prop, (∀ H', Nx H' → ∃ m', m' < m ∧ W (i + 1) m' H') ∧ ∀ x H', J.yld i H x H' → g x (wipe σ vs) H' fun σ2 H2 => wipe σ2 vs = wipe σ vs ∧ tt σ2 H2 fun b H3 =>
        if b = true then tk σ2 H3 fun y H4 => tv σ2 H4 fun z H5 => ∃ kvs k, y = kV k ∧ H5 D = some (.dK kvs) ∧ kvs.length < sizeLine ∧ Nx (upd H5 D (.dK (putK kvs k z))) else Nx H3) := by
  refine ⟨fun i m H => m = n - i ∧ i ≤ n ∧ Pv i H, ⟨n, by simp, Nat.zero_le _, h0⟩, ?_⟩
  rintro i m H ⟨rfl, hi, p⟩
  have q := hG i H hi p
  by_cases hlt : i < n
  · refine .inr ⟨w.goes i H hlt q, Pv (i + 1), fun H' p' => ⟨n - (i + 1), by omega, rfl, hlt, p'⟩, fun x H' y => hs i x H H' hlt p (w.yields i H x H' hlt q y)⟩
  · have e : i = n := by omega
    subst e
    exact .inl ⟨w.stops H q, hd H p⟩
section
variable {P : Program} {w : World} {K : PySem.W.Frag} {mg : Str → Option Value} {base : Heap} {f : Addr} {fd' : FuncData}
theorem ok_longest (F : Fun K "longest_beginning" "longest_beginning" s_longest_beginning f fd') (hm : mg "longest_beginning" = some (.ref f)) (T : Txt K mg) : Nm P w K mg base CX0 1 "longest_beginning" s_longest_beginning ["known", "bits"] (spLB) := by
  refine nm_of0 F hm sc_longest_beginning (fun vs H Q E h => ?_) fun cdv A outer s H vs Q E hr h => ?_
  · unfold spLB at h
    obtain ⟨D, ks, g, a, rfl, hD, h0, hl, k⟩ := h
    subst_vars
    rfl
  unfold spLB at h
  obtain ⟨D, ks, g, a, rfl, hD, h0, hl, k⟩ := h
  refine ⟨_, (pss_cons (ps_for PassesOwn.never rfl (pi_range3 (by rfl) T.b_range (pa_cons (pe_callB (call_lenK (K := K) rfl) (by rfl) T.b_len PySem.boot_len (pa_cons (pv 1) pa_nil)) (pa_cons (pe_un un_neg pe_int) (pa_cons (pe_un un_neg pe_int) pa_nil)))) (pg_name (i := 2) sc_longest_beginning.nd rfl (by first | exact Or.inl rfl | exact Or.inr rfl)) (pss_one (ps_if (pt_cmp (pc_din hr.u1 (pe_slice sl_str (pv 1) po_none (po_some (pv 2))) (pv 0))) (pss_one (ps_ret (pe_slice sl_str (pv 1) po_none (po_some (pv 2))))) pss_nil)))
      (pss_one (ps_ret pe_non))), ?_⟩
  have en : (((SX.S a).length : Int) - (-1)).toNat = a.length + 1 := by rw [sx_len]; omega
  refine ⟨_, rfl, ⟨_, _, rfl, ⟨szl (by rw [sx_len]; omega), rfl⟩, ?_⟩⟩
  repeat walk_at "s1"
  refine ⟨_, _, _, _, rfl, RgC.neg (by rw [sx_len]; omega) (by omega) (by omega) (by omega), ?_⟩
  rw [en]
  refine for_it walk_rangeC (fun i σ' H' => ∃ x2, σ' = [some (.ref D), some (sx a), x2] ∧ Same H H' ∧ i ≤ a.length ∧ M.lg ks a = M.lgN ks a (a.length - i)) ⟨_, rfl, Same.refl H, Nat.zero_le _, rfl⟩ (fun _ _ _ _ _ => trivial) ?_ ?_
  · rintro i x σ' H1 H2 hi ⟨x2, rfl, sm, hle, hg⟩ ⟨rfl, rfl⟩
    repeat walk_at "s1"
    have ej : ((SX.S a).length : Int) + (i : Int) * -1 = ((a.length - i : Nat) : Int) := by rw [sx_len]; omega
    rw [cut_S a ej]
    refine ⟨D, _, rfl, .inl ⟨fd ks g, skey (a.take (a.length - i)), rd_same hD sm, rfl, rfl⟩, ?_⟩
    rw [fd_has]
    by_cases hc : a.take (a.length - i) ∈ ks
    · rw [decide_eq_true hc]
      refine ⟨_, rfl, iteT ?_⟩
      repeat walk_at "s1"
      rw [cut_S a ej]
      have e : M.lg ks a = a.take (a.length - i) := by
        rw [hg]
        generalize a.length - i = j at hc
        cases j with
        | zero => rfl
        | succ j => exact if_pos hc
      have hk := k _ sm
      rw [e] at hk
      exact hk
    · rw [decide_eq_false hc]
      refine ⟨_, rfl, iteF ?_⟩
      have hi0 : i < a.length := by
        refine Nat.lt_of_le_of_ne hle fun q => hc ?_
        rw [q, Nat.sub_self]
        exact h0
      refine ⟨_, rfl, sm, by omega, ?_⟩
      obtain ⟨j, hj⟩ : ∃ j, a.length - i = j + 1 := ⟨a.length - i - 1, by omega⟩
      rw [hg, show a.length - (i + 1) = j by omega, hj]
      rw [hj] at hc
      exact if_neg hc
  · rintro σ' H1 ⟨x2, rfl, sm, hle, hg⟩
    omega
end
open PySem PySem.Spec PyProof.Rows
open L2 hiding pass0
abbrev s_is_row : Stmt := top 36
theorem sc_is_row : FnScope ["width", "value"] ["width", "value"] (defScope s_is_row) := ⟨rfl, rfl, rfl, by decide +kernel, rfl, by decide +kernel, by decide +kernel⟩
abbrev s_is_rows : Stmt := top 37
theorem sc_is_rows : FnScope ["width", "value", "stretch", "goal"] ["width", "value"] (defScope s_is_rows) := ⟨rfl, rfl, rfl, by decide +kernel, rfl, by decide +kernel, by decide +kernel⟩
theorem bp_is_rows : BndP "is_rows" s_is_rows ["width", "value"] := fun _ _ _ _ _ _ us h => match us, h with | [_, _], _ => rfl
abbrev s_Tableinit : Stmt := inClass (top 35) 1
theorem sc_Tableinit : FnScope ["self", "width", "rows", "stretch"] ["self", "width", "rows"] (defScope s_Tableinit) := ⟨rfl, rfl, rfl, by decide +kernel, rfl, by decide +kernel, by decide +kernel⟩
abbrev s_Table_row : Stmt := inClass (top 35) 5
theorem sc_Table_row : FnScope ["self", "address"] ["self", "address"] (defScope s_Table_row) := ⟨rfl, rfl, rfl, by decide +kernel, rfl, by decide +kernel, by decide +kernel⟩
theorem bm_Table_row : BndMP "row" "Table.row" s_Table_row ["self", "address"] := fun _ _ _ _ _ _ us h => match us, h with | [_, _], _ => rfl
abbrev s_Table__call__ : Stmt := inClass (top 35) 7
theorem sc_Table__call__ : FnScope ["self", "address", "stretch"] ["self", "address"] (defScope s_Table__call__) := ⟨rfl, rfl, rfl, by decide +kernel, rfl, by decide +kernel, by decide +kernel⟩
theorem bm_Table__call__ : BndMP "__call__" "Table.__call__" s_Table__call__ ["self", "address"] := fun _ _ _ _ _ _ us h => match us, h with | [_, _], _ => rfl
abbrev s_Table_width : Stmt := inClass (top 35) 3
theorem sc_Table_width : FnScope ["self"] ["self"] (defScope s_Table_width) := ⟨rfl, rfl, rfl, by decide +kernel, rfl, by decide +kernel, by decide +kernel⟩
theorem bm_Table_width : BndMP "width" "Table.width" s_Table_width ["self"] := fun _ _ _ _ _ _ us h => match us, h with | [_], _ => rfl
abbrev s_Table_rows : Stmt := inClass (top 35) 4
theorem sc_Table_rows : FnScope ["self"] ["self"] (defScope s_Table_rows) := ⟨rfl, rfl, rfl, by decide +kernel, rfl, by decide +kernel, by decide +kernel⟩
theorem bm_Table_rows : BndMP "rows" "Table.rows" s_Table_rows ["self"] := fun _ _ _ _ _ _ us h => match us, h with | [_], _ => rfl
/-- a dict of texts -/
def tk (m : List (Str × Str)) : List (Key × V) := m.map fun p => (Sum.inr p.1, V.str p.2)
/-- a row of the width: its stretch, its goal -/
def RowOk (n : Int) (p : Str × Str) : Prop := Bits p.1 ∧ (p.1.length : Int) ≤ n ∧ goalB p.2 = true ∧ Low p.2 ∧ p.2.length ≤ 200
@[irreducible] def spRow : Sp := fun vs H Q _ => ∃ (n : Int) (b : Addr) (p : Str × Str), vs = [.int n, .ref b] ∧ 1 ≤ n ∧ n ≤ 100 ∧ H b = some (.tup [.str p.1, .str p.2]) ∧ RowOk n p ∧ ∀ H', Same H H' → Q (.bl true) H'
@[irreducible] def spRows : Sp := fun vs H Q _ => ∃ (n : Int) (b : Addr) (m : List (Str × Str)), vs = [.int n, .ref b] ∧ 1 ≤ n ∧ n ≤ 100 ∧ H b = some (.dK (tk m)) ∧ (∀ p ∈ m, RowOk n p) ∧ m.length ≤ 1000 ∧ ∀ H', Same H H' → Q (.bl true) H'
theorem strB_ok {n : Int} {z : Str} (h : Bits z) (l : (z.length : Int) ≤ n) : strB n z = true := by
  show (bitsB z && decide ((z.length : Int) ≤ n)) = true
  rw [bitsB_of h, decide_eq_true l]
  rfl
theorem len200 {n : Int} {z : Str} (h1 : n ≤ 100) (l : (z.length : Int) ≤ n) : z.length ≤ 200 := by omega
section
variable {P : Program} {w : World} {K : PySem.W.Frag} {mg : Str → Option Value} {base : Heap} {f : Addr} {fd : FuncData}
theorem ok_is_row (F : Fun K "is_row" "is_row" s_is_row f fd) (hm : mg "is_row" = some (.ref f)) (T : Txt K mg) (c_is_stretch : Nm P w K mg base CX0 4 "is_stretch" s_is_stretch ["width", "value"] (spIT strB)) (c_is_goal : Nm P w K mg base CX0 2 "is_goal" s_is_goal ["value"] (spT goalB)) :
    Nm P w K mg base CX0 5 "is_row" s_is_row ["width", "value"] spRow := by
  refine nm_of F hm sc_is_row (fun vs H Q E h => ?_) fun cdv A outer s H vs Q E hr h => ?_
  · unfold spRow at h
    obtain ⟨n, b, p, rfl, _⟩ := h
    rfl
  · unfold spRow at h
    obtain ⟨n, b, p, rfl, h0, h1, hb, ⟨hp1, hp2, hp3, hp4, hp5⟩, k⟩ := h
    refine ⟨_, (pss_cons (ps_if (PW.pt (pw_or (pt_not (pt_val (pe_callB (call_isiK' (K := K) rfl) (by rfl) T.b_isinstance (by decide +kernel) (pa_cons (pv 1) (pa_cons (pe_ty "tuple" (by rfl) T.b_tuple (by decide +kernel)) pa_nil))))) (pw_or1 (pt_cmpR op_ne (pe_callB (call_lenK (K := K) rfl) (by rfl) T.b_len PySem.boot_len (pa_cons (pv 1) pa_nil)) pe_int (nomark _))))) (pss_one (ps_ret pe_bl)) pss_nil)
      (pss_one (ps_ret (pe_and (pe_g c_is_stretch hr (by decide) L2.pass0 bp_is_stretch (by rfl) (pa_cons (pv 0) (pa_cons (pe_ix (ix_seqK (K := K) rfl) (pv 1) pe_int (fun _ _ => rfl)) pa_nil))) (pe_one (pe_g c_is_goal hr (by decide) L2.pass0 bp_is_goal (by rfl) (pa_cons (pe_ix (ix_seqK (K := K) rfl) (pv 1) pe_int (fun _ _ => rfl)) pa_nil))))))), ?_⟩
    repeat walk_at "s1"
    refine ⟨_, _, _, _, _, rfl, .ty _, .base (.tup hb), kit_ty (show kitB "tuple" "tuple" = some true by decide +kernel), ?_⟩
    refine ⟨_, rfl, ?_⟩
    refine iteF ?_
    repeat walk_at "s1"
    refine it_go h0 h1 (Nat.le_trans (len200 h1 hp2) (by decide)) fun H1 sm => ?_
    rw [strB_ok hp1 hp2]
    refine ⟨_, rfl, ?_⟩
    refine iteT ?_
    have hb1 := sm _ _ hb
    repeat walk_at "s1"
    refine t_go (Nat.le_trans hp5 (by decide)) fun H2 sm2 => ?_
    rw [hp3]
    exact k H2 fun c o e => sm2 c o (sm c o e)
theorem ok_is_rows (F : Fun K "is_rows" "is_rows" s_is_rows f fd) (hm : mg "is_rows" = some (.ref f)) (T : Txt K mg) (c_is_stretch : Nm P w K mg base CX0 4 "is_stretch" s_is_stretch ["width", "value"] (spIT strB)) (c_is_goal : Nm P w K mg base CX0 2 "is_goal" s_is_goal ["value"] (spT goalB)) :
    Nm P w K mg base CX0 5 "is_rows" s_is_rows ["width", "value"] spRows := by
  refine nm_of F hm sc_is_rows (fun vs H Q E h => ?_) fun cdv A outer s H vs Q E hr h => ?_
  · unfold spRows at h
    obtain ⟨n, b, p, rfl, _⟩ := h
    rfl
  · unfold spRows at h
    obtain ⟨n, b, m, rfl, h0, h1, hb, hp, hz, k⟩ := h
    refine ⟨_, (pss_cons (ps_if (pt_not (pt_val (pe_callB (call_isiK' (K := K) rfl) (by rfl) T.b_isinstance (by decide +kernel) (pa_cons (pv 1) (pa_cons (pe_ty "dict" (by rfl) T.b_dict (by decide +kernel)) pa_nil))))) (pss_one (ps_ret pe_bl)) pss_nil)
      (pss_one (ps_ret (pe_callB (call_allK (K := K) rfl rfl) (by rfl) T.b_all (by decide +kernel) (pa_cons (pe_lock (pe_lc (own := [("stretch", 2), ("goal", 3)]) (g := (gTup K 2 (gCons (gName 2) (gCons (gName 3) gNil)))) (by rfl) sc_is_rows.nd (pi_items (pv 1)) (blkOk_by (own := [("stretch", 2), ("goal", 3)]) (N := ["width", "value", "stretch", "goal"]) (sc := defScope s_is_rows) (by decide +kernel)) (fun _ _ _ _ _ => (pg_tup (by rfl) (pgs_cons (pg_name (i := 2) sc_is_rows.nd rfl (by first | exact Or.inl rfl | exact Or.inr rfl)) (pgs_cons (pg_name (i := 3) sc_is_rows.nd rfl (by first | exact Or.inl rfl | exact Or.inr rfl)) pgs_nil)))) (fun _ _ _ _ _ => pts_nil) (fun _ _ _ _ _ => (pe_and (pe_g c_is_stretch hr (by decide) L2.pass0 bp_is_stretch (by rfl) (pa_cons (pv 0) (pa_cons (pv 2) pa_nil))) (pe_one (pe_g c_is_goal hr (by decide) L2.pass0 bp_is_goal (by rfl) (pa_cons (pv 3) pa_nil))))))) pa_nil))))), ?_⟩
    repeat walk_at "s1"
    refine ⟨_, _, _, _, _, rfl, .ty _, .base (.dK hb), kit_ty (show kitB "dict" "dict" = some true by decide +kernel), ?_⟩
    refine ⟨_, rfl, ?_⟩
    refine iteF ?_
    show ∃ d u, _
    refine ⟨b, _, hb, trivial, fun od => ?_⟩
    refine ⟨_, rfl, ?_⟩
    refine ⟨b, od, _, rfl, upd_same, fun D nD => ?_⟩
    have hDb : D ≠ b := fun z => by rw [z, upd_same] at nD; cases nD
    refine lc_it walk_items (fun i H1 => H1 D = some (.lst ((List.replicate i true).map V.bl)) ∧ Same (upd H b (.frz od (.dK (tk m)))) H1) ⟨upd_same, fun c o e => updn (nonn nD e) e⟩ (fun _ H1 _ h => h.2 _ _ upd_same) ?_ ?_
    · rintro i x H1 H2 hi ⟨hD, sm⟩ ⟨t, x1, x2, rfl, nt, rfl, e1, e2⟩
      obtain ⟨p, hm1, rfl, rfl⟩ : ∃ p, m[i]? = some p ∧ x1 = .str p.1 ∧ x2 = .str p.2 := by
        dsimp only at e1 e2
        unfold tk at e1 e2
        rw [List.getElem?_map] at e1 e2
        cases hx : m[i]? with
        | none => rw [hx] at e1; cases e1
        | some p =>
          rw [hx] at e1 e2
          exact ⟨p, rfl, (Option.some.inj e1).symm, (Option.some.inj e2).symm⟩
      obtain ⟨hp1, hp2, hp3, hp4, hp5⟩ := hp p (List.mem_of_getElem? hm1)
      have hi' : i < m.length := by unfold tk at hi; rw [List.length_map] at hi; exact hi
      have nDt : D ≠ t := nonn nt hD
      have smt : Same (upd H b (.frz od (.dK (tk m)))) (upd H1 t (.tup [.str p.1, .str p.2])) := fun c o e => updn (nonn nt (sm c o e)) (sm c o e)
      refine ⟨t, [.str p.1, .str p.2], rfl, SqT.of upd_same, rfl, ?_⟩
      refine ⟨_, _, rfl, ?_⟩
      refine ⟨_, _, rfl, ?_⟩
      refine ⟨rfl, rfl, ?_⟩
      dsimp only [tYes]
      rw [if_pos rfl]
      repeat walk_at "s1"
      refine it_go h0 h1 (Nat.le_trans (len200 h1 hp2) (by decide)) fun H3 sm3 => ?_
      rw [strB_ok hp1 hp2]
      refine ⟨_, rfl, ?_⟩
      refine iteT ?_
      repeat walk_at "s1"
      refine t_go (Nat.le_trans hp5 (by decide)) fun H4 sm4 => ?_
      rw [hp3]
      have hD4 : H4 D = some (.lst ((List.replicate i true).map V.bl)) := sm4 _ _ (sm3 _ _ (updn nDt hD))
      have sm5 : Same (upd H b (.frz od (.dK (tk m)))) H4 := fun c o e => sm4 c o (sm3 c o (smt c o e))
      refine ⟨_, hD4, szt (by rw [List.length_map, List.length_replicate]; omega), ?_, fun c o e => updn (nonn nD e) (sm5 c o e)⟩
      rw [upd_same, List.replicate_succ', List.map_append]
      rfl
    · rintro H1 ⟨hD, sm⟩
      refine ⟨sm _ _ upd_same, ?_⟩
      refine ⟨_, _, rfl, SqL.of (updn hDb hD), ?_⟩
      have e : (List.replicate (tk m).length true).all id = true := by
        rw [List.all_eq_true]
        intro x hx
        exact List.eq_of_mem_replicate hx
      rw [e]
      refine k _ fun c o e => ?_
      by_cases hc : c = b
      · rw [hc] at e ⊢
        rw [hb] at e
        rw [upd_same]
        exact e
      · exact updn hc (sm c o (updn hc e))
end
open PySem PySem.Spec PyProof.Rows
open L2 hiding pass0
/-- what of the text is known of the class -/
structure TabC (K : PySem.W.Frag) (C : Addr) : Prop where
  cl : Cls K C
  n1 : NoAttr K C "_width"
  n2 : NoAttr K C "_rows"
  con : ∃ u, Con K C "MOST_ROWS" (.int 40) u
  sf : PySem.W.selfFirst K C = true
/-- the value of a key -/
def getT (m : List (Str × Str)) (k : Str) : Str := ((m.find? fun p => decide (p.1 = k)).map (·.2)).getD Str.empty
/-- the rows in order -/
def srt (m : List (Str × Str)) : List (Str × Str) := (tsort (m.map (·.1))).map fun k => (k, getT m k)
/-- the table at a: its width, its rows m -/
def TabAt (C : Addr) (H : Hp) (a : Addr) (n : Int) (m : List (Str × Str)) : Prop := ∃ dx D, H a = some (.ins C dx [("_width", .int n), ("_rows", .ref D)]) ∧ H D = some (.dK (tk m)) ∧ D ≠ a
@[irreducible] def spInit (C : Addr) : Sp := fun vs H Q _ => ∃ (a dx : Addr) (n : Int) (b : Addr) (m : List (Str × Str)), vs = [.ref a, .int n, .ref b] ∧ H a = some (.ins C dx []) ∧ H b = some (.dK (tk m)) ∧ 1 ≤ n ∧ n ≤ 100 ∧ (∀ p ∈ m, RowOk n p) ∧ (m.map (·.1)).Nodup ∧ m.length ≤ 40 ∧
  ∀ H', (∀ c o, c ≠ a → H c = some o → H' c = some o) → TabAt C H' a n (srt m) → Q .non H'
theorem rows_go {n : Int} {b : Addr} {m : List (Str × Str)} {H : Hp} {Q : VK} {E : XK} (h0 : 1 ≤ n) (h1 : n ≤ 100) (hb : H b = some (.dK (tk m))) (hp : ∀ p ∈ m, RowOk n p) (hz : m.length ≤ 1000) (k : ∀ H', Same H H' → Q (.bl true) H') : spRows [.int n, .ref b] H Q E := by
  unfold spRows
  exact ⟨n, b, m, rfl, h0, h1, hb, hp, hz, k⟩
theorem tk_keys (m : List (Str × Str)) : (tk m).map (·.1) = (m.map (·.1)).map Sum.inr := by
  unfold tk
  rw [List.map_map, List.map_map]
  rfl
theorem tk_len (m : List (Str × Str)) : (tk m).length = m.length := by unfold tk; rw [List.length_map]
theorem tk_val (m : List (Str × Str)) {k : Str} (h : k ∈ m.map (·.1)) : valV (tk m) (Sum.inr k) = some (.str (getT m k)) := by
  induction m with
  | nil => cases h
  | cons p m ih =>
    unfold tk getT valV at *
    by_cases e : p.1 = k
    · rw [List.map_cons, List.find?_cons_of_pos (by simp [e]), List.find?_cons_of_pos (by simp [e])]
      rfl
    · rw [List.map_cons, List.find?_cons_of_neg (by simpa using e), List.find?_cons_of_neg (by simpa using e)]
      refine ih ?_
      rcases List.mem_cons.mp h with q | q
      · exact absurd q.symm e
      · exact q
theorem tk_snoc {m : List (Str × Str)} {k g : Str} (h : k ∉ m.map (·.1)) : putK (tk m) (Sum.inr k) (.str g) = tk (m ++ [(k, g)]) := by
  unfold putK
  rw [if_neg]
  · unfold tk
    rw [List.map_append]
    rfl
  · intro hh
    obtain ⟨q, hq, e⟩ := List.any_eq_true.mp hh
    have e' : q.1 = Sum.inr k := of_decide_eq_true e
    have : (Sum.inr k : Key) ∈ (tk m).map (·.1) := e' ▸ List.mem_map_of_mem hq
    rw [tk_keys] at this
    obtain ⟨z, hz, e2⟩ := List.mem_map.mp this
    cases e2
    exact h hz
section
variable {P : Program} {w : World} {K : PySem.W.Frag} {mg : Str → Option Value} {base : Heap} {f C : Addr} {fd : FuncData}
theorem ok_init {params : Arguments} {dvs : List V} {kws : List (Str × V)} (F : FunD K "__init__" "Table.__init__" params (defBody s_Tableinit) (defScope s_Tableinit) dvs kws f fd) (T : Txt K mg) (TC : TabC K C) (c_check_width : Nm P w K mg base CX0 3 "check_width" s_check_width ["width"] spCW)
    (c_is_rows : Nm P w K mg base CX0 5 "is_rows" s_is_rows ["width", "value"] spRows) : FnG P w K mg base CX0 6 f fd ["self", "width", "rows"] (spInit C) := by
  obtain ⟨oc, od, dV, kV, doc, pm, an, cdv, ct, osl, rfl, lk, hcd, _, _⟩ := F.ex
  refine fnG_core lk hcd sc_Tableinit (fun vs H Q E h => ?_) fun A outer s H vs Q E hr h => ?_
  · unfold spInit at h
    obtain ⟨a, dx, n, b, m, rfl, _⟩ := h
    rfl
  · unfold spInit at h
    obtain ⟨a, dx, n, b, m, rfl, ha, hb, h0, h1, hp, hnd, hz, k⟩ := h
    refine ⟨_, (pss_cons (ps_expr (pe_g c_check_width hr (by decide) L2.pass0 bp_check_width (by rfl) (pa_cons (pv 1) pa_nil)))
      (pss_cons (ps_if (pt_cmpR op_isN (pv 2) pe_non (nomark _)) (pss_one (ps_set (i := 2) sc_Tableinit.nd rfl (by first | exact Or.inl rfl | exact Or.inr rfl) pe_dnewK)) pss_nil)
      (pss_cons (ps_if (pt_not (pt_val (pe_g c_is_rows hr (by decide) L2.pass0 bp_is_rows (by rfl) (pa_cons (pv 1) (pa_cons (pv 2) pa_nil))))) (pss_one ps_never) pss_nil)
      (pss_cons (ps_if (pt_cmpR op_gt (pe_callB call_lenD (by rfl) T.b_len PySem.boot_len (pa_cons (pv 2) pa_nil)) (pe_con (pv 0) (by rfl)) (nomark _)) (pss_one ps_never) pss_nil)
      (pss_cons (ps_fld (pv 0) (pv 1) rfl)
      (pss_one (ps_fld (pv 0) (pe_dc (own := [("stretch", 3)]) (g := (gName 3)) (by rfl) sc_Tableinit.nd (pi_listK (K := K) rfl (pe_callBK (cr_sortKD hr.u rfl) (by rfl) T.b_sorted (by decide +kernel) (pa_cons (pv 2) pa_nil) (pk_cons (pe_ty "str" (by rfl) T.b_str (by decide +kernel)) pk_nil))) (blkOk_by (own := [("stretch", 3)]) (N := ["self", "width", "rows", "stretch"]) (sc := defScope s_Tableinit) (by decide +kernel)) (fun _ _ _ _ _ => (pg_name (i := 3) sc_Tableinit.nd rfl (by first | exact Or.inl rfl | exact Or.inr rfl))) (fun _ _ _ _ _ => pts_nil) (fun _ _ _ _ _ => (pv 3)) (fun _ _ _ _ _ => (pe_dget hr.u1 (pv 2) (pv 3) (fun _ _ => rfl)))) rfl))))))), ?_⟩
    repeat walk_at "s1"
    refine cw_go h0 h1 fun H1 sm1 => ?_
    have ha1 := sm1 _ _ ha
    have hb1 := sm1 _ _ hb
    show tSeq _ _ _ _ _
    refine ⟨_, rfl, ?_⟩
    refine ⟨rfl, ?_⟩
    refine ⟨_, rfl, ?_⟩
    refine iteF ?_
    show tSeq _ _ _ _ _
    refine ⟨_, rfl, ?_⟩
    refine ⟨_, rfl, ?_⟩
    refine rows_go h0 h1 hb1 hp (by omega) fun H2 sm2 => ?_
    have ha2 := sm2 _ _ ha1
    have hb2 := sm2 _ _ hb1
    refine ⟨_, rfl, ?_⟩
    refine iteF ?_
    show tSeq _ _ _ _ _
    refine ⟨_, rfl, ?_⟩
    refine ⟨b, tk m, rfl, hb2, ?_⟩
    refine ⟨_, rfl, ?_⟩
    obtain ⟨u, hcon⟩ := TC.con
    refine ⟨a, C, dx, [], .int 40, u, rfl, ha2, TC.cl, hcon, rfl, ?_⟩
    refine ⟨_, _, rfl, rfl, ?_⟩
    refine ⟨_, rfl, ?_⟩
    rw [show decide ((40 : Int) < ((tk m).length : Int)) = false from decide_eq_false (by rw [tk_len]; omega)]
    refine iteF ?_
    show tSeq _ _ _ _ _
    refine ⟨_, rfl, ?_⟩
    refine ⟨_, rfl, ?_⟩
    refine ⟨a, C, dx, [], rfl, ha2, TC.cl, TC.n1, by decide, ?_⟩
    have hba : b ≠ a := fun z => by rw [z, ha2] at hb2; cases hb2
    have hb3 : upd H2 a (.ins C dx (putF "_width" (.int n) [])) b = some (.dK (tk m)) := updn hba hb2
    dsimp only
    refine ⟨_, rfl, ?_⟩
    refine ⟨b, tk m, m.map (·.1), rfl, rfl, .inl hb3, tk_keys m, fun L nL => ?_⟩
    refine ⟨L, rfl, ⟨_, SqL.of upd_same⟩, fun D nD => ?_⟩
    generalize hT : tsort (m.map (·.1)) = ts at nL nD ⊢
    have hperm : ts.Perm (m.map (·.1)) := by rw [← hT]; exact tsort_perm _
    have htn : ts.Nodup := hperm.nodup_iff.mpr hnd
    have htl : ts.length ≤ 40 := by rw [hperm.length_eq, List.length_map]; exact hz
    have hLa : L ≠ a := fun z => by rw [z, upd_same] at nL; cases nL
    have hDL : D ≠ L := fun z => by rw [z, upd_same] at nD; cases nD
    have hDa : D ≠ a := fun z => by rw [z, upd_ne (Ne.symm hLa), upd_same] at nD; cases nD
    have hLb : b ≠ L := nonn nL hb3
    have nD2 : H2 D = none := by
      rw [upd_ne hDL, upd_ne hDa] at nD
      exact nD
    have hDb : b ≠ D := nonn nD (updn hLb hb3)
    refine dc_it walk_list (fun i H4 => H4 D = some (.dK (tk ((ts.take i).map fun k => (k, getT m k)))) ∧ H4 L = some (.lst (ts.map V.str)) ∧ H4 a = some (.ins C dx [("_width", .int n)]) ∧ (∀ c o, c ≠ a → H2 c = some o → H4 c = some o)) ?_ (fun i H4 _ h => SqL.of h.2.1) ?_ ?_
    · refine ⟨upd_same, updn (Ne.symm hDL) upd_same, updn (Ne.symm hDa) (updn (Ne.symm hLa) upd_same), fun c o hc e => ?_⟩
      have e1 : upd H2 a (.ins C dx (putF "_width" (.int n) [])) c = some o := updn hc e
      have e2 := updn (o := .lst (ts.map V.str)) (nonn nL e1) e1
      exact updn (nonn nD e2) e2
    · rintro i x H4 H5 hi ⟨hD, hL, hA, hk⟩ ⟨rfl, hx⟩
      obtain ⟨key, hkey, rfl⟩ : ∃ key, ts[i]? = some key ∧ x = .str key := by
        rw [List.getElem?_map] at hx
        cases e : ts[i]? with
        | none => rw [e] at hx; cases hx
        | some z => rw [e] at hx; exact ⟨z, rfl, (Option.some.inj hx).symm⟩
      refine ⟨rfl, ?_⟩
      dsimp only [tYes]
      rw [if_pos rfl]
      refine ⟨_, rfl, ?_⟩
      have hbH : H5 b = some (.dK (tk m)) := hk b _ hba hb2
      have hmem : key ∈ m.map (·.1) := hperm.mem_iff.mp (List.mem_of_getElem? hkey)
      have hnew : key ∉ ((ts.take i).map fun k => (k, getT m k)).map (·.1) := by
        have e0 : ((ts.take i).map fun k => (k, getT m k)).map (·.1) = ts.take i := by
          rw [List.map_map]
          exact List.map_id' _
        rw [e0]
        intro hin
        have hn : (ts.take (i + 1)).Nodup := (List.take_sublist _ _).nodup htn
        rw [List.take_add_one, hkey] at hn
        exact (List.nodup_append.mp hn).2.2 key hin key (List.mem_singleton.mpr rfl) rfl
      refine ⟨_, rfl, ⟨_, rfl, ⟨b, .str (getT m key), rfl, .inl ⟨tk m, Sum.inr key, .inl hbH, rfl, (tk_val m hmem).symm⟩, ?_⟩⟩⟩
      refine ⟨_, Sum.inr key, rfl, hD, szt (by rw [tk_len, List.length_map, List.length_take]; omega), ?_, updn (Ne.symm hDL) hL, updn (Ne.symm hDa) hA, fun c o hc e => updn (nonn nD2 e) (hk c o hc e)⟩
      rw [upd_same, tk_snoc hnew, List.take_add_one, hkey, List.map_append]
      rfl
    · rintro H4 ⟨hD, hL, hA, hk⟩
      rw [List.length_map, List.take_length] at hD
      refine ⟨_, rfl, ⟨a, C, dx, _, rfl, hA, TC.cl, TC.n2, Nat.le_of_ble_eq_true rfl, ?_⟩⟩
      refine k _ (fun c o hc e => updn hc (hk c o hc (sm2 c o (sm1 c o e)))) ⟨dx, D, upd_same, updn hDa ?_, hDa⟩
      rw [hD]
      unfold srt
      rw [hT]
end
open PySem PySem.Spec PyProof.Rows
open L2 hiding pass0
theorem tk_none (m : List (Str × Str)) {k : Str} (h : k ∉ m.map (·.1)) : valV (tk m) (Sum.inr k) = none := by
  unfold valV
  rw [List.find?_eq_none.mpr]
  · rfl
  · intro q hq e
    have e' : q.1 = Sum.inr k := of_decide_eq_true e
    have : (Sum.inr k : Key) ∈ (tk m).map (·.1) := e' ▸ List.mem_map_of_mem hq
    rw [tk_keys] at this
    obtain ⟨z, hz, e2⟩ := List.mem_map.mp this
    cases e2
    exact h hz
theorem tk_has (m : List (Str × Str)) (k : Str) : (valV (tk m) (Sum.inr k)).isSome = decide (k ∈ m.map (·.1)) := by
  by_cases h : k ∈ m.map (·.1)
  · rw [tk_val m h, decide_eq_true h]
    rfl
  · rw [tk_none m h, decide_eq_false h]
    rfl
@[irreducible] def spWidth (C : Addr) : Sp := fun vs H Q _ => ∃ (a : Addr) (n : Int) (m : List (Str × Str)), vs = [.ref a] ∧ TabAt C H a n m ∧ Q (.int n) H
@[irreducible] def spTRows (C : Addr) : Sp := fun vs H Q _ => ∃ (a : Addr) (n : Int) (m : List (Str × Str)), vs = [.ref a] ∧ TabAt C H a n m ∧ ∀ p, H p = none → Q (.ref p) (upd H p (.dK (tk m)))
open PySem PySem.Spec PyProof.Rows
open L2 hiding pass0
/-- a row put -/
def putT (m : List (Str × Str)) (k g : Str) : List (Str × Str) := if (m.any fun p => decide (p.1 = k)) = true then m.map (fun p => if p.1 = k then (p.1, g) else p) else m ++ [(k, g)]
theorem tk_put (m : List (Str × Str)) (k g : Str) : putK (tk m) (Sum.inr k) (.str g) = tk (putT m k g) := by
  unfold putK putT
  have e : ((tk m).any fun kv => decide (kv.1 = Sum.inr k)) = m.any fun p => decide (p.1 = k) := by
    unfold tk
    rw [List.any_map]
    congr 1
    funext p
    simp
  rw [e]
  split
  · unfold tk
    rw [List.map_map, List.map_map]
    refine List.map_congr_left fun p _ => ?_
    by_cases h : p.1 = k
    · simp [h]
    · simp [h]
  · unfold tk
    rw [List.map_append]
    rfl
theorem put_nodup {m : List (Str × Str)} {k g : Str} (h : (m.map (·.1)).Nodup) : ((putT m k g).map (·.1)).Nodup := by
  unfold putT
  split
  · have e : (m.map fun p => if p.1 = k then (p.1, g) else p).map (·.1) = m.map (·.1) := by
      rw [List.map_map]
      refine List.map_congr_left fun p _ => ?_
      by_cases h : p.1 = k <;> simp [h]
    rw [e]
    exact h
  · rename_i hn
    rw [List.map_append, List.nodup_append]
    refine ⟨h, by simp, fun x hx y hy => ?_⟩
    obtain rfl := List.mem_singleton.mp hy
    rintro rfl
    refine hn (List.any_eq_true.mpr ?_)
    obtain ⟨p, hp, e⟩ := List.mem_map.mp hx
    exact ⟨p, hp, decide_eq_true e⟩
theorem put_ok {n : Int} {m : List (Str × Str)} {k g : Str} (h : ∀ p ∈ m, RowOk n p) (h2 : RowOk n (k, g)) : ∀ p ∈ putT m k g, RowOk n p := by
  unfold putT
  split
  · intro p hp
    obtain ⟨q, hq, rfl⟩ := List.mem_map.mp hp
    by_cases e : q.1 = k
    · rw [if_pos e, e]
      exact h2
    · rw [if_neg e]
      exact h q hq
  · intro p hp
    rcases List.mem_append.mp hp with hp | hp
    · exact h p hp
    · rw [List.mem_singleton.mp hp]
      exact h2
/-- merging a dict into the empty one -/
theorem mrg_app : ∀ (m acc : List (Str × Str)), ((acc ++ m).map (·.1)).Nodup → mergeK (tk acc) (tk m) = tk (acc ++ m)
  | [], acc, _ => by rw [List.append_nil]; rfl
  | p :: m, acc, h => by
    have hf : p.1 ∉ acc.map (·.1) := fun hin => by
      rw [List.map_append, List.nodup_append] at h
      exact h.2.2 p.1 hin p.1 (List.mem_cons_self ..) rfl
    have e : mergeK (tk acc) (tk (p :: m)) = mergeK (putK (tk acc) (Sum.inr p.1) (.str p.2)) (tk m) := rfl
    rw [e, tk_snoc hf, mrg_app m (acc ++ [(p.1, p.2)]) (by rw [List.append_assoc]; exact h), List.append_assoc]
    rfl
theorem mrg_nil {m : List (Str × Str)} (h : (m.map (·.1)).Nodup) : mergeK [] (tk m) = tk m := mrg_app m [] h
structure TabOk (n : Int) (m : List (Str × Str)) : Prop where
  w0 : 1 ≤ n
  w1 : n ≤ 100
  rows : ∀ p ∈ m, RowOk n p
  nd : (m.map (·.1)).Nodup
  few : m.length ≤ 40
theorem init_go {C a dx b : Addr} {n : Int} {m : List (Str × Str)} {H : Hp} {Q : VK} {E : XK} (ha : H a = some (.ins C dx [])) (hb : H b = some (.dK (tk m))) (ok : TabOk n m) (k : ∀ H', (∀ c o, c ≠ a → H c = some o → H' c = some o) → TabAt C H' a n (srt m) → Q .non H') : spInit C [.ref a, .int n, .ref b] H Q E := by
  unfold spInit
  exact ⟨a, dx, n, b, m, rfl, ha, hb, ok.w0, ok.w1, ok.rows, ok.nd, ok.few, k⟩
theorem b_table {P : Program} {w : World} {K : PySem.W.Frag} {mg : Str → Option Value} {base : Heap} {f C : Addr} {fd : FuncData} (F : FunD K "__init__" "Table.__init__" (defArgs s_Tableinit) (defBody s_Tableinit) (defScope s_Tableinit) [.non] [] f fd) (M : Mk K C f) (hm : mg "Table" = some (.ref C))
    (ok : FnG P w K mg base CX0 6 f fd ["self", "width", "rows"] (spInit C)) : BndI P w K mg base CX0 6 "Table" C ["self", "width", "rows"] (spInit C) 2 [] (fun us _ => us) := by
  obtain ⟨its, hb⟩ := F.kbindsD (ps := ["self", "width", "rows"]) 3 [] (fun us _ _ => us) (by simp) (fun r _ _ => r) (fun T kV doc pm an cdv ct us its ws h1 h2 h3 => by
    match us, its, ws, h1, h2, h3 with
    | [a, b, c], [d], [], _, _, _ => exact ⟨_, rfl, rfl⟩)
  exact ⟨f, fd, _, M, hm, ok, hb⟩
open PySem PySem.Spec PyProof.Rows
open L2 hiding pass0
def px (z : Str) (k : Nat) : Str := SX.S (z.cps.toList.take k)
theorem cut_px (z : Str) {d : Int} {k : Nat} (h : d = k) : cutS z none (some d) = px z k := by
  subst h
  show SX.S _ = SX.S _
  refine congrArg SX.S ?_
  show (z.cps.toList.drop 0).take (HT.sIx z.length z.length (some (k : Int)) - 0) = z.cps.toList.take k
  rw [HT.sIx_nat, List.drop_zero, Nat.sub_zero]
  have hl : z.cps.toList.length = z.length := Array.length_toList
  by_cases c : k ≤ z.length
  · rw [Nat.min_eq_left c]
  · rw [List.take_of_length_le (by omega), List.take_of_length_le (by omega)]
theorem px_len (z : Str) (k : Nat) : (px z k).length = min k z.length := by
  unfold px
  rw [SX.S_len, List.length_take, Array.length_toList]
  rfl
def look (m : List (Str × Str)) (k : Str) : Option Str := (m.find? fun p => decide (p.1 = k)).map (·.2)
theorem look_get (m : List (Str × Str)) (k : Str) : getT m k = (look m k).getD Str.empty := rfl
theorem look_key {m : List (Str × Str)} {k : Str} : (look m k).isSome = decide (k ∈ m.map (·.1)) := by
  unfold look
  rw [Option.isSome_map]
  by_cases h : k ∈ m.map (·.1)
  · rw [decide_eq_true h]
    obtain ⟨p, hp, e⟩ := List.mem_map.mp h
    exact List.find?_isSome.mpr ⟨p, hp, decide_eq_true e⟩
  · rw [decide_eq_false h]
    refine Option.isSome_eq_false_iff.mpr ?_
    rw [Option.isNone_iff_eq_none]
    exact List.find?_eq_none.mpr fun p hp e => h (List.mem_map.mpr ⟨p, hp, of_decide_eq_true e⟩)
/-- the longest beginning with fewer than so many signs that is told -/
def lbP (f : Str → Option Str) (z : Str) : Nat → Option Str
  | 0 => none
  | i + 1 => if (f (px z i)).isSome = true then some (px z i) else lbP f z i
theorem lbP_no {f : Str → Option Str} {z : Str} {i : Nat} (h : (f (px z i)).isSome = false) : lbP f z (i + 1) = lbP f z i := by
  show (if _ then _ else _) = _
  rw [h]
  rfl
theorem lbP_yes {f : Str → Option Str} {z : Str} {i : Nat} (h : (f (px z i)).isSome = true) : lbP f z (i + 1) = some (px z i) := by
  show (if _ then _ else _) = _
  rw [h]
  rfl
theorem lbP_some {f : Str → Option Str} {z x : Str} : ∀ {i : Nat}, lbP f z i = some x → (f x).isSome = true ∧ ∃ j, j < i ∧ x = px z j
  | i + 1, h => by
    by_cases c : (f (px z i)).isSome = true
    · rw [lbP_yes c] at h
      cases h
      exact ⟨c, i, Nat.lt_succ_self _, rfl⟩
    · rw [lbP_no (by simpa using c)] at h
      obtain ⟨a, j, hj, e⟩ := lbP_some h
      exact ⟨a, j, by omega, e⟩
def lb (f : Str → Option Str) (z : Str) : Option Str := lbP f z (z.length + 1)
def oV : Option Str → V
  | some x => .str x
  | none => .non
def goalT (f : Str → Option Str) (z : Str) : Str := match lb f z with
  | some x => (f x).getD Str.empty
  | none => "hole"
theorem look_put (m : List (Str × Str)) (k g x : Str) : look (putT m k g) x = if x = k then some g else look m x := by
  unfold putT look
  split
  · rename_i h
    rw [List.find?_map, Option.map_map]
    have e : ((fun p : Str × Str => decide (p.1 = x)) ∘ fun p => if p.1 = k then (p.1, g) else p) = fun p => decide (p.1 = x) := by
      funext p
      by_cases q : p.1 = k <;> simp [q]
    rw [e]
    cases hf : m.find? (fun p => decide (p.1 = x)) with
    | none =>
      by_cases q : x = k
      · subst q
        obtain ⟨p, hp, e⟩ := List.any_eq_true.mp h
        exact absurd e (List.find?_eq_none.mp hf p hp)
      · rw [if_neg q]
        rfl
    | some p =>
      have e1 : p.1 = x := by simpa using List.find?_some hf
      by_cases q : x = k
      · rw [if_pos q]
        show some (if p.1 = k then (p.1, g) else p).2 = some g
        rw [if_pos (e1.trans q)]
      · rw [if_neg q]
        show some (if p.1 = k then (p.1, g) else p).2 = some p.2
        rw [if_neg (fun r => q (e1.symm.trans r))]
  · rename_i h
    rw [List.find?_append]
    by_cases q : x = k
    · subst q
      have e : m.find? (fun p => decide (p.1 = x)) = none := List.find?_eq_none.mpr fun p hp e => h (List.any_eq_true.mpr ⟨p, hp, e⟩)
      rw [e, if_pos rfl]
      simp
    · rw [if_neg q]
      have e : [(k, g)].find? (fun p => decide (p.1 = x)) = none := by
        simp [Ne.symm q]
      rw [e, Option.or_none]
theorem look_srt {m : List (Str × Str)} (k : Str) : look (srt m) k = look m k := by
  unfold look srt
  rw [List.find?_map, Option.map_map]
  show ((tsort (m.map (·.1))).find? (fun x => decide (x = k))).map (fun x => getT m x) = _
  by_cases h : k ∈ m.map (·.1)
  · have h2 : k ∈ tsort (m.map (·.1)) := (tsort_perm _).mem_iff.mpr h
    have e : (tsort (m.map (·.1))).find? (fun x => decide (x = k)) = some k := by
      cases hf : (tsort (m.map (·.1))).find? (fun x => decide (x = k)) with
      | none => exact absurd (decide_eq_true rfl) (List.find?_eq_none.mp hf k h2)
      | some y => rw [show y = k by simpa using List.find?_some hf]
    rw [e]
    show some (getT m k) = look m k
    have := look_key (m := m) (k := k)
    rw [decide_eq_true h] at this
    rw [look_get]
    cases hl : look m k with
    | none => rw [hl] at this; cases this
    | some v => rfl
  · have e : (tsort (m.map (·.1))).find? (fun x => decide (x = k)) = none := List.find?_eq_none.mpr fun x hx e => h (by rw [← of_decide_eq_true e]; exact (tsort_perm _).mem_iff.mp hx)
    have := look_key (m := m) (k := k)
    rw [decide_eq_false h] at this
    rw [e]
    show none = look m k
    cases hl : look m k with
    | none => rfl
    | some v => rw [hl] at this; cases this
theorem look_has (m : List (Str × Str)) (k : Str) : (valV (tk m) (Sum.inr k)).isSome = (look m k).isSome := by rw [tk_has, look_key]
@[irreducible] def spLong : Sp := fun vs H Q _ => ∃ (D : Addr) (z : Str) (m : List (Str × Str)), vs = [.ref D, .str z] ∧ H D = some (.dK (tk m)) ∧ z.length ≤ 1000 ∧ ∀ H', Same H H' → Q (oV (lb (look m) z)) H'
@[irreducible] def spRowOf (C : Addr) : Sp := fun vs H Q _ => ∃ (a : Addr) (n : Nat) (m : List (Str × Str)) (z : Str), vs = [.ref a, .str z] ∧ TabAt C H a n m ∧ 1 ≤ n ∧ n ≤ 100 ∧ Bits z ∧ z.length = n ∧ ∀ H', Same H H' → Q (oV (lb (look m) z)) H'
@[irreducible] def spCall (C : Addr) : Sp := fun vs H Q _ => ∃ (a : Addr) (n : Nat) (m : List (Str × Str)) (z : Str), vs = [.ref a, .str z] ∧ TabAt C H a n m ∧ 1 ≤ n ∧ n ≤ 100 ∧ Bits z ∧ z.length = n ∧ ∀ H', Same H H' → Q (.str (goalT (look m) z)) H'
theorem adr_ok {n : Nat} {z : Str} (hz : Bits z) (lz : z.length = n) : adrB n z = true := by
  show (bitsB z && decide ((z.length : Int) = n)) = true
  rw [bitsB_of hz, lz, decide_eq_true rfl]
  rfl
theorem long_go {D : Addr} {z : Str} {m : List (Str × Str)} {H : Hp} {Q : VK} {E : XK} (hD : H D = some (.dK (tk m))) (hz : z.length ≤ 1000) (k : ∀ H', Same H H' → Q (oV (lb (look m) z)) H') : spLong [.ref D, .str z] H Q E := by
  unfold spLong
  exact ⟨D, z, m, rfl, hD, hz, k⟩
theorem rowof_go {C a : Addr} {z : Str} {n : Nat} {m : List (Str × Str)} {H : Hp} {Q : VK} {E : XK} (ht : TabAt C H a n m) (h0 : 1 ≤ n) (h1 : n ≤ 100) (hz : Bits z) (lz : z.length = n) (k : ∀ H', Same H H' → Q (oV (lb (look m) z)) H') : spRowOf C [.ref a, .str z] H Q E := by
  unfold spRowOf
  exact ⟨a, n, m, z, rfl, ht, h0, h1, hz, lz, k⟩
theorem call_go {C a : Addr} {z : Str} {n : Nat} {m : List (Str × Str)} {H : Hp} {Q : VK} {E : XK} (ht : TabAt C H a n m) (h0 : 1 ≤ n) (h1 : n ≤ 100) (hz : Bits z) (lz : z.length = n) (k : ∀ H', Same H H' → Q (.str (goalT (look m) z)) H') : spCall C [.ref a, .str z] H Q E := by
  unfold spCall
  exact ⟨a, n, m, z, rfl, ht, h0, h1, hz, lz, k⟩
section
variable {P : Program} {w : World} {K : PySem.W.Frag} {mg : Str → Option Value} {base : Heap} {f C : Addr} {fd : FuncData}
theorem ok_long (F : Fun K "longest_beginning" "longest_beginning" s_longest_beginning f fd) (hm : mg "longest_beginning" = some (.ref f)) (T : Txt K mg) : Nm P w K mg base CX0 1 "longest_beginning" s_longest_beginning ["known", "bits"] (spLong) := by
  refine nm_of0 F hm sc_longest_beginning (fun vs H Q E h => ?_) fun cdv A outer s H vs Q E hr h => ?_
  · unfold spLong at h
    obtain ⟨D, z, m, rfl, hD, hz, k⟩ := h
    subst_vars
    rfl
  unfold spLong at h
  obtain ⟨D, z, m, rfl, hD, hz, k⟩ := h
  refine ⟨_, (pss_cons (ps_for PassesOwn.never rfl (pi_range3 (by rfl) T.b_range (pa_cons (pe_callB (call_lenK (K := K) rfl) (by rfl) T.b_len PySem.boot_len (pa_cons (pv 1) pa_nil)) (pa_cons (pe_un un_neg pe_int) (pa_cons (pe_un un_neg pe_int) pa_nil)))) (pg_name (i := 2) sc_longest_beginning.nd rfl (by first | exact Or.inl rfl | exact Or.inr rfl)) (pss_one (ps_if (pt_cmp (pc_din hr.u1 (pe_slice sl_str (pv 1) po_none (po_some (pv 2))) (pv 0))) (pss_one (ps_ret (pe_slice sl_str (pv 1) po_none (po_some (pv 2))))) pss_nil)))
      (pss_one (ps_ret pe_non))), ?_⟩
  have en : ((z.length : Int) - (-1)).toNat = z.length + 1 := by omega
  repeat walk_at "s1"
  refine ⟨_, _, _, _, rfl, RgC.neg (by omega) (by omega) (by omega) (by omega), ?_⟩
  rw [en]
  refine for_it walk_rangeC (fun i σ' H' => ∃ x2, σ' = [some (.ref D), some (.str z), x2] ∧ Same H H' ∧ lb (look m) z = lbP (look m) z (z.length + 1 - i)) ⟨_, rfl, Same.refl H, rfl⟩ (fun _ _ _ _ _ => trivial) ?_ ?_
  · rintro i x σ' H1 H2 hi ⟨x2, rfl, sm, hl⟩ ⟨rfl, rfl⟩
    repeat walk_at "s1"
    rw [cut_px z (k := z.length - i) (by omega)]
    refine ⟨D, _, rfl, .inl ⟨tk m, Sum.inr (px z (z.length - i)), .inl (sm _ _ hD), rfl, rfl⟩, ?_⟩
    rw [look_has]
    rw [show z.length + 1 - i = (z.length - i) + 1 by omega] at hl
    cases hc : (look m (px z (z.length - i))).isSome with
    | true =>
      rw [lbP_yes hc] at hl
      refine ⟨_, rfl, iteT ?_⟩
      repeat walk_at "s1"
      rw [cut_px z (k := z.length - i) (by omega)]
      have hk := k _ sm
      rw [hl] at hk
      exact hk
    | false =>
      rw [lbP_no hc] at hl
      refine ⟨_, rfl, iteF ?_⟩
      refine ⟨_, rfl, sm, ?_⟩
      rw [show z.length + 1 - (i + 1) = z.length - i by omega]
      exact hl
  · rintro σ' H1 ⟨x2, rfl, sm, hl⟩
    rw [Nat.sub_self] at hl
    have hk := k _ sm
    rw [hl] at hk
    exact hk
theorem ok_rowof (F : Fun K "row" "Table.row" s_Table_row f fd) (hm : Meth K C "row" f) (T : Txt K mg) (TC : TabC K C) (c_check_address : Nm P w K mg base CX0 6 "check_address" s_check_address ["width", "address"] (spCT adrB)) (c_longest_beginning : Nm P w K mg base CX0 1 "longest_beginning" s_longest_beginning ["known", "bits"] spLong) :
    Mth P w K mg base CX0 7 C "row" "Table.row" s_Table_row ["self", "address"] (spRowOf C) := by
  refine mth_of0 F hm sc_Table_row (fun vs H Q E h => ?_) fun cdv A outer s H vs Q E hr h => ?_
  · unfold spRowOf at h
    obtain ⟨a, n, m, z, rfl, _⟩ := h
    rfl
  · unfold spRowOf at h
    obtain ⟨a, n, m, z, rfl, ⟨dx, D, ha, hD, hne⟩, h0, h1, hz, lz, k⟩ := h
    refine ⟨_, (pss_cons (ps_expr (pe_g c_check_address hr (by decide) L2.pass0 bp_check_address (by rfl) (pa_cons (pe_fld (pv 0) (by rfl)) (pa_cons (pv 1) pa_nil))))
      (pss_one (ps_ret (pe_g c_longest_beginning hr (by decide) L2.pass0 bp_longest_beginning (by rfl) (pa_cons (pe_fld (pv 0) (by rfl)) (pa_cons (pv 1) pa_nil)))))), ?_⟩
    repeat walk_at "s1"
    refine ⟨a, C, dx, _, .int n, rfl, ha, TC.cl, TC.n1, rfl, ?_⟩
    repeat walk_at "s1"
    refine ct_go (by omega) (by omega) (by omega) (adr_ok hz lz) fun H1 sm1 => ?_
    refine ⟨_, rfl, ⟨a, C, dx, _, .ref D, rfl, sm1 _ _ ha, TC.cl, TC.n2, rfl, ?_⟩⟩
    repeat walk_at "s1"
    refine long_go (sm1 _ _ hD) (by omega) fun H2 sm2 => ?_
    exact k _ (sm1.trans sm2)
theorem ok_call (F : Fun K "__call__" "Table.__call__" s_Table__call__ f fd) (hm : Meth K C "__call__" f) (T : Txt K mg) (TC : TabC K C) (c_Table_row : Mth P w K mg base CX0 7 C "row" "Table.row" s_Table_row ["self", "address"] (spRowOf C)) :
    Mth P w K mg base CX0 8 C "__call__" "Table.__call__" s_Table__call__ ["self", "address"] (spCall C) := by
  refine mth_of0 F hm sc_Table__call__ (fun vs H Q E h => ?_) fun cdv A outer s H vs Q E hr h => ?_
  · unfold spCall at h
    obtain ⟨a, n, m, z, rfl, _⟩ := h
    rfl
  · unfold spCall at h
    obtain ⟨a, n, m, z, rfl, ⟨dx, D, ha, hD, hne⟩, h0, h1, hz, lz, k⟩ := h
    refine ⟨_, (pss_cons (ps_set (i := 2) sc_Table__call__.nd rfl (by first | exact Or.inl rfl | exact Or.inr rfl) (pe_m c_Table_row TC.cl hr (by decide) L2.pass0 bm_Table_row (pv 0) (pa_cons (pv 1) pa_nil)))
      (pss_cons (ps_if (pt_cmpR op_isN (pv 2) pe_non (nomark _)) (pss_one (ps_ret pe_str)) pss_nil)
      (pss_one (ps_ret (pe_dget hr.u1 (pe_fld (pv 0) (by rfl)) (pv 2) (fun _ _ => rfl)))))), ?_⟩
    refine ⟨_, rfl, ⟨⟨a, dx, _, rfl, ha, rfl⟩, ?_⟩⟩
    repeat walk_at "s1"
    refine rowof_go ⟨dx, D, ha, hD, hne⟩ h0 h1 hz lz fun H1 sm1 => ?_
    have ha1 := sm1 _ _ ha
    have hD1 := sm1 _ _ hD
    have hk := k _ sm1
    unfold goalT at hk
    cases hl : lb (look m) z with
    | none =>
      rw [hl] at hk
      repeat walk_at "s1"
      refine iteT ?_
      exact hk
    | some x =>
      rw [hl] at hk
      repeat walk_at "s1"
      refine ⟨a, C, dx, _, .ref D, rfl, ha1, TC.cl, TC.n2, rfl, ?_⟩
      have hx := (lbP_some hl).1
      rw [look_key] at hx
      refine ⟨_, rfl, ⟨D, .str (getT m x), rfl, .inl ⟨tk m, Sum.inr x, .inl hD1, rfl, (tk_val m (of_decide_eq_true hx)).symm⟩, ?_⟩⟩
      exact hk
end
open PySem PySem.Spec PyProof.Rows
open L2 hiding pass0
section
variable {P : Program} {w : World} {K : PySem.W.Frag} {mg : Str → Option Value} {base : Heap} {f C p0 : Addr} {fd : FuncData}
theorem ok_width (F : Fun K "width" "Table.width" s_Table_width f fd) (hp : PropOf K C "width" p0 f) (T : Txt K mg) (TC : TabC K C) : Prp P w K mg base CX0 1 C "width" "Table.width" s_Table_width ["self"] (spWidth C) := by
  refine prp_of F hp sc_Table_width (fun vs H Q E h => ?_) fun cdv A outer s H vs Q E hr h => ?_
  · unfold spWidth at h
    obtain ⟨a, n, m, rfl, _⟩ := h
    rfl
  · unfold spWidth at h
    obtain ⟨a, n, m, rfl, ⟨dx, D, ha, hD, hne⟩, k⟩ := h
    refine ⟨_, (pss_one (ps_ret (pe_fld (pv 0) (by rfl)))), ?_⟩
    exact ⟨_, rfl, ⟨a, C, dx, _, .int n, rfl, ha, TC.cl, TC.n1, rfl, k⟩⟩
theorem ok_trows (F : Fun K "rows" "Table.rows" s_Table_rows f fd) (hm : Meth K C "rows" f) (T : Txt K mg) (TC : TabC K C) : Mth P w K mg base CX0 1 C "rows" "Table.rows" s_Table_rows ["self"] (spTRows C) := by
  refine mth_of F hm sc_Table_rows (fun vs H Q E h => ?_) fun cdv A outer s H vs Q E hr h => ?_
  · unfold spTRows at h
    obtain ⟨a, n, m, rfl, _⟩ := h
    rfl
  · unfold spTRows at h
    obtain ⟨a, n, m, rfl, ⟨dx, D, ha, hD, hne⟩, k⟩ := h
    refine ⟨_, (pss_one (ps_ret (pe_callTy call_dictD (by rfl) T.b_dict (by decide +kernel) (pa_cons (pe_fld (pv 0) (by rfl)) pa_nil)))), ?_⟩
    refine ⟨_, rfl, ⟨a, C, dx, _, .ref D, rfl, ha, TC.cl, TC.n2, rfl, ?_⟩⟩
    exact ⟨D, tk m, rfl, .inl hD, k⟩
end
open PySem PySem.Spec PyProof.Rows
open L2 hiding pass0
theorem look_mem {m : List (Str × Str)} {x g : Str} (h : look m x = some g) : ∃ p ∈ m, p.1 = x ∧ p.2 = g := by
  unfold look at h
  cases hf : m.find? (fun p => decide (p.1 = x)) with
  | none => rw [hf] at h; cases h
  | some p =>
    rw [hf] at h
    exact ⟨p, List.mem_of_find?_eq_some hf, by simpa using List.find?_some hf, Option.some.inj h⟩
theorem Go.of {p : Addr} {H H' : Hp} (h : PotAt H p) (s : Same H H') : Go p H H' := by
  obtain ⟨a, b, e, r⟩ := h
  exact ⟨⟨a, b, s _ _ e, r⟩, fun c o e _ => s c o e⟩
theorem Go.dk {p M : Addr} {H H' : Hp} {kvs : List (Key × V)} (hp : PotAt H p) (g : Go p H H') (h : H M = some (.dK kvs)) : H' M = some (.dK kvs) := by
  refine g.kp h fun q => ?_
  obtain ⟨a, b, e, _⟩ := hp
  rw [q, e] at h
  cases h
theorem Go.tp {p t : Addr} {H H' : Hp} {xs : List V} (hp : PotAt H p) (g : Go p H H') (h : H t = some (.tup xs)) : H' t = some (.tup xs) := by
  refine g.kp h fun q => ?_
  obtain ⟨a, b, e, _⟩ := hp
  rw [q, e] at h
  cases h
theorem Go.tab {p C a : Addr} {n : Int} {m : List (Str × Str)} {H H' : Hp} (hp : PotAt H p) (g : Go p H H') (h : TabAt C H a n m) : TabAt C H' a n m := by
  obtain ⟨dx, D, ha, hD, hne⟩ := h
  refine ⟨dx, D, g.kp ha fun q => ?_, g.dk hp hD, hne⟩
  obtain ⟨x, y, e, _⟩ := hp
  rw [q, e] at ha
  cases ha
theorem look_of {m : List (Str × Str)} : ∀ {q : Str × Str}, (m.map (·.1)).Nodup → q ∈ m → look m q.1 = some q.2 := by
  induction m with
  | nil => intro q _ h; cases h
  | cons p r ih =>
    intro q hn hq
    have hn' := List.nodup_cons.mp hn
    unfold look
    rcases List.mem_cons.mp hq with h | h
    · rw [h, List.find?_cons_of_pos (by simp)]
      rfl
    · have hne : ¬ p.1 = q.1 := fun e => hn'.1 (List.mem_map.mpr ⟨q, h, e.symm⟩)
      rw [List.find?_cons_of_neg (by simpa using hne)]
      exact ih hn'.2 h
theorem get_of {m : List (Str × Str)} {q : Str × Str} (hn : (m.map (·.1)).Nodup) (hq : q ∈ m) : getT m q.1 = q.2 := by
  rw [look_get, look_of hn hq]
  rfl
theorem srt_keys (m : List (Str × Str)) : (srt m).map (·.1) = tsort (m.map (·.1)) := by
  unfold srt
  rw [List.map_map]
  exact List.map_id' _
theorem srt_ok {n : Int} {m : List (Str × Str)} (ok : TabOk n m) : TabOk n (srt m) := by
  refine ⟨ok.w0, ok.w1, fun p hp => ?_, ?_, ?_⟩
  · obtain ⟨k, hk, rfl⟩ := List.mem_map.mp hp
    have hk2 := (tsort_perm _).mem_iff.mp hk
    obtain ⟨q, hq, rfl⟩ := List.mem_map.mp hk2
    rw [get_of ok.nd hq]
    exact ok.rows q hq
  · rw [srt_keys]
    exact (tsort_perm _).nodup_iff.mpr ok.nd
  · unfold srt
    rw [List.length_map, (tsort_perm _).length_eq, List.length_map]
    exact ok.few
theorem put_len (m : List (Str × Str)) (k g : Str) : (putT m k g).length ≤ m.length + 1 := by
  unfold putT
  split
  · rw [List.length_map]; omega
  · rw [List.length_append]; exact Nat.le_refl _
/-- tuples of two texts at these places -/
inductive Tq (H : Hp) : List Addr → List (Str × Str) → Prop
  | nil : Tq H [] []
  | cons {a : Addr} {q : Str × Str} {ts : List Addr} {m : List (Str × Str)} : H a = some (.tup [.str q.1, .str q.2]) → Tq H ts m → Tq H (a :: ts) (q :: m)
theorem Tq.mono {H H' : Hp} (k : ∀ a l, H a = some (.tup l) → H' a = some (.tup l)) : ∀ {ts : List Addr} {m : List (Str × Str)}, Tq H ts m → Tq H' ts m
  | _, _, .nil => .nil
  | _, _, .cons h r => .cons (k _ _ h) (r.mono k)
theorem Tq.app {H : Hp} {us : List Addr} {qs : List (Str × Str)} (u : Tq H us qs) : ∀ {ts : List Addr} {m : List (Str × Str)}, Tq H ts m → Tq H (ts ++ us) (m ++ qs)
  | _, _, .nil => u
  | _, _, .cons h r => .cons h (Tq.app u r)
theorem Tq.len {H : Hp} : ∀ {ts : List Addr} {m : List (Str × Str)}, Tq H ts m → ts.length = m.length
  | _, _, .nil => rfl
  | _, _, .cons _ r => congrArg (· + 1) r.len
theorem Tq.pair {K : PySem.W.Frag} {H : Hp} : ∀ {ts : List Addr} {m : List (Str × Str)}, Tq H ts m → Paired (fun p (kv : Key × V) => SqT K H p [kV kv.1, kv.2]) ts (tk m)
  | _, _, .nil => .nil
  | _, _, .cons h r => .cons (SqT.of h) r.pair
theorem Tq.of {H : Hp} : ∀ {ts : List Addr} {m : List (Str × Str)}, Paired (fun (t : Addr) (q : Key × V) => H t = some (.tup [kV q.1, q.2])) ts (tk m) → Tq H ts m
  | [], [], _ => .nil
  | a :: ts, q :: m, h => by
    cases h with
    | cons h r => exact .cons h (Tq.of r)
  | [], q :: m, h => by cases h
  | a :: ts, [], h => by cases h
theorem S_app (a b : List Nat) : SX.S a ++ SX.S b = SX.S (a ++ b) := by
  show (⟨a.toArray ++ b.toArray⟩ : Str) = ⟨(a ++ b).toArray⟩
  simp
theorem tk_kV (m : List (Str × Str)) : (tk m).map (fun kv => kV kv.1) = (m.map (·.1)).map V.str := by
  unfold tk
  rw [List.map_map, List.map_map]
  rfl
theorem dps {K : PySem.W.Frag} {H : Hp} : ∀ zs : List Str, DpAll K H (zs.map V.str) (zs.map PyData.str)
  | [] => .nil
  | z :: zs => .cons (.str z) (dps zs)
theorem strs_fit {N : Nat} {zs : List Str} (h : ∀ z ∈ zs, Low z ∧ z.length ≤ N) : Fit ((N + 1) * zs.length) 1 (.list (zs.map PyData.str)) := by
  have := Fit.list (N := N) (D := 0) (ds := zs.map PyData.str) fun d hd => by
    obtain ⟨z, hz, rfl⟩ := List.mem_map.mp hd
    exact .str (h z hz).1 (h z hz).2
  rw [List.length_map] at this
  exact this
theorem eqv_nil (ps : List Str) : PyData.eqv (.list (ps.map PyData.str)) (.list []) = decide (ps = []) := by
  cases ps with
  | nil => rfl
  | cons a r => rfl
theorem sx_tl (z : Str) : sx z.cps.toList = V.str z := by unfold sx; rw [SX.S_tl]
theorem len_tl (z : Str) : z.cps.toList.length = z.length := Array.length_toList
/-- the stretches of rows -/
def kz (m : List (Str × Str)) : List (List Nat) := m.map fun q => q.1.cps.toList
theorem kz_V (m : List (Str × Str)) : (kz m).map sx = (m.map (·.1)).map V.str := by
  unfold kz
  rw [List.map_map, List.map_map]
  exact List.map_congr_left fun q _ => sx_tl q.1
theorem kz_len (m : List (Str × Str)) : (kz m).length = m.length := List.length_map ..
theorem kz_fits {n : Nat} {m : List (Str × Str)} (h : ∀ q ∈ m, RowOk n q) : Fits n (kz m) := fun t ht => by
  obtain ⟨q, hq, rfl⟩ := List.mem_map.mp ht
  have := h q hq
  exact ⟨this.1, by rw [len_tl]; have := this.2.1; omega⟩
theorem kz_mem {m : List (Str × Str)} {x : Str} : x.cps.toList ∈ kz m ↔ x ∈ m.map (·.1) := by
  unfold kz
  rw [List.mem_map, List.mem_map]
  constructor
  · rintro ⟨q, hq, e⟩
    exact ⟨q, hq, by rw [← SX.S_tl q.1, ← SX.S_tl x, e]⟩
  · rintro ⟨q, hq, rfl⟩
    exact ⟨q, hq, rfl⟩
theorem TabAt.to {C a : Addr} {n : Int} {m : List (Str × Str)} {H H' : Hp} (h : TabAt C H a n m) (s : Same H H') : TabAt C H' a n m := by
  obtain ⟨dx, D, ha, hD, hne⟩ := h
  exact ⟨dx, D, s _ _ ha, s _ _ hD, hne⟩
theorem look_kz {m : List (Str × Str)} {t : List Nat} : (look m (SX.S t)).isSome = decide (t ∈ kz m) := by
  rw [look_key]
  exact decide_eq_decide.mpr (by rw [← kz_mem, tl_S])
theorem px_S (z : List Nat) (j : Nat) : px (SX.S z) j = SX.S (z.take j) := by
  unfold px
  rw [tl_S]
open PySem PySem.Spec PyProof.Rows
open L2 hiding pass0
abbrev s_check_free : Stmt := top 40
theorem sc_check_free : FnScope ["width", "free", "position", "stretch"] ["width", "free"] (defScope s_check_free) := ⟨rfl, rfl, rfl, by decide +kernel, rfl, by decide +kernel, by decide +kernel⟩
theorem bp_check_free : BndP "check_free" s_check_free ["width", "free"] := fun _ _ _ _ _ _ us h => match us, h with | [_, _], _ => rfl
abbrev s_is_free : Stmt := top 41
theorem sc_is_free : FnScope ["free", "bits", "stretch"] ["free", "bits"] (defScope s_is_free) := ⟨rfl, rfl, rfl, by decide +kernel, rfl, by decide +kernel, by decide +kernel⟩
theorem bp_is_free : BndP "is_free" s_is_free ["free", "bits"] := fun _ _ _ _ _ _ us h => match us, h with | [_, _], _ => rfl
theorem take_new {ks : List (List Nat)} (h : ks.Nodup) {i : Nat} {t : List Nat} (e : ks[i]? = some t) : t ∉ ks.take i := by
  intro hin
  have hn : (ks.take (i + 1)).Nodup := (List.take_sublist _ _).nodup h
  rw [List.take_add_one, e] at hn
  exact (List.nodup_append.mp hn).2.2 t hin t (List.mem_singleton.mpr rfl) rfl
theorem width_go {C a : Addr} {n : Int} {m : List (Str × Str)} {H : Hp} {Q : VK} {E : XK} (ht : TabAt C H a n m) (k : Q (.int n) H) : spWidth C [.ref a] H Q E := by
  unfold spWidth
  exact ⟨a, n, m, rfl, ht, k⟩
theorem trows_go {C a : Addr} {n : Int} {m : List (Str × Str)} {H : Hp} {Q : VK} {E : XK} (ht : TabAt C H a n m) (k : ∀ p, H p = none → Q (.ref p) (upd H p (.dK (tk m)))) : spTRows C [.ref a] H Q E := by
  unfold spTRows
  exact ⟨a, n, m, rfl, ht, k⟩
theorem _root_.L2.Same.new {H H' : Hp} {a : Addr} {o : HO} (s : Same H H') (n : H' a = none) : Same H (upd H' a o) := fun b u e => updn (nonn n (s _ _ e)) (s _ _ e)
theorem _root_.L2.Same.back {H H' : Hp} {a : Addr} (s : Same H H') (n : H' a = none) : H a = none := by
  cases e : H a with
  | none => rfl
  | some o => rw [s _ _ e] at n; cases n
def KT (K : PySem.W.Frag) (a : Addr) : Prop := ∃ (o : Obj) (its : Array Value) (n : Nat), K.lookup a = some o ∧ o.cls = .type "tuple" ∧ o.data = .seq its n ∧ its.size ≤ sizeLine ∧ Vals [] its.toList
def FrA (K : PySem.W.Frag) (H : Hp) (a : Addr) (fs : List (List Nat)) : Prop := H a = some (.lst (fs.map sx)) ∨ H a = some (.tup (fs.map sx)) ∨ (fs = [] ∧ KT K a)
theorem FrA.same {K : PySem.W.Frag} {H H' : Hp} {a : Addr} {fs : List (List Nat)} (h : FrA K H a fs) (s : Same H H') : FrA K H' a fs := by
  rcases h with h | h | h
  · exact .inl (s _ _ h)
  · exact .inr (.inl (s _ _ h))
  · exact .inr (.inr h)
theorem FrA.seq {K : PySem.W.Frag} {H : Hp} {a : Addr} {fs : List (List Nat)} (h : FrA K H a fs) : (∀ H', Same H H' → SqL K H' a (fs.map sx)) ∨ (∀ H', Same H H' → SqT K H' a (fs.map sx)) := by
  rcases h with h | h | ⟨rfl, h⟩
  · exact .inl fun H' s => SqL.of (s _ _ h)
  · exact .inr fun H' s => SqT.of (s _ _ h)
  · exact .inr fun H' _ => .inr h
theorem FrA.ty {K : PySem.W.Frag} {H : Hp} {a : Addr} {fs : List (List Nat)} (h : FrA K H a fs) : ∃ t, TyX K H (.ref a) t ∧ PySem.W.kitAny K t [.type "list", .type "tuple"] = some true := by
  have e2 : kitB "tuple" "list" = some false := by decide +kernel
  have e3 : kitB "tuple" "tuple" = some true := by decide +kernel
  have e1 : kitB "list" "list" = some true := by decide +kernel
  rcases h with e | e | ⟨_, o, its, n, e, c, _⟩
  · exact ⟨_, .base (.lst e), kitAny_cons (kit_ty e1) (fun z => nomatch z) fun _ => rfl⟩
  · exact ⟨_, .base (.tup e), kitAny_cons (kit_ty e2) (fun _ => kitAny_cons (kit_ty e3) (fun z => nomatch z) fun _ => rfl) fun z => nomatch z⟩
  · exact ⟨_, .kTuple e c, kitAny_cons (kit_ty e2) (fun _ => kitAny_cons (kit_ty e3) (fun z => nomatch z) fun _ => rfl) fun z => nomatch z⟩
theorem cutV_to (xs : List V) {k : Nat} : cutV xs none (some (k : Int)) = xs.take k := by
  unfold cutV
  rw [HT.sIx_none, HT.sIx_nat, Nat.sub_zero, List.drop_zero]
  by_cases h : k ≤ xs.length
  · rw [Nat.min_eq_left h]
  · rw [Nat.min_eq_right (by omega), List.take_length, List.take_of_length_le (by omega)]
theorem any_sx (t : List Nat) (ts : List (List Nat)) : inV (sx t) (ts.map sx) = decide (t ∈ ts) := by
  unfold inV
  rw [List.any_map]
  induction ts with
  | nil => rfl
  | cons a r ih =>
    rw [List.any_cons, ih]
    by_cases e : t = a
    · subst e
      have : ((fun y => eqV y (sx t)) ∘ sx) t = true := by show decide (SX.S t = SX.S t) = true; simp
      rw [this]
      simp
    · have : ((fun y => eqV y (sx t)) ∘ sx) a = false := by
        show decide (SX.S a = SX.S t) = false
        exact decide_eq_false fun q => e (S_inj q).symm
      rw [this]
      simp [e]
theorem flat_sx (ts : List (List Nat)) : (ts.map sx).all flatV = true := by
  rw [List.all_eq_true]
  intro v hv
  obtain ⟨t, _, rfl⟩ := List.mem_map.mp hv
  rfl
theorem starts_S (z f : List Nat) : Txt.startswith (SX.S z) (SX.S f) = decide (f <+: z) := by
  show (decide (0 + (SX.S f).length ≤ (SX.S z).length) && ((z.toArray.extract 0 (0 + (SX.S f).length)) == f.toArray)) = _
  rw [sx_len, sx_len, Nat.zero_add]
  have e : (z.toArray.extract 0 f.length == f.toArray) = decide (z.take f.length = f) := by
    rw [Bool.eq_iff_iff]
    simp
  rw [e, Bool.eq_iff_iff, Bool.and_eq_true, decide_eq_true_iff, decide_eq_true_iff, decide_eq_true_iff]
  constructor
  · rintro ⟨_, h⟩
    rw [← h]
    exact List.take_prefix _ _
  · intro h
    exact ⟨h.length_le, (List.prefix_iff_eq_take.mp h).symm⟩
@[irreducible] def spCF (K : PySem.W.Frag) : Sp := fun vs H Q _ => ∃ (n : Nat) (a : Addr) (fs : List (List Nat)), vs = [.int n, .ref a] ∧ 1 ≤ n ∧ n ≤ 100 ∧ FrA K H a fs ∧ Fits n fs ∧ fs.Nodup ∧ fs.length ≤ 20 ∧ ∀ H', Same H H' → Q .non H'
theorem cf_go {K : PySem.W.Frag} {n : Nat} {a : Addr} {fs : List (List Nat)} {H : Hp} {Q : VK} {E : XK} (h0 : 1 ≤ n) (h1 : n ≤ 100) (ha : FrA K H a fs) (hf : Fits n fs) (nd : fs.Nodup) (hl : fs.length ≤ 20) (k : ∀ H', Same H H' → Q .non H') : spCF K [.int n, .ref a] H Q E := by
  unfold spCF
  exact ⟨n, a, fs, rfl, h0, h1, ha, hf, nd, hl, k⟩
@[irreducible] def spIF (K : PySem.W.Frag) : Sp := fun vs H Q _ => ∃ (a : Addr) (fs : List (List Nat)) (z : List Nat), vs = [.ref a, sx z] ∧ FrA K H a fs ∧ fs.length ≤ 1000 ∧ z.length ≤ 1000 ∧ ∀ H', Same H H' → Q (.bl (M.frB fs z)) H'
theorem if_go {K : PySem.W.Frag} {a : Addr} {fs : List (List Nat)} {z : List Nat} {H : Hp} {Q : VK} {E : XK} (ha : FrA K H a fs) (hl : fs.length ≤ 1000) (hz : z.length ≤ 1000) (k : ∀ H', Same H H' → Q (.bl (M.frB fs z)) H') : spIF K [.ref a, sx z] H Q E := by
  unfold spIF
  exact ⟨a, fs, z, rfl, ha, hl, hz, k⟩
section
variable {P : Program} {w : World} {K : PySem.W.Frag} {mg : Str → Option Value} {base : Heap} {f C : Addr} {fd : FuncData}
theorem ok_check_free (F : Fun K "check_free" "check_free" s_check_free f fd) (hm : mg "check_free" = some (.ref f)) (T : Txt K mg) (cF : ∃ u, mg "MOST_FREE" = some u ∧ RelV (.int 20) u) (c_check_width : Nm P w K mg base CX0 3 "check_width" s_check_width ["width"] (spCW)) (c_is_stretch : Nm P w K mg base CX0 4 "is_stretch" s_is_stretch ["width", "value"] (spIT strB)) : Nm P w K mg base CX0 5 "check_free" s_check_free ["width", "free"] (spCF K) := by
  refine nm_of0 F hm sc_check_free (fun vs H Q E h => ?_) fun cdv A outer s H vs Q E hr h => ?_
  · unfold spCF at h
    obtain ⟨n, a, fs, rfl, h0, h1, ha, hf, nd, hl, k⟩ := h
    subst_vars
    rfl
  unfold spCF at h
  obtain ⟨n, a, fs, rfl, h0, h1, ha, hf, nd, hl, k⟩ := h
  refine ⟨_, (pss_cons (ps_expr (pe_g c_check_width hr (by decide) L2.pass0 bp_check_width (by rfl) (pa_cons (pv 0) pa_nil)))
      (pss_cons (ps_if (pt_not (pt_val (pe_callB call_isiT (by rfl) T.b_isinstance (by decide +kernel) (pa_cons (pv 1) (pa_cons (pe_tup (pa_cons (pe_ty "list" (by rfl) T.b_list (by decide +kernel)) (pa_cons (pe_ty "tuple" (by rfl) T.b_tuple (by decide +kernel)) pa_nil))) pa_nil))))) (pss_one ps_never) pss_nil)
      (pss_cons (ps_for PassesOwn.never rfl (pi_enumA (by rfl) T.b_enumerate (pa_cons (pv 1) pa_nil)) (pg_tup (by rfl) (pgs_cons (pg_name (i := 2) sc_check_free.nd rfl (by first | exact Or.inl rfl | exact Or.inr rfl)) (pgs_cons (pg_name (i := 3) sc_check_free.nd rfl (by first | exact Or.inl rfl | exact Or.inr rfl)) pgs_nil))) (pss_one (ps_if (PW.pt (pw_or (pt_not (pt_val (pe_g c_is_stretch hr (by decide) L2.pass0 bp_is_stretch (by rfl) (pa_cons (pv 0) (pa_cons (pv 3) pa_nil))))) (pw_or1 (pt_cmpR (op_inK (K := K) rfl) (pv 3) (pe_slice (sl_list.or sl_tup) (pv 1) po_none (po_some (pv 2))) rfl)))) (pss_one ps_never) pss_nil)))
      (pss_one (ps_if (pt_cmpR op_gt (pe_callB (call_lenK (K := K) rfl) (by rfl) T.b_len PySem.boot_len (pa_cons (pv 1) pa_nil)) (pe_cst (by rfl) cF) (nomark _)) (pss_one ps_never) pss_nil))))), ?_⟩
  repeat walk_at "s1"
  refine cw_go (by omega) (by omega) fun H1 sm1 => ?_
  have ha1 := ha.same sm1
  refine ⟨_, rfl, ?_⟩
  refine ⟨szl (by show 2 ≤ 1000000; decide), fun T nT => ?_⟩
  have sm2 : Same H (upd H1 T (.tup [.ty "list", .ty "tuple"])) := fun b o e => updn (nonn nT (sm1 b o e)) (sm1 b o e)
  obtain ⟨ty, hty, hk⟩ := (ha.same sm2).ty
  refine ⟨_, T, _, ty, _, true, rfl, upd_same, .cons (.ty _) (.cons (.ty _) .nil), hty, hk, ?_⟩
  refine ⟨_, rfl, ?_⟩
  refine iteF ?_
  generalize upd H1 T (.tup [.ty "list", .ty "tuple"]) = H2 at sm2 hty ⊢
  clear hty hk nT ha1
  have ha2 := (ha.same sm2).seq
  refine ⟨_, rfl, ?_⟩
  have lim : (decide ((20 : Int) < ((fs.map sx).length : Nat))) = false := decide_eq_false (by rw [List.length_map]; omega)
  rcases ha2 with e | e
  · refine ⟨a, fs.map sx, rfl, .inl ⟨e _ (Same.refl _), ?_⟩⟩
    refine for_it (walk_enum (xs := fs.map sx)) (fun i σ' H' => ∃ x2 x3, σ' = [some (.int n), some (.ref a), x2, x3] ∧ Same H2 H') ⟨_, _, rfl, Same.refl H2⟩ (fun i σ' H' _ h => let ⟨_, _, _, s⟩ := h; e _ s) ?_ ?_
    · rintro i x σ' H3 H4 hi ⟨x2, x3, rfl, sm⟩ ⟨T2, y, z, rfl, nT2, rfl, e5, e6⟩
      obtain rfl : y = .int (i : Nat) := (Option.some.inj e5).symm
      obtain ⟨t, ht, rfl⟩ : ∃ t, fs[i]? = some t ∧ z = sx t := by
        dsimp only at e6
        rw [List.getElem?_map] at e6
        cases q : fs[i]? with
        | none => rw [q] at e6; cases e6
        | some t => rw [q] at e6; exact ⟨t, rfl, (Option.some.inj e6).symm⟩
      obtain ⟨hb, hl2⟩ := hf t (List.mem_of_getElem? ht)
      have sm3 : Same H2 (upd H3 T2 (.tup [.int (i : Nat), sx t])) := fun b o q => updn (nonn nT2 (sm b o q)) (sm b o q)
      refine ⟨T2, [.int (i : Nat), sx t], rfl, SqT.of upd_same, rfl, ?_⟩
      refine ⟨_, _, rfl, ?_⟩
      refine ⟨_, _, rfl, ?_⟩
      refine ⟨rfl, ?_⟩
      refine ⟨_, rfl, ?_⟩
      refine ⟨_, rfl, ?_⟩
      refine it_go (by omega) (by omega) (by rw [sx_len]; omega) fun H5 sm5 => ?_
      rw [str_ok hb hl2]
      refine ⟨_, rfl, iteF ?_⟩
      refine ⟨_, rfl, ⟨_, rfl, ⟨_, rfl, ⟨_, rfl, ?_⟩⟩⟩⟩
      refine .inl ⟨a, fs.map sx, rfl, e _ (sm3.trans sm5), fun p np => ?_⟩
      rw [cutV_to]
      refine ⟨p, _, rfl, .inl (SqL.of upd_same), rfl, ?_, ?_⟩
      · rw [← List.map_take]; exact flat_sx _
      rw [← List.map_take, any_sx, decide_eq_false (take_new nd ht)]
      refine ⟨_, rfl, iteF ?_⟩
      have sm6 := sm3.trans sm5
      exact ⟨_, _, rfl, fun b o q => updn (nonn np (sm6 b o q)) (sm6 b o q)⟩
    · rintro σ' H3 ⟨x2, x3, rfl, sm⟩
      refine ⟨_, rfl, ⟨_, _, rfl, .inl ⟨_, e _ sm, rfl⟩, ?_⟩⟩
      refine ⟨_, _, rfl, rfl, ?_⟩
      refine ⟨_, rfl, ?_⟩
      rw [lim]
      exact iteF (k _ fun b o q => sm b o (sm2 b o q))
  · refine ⟨a, fs.map sx, rfl, .inr ⟨e _ (Same.refl _), ?_⟩⟩
    refine for_it (walk_enumT (xs := fs.map sx)) (fun i σ' H' => ∃ x2 x3, σ' = [some (.int n), some (.ref a), x2, x3] ∧ Same H2 H') ⟨_, _, rfl, Same.refl H2⟩ (fun i σ' H' _ h => let ⟨_, _, _, s⟩ := h; e _ s) ?_ ?_
    · rintro i x σ' H3 H4 hi ⟨x2, x3, rfl, sm⟩ ⟨T2, y, z, rfl, nT2, rfl, e5, e6⟩
      obtain rfl : y = .int (i : Nat) := (Option.some.inj e5).symm
      obtain ⟨t, ht, rfl⟩ : ∃ t, fs[i]? = some t ∧ z = sx t := by
        dsimp only at e6
        rw [List.getElem?_map] at e6
        cases q : fs[i]? with
        | none => rw [q] at e6; cases e6
        | some t => rw [q] at e6; exact ⟨t, rfl, (Option.some.inj e6).symm⟩
      obtain ⟨hb, hl2⟩ := hf t (List.mem_of_getElem? ht)
      have li : i < fs.length := (List.getElem?_eq_some_iff.mp ht).1
      have sm3 : Same H2 (upd H3 T2 (.tup [.int (i : Nat), sx t])) := fun b o q => updn (nonn nT2 (sm b o q)) (sm b o q)
      refine ⟨T2, [.int (i : Nat), sx t], rfl, SqT.of upd_same, rfl, ?_⟩
      refine ⟨_, _, rfl, ?_⟩
      refine ⟨_, _, rfl, ?_⟩
      refine ⟨rfl, ?_⟩
      refine ⟨_, rfl, ?_⟩
      refine ⟨_, rfl, ?_⟩
      refine it_go (by omega) (by omega) (by rw [sx_len]; omega) fun H5 sm5 => ?_
      rw [str_ok hb hl2]
      refine ⟨_, rfl, iteF ?_⟩
      refine ⟨_, rfl, ⟨_, rfl, ⟨_, rfl, ⟨_, rfl, ?_⟩⟩⟩⟩
      refine .inr ⟨a, fs.map sx, rfl, e _ (sm3.trans sm5), (fun q => by
        have q2 := q.2
        rw [HT.sIx_nat, List.length_map] at q2
        omega), fun p np => ?_⟩
      rw [cutV_to]
      refine ⟨p, _, rfl, .inr (SqT.of upd_same), rfl, ?_, ?_⟩
      · rw [← List.map_take]; exact flat_sx _
      rw [← List.map_take, any_sx, decide_eq_false (take_new nd ht)]
      refine ⟨_, rfl, iteF ?_⟩
      have sm6 := sm3.trans sm5
      exact ⟨_, _, rfl, fun b o q => updn (nonn np (sm6 b o q)) (sm6 b o q)⟩
    · rintro σ' H3 ⟨x2, x3, rfl, sm⟩
      refine ⟨_, rfl, ⟨_, _, rfl, .inr ⟨_, e _ sm, rfl⟩, ?_⟩⟩
      refine ⟨_, _, rfl, rfl, ?_⟩
      refine ⟨_, rfl, ?_⟩
      rw [lim]
      exact iteF (k _ fun b o q => sm b o (sm2 b o q))
theorem ok_is_free (F : Fun K "is_free" "is_free" s_is_free f fd) (hm : mg "is_free" = some (.ref f)) (T : Txt K mg) : Nm P w K mg base CX0 1 "is_free" s_is_free ["free", "bits"] (spIF K) := by
  refine nm_of F hm sc_is_free (fun vs H Q E h => ?_) fun cdv A outer s H vs Q E hr h => ?_
  · unfold spIF at h
    obtain ⟨a, fs, z, rfl, ha, hl, hz, k⟩ := h
    subst_vars
    rfl
  unfold spIF at h
  obtain ⟨a, fs, z, rfl, ha, hl, hz, k⟩ := h
  refine ⟨_, (pss_one (ps_ret (pe_callB (cr_any rfl) (by rfl) T.b_any (by decide +kernel) (pa_cons (pe_lc (own := [("stretch", 2)]) (g := (gName 2)) (by rfl) sc_is_free.nd (pi_seqAK (K := K) rfl (pv 0)) (blkOk_by (own := [("stretch", 2)]) (N := ["free", "bits", "stretch"]) (sc := defScope s_is_free) (by decide +kernel)) (fun _ _ _ _ _ => (pg_name (i := 2) sc_is_free.nd rfl (by first | exact Or.inl rfl | exact Or.inr rfl))) (fun _ _ _ _ _ => pts_nil) (fun _ _ _ _ _ => (pe_bmK (K := K) rfl PySem.F.plainAttrs_str PySem.F.slot_str_startswith PySem.F.type_str_startswith mt_startswith (pv 1) (pa_cons (pv 2) pa_nil)))) pa_nil)))), ?_⟩
  refine ⟨_, rfl, ?_⟩
  have ee := ha.seq
  refine ⟨a, fs.map sx, rfl, ?_⟩
  rcases ee with e | e
  · refine .inl ⟨e _ (Same.refl _), fun B nB => ?_⟩
    refine lc_it (walk_list (xs := fs.map sx)) (fun i H' => H' B = some (.lst (((fs.take i).map fun t => decide (t <+: z)).map V.bl)) ∧ Same H H') ⟨upd_same, fun b o e => updn (nonn nB e) e⟩ (fun i H' _ h => e _ h.2) ?_ ?_
    · rintro i x H1 H2 hi ⟨hB, sm⟩ ⟨rfl, hx⟩
      obtain ⟨t, ht, rfl⟩ : ∃ t, fs[i]? = some t ∧ x = sx t := by
        rw [List.getElem?_map] at hx
        cases q : fs[i]? with
        | none => rw [q] at hx; cases hx
        | some t => rw [q] at hx; exact ⟨t, rfl, (Option.some.inj hx).symm⟩
      have li : i < fs.length := (List.getElem?_eq_some_iff.mp ht).1
      refine ⟨rfl, ?_⟩
      refine ⟨_, rfl, ⟨rfl, ⟨_, rfl, ⟨_, _, rfl, rfl, ?_⟩⟩⟩⟩
      rw [starts_S]
      refine ⟨_, hB, szt (by rw [List.length_map, List.length_map, List.length_take]; omega), ?_, fun b o q => updn (nonn nB q) (sm b o q)⟩
      rw [upd_same, List.take_add_one, ht, List.map_append, List.map_append]
      rfl
    · rintro H1 ⟨hB, sm⟩
      rw [List.length_map, List.take_length] at hB
      refine ⟨_, _, rfl, SqL.of hB, ?_⟩
      have eB : (fs.map fun t => decide (t <+: z)).any id = M.frB fs z := by rw [List.any_map]; rfl
      rw [eB]
      exact k _ sm
  · refine .inr ⟨e _ (Same.refl _), fun B nB => ?_⟩
    refine lc_it (walk_tup (xs := fs.map sx)) (fun i H' => H' B = some (.lst (((fs.take i).map fun t => decide (t <+: z)).map V.bl)) ∧ Same H H') ⟨upd_same, fun b o e => updn (nonn nB e) e⟩ (fun i H' _ h => e _ h.2) ?_ ?_
    · rintro i x H1 H2 hi ⟨hB, sm⟩ ⟨rfl, hx⟩
      obtain ⟨t, ht, rfl⟩ : ∃ t, fs[i]? = some t ∧ x = sx t := by
        rw [List.getElem?_map] at hx
        cases q : fs[i]? with
        | none => rw [q] at hx; cases hx
        | some t => rw [q] at hx; exact ⟨t, rfl, (Option.some.inj hx).symm⟩
      have li : i < fs.length := (List.getElem?_eq_some_iff.mp ht).1
      refine ⟨rfl, ?_⟩
      refine ⟨_, rfl, ⟨rfl, ⟨_, rfl, ⟨_, _, rfl, rfl, ?_⟩⟩⟩⟩
      rw [starts_S]
      refine ⟨_, hB, szt (by rw [List.length_map, List.length_map, List.length_take]; omega), ?_, fun b o q => updn (nonn nB q) (sm b o q)⟩
      rw [upd_same, List.take_add_one, ht, List.map_append, List.map_append]
      rfl
    · rintro H1 ⟨hB, sm⟩
      rw [List.length_map, List.take_length] at hB
      refine ⟨_, _, rfl, SqL.of hB, ?_⟩
      have eB : (fs.map fun t => decide (t <+: z)).any id = M.frB fs z := by rw [List.any_map]; rfl
      rw [eB]
      exact k _ sm
end
open PySem PySem.Spec PyProof.Rows
open L2 hiding pass0
abbrev s_Table__repr__ : Stmt := inClass (top 35) 19
theorem sc_Table__repr__ : FnScope ["self"] ["self"] (defScope s_Table__repr__) := ⟨rfl, rfl, rfl, by decide +kernel, rfl, by decide +kernel, by decide +kernel⟩
theorem bm_Table__repr__ : BndMP "__repr__" "Table.__repr__" s_Table__repr__ ["self"] := fun _ _ _ _ _ _ us h => match us, h with | [_], _ => rfl
def tabT (n : Int) (m : List (Str × Str)) : Str := if m = [] then Str.empty ++ ("Table(" : Str) ++ (toString n : String) ++ (")" : Str) else Str.empty ++ ("Table(" : Str) ++ (toString n : String) ++ (", " : Str) ++ dictText (m.map kvText) ++ (")" : Str)
theorem kv_shown (m : List (Str × Str)) : PyData.shownKv (m.map fun p => (PyData.str p.1, PyData.str p.2)) = m.map kvText := by
  induction m with
  | nil => simp only [List.map_nil, PyData.shownKv]
  | cons p m ih => simp only [List.map_cons, PyData.shownKv, ih, PyData.shown, kvText]
theorem tab_fits {n : Int} {m : List (Str × Str)} (ok : TabOk n m) : (dictText (m.map kvText)).length + 14 ≤ sizeLine := by
  have w1 := ok.w1
  have h := d3_ok (m := m) (a := 1000) (b := 1000) (fun p hp => ⟨(ok.rows p hp).1.low, (ok.rows p hp).2.2.2.1, by have := (ok.rows p hp).2.1; omega, (ok.rows p hp).2.2.2.2⟩) ok.few (by decide) (by decide) (by decide) (by decide)
  have h2 := h.2.2
  unfold d3 at h2
  simp only [PyData.shown, PyData.shownAll, kv_shown] at h2
  have p := piled_le_listText [dictText (m.map kvText), (toString (1000 : Int) : String), (toString (1000 : Int) : String)]
  have e : piled [dictText (m.map kvText), ((toString (1000 : Int) : String) : Str), ((toString (1000 : Int) : String) : Str)] = (dictText (m.map kvText)).length + 14 := by
    have e4 : (((toString (1000 : Int) : String) : Str)).length = 4 := by decide +kernel
    simp only [piled, List.map_cons, List.map_nil, List.sum_cons, List.sum_nil, e4]
    omega
  omega
theorem one_le_sum {x : Nat} : ∀ {l : List Nat}, x ∈ l → x ≤ l.sum
  | y :: l, h => by
    rw [List.sum_cons]
    rcases List.mem_cons.mp h with e | h
    · omega
    · have := one_le_sum h
      omega
theorem nat_text : ∀ k : Fin 101, (((toString ((k.val : Nat) : Int) : String) : Str)).length ≤ 3 ∧ ((k.val : Nat) : Int).natAbs.log2 < 1920 := by decide +kernel
open PySem PySem.Spec PyProof.Rows
open L2 hiding pass0
abbrev s_even_set : Stmt := top 48
theorem sc_even_set : FnScope ["goal"] ["goal"] (defScope s_even_set) := ⟨rfl, rfl, rfl, by decide +kernel, rfl, by decide +kernel, by decide +kernel⟩
theorem bp_even_set : BndP "_even_set" s_even_set ["goal"] := fun _ _ _ _ _ _ us h => match us, h with | [_], _ => rfl
abbrev s_of_halves : Stmt := top 49
theorem sc_of_halves : FnScope ["zero", "one", "zero_goals", "zero_need", "one_goals", "one_need", "need", "both", "goal"] ["zero", "one"] (defScope s_of_halves) := ⟨rfl, rfl, rfl, by decide +kernel, rfl, by decide +kernel, by decide +kernel⟩
theorem bp_of_halves : BndP "_of_halves" s_of_halves ["zero", "one"] := fun _ _ _ _ _ _ us h => match us, h with | [_, _], _ => rfl
/-- a set of goals, mk for all of them -/
def SetV (H : Hp) (mk : V) (v : V) : Option (List Str) → Prop
  | none => v = mk
  | some x => ∃ b, v = .ref b ∧ H b = some (.lst (x.map V.str))
def SnA (mk : V) (H : Hp) (a : Addr) (s : SNd) : Prop := ∃ v, H a = some (.tup [v, .int (s.2 : Nat)]) ∧ SetV H mk v s.1
theorem SetV.to {H H' : Hp} {mk v : V} {o : Option (List Str)} (h : SetV H mk v o) (s : Same H H') : SetV H' mk v o := by
  cases o with
  | none => exact h
  | some x =>
    obtain ⟨b, e, hb⟩ := h
    exact ⟨b, e, s _ _ hb⟩
theorem SnA.to {H H' : Hp} {mk : V} {a : Addr} {t : SNd} (h : SnA mk H a t) (s : Same H H') : SnA mk H' a t := by
  obtain ⟨v, e, hv⟩ := h
  exact ⟨v, s _ _ e, hv.to s⟩
theorem inV_strs (y : Str) (ps : List Str) : inV (.str y) (ps.map V.str) = decide (y ∈ ps) := by
  unfold inV
  rw [List.any_map]
  induction ps with
  | nil => rfl
  | cons a r ih =>
    rw [List.any_cons, ih]
    have e : ((fun z => eqV z (V.str y)) ∘ V.str) a = decide (a = y) := rfl
    rw [e]
    by_cases q : a = y
    · simp [q]
    · have : ¬ y = a := fun h => q h.symm
      simp [q, this]
theorem flat_strs (ys : List Str) : (ys.map V.str).all flatV = true := by
  rw [List.all_eq_true]
  intro v hv
  obtain ⟨t, _, rfl⟩ := List.mem_map.mp hv
  rfl
theorem shr_more {xs ys : List Str} {j : Nat} {g : Str} (h : xs[j]? = some g) : shr (xs.take (j + 1)) ys = shr (xs.take j) ys ++ if g ∈ ys then [g] else [] := by
  unfold shr
  rw [List.take_add_one, h, List.filter_append, show (some g).toList = [g] from rfl]
  by_cases q : g ∈ ys
  · rw [if_pos q, List.filter_cons_of_pos (by simpa using q)]; rfl
  · rw [if_neg q, List.filter_cons_of_neg (by simpa using q)]; rfl
/-- no long lists -/
def Sz (s : SNd) : Prop := ∀ x, s.1 = some x → x.length ≤ 1000 ∧ ∀ g ∈ x, Low g ∧ g.length ≤ 200
@[irreducible] def spES : Sp := fun vs H Q _ => ∃ g : Str, vs = [.str g] ∧ ∀ v H', Same H H' → SetV H' (.str "all") v (if g = "all" then none else some [g]) → Q v H'
theorem es_go {g : Str} {H : Hp} {Q : VK} {E : XK} (k : ∀ v H', Same H H' → SetV H' (.str "all") v (if g = "all" then none else some [g]) → Q v H') : spES [.str g] H Q E := by
  unfold spES
  exact ⟨g, rfl, k⟩
@[irreducible] def spOH : Sp := fun vs H Q _ => ∃ (a b : Addr) (s t : SNd), vs = [.ref a, .ref b] ∧ SnA (.str "all") H a s ∧ SnA (.str "all") H b t ∧ Sz s ∧ Sz t ∧ ∀ c H', Same H H' → SnA (.str "all") H' c (both2 s t) → Q (.ref c) H'
theorem oh_go {a b : Addr} {s t : SNd} {H : Hp} {Q : VK} {E : XK} (ha : SnA (.str "all") H a s) (hb : SnA (.str "all") H b t) (zs : Sz s) (zt : Sz t) (k : ∀ c H', Same H H' → SnA (.str "all") H' c (both2 s t) → Q (.ref c) H') : spOH [.ref a, .ref b] H Q E := by
  unfold spOH
  exact ⟨a, b, s, t, rfl, ha, hb, zs, zt, k⟩
section
variable {P : Program} {w : World} {K : PySem.W.Frag} {mg : Str → Option Value} {base : Heap} {f C : Addr} {fd : FuncData}
theorem ok_even_set (F : Fun K "_even_set" "_even_set" s_even_set f fd) (hm : mg "_even_set" = some (.ref f)) (T : Txt K mg) (cA : ∃ u, mg "ALL" = some u ∧ RelV (.str "all") u) : Nm P w K mg base CX0 1 "_even_set" s_even_set ["goal"] (spES) := by
  refine nm_of F hm sc_even_set (fun vs H Q E h => ?_) fun cdv A outer s H vs Q E hr h => ?_
  · unfold spES at h
    obtain ⟨g, rfl, k⟩ := h
    subst_vars
    rfl
  unfold spES at h
  obtain ⟨g, rfl, k⟩ := h
  refine ⟨_, (pss_cons (ps_if (pt_cmpR op_eq (pv 0) (pe_cst (by rfl) cA) (nomark _)) (pss_one (ps_ret (pe_cst (by rfl) cA))) pss_nil)
      (pss_one (ps_ret (pe_lst (pa_cons (pv 0) pa_nil))))), ?_⟩
  refine ⟨_, rfl, ⟨rfl, ⟨_, rfl, ?_⟩⟩⟩
  refine ite2 (fun c => ?_) fun c => ?_
  · have q : g = "all" := by
      have := of_decide_eq_true c
      injection this
    exact k _ H (fun _ _ e => e) (by rw [if_pos q]; rfl)
  · have q : g ≠ "all" := fun e => c (decide_eq_true (by rw [e]))
    refine ⟨_, rfl, ⟨szl (by show 1 ≤ 1000000; decide), fun L nL => ?_⟩⟩
    exact k _ _ ((Same.refl H).new nL) (by rw [if_neg q]; exact ⟨L, rfl, upd_same⟩)
theorem ok_halves (F : Fun K "_of_halves" "_of_halves" s_of_halves f fd) (hm : mg "_of_halves" = some (.ref f)) (T : Txt K mg) (cA : ∃ u, mg "ALL" = some u ∧ RelV (.str "all") u) : Nm P w K mg base CX0 1 "_of_halves" s_of_halves ["zero", "one"] (spOH) := by
  refine nm_of F hm sc_of_halves (fun vs H Q E h => ?_) fun cdv A outer s H vs Q E hr h => ?_
  · unfold spOH at h
    obtain ⟨a, b, s, t, rfl, ha, hb, zs, zt, k⟩ := h
    subst_vars
    rfl
  unfold spOH at h
  obtain ⟨a, b, s, t, rfl, ha, hb, zs, zt, k⟩ := h
  refine ⟨_, (pss_cons (ps_asg (pv 0) (pg_tup (by rfl) (pgs_cons (pg_name (i := 2) sc_of_halves.nd rfl (by first | exact Or.inl rfl | exact Or.inr rfl)) (pgs_cons (pg_name (i := 3) sc_of_halves.nd rfl (by first | exact Or.inl rfl | exact Or.inr rfl)) pgs_nil))))
      (pss_cons (ps_asg (pv 1) (pg_tup (by rfl) (pgs_cons (pg_name (i := 4) sc_of_halves.nd rfl (by first | exact Or.inl rfl | exact Or.inr rfl)) (pgs_cons (pg_name (i := 5) sc_of_halves.nd rfl (by first | exact Or.inl rfl | exact Or.inr rfl)) pgs_nil))))
      (C8.pss_cut (ps_set (i := 6) sc_of_halves.nd rfl (by first | exact Or.inl rfl | exact Or.inr rfl) (pe_op op_add (pv 3) (pv 5)))
      (pss_cons (ps_if (pt_cmpR (op_eqDK (K := K) rfl hr.u64) (pv 2) (pe_cst (by rfl) cA) (nomark _)) (pss_one (ps_ret (pe_tup (pa_cons (pv 4) (pa_cons (pv 6) pa_nil))))) pss_nil)
      (pss_cons (ps_if (pt_cmpR (op_eqDK (K := K) rfl hr.u64) (pv 4) (pe_cst (by rfl) cA) (nomark _)) (pss_one (ps_ret (pe_tup (pa_cons (pv 2) (pa_cons (pv 6) pa_nil))))) pss_nil)
      (pss_cons (ps_setLc (i := 7) (own := [("goal", 8)]) (g := (gName 8)) (by rfl) sc_of_halves.nd rfl rfl (sw_true rfl rfl rfl (by decide +kernel)) (pi_listK (K := K) rfl (pv 2)) (blkOk_by (own := [("goal", 8)]) (N := ["zero", "one", "zero_goals", "zero_need", "one_goals", "one_need", "need", "both", "goal"]) (sc := defScope s_of_halves) (by decide +kernel)) (fun _ _ _ _ _ => (pg_name (i := 8) sc_of_halves.nd rfl (by first | exact Or.inl rfl | exact Or.inr rfl))) (fun _ _ _ _ _ => (pts_one (pt_cmpR (op_inK (K := K) rfl) (pv 8) (pv 4) rfl))) (fun _ _ _ _ _ => (pv 8)))
      (pss_cons (ps_if (pt_truth (pv 7) (by intro _; rfl)) (pss_one (ps_ret (pe_tup (pa_cons (pv 7) (pa_cons (pv 6) pa_nil))))) pss_nil)
      (pss_one (ps_ret (pe_tup (pa_cons (pe_callBK (cr_sortK hr.u) (by rfl) T.b_sorted (by decide +kernel) (pa_cons (pe_lst (StX.pa_star (pv 2) (StX.pa_star (pv 4) pa_nil))) pa_nil) (pk_cons (pe_ty "str" (by rfl) T.b_str (by decide +kernel)) pk_nil)) (pa_cons (pe_op op_add (pv 6) pe_int) pa_nil)))))))))))), ?_⟩
  obtain ⟨x, ea, vx⟩ := ha
  obtain ⟨y, eb, vy⟩ := hb
  refine ⟨_, rfl, ⟨a, _, rfl, SqT.of ea, rfl, ⟨_, _, rfl, ⟨_, _, rfl, ⟨rfl, ?_⟩⟩⟩⟩⟩
  refine ⟨_, rfl, ⟨b, _, rfl, SqT.of eb, rfl, ⟨_, _, rfl, ⟨_, _, rfl, ⟨rfl, ?_⟩⟩⟩⟩⟩
  refine ⟨fun σ' H' => σ' = [some (.ref a), some (.ref b), some x, some (.int (s.2 : Nat)), some y, some (.int (t.2 : Nat)), some (.int ((s.2 + t.2 : Nat) : Int)), none, none] ∧ H' = H, ?_, ?_⟩
  · refine ⟨_, rfl, ⟨_, rfl, ⟨_, _, rfl, rfl, ?_⟩⟩⟩
    refine ⟨?_, rfl⟩
    rw [show ((s.2 + t.2 : Nat) : Int) = (s.2 : Int) + (t.2 : Int) by omega]
    rfl
  rintro σ' H' ⟨rfl, rfl⟩
  obtain ⟨s1, i⟩ := s
  obtain ⟨t1, j⟩ := t
  dsimp only at vx vy ea eb zs zt ⊢
  have dA : Dp K H' (.str "all") (.str "all") := .str _
  have sA : SeqAt.shaped (.str "all") = true := (show Fit 200 0 (.str "all") from Fit.str (by decide +kernel) (by decide +kernel)).shp (by decide)
  have eA : PyData.eqv (.str "all") (.str "all") = true := by simp [PyData.eqv]
  have eL : ∀ zs : List Str, PyData.eqv (.list (zs.map PyData.str)) (.str "all") = false := fun zs => by simp [PyData.eqv]
  cases s1 with
  | none =>
    obtain rfl : x = .str "all" := vx
    refine ⟨_, rfl, ⟨_, _, dA, dA, sA, sA, ?_⟩⟩
    refine ⟨_, rfl, ?_⟩
    rw [eA]
    refine iteT ?_
    refine ⟨_, rfl, ⟨_, rfl, ⟨szl (by show 2 ≤ 1000000; decide), fun c nc => ?_⟩⟩⟩
    exact k c _ ((Same.refl H').new nc) ⟨y, upd_same, vy.to ((Same.refl H').new nc)⟩
  | some xs =>
    obtain ⟨A1, rfl, hA⟩ := vx
    obtain ⟨lx, gx⟩ := zs xs rfl
    refine ⟨_, rfl, ⟨_, _, .lst (SqL.of hA) (dps xs), dA, (strs_fit gx).shp (by decide), sA, ?_⟩⟩
    refine ⟨_, rfl, ?_⟩
    rw [eL]
    refine iteF ?_
    cases t1 with
    | none =>
      obtain rfl : y = .str "all" := vy
      refine ⟨_, rfl, ⟨_, _, dA, dA, sA, sA, ?_⟩⟩
      refine ⟨_, rfl, ?_⟩
      rw [eA]
      refine iteT ?_
      refine ⟨_, rfl, ⟨_, rfl, ⟨szl (by show 2 ≤ 1000000; decide), fun c nc => ?_⟩⟩⟩
      exact k c _ ((Same.refl H').new nc) ⟨_, upd_same, A1, rfl, updn (nonn nc hA) hA⟩
    | some ys =>
      obtain ⟨A2, rfl, hA2⟩ := vy
      obtain ⟨ly, gy⟩ := zt ys rfl
      refine ⟨_, rfl, ⟨_, _, .lst (SqL.of hA2) (dps ys), dA, (strs_fit gy).shp (by decide), sA, ?_⟩⟩
      refine ⟨_, rfl, ?_⟩
      rw [eL]
      refine iteF ?_
      refine ⟨_, rfl, ⟨A1, rfl, ⟨_, SqL.of hA⟩, fun B nB => ?_⟩⟩
      refine lc_it (walk_list (xs := xs.map V.str)) (fun j H2 => H2 B = some (.lst ((shr (xs.take j) ys).map V.str)) ∧ Same H' H2) ⟨upd_same, (Same.refl H').new nB⟩ (fun j H2 _ h => SqL.of (h.2 _ _ hA)) ?_ ?_
      · rintro j v H2 H3 hj ⟨hB, sm⟩ ⟨rfl, hv⟩
        obtain ⟨g, hg, rfl⟩ : ∃ g, xs[j]? = some g ∧ v = V.str g := by
          rw [List.getElem?_map] at hv
          cases e : xs[j]? with
          | none => rw [e] at hv; cases hv
          | some t => rw [e] at hv; exact ⟨t, rfl, (Option.some.inj hv).symm⟩
        refine ⟨rfl, ?_⟩
        refine ⟨_, rfl, ⟨_, rfl, ⟨A2, _, rfl, .inl (SqL.of (sm _ _ hA2)), rfl, flat_strs _, ?_⟩⟩⟩
        rw [show inV (.str g) (ys.map V.str) = decide (g ∈ ys) from inV_strs g ys]
        refine ⟨_, rfl, ?_⟩
        have e := shr_more (ys := ys) hg
        by_cases q : g ∈ ys
        · rw [decide_eq_true q]
          refine iteT ?_
          refine ⟨_, rfl, ⟨_, hB, szt (by have := List.length_filter_le (fun g => decide (g ∈ ys)) (xs.take j); rw [List.length_map]; unfold shr; rw [List.length_take] at this; omega), ?_, fun b o h => updn (nonn nB h) (sm _ _ h)⟩⟩
          rw [upd_same, e, if_pos q, List.map_append]
          rfl
        · rw [decide_eq_false q]
          refine iteF ?_
          rw [e, if_neg q, List.append_nil]
          exact ⟨hB, sm⟩
      · rintro H2 ⟨hB, sm⟩
        rw [List.length_map, List.take_length] at hB
        refine ⟨_, rfl, ⟨_, .inl ⟨_, SqL.of hB, rfl⟩, ?_⟩⟩
        by_cases q : shr xs ys = []
        · rw [q]
          refine iteF ?_
          refine ⟨_, rfl, ⟨A1, _, rfl, .inr (SqL.of (sm _ _ hA)), ⟨_, rfl, ⟨A2, _, rfl, .inr (SqL.of (sm _ _ hA2)), ?_⟩⟩⟩⟩
          refine ⟨szl (by rw [List.length_append, List.length_append, List.length_map, List.length_map]; show _ + (_ + 0) ≤ _; omega), fun L nL => ?_⟩
          have s3 := sm.new (o := HO.lst (xs.map V.str ++ (ys.map V.str ++ []))) nL
          have eL3 : upd H2 L (.lst (xs.map V.str ++ (ys.map V.str ++ []))) L = some (.lst ((xs ++ ys).map V.str)) := by rw [upd_same, List.append_nil, List.map_append]
          generalize upd H2 L (.lst (xs.map V.str ++ (ys.map V.str ++ []))) = H3 at s3 eL3 ⊢
          refine ⟨L, xs ++ ys, rfl, rfl, SqL.of eL3, fun p np => ?_⟩
          have s4 := s3.new (o := HO.lst ((tsort (xs ++ ys)).map V.str)) np
          have e4 : upd H3 p (.lst ((tsort (xs ++ ys)).map V.str)) p = some (.lst ((tsort (xs ++ ys)).map V.str)) := upd_same
          generalize upd H3 p (.lst ((tsort (xs ++ ys)).map V.str)) = H4 at s4 e4 ⊢
          refine ⟨_, rfl, ⟨_, _, rfl, rfl, ⟨szl (by show 2 ≤ 1000000; decide), fun c nc => ?_⟩⟩⟩
          refine k c _ (s4.new nc) ⟨.ref p, ?_, ?_⟩
          · rw [upd_same, both_ss, if_pos q]
            rfl
          · rw [both_ss, if_pos q]
            exact ⟨p, rfl, updn (nonn nc e4) e4⟩
        · have e : (!((shr xs ys).map V.str).isEmpty) = true := by
            cases h : shr xs ys with
            | nil => exact absurd h q
            | cons a b => rfl
          rw [e]
          refine iteT ?_
          refine ⟨_, rfl, ⟨_, rfl, ⟨szl (by show 2 ≤ 1000000; decide), fun c nc => ?_⟩⟩⟩
          refine k c _ (sm.new nc) ⟨.ref B, ?_, ?_⟩
          · rw [upd_same, both_ss, if_neg q]
          · rw [both_ss, if_neg q]
            exact ⟨B, rfl, updn (nonn nc hB) hB⟩
end
open PySem PySem.Spec PyProof.Rows
open L2 hiding pass0
abbrev s_holders : Stmt := top 46
theorem sc_holders : FnScope ["stretches", "inner", "stretch", "length"] ["stretches"] (defScope s_holders) := ⟨rfl, rfl, rfl, by decide +kernel, rfl, by decide +kernel, by decide +kernel⟩
theorem bp_holders : BndP "_holders" s_holders ["stretches"] := fun _ _ _ _ _ _ us h => match us, h with | [_], _ => rfl
def insB (ks : List (List Nat)) (x : List Nat) : Bool := ks.any fun t => decide (x <+: t ∧ x ≠ t)
theorem S_cp (s : Str) : SX.S s.cps.toList = s := by cases s; unfold SX.S; simp
theorem sx_at {ts : List (List Nat)} {i : Nat} {x : V} (h : (ts.map sx)[i]? = some x) : ∃ t, ts[i]? = some t ∧ x = sx t := by
  rw [List.getElem?_map] at h
  cases e : ts[i]? with
  | none => rw [e] at h; cases h
  | some t => rw [e] at h; exact ⟨t, rfl, (Option.some.inj h).symm⟩
/-- what lies inside, so far -/
def InsAt (ts : List (List Nat)) (i j : Nat) (ks : List (List Nat)) : Prop := (∀ x, x ∈ ks ↔ ((∃ t ∈ ts.take i, x <+: t ∧ x ≠ t) ∨ ∃ t, ts[i]? = some t ∧ ∃ l, l < j ∧ l < t.length ∧ x = t.take l)) ∧ ks.length ≤ 100 * i + j
theorem InsAt.next {ts : List (List Nat)} {i : Nat} {ks : List (List Nat)} {t : List Nat} (h : InsAt ts i t.length ks) (ht : ts[i]? = some t) (hl : t.length ≤ 100) : InsAt ts (i + 1) 0 ks := by
  refine ⟨fun x => (h.1 x).trans ?_, by have := h.2; omega⟩
  rw [List.take_add_one, ht]
  constructor
  · rintro (⟨u, hu, q⟩ | ⟨u, hu, l, l1, l2, rfl⟩)
    · exact .inl ⟨u, List.mem_append_left _ hu, q⟩
    · cases hu
      refine .inl ⟨t, List.mem_append_right _ (List.mem_singleton.mpr rfl), List.take_prefix _ _, fun e => ?_⟩
      have := congrArg List.length e
      rw [List.length_take] at this
      omega
  · rintro (⟨u, hu, q, q2⟩ | ⟨u, _, l, l1, _⟩)
    · rcases List.mem_append.mp hu with hu | hu
      · exact .inl ⟨u, hu, q, q2⟩
      · have : u = t := by simpa using hu
        subst this
        have hx : x.length < u.length := by
          rcases Nat.lt_or_ge x.length u.length with g | g
          · exact g
          · exact absurd (List.IsPrefix.eq_of_length q (Nat.le_antisymm q.length_le g)) q2
        exact .inr ⟨u, rfl, x.length, hx, hx, (List.prefix_iff_eq_take.mp q)⟩
    · omega
theorem InsAt.put {ts : List (List Nat)} {i j : Nat} {ks : List (List Nat)} {t : List Nat} (h : InsAt ts i j ks) (ht : ts[i]? = some t) (hj : j < t.length) : InsAt ts i (j + 1) (if t.take j ∈ ks then ks else ks ++ [t.take j]) := by
  have key : ∀ x, (x ∈ ks ∨ x = t.take j) ↔ ((∃ t ∈ ts.take i, x <+: t ∧ x ≠ t) ∨ ∃ t, ts[i]? = some t ∧ ∃ l, l < j + 1 ∧ l < t.length ∧ x = t.take l) := fun x => by
    rw [h.1 x]
    constructor
    · rintro ((q | ⟨u, hu, l, l1, l2, e⟩) | rfl)
      · exact .inl q
      · exact .inr ⟨u, hu, l, by omega, l2, e⟩
      · exact .inr ⟨t, ht, j, by omega, hj, rfl⟩
    · rintro (q | ⟨u, hu, l, l1, l2, e⟩)
      · exact .inl (.inl q)
      · rcases Nat.lt_or_ge l j with g | g
        · exact .inl (.inr ⟨u, hu, l, g, l2, e⟩)
        · have : l = j := by omega
          subst this
          rw [ht] at hu
          cases hu
          exact .inr e
  have hl := h.2
  split
  · refine ⟨fun x => ?_, by omega⟩
    rw [← key x]
    exact ⟨.inl, fun q => q.elim id fun e => by rw [e]; assumption⟩
  · refine ⟨fun x => ?_, by rw [List.length_append]; show ks.length + 1 ≤ _; omega⟩
    rw [← key x, List.mem_append, List.mem_singleton]
theorem InsAt.done {ts : List (List Nat)} {ks : List (List Nat)} (h : InsAt ts ts.length 0 ks) (x : List Nat) : decide (x ∈ ks) = insB ts x := by
  unfold insB
  rw [Bool.eq_iff_iff, decide_eq_true_iff, List.any_eq_true, h.1 x, List.take_length]
  constructor
  · rintro (⟨t, ht, q⟩ | ⟨t, _, l, l1, _⟩)
    · exact ⟨t, ht, decide_eq_true q⟩
    · omega
  · rintro ⟨t, ht, q⟩
    exact .inl ⟨t, ht, of_decide_eq_true q⟩
/-- all that stretches lie within, shorter ones first -/
structure Hold (ts hs : List (List Nat)) : Prop where
  nd : hs.Nodup
  mem : ∀ x, x ∈ hs ↔ ∃ t ∈ ts, x <+: t ∧ x ≠ t
  ord : hs.Pairwise fun a b => a.length ≤ b.length
  len : hs.length ≤ 100 * ts.length
@[irreducible] def spHo : Sp := fun vs H Q _ => ∃ (L : Addr) (ts : List (List Nat)), vs = [.ref L] ∧ H L = some (.lst (ts.map sx)) ∧ ts.length ≤ 60 ∧ (∀ t ∈ ts, t.length ≤ 100) ∧ ∀ R hs H', Same H H' → H R = none → H' R = some (.lst (hs.map sx)) → Hold ts hs → Q (.ref R) H'
theorem ho_go {L : Addr} {ts : List (List Nat)} {H : Hp} {Q : VK} {E : XK} (hL : H L = some (.lst (ts.map sx))) (lt : ts.length ≤ 60) (tl : ∀ t ∈ ts, t.length ≤ 100) (k : ∀ R hs H', Same H H' → H R = none → H' R = some (.lst (hs.map sx)) → Hold ts hs → Q (.ref R) H') : spHo [.ref L] H Q E := by
  unfold spHo
  exact ⟨L, ts, rfl, hL, lt, tl, k⟩
section
variable {P : Program} {w : World} {K : PySem.W.Frag} {mg : Str → Option Value} {base : Heap} {f C : Addr} {fd' : FuncData}
theorem ok_holders (F : Fun K "_holders" "_holders" s_holders f fd') (hm : mg "_holders" = some (.ref f)) (T : Txt K mg) : Nm P w K mg base CX0 1 "_holders" s_holders ["stretches"] (spHo) := by
  refine nm_of0 F hm sc_holders (fun vs H Q E h => ?_) fun cdv A outer s H vs Q E hr h => ?_
  · unfold spHo at h
    obtain ⟨L, ts, rfl, hL, lt, tl, k⟩ := h
    subst_vars
    rfl
  unfold spHo at h
  obtain ⟨L, ts, rfl, hL, lt, tl, k⟩ := h
  refine ⟨_, (pss_cons (ps_set (i := 1) sc_holders.nd rfl (by first | exact Or.inl rfl | exact Or.inr rfl) pe_dnewK)
      (pss_cons (ps_for PassesOwn.never rfl (pi_listK (K := K) rfl (pv 0)) (pg_name (i := 2) sc_holders.nd rfl (by first | exact Or.inl rfl | exact Or.inr rfl)) (pss_one (ps_for PassesOwn.never rfl (pi_range1 (by rfl) T.b_range (pa_cons (pe_callB (call_lenK (K := K) rfl) (by rfl) T.b_len PySem.boot_len (pa_cons (pv 2) pa_nil)) pa_nil)) (pg_name (i := 3) sc_holders.nd rfl (by first | exact Or.inl rfl | exact Or.inr rfl)) (pss_one (ps_asg pe_bl (pg_sub (pv 1) (pe_slice sl_str (pv 2) po_none (po_some (pv 3))) (set_dict hr.u1)))))))
      (pss_one (ps_ret (pe_sortLen (by rfl) T.b_sorted (by rfl) T.b_len hr.u rfl (pv 1)))))), ?_⟩
  intro I nI
  have s1 := (Same.refl H).new (o := HO.dK []) nI
  have eI : upd H I (.dK []) I = some (.dK []) := upd_same
  have hIL : L ≠ I := nonn nI hL
  generalize upd H I (.dK []) = H1 at s1 eI ⊢
  refine ⟨_, rfl, ⟨L, rfl, ⟨_, SqL.of (s1 _ _ hL)⟩, ?_⟩⟩
  refine for_it (walk_list (xs := ts.map sx)) (fun i σ' H' => ∃ x2 x3 ks, σ' = [some (.ref L), some (.ref I), x2, x3] ∧ Same H H' ∧ InsAt ts i 0 ks ∧ ks.Nodup ∧ H' I = some (.dK (fd ks fun _ => .bl true)))
    ⟨_, _, [], rfl, s1, ⟨fun x => ⟨fun h => (by cases h), ?_⟩, Nat.zero_le _⟩, .nil, eI⟩ (fun i σ' H' _ h => let ⟨_, _, _, _, s, _, _, _⟩ := h; SqL.of (s _ _ hL)) ?_ ?_
  · rintro (⟨t, ht, _⟩ | ⟨t, _, l, l1, _⟩)
    · cases ht
    · omega
  · rintro i x σ' H3 H4 hi ⟨x2, x3, ks, rfl, s5, ia, nd, eI5⟩ ⟨rfl, hx⟩
    obtain ⟨t, ht, rfl⟩ := sx_at hx
    have tl := tl t (List.mem_of_getElem? ht)
    have hi2 : i < 60 := by
      rw [List.length_map] at hi
      omega
    refine ⟨_, rfl, ⟨_, _, rfl, ⟨szl (by rw [sx_len]; omega), rfl⟩, ?_⟩⟩
    refine ⟨_, rfl, by rw [sx_len]; omega, by rw [sx_len]; omega, ?_⟩
    rw [show ((((SX.S t).length : Nat) : Int)).toNat = t.length by rw [sx_len]; omega]
    refine for_it walk_range (fun j σ' H' => ∃ x3 ks, σ' = [some (.ref L), some (.ref I), some (sx t), x3] ∧ Same H H' ∧ InsAt ts i j ks ∧ ks.Nodup ∧ H' I = some (.dK (fd ks fun _ => .bl true)))
      ⟨_, ks, rfl, s5, ia, nd, eI5⟩ (fun _ _ _ _ _ => trivial) ?_ ?_
    · rintro j x σ' H5 H6 hj ⟨x3, ks, rfl, s6, ia, nd, eI6⟩ ⟨rfl, rfl⟩
      refine ⟨_, rfl, ⟨_, rfl, ⟨_, rfl, ⟨_, rfl, ?_⟩⟩⟩⟩
      refine ⟨_, rfl, szl (by rw [sx_len]; omega), ?_⟩
      rw [show (0 + (j : Int)) = ((j : Nat) : Int) from Int.zero_add _, cut_S t (k := j) rfl]
      have hlen := ia.2
      refine ⟨I, _, rfl, .inl ⟨_, skey (t.take j), eI6, rfl, szt (by rw [fd_len]; omega), rfl⟩, ?_⟩
      rw [fd_put]
      refine ⟨_, if t.take j ∈ ks then ks else ks ++ [t.take j], rfl, fun b o e => updn (nonn nI e) (s6 _ _ e), ia.put ht hj, ?_, ?_⟩
      · by_cases q : t.take j ∈ ks
        · rw [if_pos q]; exact nd
        · rw [if_neg q]
          exact List.nodup_append.mpr ⟨nd, by simp, fun a ha b hb => by rw [List.mem_singleton] at hb; subst hb; exact fun e => q (e ▸ ha)⟩
      · rw [upd_same]
        exact congrArg (fun z => some (HO.dK z)) (fd_congr fun s _ => by unfold fup; split <;> rfl)
    · rintro σ' H5 ⟨x3, ks, rfl, s6, ia, nd, eI6⟩
      exact ⟨_, _, ks, rfl, s6, ia.next ht (by omega), nd, eI6⟩
  · rintro σ' H5 ⟨x2, x3, ks, rfl, s6, ia, nd, eI6⟩
    rw [List.length_map] at ia
    have hp := lsort_perm (ks.map SX.S)
    have lk : ∀ x ∈ ks, x.length ≤ 100 := fun x hx => by
      have := ia.done x
      rw [decide_eq_true hx] at this
      obtain ⟨t, ht, q⟩ := List.any_eq_true.mp this.symm
      have q := of_decide_eq_true q
      exact Nat.le_trans q.1.length_le (tl t ht)
    refine ⟨_, rfl, ⟨I, _, ks.map SX.S, rfl, .inl eI6, fd_keys _ _, fun x hx => ?_, fun p np => ?_⟩⟩
    · obtain ⟨t, ht, rfl⟩ := List.mem_map.mp hx
      have := lk t ht
      exact szl (by rw [sx_len]; omega)
    have hm : ((lsort (ks.map SX.S)).map fun z => z.cps.toList).map sx = (lsort (ks.map SX.S)).map V.str := by
      rw [List.map_map]
      exact List.map_congr_left fun z _ => sx_tl z
    refine k p ((lsort (ks.map SX.S)).map fun z => z.cps.toList) _ (s6.new np) (s6.back np) (by rw [upd_same, hm]) ⟨?_, fun x => ?_, ?_, ?_⟩
    · have : ((lsort (ks.map SX.S)).map fun z => z.cps.toList).Perm ks := by
        have h1 := hp.map fun z : Str => z.cps.toList
        rw [List.map_map] at h1
        have e : ks.map ((fun z : Str => z.cps.toList) ∘ SX.S) = ks := by
          rw [show ((fun z : Str => z.cps.toList) ∘ SX.S) = id from funext fun t => tl_S t, List.map_id]
        rw [e] at h1
        exact h1
      exact this.nodup_iff.mpr nd
    · rw [List.mem_map]
      have hd := ia.done x
      constructor
      · rintro ⟨z, hz, rfl⟩
        obtain ⟨t, ht, rfl⟩ := List.mem_map.mp (hp.mem_iff.mp hz)
        rw [tl_S] at hd ⊢
        rw [decide_eq_true ht] at hd
        obtain ⟨u, hu, q⟩ := List.any_eq_true.mp hd.symm
        exact ⟨u, hu, of_decide_eq_true q⟩
      · rintro ⟨u, hu, q⟩
        have : insB ts x = true := List.any_eq_true.mpr ⟨u, hu, decide_eq_true q⟩
        rw [this] at hd
        exact ⟨SX.S x, hp.mem_iff.mpr (List.mem_map_of_mem (of_decide_eq_true hd)), tl_S x⟩
    · rw [List.pairwise_map]
      refine (lsort_ord (ks.map SX.S)).imp fun {a b} h => ?_
      rw [len_tl, len_tl]
      exact h
    · rw [List.length_map, hp.length_eq, List.length_map]
      have := ia.2
      omega
end
open PySem PySem.Spec PyProof.Rows
open L2 hiding pass0
def kys (hs : List (List Nat)) : List (List Nat) := [] :: hs.flatMap fun s => [s ++ [48], s ++ [49]]
theorem kys_mem {hs : List (List Nat)} {x : List Nat} : x ∈ kys hs ↔ x = [] ∨ ∃ s ∈ hs, x = s ++ [48] ∨ x = s ++ [49] := by
  unfold kys
  rw [List.mem_cons, List.mem_flatMap]
  refine or_congr_right ⟨?_, ?_⟩
  · rintro ⟨s, hs, h⟩
    simp only [List.mem_cons, List.not_mem_nil, or_false] at h
    exact ⟨s, hs, h⟩
  · rintro ⟨s, hs, h⟩
    refine ⟨s, hs, ?_⟩
    simp only [List.mem_cons, List.not_mem_nil, or_false]
    exact h
theorem snoc_inj {s t : List Nat} {a b : Nat} (h : s ++ [a] = t ++ [b]) : s = t ∧ a = b := by
  have := List.append_inj' h rfl
  exact ⟨this.1, by simpa using this.2⟩
theorem kys_snoc (hs : List (List Nat)) (s : List Nat) : kys (hs ++ [s]) = kys hs ++ [s ++ [48], s ++ [49]] := by
  unfold kys
  rw [List.flatMap_append]
  simp
theorem kys_new {hs : List (List Nat)} {s : List Nat} (h : s ∉ hs) (b : Nat) : s ++ [b] ∉ kys hs := fun q => by
  rcases kys_mem.mp q with q | ⟨t, ht, q | q⟩
  · simp at q
  · exact h ((snoc_inj q).1 ▸ ht)
  · exact h ((snoc_inj q).1 ▸ ht)
theorem flat_nd : ∀ {hs : List (List Nat)}, hs.Nodup → (hs.flatMap fun s => [s ++ [48], s ++ [49]]).Nodup
  | [], _ => .nil
  | s :: hs, h => by
    obtain ⟨h1, h2⟩ := List.nodup_cons.mp h
    rw [List.flatMap_cons]
    refine List.nodup_append.mpr ⟨by simp, flat_nd h2, fun a ha b hb e => ?_⟩
    subst e
    have hk : a ∈ kys hs := List.mem_cons_of_mem _ hb
    simp only [List.mem_cons, List.not_mem_nil, or_false] at ha
    rcases ha with rfl | rfl
    · exact kys_new h1 48 hk
    · exact kys_new h1 49 hk
theorem kys_nd {hs : List (List Nat)} (h : hs.Nodup) : (kys hs).Nodup := by
  refine List.nodup_cons.mpr ⟨fun q => ?_, flat_nd h⟩
  obtain ⟨s, _, q⟩ := List.mem_flatMap.mp q
  simp at q
theorem kys_len (hs : List (List Nat)) : (kys hs).length = 2 * hs.length + 1 := by
  unfold kys
  rw [List.length_cons, List.length_flatMap]
  induction hs with
  | nil => rfl
  | cons s hs ih => rw [List.map_cons, List.sum_cons, List.length_cons]; simp at *; omega
theorem Hold.up {ts hs : List (List Nat)} (h : Hold ts hs) {s p : List Nat} (hs' : s ∈ hs) (hp : p <+: s) : p ∈ hs := by
  obtain ⟨t, ht, q, n⟩ := (h.mem s).mp hs'
  refine (h.mem p).mpr ⟨t, ht, hp.trans q, fun e => n ?_⟩
  subst e
  exact List.IsPrefix.eq_of_length q (Nat.le_antisymm q.length_le hp.length_le)
theorem Hold.bl {ts hs : List (List Nat)} (h : Hold ts hs) (bl : ∀ t ∈ ts, M.BL t) {s : List Nat} (hs' : s ∈ hs) : M.BL s := by
  obtain ⟨t, ht, q, _⟩ := (h.mem s).mp hs'
  intro c hc
  exact bl t ht c (q.sublist.subset hc)
theorem snoc_of {s : List Nat} (h : s ≠ []) : ∃ p b, s = p ++ [b] := ⟨s.dropLast, s.getLast h, (List.dropLast_concat_getLast h).symm⟩
theorem Hold.ahead {ts hs : List (List Nat)} (h : Hold ts hs) {i j : Nat} {s p : List Nat} (ei : hs[i]? = some s) (ej : hs[j]? = some p) (l : p.length < s.length) : j < i := by
  obtain ⟨li, ei'⟩ := List.getElem?_eq_some_iff.mp ei
  obtain ⟨lj, ej'⟩ := List.getElem?_eq_some_iff.mp ej
  rcases Nat.lt_trichotomy j i with q | q | q
  · exact q
  · subst q
    rw [ei] at ej
    cases ej
    omega
  · have := List.pairwise_iff_getElem.mp h.ord i j li lj q
    rw [ei', ej'] at this
    omega
theorem Hold.key {ts hs : List (List Nat)} (h : Hold ts hs) (bl : ∀ t ∈ ts, M.BL t) {i : Nat} {s : List Nat} (e : hs[i]? = some s) : s ∈ kys (hs.take i) := by
  by_cases q : s = []
  · exact kys_mem.mpr (.inl q)
  · obtain ⟨p, b, rfl⟩ := snoc_of q
    have hm := List.mem_of_getElem? e
    have hp := h.up hm (List.prefix_append p [b])
    obtain ⟨j, hj⟩ := List.getElem?_of_mem hp
    have hl := h.ahead e hj (by rw [List.length_append]; exact Nat.lt_succ_self _)
    have hb : b = 48 ∨ b = 49 := h.bl bl hm b (List.mem_append_right _ (List.mem_singleton.mpr rfl))
    refine kys_mem.mpr (.inr ⟨p, ?_, ?_⟩)
    · refine List.mem_of_getElem? (i := j) ?_
      rw [List.getElem?_take, if_pos hl]
      exact hj
    · rcases hb with rfl | rfl
      · exact .inl rfl
      · exact .inr rfl
def gev (m : List (Str × Str)) (fs : List (List Nat)) (t : List Nat) : Str := if M.frB fs t = true then "all" else goalT (look m) (SX.S t)
theorem fr_snoc (fs : List (List Nat)) (s : List Nat) (b : Nat) : M.frB fs (s ++ [b]) = (M.frB fs s || decide (s ++ [b] ∈ fs)) := by
  unfold M.frB
  rw [Bool.eq_iff_iff, Bool.or_eq_true, List.any_eq_true, List.any_eq_true, decide_eq_true_iff]
  constructor
  · rintro ⟨f, hf, q⟩
    have q := of_decide_eq_true q
    rcases List.prefix_concat_iff.mp q with q | q
    · exact .inr (q ▸ hf)
    · exact .inl ⟨f, hf, decide_eq_true q⟩
  · rintro (⟨f, hf, q⟩ | q)
    · exact ⟨f, hf, decide_eq_true ((of_decide_eq_true q).trans (List.prefix_append _ _))⟩
    · exact ⟨_, q, decide_eq_true (List.prefix_refl _)⟩
theorem px_pre {s t : List Nat} (h : s <+: t) {i : Nat} (hi : i ≤ s.length) : px (SX.S t) i = px (SX.S s) i := by
  rw [px_S, px_S]
  obtain ⟨u, rfl⟩ := h
  rw [List.take_append_of_le_length hi]
theorem lbP_pre {f : Str → Option Str} {s t : List Nat} (h : s <+: t) : ∀ {i : Nat}, i ≤ s.length + 1 → lbP f (SX.S t) i = lbP f (SX.S s) i
  | 0, _ => rfl
  | i + 1, hi => by
    have e := px_pre h (i := i) (by omega)
    have ih := lbP_pre (f := f) h (i := i) (by omega)
    cases c : (f (px (SX.S t) i)).isSome with
    | true => rw [lbP_yes c, lbP_yes (by rw [← e]; exact c), e]
    | false => rw [lbP_no c, lbP_no (by rw [← e]; exact c), ih]
theorem goal_snoc (f : Str → Option Str) (s : List Nat) (b : Nat) : goalT f (SX.S (s ++ [b])) = (f (SX.S (s ++ [b]))).getD (goalT f (SX.S s)) := by
  have ep : px (SX.S (s ++ [b])) (s ++ [b]).length = SX.S (s ++ [b]) := by rw [px_S, List.take_length]
  have el : lb f (SX.S (s ++ [b])) = lbP f (SX.S (s ++ [b])) ((s ++ [b]).length + 1) := by unfold lb; rw [sx_len]
  have el2 : lb f (SX.S s) = lbP f (SX.S s) (s.length + 1) := by unfold lb; rw [sx_len]
  cases c : f (SX.S (s ++ [b])) with
  | some g =>
    unfold goalT
    rw [el, lbP_yes (by rw [ep, c]; rfl), ep]
    show (f (SX.S (s ++ [b]))).getD Str.empty = _
    rw [c]
    rfl
  | none =>
    unfold goalT
    rw [el, lbP_no (by rw [ep, c]; rfl), show (s ++ [b]).length = s.length + 1 from List.length_append, lbP_pre (List.prefix_append s [b]) (Nat.le_refl _), el2]
    rfl
theorem goal_nil (f : Str → Option Str) : goalT f (SX.S []) = (f "").getD "hole" := by
  have ep : px (SX.S []) 0 = ("" : Str) := rfl
  cases c : f "" with
  | some g =>
    unfold goalT lb
    rw [show (SX.S []).length + 1 = 0 + 1 from rfl, lbP_yes (by rw [ep, c]; rfl), ep]
    show (f "").getD Str.empty = _
    rw [c]
    rfl
  | none =>
    unfold goalT lb
    rw [show (SX.S []).length + 1 = 0 + 1 from rfl, lbP_no (by rw [ep, c]; rfl)]
    rfl
theorem all_no_goal : goalB "all" = false := by decide +kernel
theorem goal_not_all {n : Int} {m : List (Str × Str)} {z : Str} (h : ∀ p ∈ m, RowOk n p) : goalT (look m) z ≠ "all" := by
  intro e
  unfold goalT at e
  cases c : lb (look m) z with
  | none =>
    rw [c] at e
    exact absurd (show ("hole" : Str) = "all" from e) (by decide +kernel)
  | some x =>
    rw [c] at e
    obtain ⟨g, hg⟩ := Option.isSome_iff_exists.mp (lbP_some c).1
    obtain ⟨p, hp, _, rfl⟩ := look_mem hg
    have e : (look m x).getD Str.empty = "all" := e
    rw [hg] at e
    have := (h p hp).2.2.1
    rw [show p.2 = "all" from e, all_no_goal] at this
    cases this
theorem gev_all {n : Int} {m : List (Str × Str)} {fs : List (List Nat)} {t : List Nat} (h : ∀ p ∈ m, RowOk n p) : gev m fs t = "all" ↔ M.frB fs t = true := by
  unfold gev
  by_cases q : M.frB fs t = true
  · rw [if_pos q]
    exact ⟨fun _ => q, fun _ => rfl⟩
  · rw [if_neg q]
    exact ⟨fun e => absurd e (goal_not_all h), fun e => absurd e q⟩
/-- rows, and free ones -/
theorem val_free (kvs : List (Key × V)) (fs : List (List Nat)) (v : V) (t : List Nat) : valV (mergeK kvs (fd fs fun _ => v)) (skey t) = if t ∈ fs then some v else valV kvs (skey t) := by
  induction fs generalizing kvs with
  | nil => rw [if_neg (by simp)]; rfl
  | cons f fs ih =>
    have e : mergeK kvs (fd (f :: fs) fun _ => v) = mergeK (putK kvs (skey f) v) (fd fs fun _ => v) := rfl
    rw [e, ih, valV_put]
    by_cases h1 : t ∈ fs
    · rw [if_pos h1, if_pos (List.mem_cons_of_mem _ h1)]
    · rw [if_neg h1]
      by_cases h2 : t = f
      · rw [if_pos (by rw [h2]), if_pos (by rw [h2]; exact List.mem_cons_self)]
      · rw [if_neg fun q => h2 (skey_inj q), if_neg fun q => (List.mem_cons.mp q).elim h2 h1]
theorem tk_look (m : List (Str × Str)) (k : Str) : valV (tk m) (Sum.inr k) = (look m k).map V.str := by
  by_cases h : k ∈ m.map (·.1)
  · have e : (look m k).isSome = true := by rw [look_key, decide_eq_true h]
    rw [tk_val m h, look_get]
    cases e2 : look m k with
    | none => rw [e2] at e; cases e
    | some g => rfl
  · have e : (look m k).isSome = false := by rw [look_key, decide_eq_false h]
    have e1 : valV (tk m) (Sum.inr k) = none := by
      unfold valV
      rw [List.find?_eq_none.mpr]
      · rfl
      intro p hp q
      have q : p.1 = Sum.inr k := by simpa using q
      have : (Sum.inr k : Key) ∈ (tk m).map (·.1) := q ▸ List.mem_map_of_mem hp
      rw [tk_keys] at this
      obtain ⟨z, hz, e2⟩ := List.mem_map.mp this
      cases e2
      exact h hz
    rw [e1]
    cases e2 : look m k with
    | none => rfl
    | some g => rw [e2] at e; cases e
theorem gev_nil (m : List (Str × Str)) (fs : List (List Nat)) : V.str (gev m fs []) = (valV (mergeK (tk m) (fd fs fun _ => .str "all")) (skey [])).getD (.str "hole") := by
  rw [val_free]
  unfold gev
  have hf : M.frB fs [] = decide ([] ∈ fs) := by
    unfold M.frB
    rw [Bool.eq_iff_iff, List.any_eq_true, decide_eq_true_iff]
    constructor
    · rintro ⟨f, hf, q⟩
      have := List.prefix_nil.mp (of_decide_eq_true q)
      exact this ▸ hf
    · intro q
      exact ⟨_, q, decide_eq_true (List.prefix_refl _)⟩
  by_cases q : [] ∈ fs
  · rw [if_pos (by rw [hf]; exact decide_eq_true q), if_pos q]
    rfl
  · rw [if_neg (by rw [hf, decide_eq_false q]; decide), if_neg q, goal_nil, show skey [] = Sum.inr ("" : Str) from congrArg Sum.inr (by decide +kernel), tk_look]
    cases look m "" <;> rfl
theorem gev_snoc {n : Int} {m : List (Str × Str)} (fs : List (List Nat)) (s : List Nat) (b : Nat) (h : ∀ p ∈ m, RowOk n p) : V.str (gev m fs (s ++ [b])) = if gev m fs s = "all" then .str "all" else (valV (mergeK (tk m) (fd fs fun _ => .str "all")) (skey (s ++ [b]))).getD (.str (gev m fs s)) := by
  rw [val_free]
  by_cases q : gev m fs s = "all"
  · rw [if_pos q]
    have q := (gev_all h).mp q
    unfold gev
    rw [if_pos (by rw [fr_snoc, q]; rfl)]
  · rw [if_neg q]
    have q2 : M.frB fs s = false := by
      cases c : M.frB fs s with
      | false => rfl
      | true => exact absurd ((gev_all h).mpr c) q
    by_cases c : s ++ [b] ∈ fs
    · rw [if_pos c]
      unfold gev
      rw [if_pos (by rw [fr_snoc, decide_eq_true c, Bool.or_true])]
      rfl
    · rw [if_neg c]
      have e1 : gev m fs s = goalT (look m) (SX.S s) := by unfold gev; rw [if_neg (by rw [q2]; decide)]
      rw [e1]
      unfold gev
      rw [if_neg (by rw [fr_snoc, q2, decide_eq_false c]; decide), goal_snoc, show skey (s ++ [b]) = Sum.inr (SX.S (s ++ [b])) from rfl, tk_look]
      cases look m (SX.S (s ++ [b])) <;> rfl
open PySem PySem.Spec PyProof.Rows
open L2 hiding pass0
abbrev s_even_goals : Stmt := top 47
theorem sc_even_goals : FnScope ["table", "free", "inner", "rows", "goals", "stretch", "half"] ["table", "free", "inner"] (defScope s_even_goals) := ⟨rfl, rfl, rfl, by decide +kernel, rfl, by decide +kernel, by decide +kernel⟩
theorem bp_even_goals : BndP "_even_goals" s_even_goals ["table", "free", "inner"] := fun _ _ _ _ _ _ us h => match us, h with | [_, _, _], _ => rfl
@[irreducible] def spEG (K : PySem.W.Frag) (C : Addr) : Sp := fun vs H Q _ => ∃ (a F R : Addr) (n : Nat) (m : List (Str × Str)) (fs hs : List (List Nat)), vs = [.ref a, .ref F, .ref R] ∧ TabAt C H a n m ∧ TabOk n m ∧ FrA K H F fs ∧ Fits n fs ∧ fs.Nodup ∧ fs.length ≤ 20 ∧ H R = some (.lst (hs.map sx)) ∧ Hold (kz m ++ fs) hs ∧
  ∀ D H', Same H H' → H D = none → H' D = some (.dK (fd (kys hs) fun t => .str (gev m fs t))) → Q (.ref D) H'
theorem eg_go {K : PySem.W.Frag} {C a F R : Addr} {n : Nat} {m : List (Str × Str)} {fs hs : List (List Nat)} {H : Hp} {Q : VK} {E : XK} (ht : TabAt C H a n m) (ok : TabOk n m) (hF : FrA K H F fs) (ff : Fits n fs) (nd : fs.Nodup) (lf : fs.length ≤ 20) (hR : H R = some (.lst (hs.map sx))) (ho : Hold (kz m ++ fs) hs)
    (k : ∀ D H', Same H H' → H D = none → H' D = some (.dK (fd (kys hs) fun t => .str (gev m fs t))) → Q (.ref D) H') : spEG K C [.ref a, .ref F, .ref R] H Q E := by
  unfold spEG
  exact ⟨a, F, R, n, m, fs, hs, rfl, ht, ok, hF, ff, nd, lf, hR, ho, k⟩
section
variable {P : Program} {w : World} {K : PySem.W.Frag} {mg : Str → Option Value} {base : Heap} {f C : Addr} {fd' : FuncData}
theorem ok_even_goals (F : Fun K "_even_goals" "_even_goals" s_even_goals f fd') (hm : mg "_even_goals" = some (.ref f)) (T : Txt K mg) (TC : TabC K C) (cA : ∃ u, mg "ALL" = some u ∧ RelV (.str "all") u)
    (c_Table_rows : Mth P w K mg base CX0 1 C "rows" "Table.rows" s_Table_rows ["self"] (spTRows C)) : Nm P w K mg base CX0 2 "_even_goals" s_even_goals ["table", "free", "inner"] (spEG K C) := by
  refine nm_of0 F hm sc_even_goals (fun vs H Q E h => ?_) fun cdv A outer s H vs Q E hr h => ?_
  · unfold spEG at h
    obtain ⟨a, F, R, n, m, fs, hs, rfl, ht, ok, hF, ff, nd, lf, hR, ho, k⟩ := h
    subst_vars
    rfl
  unfold spEG at h
  obtain ⟨a, F, R, n, m, fs, hs, rfl, ht, ok, hF, ff, nd, lf, hR, ho, k⟩ := h
  refine ⟨_, (C8.pss_cut (ps_set (i := 3) sc_even_goals.nd rfl (by first | exact Or.inl rfl | exact Or.inr rfl) (pe_star2 (pe_m0 c_Table_rows TC.cl hr (by decide) L2.pass0 bm_Table_rows (pv 0)) (pe_dc (own := [("stretch", 5)]) (g := (gName 5)) (by rfl) sc_even_goals.nd (pi_seqAK (K := K) rfl (pv 1)) (blkOk_by (own := [("stretch", 5)]) (N := ["table", "free", "inner", "rows", "goals", "stretch", "half"]) (sc := defScope s_even_goals) (by decide +kernel)) (fun _ _ _ _ _ => (pg_name (i := 5) sc_even_goals.nd rfl (by first | exact Or.inl rfl | exact Or.inr rfl))) (fun _ _ _ _ _ => pts_nil) (fun _ _ _ _ _ => (pv 5)) (fun _ _ _ _ _ => (pe_cst (by rfl) cA)))))
      (C8.pss_cut (ps_set (i := 4) sc_even_goals.nd rfl (by first | exact Or.inl rfl | exact Or.inr rfl) (pe_disp (pps_cons pe_str (pe_dget2 hr.u1 (pv 3) pe_str pe_str ⟨by rfl, by rfl, by rfl, by rfl⟩) pps_nil) (by rfl) (by rfl) (fun z => by cases z) (by decide)))
      (pss_cons (ps_for PassesOwn.never rfl (pi_listK (K := K) rfl (pv 2)) (pg_name (i := 5) sc_even_goals.nd rfl (by first | exact Or.inl rfl | exact Or.inr rfl)) (pss_one (ps_for PassesOwn.never rfl (pi_tup (pe_tup (pa_cons (pe_op op_add_str (pv 5) pe_str) (pa_cons (pe_op op_add_str (pv 5) pe_str) pa_nil)))) (pg_name (i := 6) sc_even_goals.nd rfl (by first | exact Or.inl rfl | exact Or.inr rfl)) (pss_one (ps_asg (pe_ifExp (pt_cmpR op_eq (pe_dget hr.u1 (pv 4) (pv 5) (fun _ _ => rfl)) (pe_cst (by rfl) cA) (nomark _)) (pe_cst (by rfl) cA) (pe_dget2 hr.u1 (pv 3) (pv 6) (pe_dget hr.u1 (pv 4) (pv 5) (fun _ _ => rfl)) ⟨by rfl, by rfl, by rfl, by rfl⟩)) (pg_sub (pv 4) (pv 6) (set_dict hr.u1)))))))
      (pss_one (ps_ret (pv 4)))))), ?_⟩
  have rk := ok.rows
  obtain ⟨dx, Dm, ha, hDm, hne⟩ := ht
  have tt : TabAt C H a n m := ⟨dx, Dm, ha, hDm, hne⟩
  refine ⟨fun σ' H' => ∃ W x5, σ' = [some (.ref a), some (.ref F), some (.ref R), some (.ref W), none, x5, none] ∧ Same H H' ∧ H' W = some (.dK (mergeK (tk m) (fd fs fun _ => .str "all"))), ?_, ?_⟩
  · intro W nW
    have s1 := (Same.refl H).new (o := HO.dK []) nW
    have eW : upd H W (.dK []) W = some (.dK []) := upd_same
    generalize hH1 : upd H W (.dK []) = H1 at s1 eW ⊢
    refine ⟨_, rfl, ⟨⟨a, dx, _, rfl, s1 _ _ ha, rfl⟩, ?_⟩⟩
    refine trows_go (tt.to s1) fun p np => ?_
    have hWp : W ≠ p := nonn np eW
    refine ⟨p, tk m, rfl, hWp, updn hWp eW, .inl upd_same, ?_⟩
    rw [show mergeK [] (tk m) = tk m from mrg_nil ok.nd]
    have s2 : Same H (upd (upd H1 p (.dK (tk m))) W (.dK (tk m))) := fun b o e => by
      have e1 := s1 b o e
      exact updn (fun q => by rw [q, nW] at e; cases e) (updn (nonn np e1) e1)
    have eW2 : upd (upd H1 p (.dK (tk m))) W (.dK (tk m)) W = some (.dK (tk m)) := upd_same
    generalize upd (upd H1 p (.dK (tk m))) W (.dK (tk m)) = H2 at s2 eW2 ⊢
    refine ⟨_, rfl, ⟨F, fs.map sx, rfl, ?_⟩⟩
    rcases hF.seq with q | q
    · refine .inl ⟨q _ s2, fun D nD => ?_⟩
      refine dc_it (walk_list (xs := fs.map sx)) (fun i H3 => H3 D = some (.dK (fd (fs.take i) fun _ => .str "all")) ∧ Same H2 H3) ⟨upd_same, (Same.refl H2).new nD⟩ (fun i H3 _ h => q _ (s2.trans h.2)) ?_ ?_
      · rintro i x H3 H4 hi ⟨hD, sm⟩ ⟨rfl, hx⟩
        obtain ⟨t, ht, rfl⟩ := sx_at hx
        refine ⟨rfl, ?_⟩
        dsimp only [tYes]
        rw [if_pos rfl]
        refine ⟨_, rfl, ⟨_, skey t, rfl, hD, szt (by rw [fd_len, List.length_take]; omega), ?_, fun b o e => updn (nonn nD e) (sm _ _ e)⟩⟩
        rw [upd_same, fd_put, if_neg (take_new nd ht), List.take_add_one, ht]
        exact congrArg (fun z => some (HO.dK z)) (fd_congr fun s _ => by unfold fup; split <;> rfl)
      · rintro H3 ⟨hD, sm⟩
        rw [List.length_map, List.take_length] at hD
        refine ⟨D, _, _, rfl, nonn nD eW2, sm _ _ eW2, .inl hD, szl (by rw [tk_len, fd_len]; have := ok.few; omega), ?_⟩
        refine ⟨W, _, rfl, fun b o e => ?_, upd_same⟩
        have e1 := sm b o (s2 b o e)
        exact updn (fun q => by rw [q, nW] at e; cases e) e1
    · refine .inr ⟨q _ s2, fun D nD => ?_⟩
      refine dc_it (walk_tup (xs := fs.map sx)) (fun i H3 => H3 D = some (.dK (fd (fs.take i) fun _ => .str "all")) ∧ Same H2 H3) ⟨upd_same, (Same.refl H2).new nD⟩ (fun i H3 _ h => q _ (s2.trans h.2)) ?_ ?_
      · rintro i x H3 H4 hi ⟨hD, sm⟩ ⟨rfl, hx⟩
        obtain ⟨t, ht, rfl⟩ := sx_at hx
        refine ⟨rfl, ?_⟩
        dsimp only [tYes]
        rw [if_pos rfl]
        refine ⟨_, rfl, ⟨_, skey t, rfl, hD, szt (by rw [fd_len, List.length_take]; omega), ?_, fun b o e => updn (nonn nD e) (sm _ _ e)⟩⟩
        rw [upd_same, fd_put, if_neg (take_new nd ht), List.take_add_one, ht]
        exact congrArg (fun z => some (HO.dK z)) (fd_congr fun s _ => by unfold fup; split <;> rfl)
      · rintro H3 ⟨hD, sm⟩
        rw [List.length_map, List.take_length] at hD
        refine ⟨D, _, _, rfl, nonn nD eW2, sm _ _ eW2, .inl hD, szl (by rw [tk_len, fd_len]; have := ok.few; omega), ?_⟩
        refine ⟨W, _, rfl, fun b o e => ?_, upd_same⟩
        have e1 := sm b o (s2 b o e)
        exact updn (fun q => by rw [q, nW] at e; cases e) e1
  rintro σ' H1 ⟨W, x5, rfl, s1, eW⟩
  generalize hrw : mergeK (tk m) (fd fs fun _ => .str "all") = rw at eW
  refine ⟨fun σ' H' => ∃ G, σ' = [some (.ref a), some (.ref F), some (.ref R), some (.ref W), some (.ref G), x5, none] ∧ Same H H' ∧ H G = none ∧ H' W = some (.dK rw) ∧ G ≠ W ∧ H' G = some (.dK (fd (kys []) fun t => .str (gev m fs t))), ?_, ?_⟩
  · intro G nG
    have s2 := s1.new (o := HO.dK []) nG
    have e2 := updn (o := HO.dK []) (nonn nG eW) eW
    have eG : upd H1 G (.dK []) G = some (.dK []) := upd_same
    have nGW : W ≠ G := nonn nG eW
    have nGH := s1.back nG
    generalize upd H1 G (.dK []) = H2 at s2 e2 eG ⊢
    refine ⟨_, rfl, ⟨W, rfl, .inl ⟨_, .inl e2⟩, ⟨_, .inl ⟨_, Sum.inr "", .inl e2, rfl, rfl⟩, ?_⟩⟩⟩
    refine ⟨eG, [(Sum.inr "", _)], rfl, by show 1 ≤ 15; decide, ?_⟩
    refine ⟨G, rfl, fun b o e => updn (fun q => by rw [q, nGH] at e; cases e) (s2 _ _ e), nGH, updn nGW e2, nGW.symm, ?_⟩
    rw [upd_same]
    refine congrArg (fun z => some (HO.dK z)) ?_
    show [((Sum.inr "" : Key), (valV rw (Sum.inr "")).getD (V.str "hole"))] = [(skey [], V.str (gev m fs []))]
    rw [show ((Sum.inr "" : Key)) = skey [] from congrArg Sum.inr (by decide +kernel), gev_nil, hrw]
  rintro σ' H2 ⟨G, rfl, s2, nG, eW2, hGW, eG⟩
  refine ⟨_, rfl, ⟨R, rfl, ⟨_, SqL.of (s2 _ _ hR)⟩, ?_⟩⟩
  have hlen := ho.len
  have lts : (kz m ++ fs).length ≤ 60 := by
    rw [List.length_append, kz_len]
    have := ok.few
    omega
  have hbl : ∀ t ∈ kz m ++ fs, M.BL t ∧ t.length ≤ n := fun t ht => by
    rcases List.mem_append.mp ht with h | h
    · exact kz_fits rk t h
    · exact ff t h
  have hsl : ∀ s ∈ hs, s.length ≤ 100 := fun s h => by
    obtain ⟨t, ht, q, _⟩ := (ho.mem s).mp h
    have := (hbl t ht).2
    have := q.length_le
    have := ok.w1
    omega
  refine for_it (walk_list (xs := hs.map sx)) (fun i σ' H' => ∃ x5 x6, σ' = [some (.ref a), some (.ref F), some (.ref R), some (.ref W), some (.ref G), x5, x6] ∧ Same H H' ∧ H' W = some (.dK rw) ∧ H' G = some (.dK (fd (kys (hs.take i)) fun t => .str (gev m fs t)))) ⟨_, _, rfl, s2, eW2, eG⟩ (fun i σ' H' _ h => let ⟨_, _, _, s, _⟩ := h; SqL.of (s _ _ hR)) ?_ ?_
  · rintro i x σ' H3 H4 hi ⟨x5, x6, rfl, s3, eW3, eG3⟩ ⟨rfl, hx⟩
    obtain ⟨s, hs', rfl⟩ := sx_at hx
    have sl := hsl s (List.mem_of_getElem? hs')
    have li : i < hs.length := (List.getElem?_eq_some_iff.mp hs').1
    have hk := ho.key (fun t ht => (hbl t ht).1) hs'
    have snew : s ∉ hs.take i := take_new ho.nd hs'
    refine ⟨_, rfl, ⟨_, _, rfl, rfl, szl (by rw [sx_len]; show s.length + 1 ≤ 1000000; omega), ?_⟩⟩
    refine ⟨_, rfl, ⟨_, _, rfl, rfl, szl (by rw [sx_len]; show s.length + 1 ≤ 1000000; omega), ?_⟩⟩
    refine ⟨szl (by show 2 ≤ 1000000; decide), fun t nt => ?_⟩
    rw [show V.str (SX.S s ++ "0") = sx (s ++ [48]) by rw [show ("0" : Str) = SX.S [48] by decide +kernel, S_app]; rfl, show V.str (SX.S s ++ "1") = sx (s ++ [49]) by rw [show ("1" : Str) = SX.S [49] by decide +kernel, S_app]; rfl]
    have s4 := s3.new (o := HO.tup [sx (s ++ [48]), sx (s ++ [49])]) nt
    have et : upd H4 t (.tup [sx (s ++ [48]), sx (s ++ [49])]) t = some (.tup [sx (s ++ [48]), sx (s ++ [49])]) := upd_same
    have eW4 := updn (o := HO.tup [sx (s ++ [48]), sx (s ++ [49])]) (nonn nt eW3) eW3
    have eG4 := updn (o := HO.tup [sx (s ++ [48]), sx (s ++ [49])]) (nonn nt eG3) eG3
    have hGt : G ≠ t := nonn nt eG3
    have ntH := s3.back nt
    generalize upd H4 t (.tup [sx (s ++ [48]), sx (s ++ [49])]) = H5 at s4 et eW4 eG4 ⊢
    refine ⟨t, rfl, ⟨_, SqT.of et⟩, ?_⟩
    refine for_it (walk_tup (xs := [s ++ [48], s ++ [49]].map sx)) (fun j σ' H' => ∃ x6, σ' = [some (.ref a), some (.ref F), some (.ref R), some (.ref W), some (.ref G), some (sx s), x6] ∧ Same H H' ∧ H' W = some (.dK rw) ∧ H' t = some (.tup ([s ++ [48], s ++ [49]].map sx)) ∧ H' G = some (.dK (fd (kys (hs.take i) ++ [s ++ [48], s ++ [49]].take j) fun t => .str (gev m fs t)))) ⟨_, rfl, s4, eW4, et, by rw [List.take_zero, List.append_nil]; exact eG4⟩ (fun j σ' H' _ h => let ⟨_, _, _, _, e, _⟩ := h; SqT.of e) ?_ ?_
    · rintro j x σ' H6 H7 hj ⟨x6, rfl, s6, eW6, et6, eG6⟩ ⟨rfl, hx⟩
      obtain ⟨u, hu, rfl⟩ := sx_at hx
      have hE : H7 G = some (.dK (fd (kys (hs.take i) ++ [s ++ [48], s ++ [49]].take j) fun t => .str (gev m fs t))) := eG6
      have hW7 : H7 W = some (.dK rw) := eW6
      obtain ⟨b, rfl, unew, utk, lj⟩ : ∃ b, u = s ++ [b] ∧ s ++ [b] ∉ kys (hs.take i) ++ [s ++ [48], s ++ [49]].take j ∧ [s ++ [48], s ++ [49]].take (j + 1) = [s ++ [48], s ++ [49]].take j ++ [s ++ [b]] ∧ j < 2 := by
        match j, hu with
        | 0, hu =>
          cases hu
          refine ⟨48, rfl, ?_, rfl, by decide⟩
          rw [List.take_zero, List.append_nil]
          exact kys_new snew 48
        | 1, hu =>
          cases hu
          refine ⟨49, rfl, fun q => ?_, rfl, by decide⟩
          rcases List.mem_append.mp q with q | q
          · exact kys_new snew 49 q
          · have : s ++ [49] = s ++ [48] := by simpa using q
            have := (snoc_inj this).2
            omega
        | j + 2, hu => cases hu
      have lk : (fd (kys (hs.take i) ++ [s ++ [48], s ++ [49]].take j) fun t => V.str (gev m fs t)).length < sizeLine := by
        rw [fd_len, List.length_append, kys_len, List.length_take, List.length_take]
        exact szt (by show 2 * _ + 1 + min j 2 < 1000000; omega)
      have vs : some (V.str (gev m fs s)) = valV (fd (kys (hs.take i) ++ [s ++ [48], s ++ [49]].take j) fun t => V.str (gev m fs t)) (skey s) := by
        rw [fd_val, if_pos (List.mem_append_left _ hk)]
      have fin : ∀ v : V, v = .str (gev m fs (s ++ [b])) → ∃ x6, ([some (V.ref a), some (V.ref F), some (V.ref R), some (V.ref W), some (V.ref G), some (sx s), some (sx (s ++ [b]))] : List (Option V)) = [some (V.ref a), some (V.ref F), some (V.ref R), some (V.ref W), some (V.ref G), some (sx s), x6] ∧ Same H (upd H7 G (.dK (putK (fd (kys (hs.take i) ++ [s ++ [48], s ++ [49]].take j) fun t => .str (gev m fs t)) (skey (s ++ [b])) v))) ∧ upd H7 G (.dK (putK (fd (kys (hs.take i) ++ [s ++ [48], s ++ [49]].take j) fun t => .str (gev m fs t)) (skey (s ++ [b])) v)) W = some (.dK rw) ∧ upd H7 G (.dK (putK (fd (kys (hs.take i) ++ [s ++ [48], s ++ [49]].take j) fun t => .str (gev m fs t)) (skey (s ++ [b])) v)) t = some (.tup ([s ++ [48], s ++ [49]].map sx)) ∧ upd H7 G (.dK (putK (fd (kys (hs.take i) ++ [s ++ [48], s ++ [49]].take j) fun t => .str (gev m fs t)) (skey (s ++ [b])) v)) G = some (.dK (fd (kys (hs.take i) ++ [s ++ [48], s ++ [49]].take (j + 1)) fun t => .str (gev m fs t))) := by
        rintro v rfl
        refine ⟨_, rfl, fun b o e => updn (fun q => by rw [q, nG] at e; cases e) (s6 _ _ e), updn hGW.symm eW6, updn hGt.symm et6, ?_⟩
        rw [upd_same, fd_put, if_neg unew, utk, ← List.append_assoc]
        exact congrArg (fun z => some (HO.dK z)) (fd_congr fun x _ => by
          by_cases q : x = s ++ [b]
          · rw [q, fup_at]
          · rw [fup_ne q])
      have ev := gev_snoc fs s b rk
      rw [hrw] at ev
      refine ⟨_, rfl, ⟨_, rfl, ⟨G, .str (gev m fs s), rfl, .inl ⟨_, skey s, .inl hE, rfl, vs⟩, ⟨rfl, ⟨_, rfl, ?_⟩⟩⟩⟩⟩
      by_cases q : gev m fs s = "all"
      · rw [show decide (V.str (gev m fs s) = V.str "all") = true from decide_eq_true (by rw [q])]
        refine iteT ?_
        refine ⟨_, rfl, ⟨_, rfl, ⟨G, _, rfl, .inl ⟨_, skey (s ++ [b]), hE, rfl, lk, rfl⟩, ?_⟩⟩⟩
        rw [if_pos q] at ev
        exact fin _ ev.symm
      · rw [show decide (V.str (gev m fs s) = V.str "all") = false from decide_eq_false (fun e => q (by injection e))]
        refine iteF ?_
        refine ⟨_, rfl, ⟨W, rfl, .inl ⟨_, .inl hW7⟩, ⟨_, rfl, ?_⟩⟩⟩
        refine ⟨_, rfl, ⟨_, rfl, ⟨G, .str (gev m fs s), rfl, .inl ⟨_, skey s, .inl hE, rfl, vs⟩, ?_⟩⟩⟩
        refine ⟨_, .inl ⟨_, skey (s ++ [b]), .inl hW7, rfl, rfl⟩, ?_⟩
        refine ⟨_, rfl, ⟨_, rfl, ⟨G, _, rfl, .inl ⟨_, skey (s ++ [b]), hE, rfl, lk, rfl⟩, ?_⟩⟩⟩
        rw [if_neg q] at ev
        exact fin _ ev.symm
    · rintro σ' H6 ⟨x6, rfl, s6, eW6, et6, eG6⟩
      refine ⟨_, _, rfl, s6, eW6, ?_⟩
      rw [eG6, List.take_add_one, hs']
      show _ = some (HO.dK (fd (kys (hs.take i ++ [s])) _))
      rw [kys_snoc]
      rfl
  · rintro σ' H3 ⟨x5, x6, rfl, s3, eW3, eG3⟩
    rw [List.length_map, List.take_length] at eG3
    exact ⟨_, rfl, k G H3 s3 nG eG3⟩
end
open PySem PySem.Spec PyProof.Rows
open L2 hiding pass0
abbrev s_sets_and_needs : Stmt := top 45
theorem sc_sets_and_needs : FnScope ["table", "free", "inner", "known", "stretch", "goal"] ["table", "free"] (defScope s_sets_and_needs) := ⟨rfl, rfl, rfl, by decide +kernel, rfl, by decide +kernel, by decide +kernel⟩
theorem bp_sets_and_needs : BndP "sets_and_needs" s_sets_and_needs ["table", "free"] := fun _ _ _ _ _ _ us h => match us, h with | [_, _], _ => rfl
/-- what an address is led to, none if it is free -/
def lab (m : List (Str × Str)) (fs : List (List Nat)) (z : List Nat) : Option Str := if M.frB fs z = true then none else some (goalT (look m) (SX.S z))
def SN (n : Nat) (m : List (Str × Str)) (fs : List (List Nat)) (t : List Nat) : SNd := SNk (lab m fs) (n - t.length) t
/-- what is known of a table -/
def KnAt (H : Hp) (D : Addr) (n : Nat) (m : List (Str × Str)) (fs : List (List Nat)) : Prop := ∃ (hs : List (List Nat)) (ad : List Nat → Addr), Hold (kz m ++ fs) hs ∧ H D = some (.dK (fd (kys hs) fun t => .ref (ad t))) ∧ ∀ t ∈ kys hs, SnA (.str "all") H (ad t) (SN n m fs t)
@[irreducible] def spSN (K : PySem.W.Frag) (C : Addr) : Sp := fun vs H Q _ => ∃ (a F : Addr) (n : Nat) (m : List (Str × Str)) (fs : List (List Nat)), vs = [.ref a, .ref F] ∧ TabAt C H a n m ∧ TabOk n m ∧ FrA K H F fs ∧ Fits n fs ∧ fs.Nodup ∧ fs.length ≤ 20 ∧
  ∀ D H', Same H H' → H D = none → KnAt H' D n m fs → Q (.ref D) H'
theorem sn_go {K : PySem.W.Frag} {C a F : Addr} {n : Nat} {m : List (Str × Str)} {fs : List (List Nat)} {H : Hp} {Q : VK} {E : XK} (ht : TabAt C H a n m) (ok : TabOk n m) (hF : FrA K H F fs) (ff : Fits n fs) (nd : fs.Nodup) (lf : fs.length ≤ 20)
    (k : ∀ D H', Same H H' → H D = none → KnAt H' D n m fs → Q (.ref D) H') : spSN K C [.ref a, .ref F] H Q E := by
  unfold spSN
  exact ⟨a, F, n, m, fs, rfl, ht, ok, hF, ff, nd, lf, k⟩
theorem SetV.mutD {H : Hp} {mk v : V} {o : Option (List Str)} {D : Addr} {kvs kvs' : List (Key × V)} (h : SetV H mk v o) (hD : H D = some (.dK kvs)) : SetV (upd H D (.dK kvs')) mk v o := by
  cases o with
  | none => exact h
  | some x =>
    obtain ⟨b, e, hb⟩ := h
    exact ⟨b, e, updn (fun q => by rw [q, hD] at hb; cases hb) hb⟩
theorem SnA.mutD {H : Hp} {mk : V} {a D : Addr} {t : SNd} {kvs kvs' : List (Key × V)} (h : SnA mk H a t) (hD : H D = some (.dK kvs)) : SnA mk (upd H D (.dK kvs')) a t := by
  obtain ⟨v, e, hv⟩ := h
  exact ⟨v, updn (fun q => by rw [q, hD] at e; cases e) e, hv.mutD hD⟩
theorem str0 (s : List Nat) : V.str (SX.S s ++ "0") = sx (s ++ [48]) := by rw [show ("0" : Str) = SX.S [48] by decide +kernel, S_app]; rfl
theorem str1 (s : List Nat) : V.str (SX.S s ++ "1") = sx (s ++ [49]) := by rw [show ("1" : Str) = SX.S [49] by decide +kernel, S_app]; rfl
theorem frozen_ext {m : List (Str × Str)} {fs : List (List Nat)} {t : List Nat} (h : ∀ p, t <+: p → p ≠ t → p ∉ kz m ++ fs) : ∀ (k : Nat) (y : List Nat), y.length = k → M.frB fs (t ++ y) = M.frB fs t ∧ goalT (look m) (SX.S (t ++ y)) = goalT (look m) (SX.S t)
  | 0, y, e => by
    have : y = [] := List.eq_nil_of_length_eq_zero e
    subst this
    rw [List.append_nil]
    exact ⟨rfl, rfl⟩
  | k + 1, y, e => by
    obtain ⟨z, b, rfl⟩ := snoc_of (s := y) (fun q => by rw [q] at e; cases e)
    have lz : z.length = k := by rw [List.length_append] at e; exact Nat.succ.inj e
    obtain ⟨h1, h2⟩ := frozen_ext h k z lz
    have hn := h (t ++ z ++ [b]) (by rw [List.append_assoc]; exact List.prefix_append _ _) (fun q => by
      have := congrArg List.length q
      rw [List.length_append, List.length_append] at this
      have : t.length + z.length + 1 = t.length := this
      omega)
    rw [List.mem_append] at hn
    rw [← List.append_assoc]
    constructor
    · rw [fr_snoc, decide_eq_false fun q => hn (.inr q), Bool.or_false, h1]
    · have e1 : look m (SX.S (t ++ z ++ [b])) = none := by
        have := look_kz (m := m) (t := t ++ z ++ [b])
        rw [decide_eq_false fun q => hn (.inl q)] at this
        cases c : look m (SX.S (t ++ z ++ [b])) with
        | none => rfl
        | some g => rw [c] at this; cases this
      rw [goal_snoc, e1, ← h2]
      rfl
def ev0 (m : List (Str × Str)) (fs : List (List Nat)) (t : List Nat) : SNd := (if gev m fs t = "all" then none else some [gev m fs t], 0)
theorem SN_leaf {n : Nat} {m : List (Str × Str)} {fs hs : List (List Nat)} {t : List Nat} (rk : ∀ p ∈ m, RowOk (n : Int) p) (ho : Hold (kz m ++ fs) hs) (ht : t ∉ hs) : SN n m fs t = ev0 m fs t := by
  have hx : ∀ p, t <+: p → p ≠ t → p ∉ kz m ++ fs := fun p hp hn q => ht ((ho.mem t).mpr ⟨p, q, hp, fun e => hn e.symm⟩)
  unfold SN ev0
  rw [SNk_even (o := if gev m fs t = "all" then none else some (gev m fs t)) fun y _ ly => ?_]
  · split <;> rfl
  · obtain ⟨h1, h2⟩ := frozen_ext hx _ y ly
    unfold lab
    rw [h1, h2]
    by_cases q : M.frB fs t = true
    · rw [if_pos q, if_pos ((gev_all rk).mpr q)]
    · rw [if_neg q, if_neg fun e => q ((gev_all rk).mp e)]
      unfold gev
      rw [if_neg q]
theorem SN_in {n : Nat} {m : List (Str × Str)} {fs : List (List Nat)} {t : List Nat} (h : t.length < n) : SN n m fs t = both2 (SN n m fs (t ++ [48])) (SN n m fs (t ++ [49])) := by
  unfold SN
  obtain ⟨k, hk⟩ : ∃ k, n - t.length = k + 1 := ⟨n - t.length - 1, by omega⟩
  have e : ∀ b : Nat, n - (t ++ [b]).length = k := fun b => by rw [List.length_append]; show n - (t.length + 1) = k; omega
  rw [hk, e, e]
  rfl
theorem goal_in (m : List (Str × Str)) (z : Str) : goalT (look m) z ∈ ("hole" : Str) :: m.map (·.2) := by
  unfold goalT
  cases c : lb (look m) z with
  | none => exact List.mem_cons_self
  | some x =>
    obtain ⟨g, hg⟩ := Option.isSome_iff_exists.mp (lbP_some c).1
    obtain ⟨p, hp, _, rfl⟩ := look_mem hg
    show (look m x).getD Str.empty ∈ _
    rw [hg]
    exact List.mem_cons_of_mem _ (List.mem_map_of_mem hp)
theorem nd_len {α : Type} [BEq α] [LawfulBEq α] : ∀ {x y : List α}, x.Nodup → (∀ a ∈ x, a ∈ y) → x.length ≤ y.length
  | [], _, _, _ => Nat.zero_le _
  | a :: x, y, h, s => by
    obtain ⟨h1, h2⟩ := List.nodup_cons.mp h
    have ha := s a List.mem_cons_self
    have := nd_len (x := x) (y := y.erase a) h2 fun b hb => (List.mem_erase_of_ne (show b ≠ a from fun e => h1 (e ▸ hb))).mpr (s b (List.mem_cons_of_mem _ hb))
    rw [List.length_erase_of_mem ha] at this
    have := List.length_pos_of_mem ha
    rw [List.length_cons]
    omega
theorem SN_sz {n : Nat} {m : List (Str × Str)} {fs : List (List Nat)} {t : List Nat} (ok : TabOk (n : Int) m) : Sz (SN n m fs t) := fun x hx => by
  obtain ⟨nd, _, sub⟩ := SNk_sub (GS := ("hole" : Str) :: m.map (·.2)) (fun y g _ _ e => by
    unfold lab at e
    split at e
    · cases e
    · cases e
      exact goal_in m _) x hx
  constructor
  · have := nd_len nd sub
    rw [List.length_cons, List.length_map] at this
    have := ok.few
    omega
  · intro g hg
    rcases List.mem_cons.mp (sub g hg) with rfl | h
    · exact ⟨by unfold Low; decide +kernel, by decide +kernel⟩
    · obtain ⟨p, hp, rfl⟩ := List.mem_map.mp h
      exact ⟨(ok.rows p hp).2.2.2.1, (ok.rows p hp).2.2.2.2⟩
theorem kys_fit {n : Nat} {ts hs : List (List Nat)} (ho : Hold ts hs) (ht : ∀ t ∈ ts, M.BL t ∧ t.length ≤ n) {x : List Nat} (h : x ∈ kys hs) : M.BL x ∧ x.length ≤ n := by
  rcases kys_mem.mp h with rfl | ⟨s, hs', q⟩
  · exact ⟨(fun c hc => by cases hc), Nat.zero_le _⟩
  · obtain ⟨t, ht', p, ne⟩ := (ho.mem s).mp hs'
    have h1 := ht t ht'
    have bl := ho.bl (fun t h => (ht t h).1) hs'
    have l1 : s.length < t.length := by
      rcases Nat.lt_or_ge s.length t.length with g | g
      · exact g
      · exact absurd (List.IsPrefix.eq_of_length p (Nat.le_antisymm p.length_le g)) ne
    rcases q with rfl | rfl
    · exact ⟨bl.app fun c hc => .inl (List.mem_singleton.mp hc), by rw [List.length_append]; show s.length + 1 ≤ n; omega⟩
    · exact ⟨bl.app fun c hc => .inr (List.mem_singleton.mp hc), by rw [List.length_append]; show s.length + 1 ≤ n; omega⟩
theorem hold_lt {n : Nat} {ts hs : List (List Nat)} (ho : Hold ts hs) (ht : ∀ t ∈ ts, M.BL t ∧ t.length ≤ n) {s : List Nat} (h : s ∈ hs) : s.length < n := by
  have := (kys_fit ho ht (kys_mem.mpr (.inr ⟨s, h, .inl rfl⟩))).2
  rw [List.length_append] at this
  exact this
section
variable {P : Program} {w : World} {K : PySem.W.Frag} {mg : Str → Option Value} {base : Heap} {f C : Addr} {fd' : FuncData}
theorem ok_sets (F : Fun K "sets_and_needs" "sets_and_needs" s_sets_and_needs f fd') (hm : mg "sets_and_needs" = some (.ref f)) (T : Txt K mg) (TC : TabC K C) (c_check_free : Nm P w K mg base CX0 5 "check_free" s_check_free ["width", "free"] (spCF K)) (c_holders : Nm P w K mg base CX0 1 "_holders" s_holders ["stretches"] (spHo)) (c_even_goals : Nm P w K mg base CX0 2 "_even_goals" s_even_goals ["table", "free", "inner"] (spEG K C)) (c_even_set : Nm P w K mg base CX0 1 "_even_set" s_even_set ["goal"] (spES)) (c_of_halves : Nm P w K mg base CX0 1 "_of_halves" s_of_halves ["zero", "one"] (spOH))
    (c_Table_width : Prp P w K mg base CX0 1 C "width" "Table.width" s_Table_width ["self"] (spWidth C)) (c_Table_rows : Mth P w K mg base CX0 1 C "rows" "Table.rows" s_Table_rows ["self"] (spTRows C)) : Nm P w K mg base CX0 6 "sets_and_needs" s_sets_and_needs ["table", "free"] (spSN K C) := by
  refine nm_of0 F hm sc_sets_and_needs (fun vs H Q E h => ?_) fun cdv A outer s H vs Q E hr h => ?_
  · unfold spSN at h
    obtain ⟨a, F, n, m, fs, rfl, ht, ok, hF, ff, nd, lf, k⟩ := h
    subst_vars
    rfl
  unfold spSN at h
  obtain ⟨a, F, n, m, fs, rfl, ht, ok, hF, ff, nd, lf, k⟩ := h
  refine ⟨_, (C8.pss_cut (ps_expr (pe_g c_check_free hr (by decide) L2.pass0 bp_check_free (by rfl) (pa_cons (pe_p c_Table_width TC.cl hr (by decide) L2.pass0 bm_Table_width (pv 0)) (pa_cons (pv 1) pa_nil))))
      (C8.pss_cut (ps_set (i := 2) sc_sets_and_needs.nd rfl (by first | exact Or.inl rfl | exact Or.inr rfl) (pe_g c_holders hr (by decide) L2.pass0 bp_holders (by rfl) (pa_cons (pe_lst (pa_starD rfl (pe_m0 c_Table_rows TC.cl hr (by decide) L2.pass0 bm_Table_rows (pv 0)) (StX.pa_star (pv 1) pa_nil))) pa_nil)))
      (C8.pss_cut (ps_setDc (i := 3) (own := [("stretch", 4), ("goal", 5)]) (g := (gTup K 2 (gCons (gName 4) (gCons (gName 5) gNil)))) (by rfl) sc_sets_and_needs.nd rfl rfl (sw_trueD rfl rfl rfl (by decide +kernel)) (L2.pi_items (pe_frz (pe_g c_even_goals hr (by decide) L2.pass0 bp_even_goals (by rfl) (pa_cons (pv 0) (pa_cons (pv 1) (pa_cons (pv 2) pa_nil)))))) (blkOk_by (own := [("stretch", 4), ("goal", 5)]) (N := ["table", "free", "inner", "known", "stretch", "goal"]) (sc := defScope s_sets_and_needs) (by decide +kernel)) (fun _ _ _ _ _ => (pg_tup (by rfl) (pgs_cons (pg_name (i := 4) sc_sets_and_needs.nd rfl (by first | exact Or.inl rfl | exact Or.inr rfl)) (pgs_cons (pg_name (i := 5) sc_sets_and_needs.nd rfl (by first | exact Or.inl rfl | exact Or.inr rfl)) pgs_nil)))) (fun _ _ _ _ _ => pts_nil) (fun _ _ _ _ _ => (pv 4)) (fun _ _ _ _ _ => (pe_tup (pa_cons (pe_g c_even_set hr (by decide) L2.pass0 bp_even_set (by rfl) (pa_cons (pv 5) pa_nil)) (pa_cons pe_int pa_nil)))))
      (pss_cons (ps_for PassesOwn.never rfl (pi_reversed (by rfl) T.b_reversed (pa_cons (pe_callTy call_list_of (by rfl) T.b_list (by decide +kernel) (pa_cons (pv 2) pa_nil)) pa_nil)) (pg_name (i := 4) sc_sets_and_needs.nd rfl (by first | exact Or.inl rfl | exact Or.inr rfl)) (pss_one (ps_asg (pe_g c_of_halves hr (by decide) L2.pass0 bp_of_halves (by rfl) (pa_cons (pe_dget hr.u1 (pv 3) (pe_op op_add_str (pv 4) pe_str) (fun _ _ => rfl)) (pa_cons (pe_dget hr.u1 (pv 3) (pe_op op_add_str (pv 4) pe_str) (fun _ _ => rfl)) pa_nil))) (pg_sub (pv 3) (pv 4) (set_dict hr.u1)))))
      (pss_one (ps_ret (pv 3))))))), ?_⟩
  have rk := ok.rows
  have h0 : 1 ≤ n := by have := ok.w0; omega
  have h1 : n ≤ 100 := by have := ok.w1; omega
  obtain ⟨dx, Dm, ha, hDm, hne⟩ := ht
  have tt : TabAt C H a n m := ⟨dx, Dm, ha, hDm, hne⟩
  have hts : ∀ t ∈ kz m ++ fs, M.BL t ∧ t.length ≤ n := fun t ht => by
    rcases List.mem_append.mp ht with h | h
    · exact kz_fits rk t h
    · exact ff t h
  have lts : (kz m ++ fs).length ≤ 60 := by
    rw [List.length_append, kz_len]
    have := ok.few
    omega
  refine ⟨fun σ' H' => σ' = [some (.ref a), some (.ref F), none, none, none, none] ∧ Same H H', ?_, ?_⟩
  · refine ⟨_, rfl, ⟨a, dx, _, rfl, ha, width_go tt ?_⟩⟩
    refine ⟨_, rfl, ?_⟩
    exact cf_go h0 h1 hF ff nd lf fun H1 s1 => ⟨rfl, s1⟩
  rintro σ' H1 ⟨rfl, s1⟩
  refine ⟨fun σ' H' => ∃ (R : Addr) (hs : List (List Nat)), σ' = [some (.ref a), some (.ref F), some (.ref R), none, none, none] ∧ Same H H' ∧ H' R = some (.lst (hs.map sx)) ∧ Hold (kz m ++ fs) hs, ?_, ?_⟩
  · refine ⟨_, rfl, ⟨⟨a, dx, _, rfl, s1 _ _ ha, rfl⟩, ?_⟩⟩
    refine trows_go (tt.to s1) fun p np => ?_
    have s2 := s1.new (o := HO.dK (tk m)) np
    refine ⟨p, tk m, rfl, .inl upd_same, ?_⟩
    refine ⟨_, rfl, ⟨F, fs.map sx, rfl, ?_, ?_⟩⟩
    · rcases hF.seq with q | q
      · exact .inr (q _ s2)
      · exact .inl (q _ s2)
    generalize upd H1 p (.dK (tk m)) = H2 at s2 ⊢
    have el : ((tk m).map fun kv => kV kv.1) ++ (fs.map sx ++ []) = (kz m ++ fs).map sx := by rw [tk_kV, ← kz_V, List.append_nil, List.map_append]
    refine ⟨szl (by rw [el, List.length_map]; omega), fun L nL => ?_⟩
    rw [el]
    have s3 := s2.new (o := HO.lst ((kz m ++ fs).map sx)) nL
    refine ho_go upd_same lts (fun t ht => by have := (hts t ht).2; omega) fun R hs H3 s4 nR eR ho => ?_
    exact ⟨R, hs, rfl, s3.trans s4, eR, ho⟩
  rintro σ' H2 ⟨R, hs, rfl, s2, eR, ho⟩
  clear s1
  have hlen : hs.length ≤ 6000 := by have := ho.len; omega
  have klen := kys_len hs
  have knd := kys_nd ho.nd
  refine ⟨fun σ' H' => ∃ (D : Addr) (ad : List Nat → Addr) (x4 x5 : Option V), σ' = [some (.ref a), some (.ref F), some (.ref R), some (.ref D), x4, x5] ∧ Same H H' ∧ H D = none ∧ H' R = some (.lst (hs.map sx)) ∧ D ≠ R ∧ H' D = some (.dK (fd (kys hs) fun t => .ref (ad t))) ∧ ∀ t ∈ kys hs, SnA (.str "all") H' (ad t) (ev0 m fs t), ?_, ?_⟩
  · refine ⟨_, rfl, ⟨_, rfl, ⟨_, rfl, ?_⟩⟩⟩
    refine eg_go (tt.to s2) ok (hF.same s2) ff nd lf eR ho fun G H3 s3 nG eG => ?_
    refine ⟨G, _, rfl, eG, trivial, fun od => ?_⟩
    refine ⟨G, od, _, rfl, upd_same, fun D nD => ?_⟩
    have hDG : D ≠ G := fun q => by rw [q, upd_same] at nD; cases nD
    have s4 : Same H (upd H3 G (.frz od (.dK (fd (kys hs) fun t => .str (gev m fs t))))) := fun b o e => updn (fun q => by rw [q, s2.back nG] at e; cases e) ((s2.trans s3) _ _ e)
    have eG4 : upd H3 G (.frz od (.dK (fd (kys hs) fun t => .str (gev m fs t)))) G = some (.frz od (.dK (fd (kys hs) fun t => .str (gev m fs t)))) := upd_same
    have eR4 : upd H3 G (.frz od (.dK (fd (kys hs) fun t => .str (gev m fs t)))) R = some (.lst (hs.map sx)) := updn (fun q => by rw [← q, eR] at nG; cases nG) (s3 _ _ eR)
    generalize upd H3 G (.frz od (.dK (fd (kys hs) fun t => .str (gev m fs t)))) = H4 at nD s4 eG4 eR4 ⊢
    refine dc_it walk_items (fun i H' => ∃ ad : List Nat → Addr, H' D = some (.dK (fd ((kys hs).take i) fun t => .ref (ad t))) ∧ (∀ t ∈ (kys hs).take i, SnA (.str "all") H' (ad t) (ev0 m fs t)) ∧ Same H4 H') ⟨fun _ => 0, upd_same, (fun t h => by cases h), (Same.refl H4).new nD⟩ (fun i H' _ ⟨_, _, _, s⟩ => s _ _ eG4) ?_ ?_
    · rintro i x HA HB hi ⟨ad, hD, hev, sm⟩ ⟨t0, x1, x2, rfl, nt, rfl, e1, e2⟩
      obtain ⟨t, hk, rfl, rfl⟩ : ∃ t, (kys hs)[i]? = some t ∧ x1 = sx t ∧ x2 = .str (gev m fs t) := by
        dsimp only at e1 e2
        rw [fd_get] at e1 e2
        cases hx : (kys hs)[i]? with
        | none => rw [hx] at e1; cases e1
        | some t =>
          rw [hx] at e1 e2
          exact ⟨t, rfl, (Option.some.inj e1).symm, (Option.some.inj e2).symm⟩
      have li : i < (kys hs).length := (List.getElem?_eq_some_iff.mp hk).1
      have sA : Same HA (upd HA t0 (.tup [sx t, .str (gev m fs t)])) := (Same.refl HA).new nt
      refine ⟨t0, [sx t, .str (gev m fs t)], rfl, SqT.of upd_same, rfl, ?_⟩
      refine ⟨_, _, rfl, ?_⟩
      refine ⟨_, _, rfl, ?_⟩
      refine ⟨rfl, rfl, ?_⟩
      dsimp only [tYes]
      rw [if_pos rfl]
      refine ⟨_, rfl, ?_⟩
      refine ⟨_, rfl, es_go fun v HC sC vC => ?_⟩
      refine ⟨szl (by show 2 ≤ 1000000; decide), fun c nc => ?_⟩
      have sc := (sA.trans sC).new (o := HO.tup [v, .int 0]) nc
      have hD5 := sc _ _ hD
      have nw : t ∉ (kys hs).take i := take_new knd hk
      refine ⟨_, skey t, rfl, hD5, szt (by rw [fd_len, List.length_take]; omega), fup ad t c, ?_, fun u hu => ?_, fun b o e => updn (fun q => by rw [q, nD] at e; cases e) (sc _ _ (sm _ _ e))⟩
      · rw [upd_same, fd_put, if_neg nw, List.take_add_one, hk]
        exact congrArg (fun z => some (HO.dK z)) (fd_congr fun x _ => by
          by_cases q : x = t
          · rw [q, fup_at, fup_at]
          · rw [fup_ne q, fup_ne q])
      · refine SnA.mutD ?_ hD5
        rw [List.take_add_one, hk, List.mem_append] at hu
        by_cases q : u = t
        · rw [q, fup_at]
          exact ⟨v, upd_same, vC.to ((Same.refl HC).new nc)⟩
        · rw [fup_ne q]
          exact (hev u (hu.resolve_right fun h => q (by simpa using h))).to sc
    · rintro H5 ⟨ad, hD, hev, sm⟩
      rw [fd_len, List.take_length] at hD hev
      have nDH : H D = none := s4.back nD
      refine ⟨D, ad, _, _, rfl, s4.trans sm, nDH, sm _ _ eR4, fun q => ?_, hD, hev⟩
      rw [q, eR4] at nD
      cases nD
  rintro σ' H3 ⟨D, ad, x4, x5, rfl, s3, nD, eR3, hDR, eD, hev⟩
  refine ⟨_, rfl, ⟨R, _, rfl, .inl (SqL.of eR3), fun L nL => ?_⟩⟩
  have sL := s3.new (o := HO.lst (hs.map sx)) nL
  have eL : upd H3 L (.lst (hs.map sx)) L = some (.lst (hs.map sx)) := upd_same
  have hDL : D ≠ L := nonn nL eD
  have eD3 := updn (o := HO.lst (hs.map sx)) hDL eD
  have hev3 : ∀ t ∈ kys hs, SnA (.str "all") (upd H3 L (.lst (hs.map sx))) (ad t) (ev0 m fs t) := fun t h => (hev t h).to ((Same.refl H3).new nL)
  generalize upd H3 L (.lst (hs.map sx)) = H4 at sL eL eD3 hev3 ⊢
  refine ⟨L, _, rfl, SqL.of eL, ?_⟩
  refine for_it (walk_rev (xs := hs.map sx)) (fun i σ' H' => ∃ (ad : List Nat → Addr) (x4 x5 : Option V), σ' = [some (.ref a), some (.ref F), some (.ref R), some (.ref D), x4, x5] ∧ Same H H' ∧ H' L = some (.lst (hs.map sx)) ∧ H' D = some (.dK (fd (kys hs) fun t => .ref (ad t))) ∧ ∀ t ∈ kys hs, SnA (.str "all") H' (ad t) (if t ∈ hs.drop (hs.length - i) then SN n m fs t else ev0 m fs t))
    ⟨ad, _, _, rfl, sL, eL, eD3, fun t h => by rw [if_neg (by rw [Nat.sub_zero, List.drop_length]; simp)]; exact hev3 t h⟩ (fun i σ' H' _ h => let ⟨_, _, _, _, _, e, _⟩ := h; SqL.of e) ?_ ?_
  · clear eD3 hev3 sL eL hev eD ad
    rintro i x σ' H5 H6 hi ⟨ad, x4, x5, rfl, s5, eL5, eD5, hev⟩ ⟨rfl, hx⟩
    rw [List.length_map] at hi hx
    obtain ⟨s, hs', rfl⟩ := sx_at hx
    have hm := List.mem_of_getElem? hs'
    have sl := hold_lt ho hts hm
    have sk : s ∈ kys hs := by
      rcases kys_mem.mp (ho.key (fun t ht => (hts t ht).1) hs') with h | ⟨p, hp, h⟩
      · exact kys_mem.mpr (.inl h)
      · exact kys_mem.mpr (.inr ⟨p, List.mem_of_mem_take hp, h⟩)
    have k0 : s ++ [48] ∈ kys hs := kys_mem.mpr (.inr ⟨s, hm, .inl rfl⟩)
    have k1 : s ++ [49] ∈ kys hs := kys_mem.mpr (.inr ⟨s, hm, .inr rfl⟩)
    have val : ∀ b, (if s ++ [b] ∈ hs.drop (hs.length - i) then SN n m fs (s ++ [b]) else ev0 m fs (s ++ [b])) = SN n m fs (s ++ [b]) := fun b => by
      by_cases q : s ++ [b] ∈ hs.drop (hs.length - i)
      · rw [if_pos q]
      · rw [if_neg q]
        refine (SN_leaf rk ho fun h => q ?_).symm
        obtain ⟨j, hj⟩ := List.getElem?_of_mem h
        have := ho.ahead hj hs' (by rw [List.length_append]; exact Nat.lt_succ_self _)
        refine List.mem_of_getElem? (i := j - (hs.length - i)) ?_
        rw [List.getElem?_drop, show hs.length - i + (j - (hs.length - i)) = j by omega]
        exact hj
    have h0' := hev _ k0
    have h1' := hev _ k1
    rw [val] at h0' h1'
    have hD : H6 D = some (.dK (fd (kys hs) fun t => .ref (ad t))) := eD5
    have v0 : ∀ b, s ++ [b] ∈ kys hs → some (V.ref (ad (s ++ [b]))) = valV (fd (kys hs) fun t => V.ref (ad t)) (skey (s ++ [b])) := fun b h => by rw [fd_val, if_pos h]
    refine ⟨_, rfl, ⟨_, rfl, ⟨_, _, rfl, rfl, szl (by rw [sx_len]; show s.length + 1 ≤ 1000000; omega), ?_⟩⟩⟩
    rw [str0]
    refine ⟨D, _, rfl, .inl ⟨_, skey (s ++ [48]), .inl hD, rfl, v0 48 k0⟩, ?_⟩
    refine ⟨_, rfl, ⟨_, rfl, ⟨_, _, rfl, rfl, szl (by rw [sx_len]; show s.length + 1 ≤ 1000000; omega), ?_⟩⟩⟩
    rw [str1]
    refine ⟨D, _, rfl, .inl ⟨_, skey (s ++ [49]), .inl hD, rfl, v0 49 k1⟩, ?_⟩
    refine oh_go h0' h1' (SN_sz ok) (SN_sz ok) fun c H7 s7 hc => ?_
    rw [← SN_in sl] at hc
    have hD7 := s7 _ _ hD
    refine ⟨_, rfl, ⟨_, rfl, ⟨D, _, rfl, .inl ⟨_, skey s, hD7, rfl, szt (by rw [fd_len]; omega), rfl⟩, ?_⟩⟩⟩
    refine ⟨fup ad s c, _, _, rfl, fun b o e => updn (fun q => by rw [q, nD] at e; cases e) (s7 _ _ (s5 _ _ e)), updn hDL.symm (s7 _ _ eL5), ?_, fun u hu => ?_⟩
    · rw [upd_same, fd_put, if_pos sk]
      exact congrArg (fun z => some (HO.dK z)) (fd_congr fun x _ => by
        by_cases q : x = s
        · rw [q, fup_at, fup_at]
        · rw [fup_ne q, fup_ne q])
    · have hdr : hs.drop (hs.length - (i + 1)) = s :: hs.drop (hs.length - i) := by
        have li : hs.length - (i + 1) < hs.length := by omega
        rw [List.drop_eq_getElem_cons li, show hs.length - (i + 1) + 1 = hs.length - i by omega]
        congr 1
        obtain ⟨_, e⟩ := List.getElem?_eq_some_iff.mp hs'
        rw [← e]
        congr 1
        omega
      refine SnA.mutD ?_ hD7
      rw [hdr]
      by_cases q : u = s
      · rw [q, fup_at, if_pos List.mem_cons_self]
        exact hc
      · rw [fup_ne q]
        have := (hev u hu).to s7
        by_cases c : u ∈ hs.drop (hs.length - i)
        · rw [if_pos c] at this
          rw [if_pos (List.mem_cons_of_mem _ c)]
          exact this
        · rw [if_neg c] at this
          rw [if_neg fun z => (List.mem_cons.mp z).elim q c]
          exact this
  · rintro σ' H5 ⟨ad, x4, x5, rfl, s5, eL5, eD5, hev⟩
    rw [List.length_map, Nat.sub_self, List.drop_zero] at hev
    refine ⟨_, rfl, k D H5 s5 nD ⟨hs, ad, ho, eD5, fun t ht => ?_⟩⟩
    have := hev t ht
    by_cases q : t ∈ hs
    · rw [if_pos q] at this
      exact this
    · rw [if_neg q, ← SN_leaf rk ho q] at this
      exact this
end
open PySem PySem.Spec PyProof.Rows
open L2 hiding pass0
abbrev s_fewest : Stmt := top 44
theorem sc_fewest : FnScope ["table", "free", "goals", "need"] ["table", "free"] (defScope s_fewest) := ⟨rfl, rfl, rfl, by decide +kernel, rfl, by decide +kernel, by decide +kernel⟩
/-- what is asked of a table and free stretches -/
structure TF (K : PySem.W.Frag) (C : Addr) (H : Hp) (a F : Addr) (n : Nat) (m : List (Str × Str)) (fs : List (List Nat)) : Prop where
  ht : TabAt C H a n m
  ok : TabOk (n : Int) m
  hF : FrA K H F fs
  ff : Fits n fs
  nd : fs.Nodup
  lf : fs.length ≤ 20
theorem TF.to {K : PySem.W.Frag} {C : Addr} {H H' : Hp} {a F : Addr} {n : Nat} {m : List (Str × Str)} {fs : List (List Nat)} (h : TF K C H a F n m fs) (s : Same H H') : TF K C H' a F n m fs := ⟨h.ht.to s, h.ok, h.hF.same s, h.ff, h.nd, h.lf⟩
@[irreducible] def spFe (K : PySem.W.Frag) (C : Addr) : Sp := fun vs H Q _ => ∃ (a F : Addr) (n : Nat) (m : List (Str × Str)) (fs : List (List Nat)), vs = [.ref a, .ref F] ∧ TF K C H a F n m fs ∧ ∀ H', Same H H' → Q (.int (cst (SN n m fs []) "hole" : Nat)) H'
section
variable {K : PySem.W.Frag} {C a F : Addr} {n : Nat} {m : List (Str × Str)} {fs : List (List Nat)} {t : List Nat} {H : Hp} {Q : VK} {E : XK}
theorem fe_go (tf : TF K C H a F n m fs) (k : ∀ H', Same H H' → Q (.int (cst (SN n m fs []) "hole" : Nat)) H') : spFe K C [.ref a, .ref F] H Q E := by
  unfold spFe
  exact ⟨a, F, n, m, fs, rfl, tf, k⟩
end
section
variable {P : Program} {w : World} {K : PySem.W.Frag} {mg : Str → Option Value} {base : Heap} {f C : Addr} {fd' : FuncData}
theorem ok_fewest {params : Arguments} {dvs : List V} {kws : List (Str × V)} (F : FunD K "fewest" "fewest" params (defBody s_fewest) (defScope s_fewest) dvs kws f fd') (T : Txt K mg) (cA : ∃ u, mg "ALL" = some u ∧ RelV (.str "all") u) (c_sets_and_needs : Nm P w K mg base CX0 6 "sets_and_needs" s_sets_and_needs ["table", "free"] (spSN K C)) : FnG P w K mg base CX0 7 f fd' ["table", "free"] (spFe K C) := by
  obtain ⟨oc, od, dV, kV, doc, pm, an, cdv, ct, osl, rfl, lk, hcd, _, _⟩ := F.ex
  refine fnG_core0 lk hcd sc_fewest (fun vs H Q E h => ?_) fun A outer s H vs Q E hr h => ?_
  · unfold spFe at h
    obtain ⟨a, F, n, m, fs, rfl, _⟩ := h
    rfl
  unfold spFe at h
  obtain ⟨a, F, n, m, fs, rfl, tf, k⟩ := h
  refine ⟨_, (pss_cons (ps_asg (pe_dget hr.u1 (pe_g c_sets_and_needs hr (by decide) L2.pass0 bp_sets_and_needs (by rfl) (pa_cons (pv 0) (pa_cons (pv 1) pa_nil))) pe_str (fun _ _ => rfl)) (pg_tup (by rfl) (pgs_cons (pg_name (i := 2) sc_fewest.nd rfl (by first | exact Or.inl rfl | exact Or.inr rfl)) (pgs_cons (pg_name (i := 3) sc_fewest.nd rfl (by first | exact Or.inl rfl | exact Or.inr rfl)) pgs_nil))))
      (pss_cons (ps_if (PW.pt (pw_or (pt_cmpR (op_eqDK (K := K) rfl hr.u64) (pv 2) (pe_cst (by rfl) cA) (nomark _)) (pw_or1 (pt_cmpR (op_inK (K := K) rfl) pe_str (pv 2) rfl)))) (pss_one (ps_ret (pv 3))) pss_nil)
      (pss_one (ps_ret (pe_op op_add (pv 3) pe_int))))), ?_⟩
  refine ⟨_, rfl, ⟨_, rfl, ?_⟩⟩
  have hz := SN_sz (t := []) (fs := fs) tf.ok
  refine sn_go tf.ht tf.ok tf.hF tf.ff tf.nd tf.lf fun D H1 s1 nD ⟨hs, ad, ho, eD, hev⟩ => ?_
  have h00 : [] ∈ kys hs := kys_mem.mpr (.inl rfl)
  obtain ⟨v, ec, hv⟩ := hev _ h00
  generalize SN n m fs [] = S at ec hv k hz
  refine ⟨D, .ref (ad []), rfl, .inl ⟨_, skey [], .inl eD, (by show V.str "" = V.str (SX.S []); decide +kernel), (by rw [fd_val, if_pos h00])⟩, ?_⟩
  refine ⟨ad [], _, rfl, SqT.of ec, rfl, ⟨_, _, rfl, ⟨_, _, rfl, ⟨rfl, ?_⟩⟩⟩⟩
  have dA : Dp K H1 (.str "all") (.str "all") := .str _
  have sA : SeqAt.shaped (.str "all") = true := (show Fit 200 0 (.str "all") from Fit.str (by decide +kernel) (by decide +kernel)).shp (by decide)
  have eA : PyData.eqv (.str "all") (.str "all") = true := by simp [PyData.eqv]
  have eL : ∀ zs : List Str, PyData.eqv (.list (zs.map PyData.str)) (.str "all") = false := fun zs => by simp [PyData.eqv]
  obtain ⟨o, i⟩ := S
  cases o with
  | none =>
    obtain rfl : v = .str "all" := hv
    refine ⟨_, rfl, ⟨_, _, dA, dA, sA, sA, ?_⟩⟩
    refine ⟨_, rfl, ?_⟩
    rw [eA]
    refine iteT (iteT ?_)
    exact ⟨_, rfl, k H1 s1⟩
  | some xs =>
    obtain ⟨A1, rfl, hA⟩ := hv
    obtain ⟨lx, gx⟩ := hz xs rfl
    refine ⟨_, rfl, ⟨_, _, .lst (SqL.of hA) (dps xs), dA, (strs_fit gx).shp (by decide), sA, ?_⟩⟩
    refine ⟨_, rfl, ?_⟩
    rw [eL]
    refine iteF ?_
    refine ⟨_, rfl, ⟨A1, _, rfl, .inl (SqL.of hA), rfl, flat_strs _, ?_⟩⟩
    rw [show inV (.str "hole") (xs.map V.str) = decide (("hole" : Str) ∈ xs) from inV_strs "hole" xs]
    refine ⟨_, rfl, ?_⟩
    have ec2 := cst_some xs i "hole"
    by_cases q : ("hole" : Str) ∈ xs
    · rw [decide_eq_true q]
      refine iteT ?_
      refine ⟨_, rfl, ?_⟩
      have := k H1 s1
      rw [ec2, if_pos q] at this
      exact this
    · rw [decide_eq_false q]
      refine iteF ?_
      refine ⟨_, rfl, ⟨_, _, rfl, rfl, ?_⟩⟩
      have := k H1 s1
      rw [ec2, if_neg q] at this
      exact this
end
open PySem PySem.Spec PyProof.Rows LamX
open L2 hiding pass0
abbrev s_law_both : Stmt := top 72
theorem sc_law_both : FnScope ["_law_one", "_law_other", "_law_shared", "_law_goal_here"] ["_law_one", "_law_other"] (defScope s_law_both) := ⟨rfl, rfl, rfl, by decide +kernel, rfl, by decide +kernel, by decide +kernel⟩
theorem bp_law_both : BndP "_law_both" s_law_both ["_law_one", "_law_other"] := fun _ _ _ _ _ _ us h => match us, h with | [_, _], _ => rfl
@[irreducible] def spBo (TT : List (Addr × Str)) : Sp := fun vs H Q _ => ∃ (a b : Addr) (s t : SNd), vs = [.ref a, .ref b] ∧ Tabs TT H ∧ SnA .non H a s ∧ SnA .non H b t ∧ Sz s ∧ Sz t ∧ ∀ c H', ExtN H H' → Tabs TT H' → SnA .non H' c (both2 s t) → Q (.ref c) H'
theorem bo_go {TT : List (Addr × Str)} {a b : Addr} {s t : SNd} {H : Hp} {Q : VK} {E : XK} (hT : Tabs TT H) (ha : SnA .non H a s) (hb : SnA .non H b t) (zs : Sz s) (zt : Sz t) (k : ∀ c H', ExtN H H' → Tabs TT H' → SnA .non H' c (both2 s t) → Q (.ref c) H') : spBo TT [.ref a, .ref b] H Q E := by
  unfold spBo
  exact ⟨a, b, s, t, rfl, hT, ha, hb, zs, zt, k⟩
section
variable {P : Program} {w : World} {K : PySem.W.Frag} {mg : Str → Option Value} {base : Heap}
theorem ok_both {f c TP : Addr} {TT : List (Addr × Str)} {ocf kVf docf pmf ctf : Value} {anf odf : Option Addr} {oslf : Array (Option Value)} (lkf : K.lookup f = some ⟨ocf, odf, .func (PySem.W.fnOf "_law_both" "_law_both" (defArgs s_law_both) (defBody s_law_both) (defScope s_law_both) .none kVf docf pmf anf (.ref c) ctf), oslf⟩)
    (hcf : PySem.W.codeIn K (.ref c) "_law_both" = true) (hkf : PySem.W.keepIn K (.ref f) = true) (hmf : mg "_law_both" = some (.ref f)) (T : Txt K mg) (TB : TabB base mg c TP) (hmT : (TP, (("_law_both" : Str) ++ ".<locals>.") ++ "<lambda>") ∈ TT) (huT : ∀ p ∈ TT, p.1 = TP → p.2 = (("_law_both" : Str) ++ ".<locals>.") ++ "<lambda>") :
    Nm P w K mg base CX0 4 "_law_both" s_law_both ["_law_one", "_law_other"] (spBo TT) := by
  refine nm_ofL lkf hcf hkf hmf sc_law_both (fun vs H Q E h => ?_) fun A outer s H vs Q E hr h => ?_
  · unfold spBo at h
    obtain ⟨a, b, s, t, rfl, _⟩ := h
    rfl
  unfold spBo at h
  obtain ⟨a, b, s, t, rfl, hT, ha, hb, zs, zt, k⟩ := h
  refine ⟨_, (pss_cons (ps_if (PW.pt (pw_or (pt_cmpR op_isN (pe_ix (ix_seqK (K := K) rfl) (pv 0) pe_int (fun _ _ => rfl)) pe_non (nomark _)) (pw_or1 (pt_cmpR op_isN (pe_ix (ix_seqK (K := K) rfl) (pv 1) pe_int (fun _ _ => rfl)) pe_non (nomark _))))) (pss_one (ps_ret (pe_tup (pa_cons (pe_ifExp (pt_cmpR op_isN (pe_ix (ix_seqK (K := K) rfl) (pv 0) pe_int (fun _ _ => rfl)) pe_non (nomark _)) (pe_ix (ix_seqK (K := K) rfl) (pv 1) pe_int (fun _ _ => rfl)) (pe_ix (ix_seqK (K := K) rfl) (pv 0) pe_int (fun _ _ => rfl))) (pa_cons (pe_op op_add (pe_ix (ix_seqK (K := K) rfl) (pv 0) pe_int (fun _ _ => rfl)) (pe_ix (ix_seqK (K := K) rfl) (pv 1) pe_int (fun _ _ => rfl))) pa_nil))))) pss_nil)
      (pss_cons (ps_setLc (i := 2) (own := [("_law_goal_here", 3)]) (g := (gName 3)) (by rfl) sc_law_both.nd rfl rfl (sw_true rfl rfl rfl (by decide +kernel)) (pi_listK (K := K) rfl (pe_ix (ix_seqK (K := K) rfl) (pv 0) pe_int (fun _ _ => rfl))) (blkOk_by (own := [("_law_goal_here", 3)]) (N := ["_law_one", "_law_other", "_law_shared", "_law_goal_here"]) (sc := defScope s_law_both) (by decide +kernel)) (fun _ _ _ _ _ => (pg_name (i := 3) sc_law_both.nd rfl (by first | exact Or.inl rfl | exact Or.inr rfl))) (fun _ _ _ _ _ => (pts_one (pt_cmpR (op_inK (K := K) rfl) (pv 3) (pe_ix (ix_seqK (K := K) rfl) (pv 1) pe_int (fun _ _ => rfl)) rfl))) (fun _ _ _ _ _ => (pv 3)))
      (pss_cons (ps_if (pt_cmpR (op_neDK (K := K) rfl hr.u64) (pv 2) (pe_lst pa_nil) (nomark _)) (pss_one (ps_ret (pe_tup (pa_cons (pv 2) (pa_cons (pe_op op_add (pe_ix (ix_seqK (K := K) rfl) (pv 0) pe_int (fun _ _ => rfl)) (pe_ix (ix_seqK (K := K) rfl) (pv 1) pe_int (fun _ _ => rfl))) pa_nil))))) pss_nil)
      (pss_one (ps_ret (pe_tup (pa_cons (pe_sortLam TB rfl hmT huT (C8.fnScope_by (N := ["_law_goal_here"]) (by decide +kernel)) (hr.mono (by decide)) (by rfl) (fun _ _ _ _ _ => by rfl) (by rfl) (by rfl) T.b_str (by rfl) (by decide) (by rfl) T.b_sorted (pe_op op_cat (pe_ix (ix_seqK (K := K) rfl) (pv 0) pe_int (fun _ _ => rfl)) (pe_ix (ix_seqK (K := K) rfl) (pv 1) pe_int (fun _ _ => rfl)))) (pa_cons (pe_op op_add (pe_op op_add (pe_ix (ix_seqK (K := K) rfl) (pv 0) pe_int (fun _ _ => rfl)) (pe_ix (ix_seqK (K := K) rfl) (pv 1) pe_int (fun _ _ => rfl))) pe_int) pa_nil)))))))), ?_⟩
  obtain ⟨x, ea, vx⟩ := ha
  obtain ⟨y, eb, vy⟩ := hb
  refine ⟨_, rfl, .inr (.inl ⟨a, _, 0, x, rfl, rfl, SqT.of ea, rfl, ⟨rfl, ⟨_, rfl, ?_⟩⟩⟩)⟩
  obtain ⟨s1, i⟩ := s
  obtain ⟨t1, j⟩ := t
  dsimp only at vx vy ea eb zs zt ⊢
  have cast : V.int ((i : Int) + (j : Int)) = V.int ((i + j : Nat) : Int) := congrArg V.int (by omega)
  cases s1 with
  | none =>
    obtain rfl : x = .non := vx
    rw [decide_eq_true rfl]
    refine iteT (iteT ?_)
    refine ⟨_, rfl, .inr (.inl ⟨a, _, 0, .non, rfl, rfl, SqT.of ea, rfl, ⟨rfl, ⟨_, rfl, ?_⟩⟩⟩)⟩
    rw [decide_eq_true rfl]
    refine iteT ?_
    refine ⟨_, rfl, .inr (.inl ⟨b, _, 0, y, rfl, rfl, SqT.of eb, rfl, ?_⟩)⟩
    refine ⟨_, rfl, .inr (.inl ⟨a, _, 1, .int (i : Nat), rfl, rfl, SqT.of ea, rfl, ?_⟩)⟩
    refine ⟨_, rfl, .inr (.inl ⟨b, _, 1, .int (j : Nat), rfl, rfl, SqT.of eb, rfl, ?_⟩)⟩
    refine ⟨_, _, rfl, rfl, ?_⟩
    refine ⟨szl (by show 2 ≤ 1000000; decide), fun c nc => ?_⟩
    have sc := (Same.refl H).new (o := HO.tup [y, .int ((i : Int) + (j : Int))]) nc
    exact k c _ (ExtN.of sc) (hT.ext sc) ⟨y, upd_same.trans (congrArg (fun z => some (HO.tup [y, z])) cast), vy.to sc⟩
  | some xs =>
    obtain ⟨A1, rfl, hA⟩ := vx
    obtain ⟨lx, gx⟩ := zs xs rfl
    rw [decide_eq_false (show ¬ V.ref A1 = V.non from fun z => nomatch z)]
    refine iteF ?_
    refine ⟨_, rfl, .inr (.inl ⟨b, _, 0, y, rfl, rfl, SqT.of eb, rfl, ⟨rfl, ⟨_, rfl, ?_⟩⟩⟩)⟩
    cases t1 with
    | none =>
      obtain rfl : y = .non := vy
      rw [decide_eq_true rfl]
      refine iteT ?_
      refine ⟨_, rfl, .inr (.inl ⟨a, _, 0, .ref A1, rfl, rfl, SqT.of ea, rfl, ⟨rfl, ⟨_, rfl, ?_⟩⟩⟩)⟩
      rw [decide_eq_false (show ¬ V.ref A1 = V.non from fun z => nomatch z)]
      refine iteF ?_
      refine ⟨_, rfl, .inr (.inl ⟨a, _, 0, .ref A1, rfl, rfl, SqT.of ea, rfl, ?_⟩)⟩
      refine ⟨_, rfl, .inr (.inl ⟨a, _, 1, .int (i : Nat), rfl, rfl, SqT.of ea, rfl, ?_⟩)⟩
      refine ⟨_, rfl, .inr (.inl ⟨b, _, 1, .int (j : Nat), rfl, rfl, SqT.of eb, rfl, ?_⟩)⟩
      refine ⟨_, _, rfl, rfl, ?_⟩
      refine ⟨szl (by show 2 ≤ 1000000; decide), fun c nc => ?_⟩
      have sc := (Same.refl H).new (o := HO.tup [.ref A1, .int ((i : Int) + (j : Int))]) nc
      exact k c _ (ExtN.of sc) (hT.ext sc) ⟨.ref A1, upd_same.trans (congrArg (fun z => some (HO.tup [.ref A1, z])) cast), A1, rfl, sc _ _ hA⟩
    | some ys =>
      obtain ⟨A2, rfl, hA2⟩ := vy
      obtain ⟨ly, gy⟩ := zt ys rfl
      rw [decide_eq_false (show ¬ V.ref A2 = V.non from fun z => nomatch z)]
      refine iteF ?_
      refine ⟨_, rfl, .inr (.inl ⟨a, _, 0, .ref A1, rfl, rfl, SqT.of ea, rfl, ⟨A1, rfl, ⟨_, SqL.of hA⟩, fun B nB => ?_⟩⟩)⟩
      refine lc_it (walk_list (xs := xs.map V.str)) (fun j H2 => H2 B = some (.lst ((shr (xs.take j) ys).map V.str)) ∧ Same H H2) ⟨upd_same, (Same.refl H).new nB⟩ (fun j H2 _ h => SqL.of (h.2 _ _ hA)) ?_ ?_
      · rintro l v H2 H3 hj ⟨hB, sm⟩ ⟨rfl, hv⟩
        obtain ⟨g, hg, rfl⟩ : ∃ g, xs[l]? = some g ∧ v = V.str g := by
          rw [List.getElem?_map] at hv
          cases e : xs[l]? with
          | none => rw [e] at hv; cases hv
          | some t => rw [e] at hv; exact ⟨t, rfl, (Option.some.inj hv).symm⟩
        refine ⟨rfl, ?_⟩
        refine ⟨_, rfl, ⟨_, rfl, .inr (.inl ⟨b, _, 0, .ref A2, rfl, rfl, SqT.of (sm _ _ eb), rfl, ⟨A2, _, rfl, .inl (SqL.of (sm _ _ hA2)), rfl, flat_strs _, ?_⟩⟩)⟩⟩
        rw [show inV (.str g) (ys.map V.str) = decide (g ∈ ys) from inV_strs g ys]
        refine ⟨_, rfl, ?_⟩
        have e := shr_more (ys := ys) hg
        by_cases q : g ∈ ys
        · rw [decide_eq_true q]
          refine iteT ?_
          refine ⟨_, rfl, ⟨_, hB, szt (by have := List.length_filter_le (fun g => decide (g ∈ ys)) (xs.take l); rw [List.length_map]; unfold shr; rw [List.length_take] at this; omega), ?_, fun b o h => updn (nonn nB h) (sm _ _ h)⟩⟩
          rw [upd_same, e, if_pos q, List.map_append]
          rfl
        · rw [decide_eq_false q]
          refine iteF ?_
          rw [e, if_neg q, List.append_nil]
          exact ⟨hB, sm⟩
      · rintro H2 ⟨hB, sm⟩
        rw [List.length_map, List.take_length] at hB
        refine ⟨_, rfl, ⟨szl (Nat.zero_le _), fun Z nZ => ?_⟩⟩
        have s3 := sm.new (o := HO.lst ([] : List V)) nZ
        have hB3 := updn (o := HO.lst ([] : List V)) (nonn nZ hB) hB
        have eZ : upd H2 Z (.lst []) Z = some (.lst []) := upd_same
        generalize upd H2 Z (.lst []) = H3 at s3 hB3 eZ ⊢
        have gsh : ∀ g ∈ shr xs ys, Low g ∧ g.length ≤ 200 := fun g hg => gx g (mem_shr.mp hg).1
        refine ⟨_, _, .lst (SqL.of hB3) (dps _), .lst (SqL.of eZ) .nil, (strs_fit gsh).shp (by decide), rfl, ?_⟩
        rw [eqv_nil]
        refine ⟨_, rfl, ?_⟩
        by_cases q : shr xs ys = []
        · rw [decide_eq_true q]
          refine iteF ?_
          refine ⟨_, rfl, .inr (.inl ⟨a, _, 0, .ref A1, rfl, rfl, SqT.of (s3 _ _ ea), rfl, ?_⟩)⟩
          refine ⟨_, rfl, .inr (.inl ⟨b, _, 0, .ref A2, rfl, rfl, SqT.of (s3 _ _ eb), rfl, ?_⟩)⟩
          refine ⟨A1, A2, _, _, rfl, rfl, s3 _ _ hA, s3 _ _ hA2, szl (by rw [List.length_map, List.length_map]; omega), fun L nL => ?_⟩
          have s4 := s3.new (o := HO.lst (xs.map V.str ++ ys.map V.str)) nL
          have e4 : upd H3 L (.lst (xs.map V.str ++ ys.map V.str)) L = some (.lst ((xs ++ ys).map V.str)) := by rw [upd_same, List.map_append]
          generalize upd H3 L (.lst (xs.map V.str ++ ys.map V.str)) = H4 at s4 e4 ⊢
          refine ⟨hT.ext s4, L, xs ++ ys, rfl, e4, fun H5 x5 t5 p np => ?_⟩
          have x6 := x5.trans (ExtN.of ((Same.refl H5).new (o := HO.lst ((tsort (xs ++ ys)).map V.str)) np))
          have t6 : Tabs TT (upd H5 p (.lst ((tsort (xs ++ ys)).map V.str))) := t5.ext ((Same.refl H5).new np)
          have e6 : upd H5 p (.lst ((tsort (xs ++ ys)).map V.str)) p = some (.lst ((tsort (xs ++ ys)).map V.str)) := upd_same
          generalize upd H5 p (.lst ((tsort (xs ++ ys)).map V.str)) = H6 at x6 t6 e6 ⊢
          have ea6 := x6 _ _ (s4 _ _ ea) (fun _ z => nomatch z)
          have eb6 := x6 _ _ (s4 _ _ eb) (fun _ z => nomatch z)
          refine ⟨_, rfl, .inr (.inl ⟨a, _, 1, .int (i : Nat), rfl, rfl, SqT.of ea6, rfl, ?_⟩)⟩
          refine ⟨_, rfl, .inr (.inl ⟨b, _, 1, .int (j : Nat), rfl, rfl, SqT.of eb6, rfl, ?_⟩)⟩
          refine ⟨_, _, rfl, rfl, ?_⟩
          refine ⟨_, _, rfl, rfl, ?_⟩
          refine ⟨szl (by show 2 ≤ 1000000; decide), fun c nc => ?_⟩
          have sc := (Same.refl H6).new (o := HO.tup [.ref p, .int ((i : Int) + (j : Int) + 1)]) nc
          refine k c _ (((ExtN.of s4).trans x6).trans (ExtN.of sc)) (t6.ext sc) ⟨.ref p, ?_, ?_⟩
          · rw [both_ss, if_pos q]
            exact upd_same.trans (congrArg (fun z => some (HO.tup [.ref p, V.int z])) (by show (i : Int) + j + 1 = ((i + j + 1 : Nat) : Int); omega))
          · rw [both_ss, if_pos q]
            exact ⟨p, rfl, sc _ _ e6⟩
        · rw [decide_eq_false q]
          refine iteT ?_
          refine ⟨_, rfl, ?_⟩
          refine ⟨_, rfl, .inr (.inl ⟨a, _, 1, .int (i : Nat), rfl, rfl, SqT.of (s3 _ _ ea), rfl, ?_⟩)⟩
          refine ⟨_, rfl, .inr (.inl ⟨b, _, 1, .int (j : Nat), rfl, rfl, SqT.of (s3 _ _ eb), rfl, ?_⟩)⟩
          refine ⟨_, _, rfl, rfl, ?_⟩
          refine ⟨szl (by show 2 ≤ 1000000; decide), fun c nc => ?_⟩
          have sc := s3.new (o := HO.tup [.ref B, .int ((i : Int) + (j : Int))]) nc
          refine k c _ (ExtN.of sc) (hT.ext sc) ⟨.ref B, ?_, ?_⟩
          · rw [both_ss, if_neg q]
            exact upd_same.trans (congrArg (fun z => some (HO.tup [.ref B, z])) cast)
          · rw [both_ss, if_neg q]
            exact ⟨B, rfl, updn (nonn nc hB3) hB3⟩
end
open PySem PySem.Spec PyProof.Rows LamX
open L2 hiding pass0
abbrev s_law_bits : Stmt := top 68
theorem sc_law_bits : FnScope ["_law_many", "_law_found", "_law_turn", "_law_longer", "_law_bits_here"] ["_law_many"] (defScope s_law_bits) := ⟨rfl, rfl, rfl, by decide +kernel, rfl, by decide +kernel, by decide +kernel⟩
theorem bp_law_bits : BndP "_law_bits" s_law_bits ["_law_many"] := fun _ _ _ _ _ _ us h => match us, h with | [_], _ => rfl
abbrev s_law_stretches : Stmt := top 69
theorem sc_law_stretches : FnScope ["_law_wide", "_law_found", "_law_many"] ["_law_wide"] (defScope s_law_stretches) := ⟨rfl, rfl, rfl, by decide +kernel, rfl, by decide +kernel, by decide +kernel⟩
theorem bp_law_stretches : BndP "_law_stretches" s_law_stretches ["_law_wide"] := fun _ _ _ _ _ _ us h => match us, h with | [_], _ => rfl
/-- all texts of so many bits -/
def bitsL : Nat → List (List Nat)
  | 0 => [[]]
  | k + 1 => (bitsL k).flatMap fun t => [t ++ [48], t ++ [49]]
theorem bitsL_mem : ∀ {k : Nat} {t : List Nat}, t ∈ bitsL k ↔ M.BL t ∧ t.length = k
  | 0, t => by
    unfold bitsL
    rw [List.mem_singleton]
    constructor
    · rintro rfl
      exact ⟨(fun c hc => by cases hc), rfl⟩
    · intro h
      exact List.eq_nil_of_length_eq_zero h.2
  | k + 1, t => by
    unfold bitsL
    rw [List.mem_flatMap]
    constructor
    · rintro ⟨s, hs, h⟩
      obtain ⟨h1, h2⟩ := bitsL_mem.mp hs
      simp only [List.mem_cons, List.not_mem_nil, or_false] at h
      rcases h with rfl | rfl
      · exact ⟨h1.app fun c hc => .inl (List.mem_singleton.mp hc), by rw [List.length_append, h2]; rfl⟩
      · exact ⟨h1.app fun c hc => .inr (List.mem_singleton.mp hc), by rw [List.length_append, h2]; rfl⟩
    · rintro ⟨h1, h2⟩
      obtain ⟨s, b, rfl⟩ := snoc_of (s := t) (fun q => by rw [q] at h2; cases h2)
      refine ⟨s, bitsL_mem.mpr ⟨h1.l, by rw [List.length_append] at h2; exact Nat.succ.inj h2⟩, ?_⟩
      rcases h1 b (List.mem_append_right _ (List.mem_singleton.mpr rfl)) with rfl | rfl <;> simp
theorem bitsL_nd : ∀ k : Nat, (bitsL k).Nodup
  | 0 => by simp [bitsL]
  | k + 1 => flat_nd (bitsL_nd k)
theorem bitsL_len : ∀ k : Nat, (bitsL k).length = 2 ^ k
  | 0 => rfl
  | k + 1 => by
    unfold bitsL
    have := kys_len (bitsL k)
    unfold kys at this
    rw [List.length_cons, bitsL_len k] at this
    rw [Nat.pow_succ]
    omega
/-- all texts of at most so many bits -/
def strL : Nat → List (List Nat)
  | 0 => []
  | k + 1 => strL k ++ bitsL k
theorem strL_mem {t : List Nat} : ∀ {k : Nat}, t ∈ strL k ↔ M.BL t ∧ t.length < k
  | 0 => by unfold strL; simp
  | k + 1 => by
    unfold strL
    rw [List.mem_append, strL_mem, bitsL_mem]
    constructor
    · rintro (⟨a, b⟩ | ⟨a, b⟩)
      · exact ⟨a, by omega⟩
      · exact ⟨a, by omega⟩
    · rintro ⟨a, b⟩
      by_cases q : t.length = k
      · exact .inr ⟨a, q⟩
      · exact .inl ⟨a, by omega⟩
theorem strL_len : ∀ k : Nat, (strL k).length + 1 = 2 ^ k
  | 0 => rfl
  | k + 1 => by
    unfold strL
    rw [List.length_append, bitsL_len, Nat.pow_succ]
    have := strL_len k
    omega
theorem pow7 {k : Nat} (h : k ≤ 7) : 2 ^ k ≤ 128 := by
  have := Nat.pow_le_pow_right (n := 2) (by decide) h
  exact this
@[irreducible] def spLB2 : Sp := fun vs H Q _ => ∃ k : Nat, vs = [.int k] ∧ k ≤ 7 ∧ ∀ L H', Same H H' → H L = none → H' L = some (.lst ((bitsL k).map sx)) → Q (.ref L) H'
@[irreducible] def spLS : Sp := fun vs H Q _ => ∃ k : Nat, vs = [.int k] ∧ k ≤ 6 ∧ ∀ L H', Same H H' → H L = none → H' L = some (.lst ((strL (k + 1)).map sx)) → Q (.ref L) H'
theorem lb2_go {k : Nat} {H : Hp} {Q : VK} {E : XK} (h : k ≤ 7) (q : ∀ L H', Same H H' → H L = none → H' L = some (.lst ((bitsL k).map sx)) → Q (.ref L) H') : spLB2 [.int k] H Q E := by
  unfold spLB2
  exact ⟨k, rfl, h, q⟩
theorem ls_go {k : Nat} {H : Hp} {Q : VK} {E : XK} (h : k ≤ 6) (q : ∀ L H', Same H H' → H L = none → H' L = some (.lst ((strL (k + 1)).map sx)) → Q (.ref L) H') : spLS [.int k] H Q E := by
  unfold spLS
  exact ⟨k, rfl, h, q⟩
section
variable {P : Program} {w : World} {K : PySem.W.Frag} {mg : Str → Option Value} {base : Heap} {f : Addr} {fd' : FuncData}
theorem ok_lbits (F : Fun K "_law_bits" "_law_bits" s_law_bits f fd') (hm : mg "_law_bits" = some (.ref f)) (T : Txt K mg) : Nm P w K mg base CX0 1 "_law_bits" s_law_bits ["_law_many"] (spLB2) := by
  refine nm_of0 F hm sc_law_bits (fun vs H Q E h => ?_) fun cdv A outer s H vs Q E hr h => ?_
  · unfold spLB2 at h
    obtain ⟨k, rfl, hk, q⟩ := h
    subst_vars
    rfl
  unfold spLB2 at h
  obtain ⟨k, rfl, hk, q⟩ := h
  refine ⟨_, (pss_cons (ps_set (i := 1) sc_law_bits.nd rfl (by first | exact Or.inl rfl | exact Or.inr rfl) (pe_lst (pa_cons pe_str pa_nil)))
      (pss_cons (ps_for PassesOwn.never rfl (pi_range1 (by rfl) T.b_range (pa_cons (pv 0) pa_nil)) (pg_name (i := 2) sc_law_bits.nd rfl (by first | exact Or.inl rfl | exact Or.inr rfl)) (pss_cons (ps_set (i := 3) sc_law_bits.nd rfl (by first | exact Or.inl rfl | exact Or.inr rfl) (pe_lst pa_nil))
      (pss_cons (ps_for PassesOwn.never rfl (pi_listK (K := K) rfl (pv 1)) (pg_name (i := 4) sc_law_bits.nd rfl (by first | exact Or.inl rfl | exact Or.inr rfl)) (pss_one (ps_expr (pe_bm PySem.F.plainAttrs_list PySem.F.slot_list_extend PySem.F.type_list_extend mt_extend (pv 3) (pa_cons (pe_lst (pa_cons (pe_op op_add_str (pv 4) pe_str) (pa_cons (pe_op op_add_str (pv 4) pe_str) pa_nil))) pa_nil)))))
      (pss_one (ps_set (i := 1) sc_law_bits.nd rfl (by first | exact Or.inl rfl | exact Or.inr rfl) (pv 3))))))
      (pss_one (ps_ret (pv 1))))), ?_⟩
  refine ⟨szl (by show 1 ≤ 1000000; decide), fun L0 nL0 => ?_⟩
  have s0 := (Same.refl H).new (o := HO.lst [V.str ""]) nL0
  have e0 : upd H L0 (.lst [V.str ""]) L0 = some (.lst ((bitsL 0).map sx)) := by rw [upd_same]; unfold bitsL; exact congrArg (fun z => some (HO.lst [V.str z])) (by decide +kernel)
  generalize upd H L0 (.lst [V.str ""]) = H0 at s0 e0 ⊢
  refine ⟨_, rfl, ⟨_, rfl, by omega, by omega, ?_⟩⟩
  rw [show ((k : Int)).toNat = k by omega]
  refine for_it walk_range (fun i σ' H' => ∃ L x2 x3 x4, σ' = [some (.int k), some (.ref L), x2, x3, x4] ∧ Same H H' ∧ H L = none ∧ H' L = some (.lst ((bitsL i).map sx))) ⟨L0, _, _, _, rfl, s0, nL0, e0⟩ (fun _ _ _ _ _ => trivial) ?_ ?_
  · rintro i x σ' H1 H2 hi ⟨L, x2, x3, x4, rfl, s1, nL, eL⟩ ⟨rfl, rfl⟩
    have li := pow7 (k := i) (by omega)
    have len := bitsL_len i
    refine ⟨szl (Nat.zero_le _), fun M nM => ?_⟩
    have s2 := s1.new (o := HO.lst ([] : List V)) nM
    have nMH := s1.back nM
    have eM : upd H2 M (.lst []) M = some (.lst []) := upd_same
    have hLM : L ≠ M := nonn nM eL
    have eL2 := updn (o := HO.lst ([] : List V)) hLM eL
    generalize upd H2 M (.lst []) = H3 at s2 eM eL2 ⊢
    refine ⟨_, rfl, ⟨L, rfl, ⟨_, SqL.of eL2⟩, ?_⟩⟩
    refine for_it (walk_list (xs := (bitsL i).map sx)) (fun j σ' H' => ∃ x4, σ' = [some (.int k), some (.ref L), some (.int (0 + (i : Int))), some (.ref M), x4] ∧ Same H H' ∧ H' L = some (.lst ((bitsL i).map sx)) ∧ H' M = some (.lst ((((bitsL i).take j).flatMap fun t => [t ++ [48], t ++ [49]]).map sx))) ⟨_, rfl, s2, eL2, eM⟩ (fun j σ' H' _ h => let ⟨_, _, _, e, _⟩ := h; SqL.of e) ?_ ?_
    · rintro j x σ' H4 H5 hj ⟨x4, rfl, s4, eL4, eM4⟩ ⟨rfl, hx⟩
      obtain ⟨t, ht, rfl⟩ := sx_at hx
      have tl := (bitsL_mem.mp (List.mem_of_getElem? ht)).2
      rw [List.length_map] at hj
      refine ⟨_, rfl, ⟨.inl ⟨rfl, _, SqL.of eM4⟩, ?_⟩⟩
      refine ⟨_, rfl, ⟨_, _, rfl, rfl, szl (by rw [sx_len]; show t.length + 1 ≤ 1000000; omega), ?_⟩⟩
      refine ⟨_, rfl, ⟨_, _, rfl, rfl, szl (by rw [sx_len]; show t.length + 1 ≤ 1000000; omega), ?_⟩⟩
      rw [str0, str1]
      refine ⟨szl (by show 2 ≤ 1000000; decide), fun N nN => ?_⟩
      have s5 := s4.new (o := HO.lst [sx (t ++ [48]), sx (t ++ [49])]) nN
      have hMN : M ≠ N := nonn nN eM4
      have hLN : L ≠ N := nonn nN eL4
      have fl : (((bitsL i).take j).flatMap fun t => [t ++ [48], t ++ [49]]).length ≤ 256 := by
        have := kys_len ((bitsL i).take j)
        unfold kys at this
        rw [List.length_cons, List.length_take] at this
        omega
      refine ⟨M, N, _, _, rfl, rfl, updn hMN eM4, upd_same, szl (by rw [List.length_map]; show _ + 2 ≤ 1000000; omega), ?_⟩
      refine ⟨_, rfl, fun b o e => updn (fun q => by rw [q, nMH] at e; cases e) (s5 _ _ e), updn hLM (updn hLN eL4), ?_⟩
      rw [upd_same, List.take_add_one, ht, List.flatMap_append, List.map_append]
      rfl
    · rintro σ' H4 ⟨x4, rfl, s4, eL4, eM4⟩
      rw [List.length_map, List.take_length] at eM4
      exact ⟨_, rfl, M, _, _, _, rfl, s4, nMH, eM4⟩
  · rintro σ' H1 ⟨L, x2, x3, x4, rfl, s1, nL, eL⟩
    exact ⟨_, rfl, q L H1 s1 nL eL⟩
theorem ok_lstr (F : Fun K "_law_stretches" "_law_stretches" s_law_stretches f fd') (hm : mg "_law_stretches" = some (.ref f)) (T : Txt K mg) (c_law_bits : Nm P w K mg base CX0 1 "_law_bits" s_law_bits ["_law_many"] (spLB2)) : Nm P w K mg base CX0 2 "_law_stretches" s_law_stretches ["_law_wide"] (spLS) := by
  refine nm_of0 F hm sc_law_stretches (fun vs H Q E h => ?_) fun cdv A outer s H vs Q E hr h => ?_
  · unfold spLS at h
    obtain ⟨k, rfl, hk, q⟩ := h
    subst_vars
    rfl
  unfold spLS at h
  obtain ⟨k, rfl, hk, q⟩ := h
  refine ⟨_, (pss_cons (ps_set (i := 1) sc_law_stretches.nd rfl (by first | exact Or.inl rfl | exact Or.inr rfl) (pe_lst pa_nil))
      (pss_cons (ps_for PassesOwn.never rfl (pi_range1 (by rfl) T.b_range (pa_cons (pe_op op_add (pv 0) pe_int) pa_nil)) (pg_name (i := 2) sc_law_stretches.nd rfl (by first | exact Or.inl rfl | exact Or.inr rfl)) (pss_one (ps_expr (pe_bm PySem.F.plainAttrs_list PySem.F.slot_list_extend PySem.F.type_list_extend mt_extend (pv 1) (pa_cons (pe_g c_law_bits hr (by decide) L2.pass0 bp_law_bits (by rfl) (pa_cons (pv 2) pa_nil)) pa_nil)))))
      (pss_one (ps_ret (pv 1))))), ?_⟩
  refine ⟨szl (Nat.zero_le _), fun L nL => ?_⟩
  have s0 := (Same.refl H).new (o := HO.lst ([] : List V)) nL
  have e0 : upd H L (.lst []) L = some (.lst ((strL 0).map sx)) := upd_same
  generalize upd H L (.lst []) = H0 at s0 e0 ⊢
  refine ⟨_, rfl, ⟨_, _, rfl, rfl, ?_⟩⟩
  refine ⟨_, rfl, by omega, by omega, ?_⟩
  rw [show ((k : Int) + 1).toNat = k + 1 by omega]
  refine for_it walk_range (fun i σ' H' => ∃ x2, σ' = [some (.int k), some (.ref L), x2] ∧ Same H H' ∧ H' L = some (.lst ((strL i).map sx))) ⟨_, rfl, s0, e0⟩ (fun _ _ _ _ _ => trivial) ?_ ?_
  · rintro i x σ' H1 H2 hi ⟨x2, rfl, s1, eL⟩ ⟨rfl, rfl⟩
    have hE : H2 L = some (.lst ((strL i).map sx)) := eL
    refine ⟨_, rfl, ⟨.inl ⟨rfl, _, SqL.of hE⟩, ?_⟩⟩
    refine ⟨_, rfl, ?_⟩
    show spLB2 [V.int (0 + (i : Int))] H2 _ _
    rw [show (0 + (i : Int)) = ((i : Nat) : Int) from Int.zero_add _]
    refine lb2_go (by omega) fun N H3 s3 nN eN => ?_
    have l1 := strL_len i
    have l2 := bitsL_len i
    have l3 := pow7 (k := i) (by omega)
    refine ⟨L, N, _, _, rfl, rfl, s3 _ _ hE, eN, szl (by rw [List.length_map, List.length_map]; omega), ?_⟩
    refine ⟨_, rfl, fun b o e => updn (fun q => by rw [q, nL] at e; cases e) (s3 _ _ (s1 _ _ e)), ?_⟩
    rw [upd_same, ← List.map_append]
    rfl
  · rintro σ' H1 ⟨x2, rfl, s1, eL⟩
    exact ⟨_, rfl, q L H1 s1 nL eL⟩
end
open PySem PySem.Spec PyProof.Rows LamX
open L2 hiding pass0
abbrev s_law_goal : Stmt := top 71
theorem sc_law_goal : FnScope ["_law_rows", "_law_idle", "_law_spot", "_law_size", "_law_one"] ["_law_rows", "_law_idle", "_law_spot"] (defScope s_law_goal) := ⟨rfl, rfl, rfl, by decide +kernel, rfl, by decide +kernel, by decide +kernel⟩
theorem bp_law_goal : BndP "_law_goal" s_law_goal ["_law_rows", "_law_idle", "_law_spot"] := fun _ _ _ _ _ _ us h => match us, h with | [_, _, _], _ => rfl
@[irreducible] def spLG : Sp := fun vs H Q _ => ∃ (D F : Addr) (m : List (Str × Str)) (fs : List (List Nat)) (t : List Nat), vs = [.ref D, .ref F, sx t] ∧ H D = some (.dK (tk m)) ∧ H F = some (.lst (fs.map sx)) ∧ fs.length ≤ 20 ∧ t.length ≤ 100 ∧ ∀ H', Same H H' → Q (oV (lab m fs t)) H'
theorem lg_go {D F : Addr} {m : List (Str × Str)} {fs : List (List Nat)} {t : List Nat} {H : Hp} {Q : VK} {E : XK} (hD : H D = some (.dK (tk m))) (hF : H F = some (.lst (fs.map sx))) (lf : fs.length ≤ 20) (lt : t.length ≤ 100) (k : ∀ H', Same H H' → Q (oV (lab m fs t)) H') : spLG [.ref D, .ref F, sx t] H Q E := by
  unfold spLG
  exact ⟨D, F, m, fs, t, rfl, hD, hF, lf, lt, k⟩
section
variable {P : Program} {w : World} {K : PySem.W.Frag} {mg : Str → Option Value} {base : Heap} {f : Addr} {fd' : FuncData}
theorem ok_lgoal (F : Fun K "_law_goal" "_law_goal" s_law_goal f fd') (hm : mg "_law_goal" = some (.ref f)) (T : Txt K mg) : Nm P w K mg base CX0 1 "_law_goal" s_law_goal ["_law_rows", "_law_idle", "_law_spot"] (spLG) := by
  refine nm_of0 F hm sc_law_goal (fun vs H Q E h => ?_) fun cdv A outer s H vs Q E hr h => ?_
  · unfold spLG at h
    obtain ⟨D, F, m, fs, t, rfl, hD, hF, lf, lt, k⟩ := h
    subst_vars
    rfl
  unfold spLG at h
  obtain ⟨D, F, m, fs, t, rfl, hD, hF, lf, lt, k⟩ := h
  refine ⟨_, (pss_cons (ps_if (pt_val (pe_callB (cr_any rfl) (by rfl) T.b_any (by decide +kernel) (pa_cons (pe_lc (own := [("_law_one", 4)]) (g := (gName 4)) (by rfl) sc_law_goal.nd (pi_listK (K := K) rfl (pv 1)) (blkOk_by (own := [("_law_one", 4)]) (N := ["_law_rows", "_law_idle", "_law_spot", "_law_size", "_law_one"]) (sc := defScope s_law_goal) (by decide +kernel)) (fun _ _ _ _ _ => (pg_name (i := 4) sc_law_goal.nd rfl (by first | exact Or.inl rfl | exact Or.inr rfl))) (fun _ _ _ _ _ => pts_nil) (fun _ _ _ _ _ => (pe_bmK (K := K) rfl PySem.F.plainAttrs_str PySem.F.slot_str_startswith PySem.F.type_str_startswith mt_startswith (pv 2) (pa_cons (pv 4) pa_nil)))) pa_nil))) (pss_one (ps_ret pe_non)) pss_nil)
      (pss_cons (ps_for PassesOwn.never rfl (pi_range3 (by rfl) T.b_range (pa_cons (pe_callB (call_lenK (K := K) rfl) (by rfl) T.b_len PySem.boot_len (pa_cons (pv 2) pa_nil)) (pa_cons (pe_un un_neg pe_int) (pa_cons (pe_un un_neg pe_int) pa_nil)))) (pg_name (i := 3) sc_law_goal.nd rfl (by first | exact Or.inl rfl | exact Or.inr rfl)) (pss_one (ps_if (pt_cmp (pc_din hr.u1 (pe_slice sl_str (pv 2) po_none (po_some (pv 3))) (pv 0))) (pss_one (ps_ret (pe_dget hr.u1 (pv 0) (pe_slice sl_str (pv 2) po_none (po_some (pv 3))) (fun _ _ => rfl)))) pss_nil)))
      (pss_one (ps_ret pe_str)))), ?_⟩
  refine ⟨_, rfl, ⟨F, rfl, ⟨_, SqL.of hF⟩, fun B nB => ?_⟩⟩
  refine lc_it (walk_list (xs := fs.map sx)) (fun i H' => H' B = some (.lst (((fs.take i).map fun f => decide (f <+: t)).map V.bl)) ∧ Same H H') ⟨upd_same, (Same.refl H).new nB⟩ (fun i H' _ h => SqL.of (h.2 _ _ hF)) ?_ ?_
  · rintro i x H1 H2 hi ⟨hB, sm⟩ ⟨rfl, hx⟩
    obtain ⟨u, hu, rfl⟩ := sx_at hx
    have li : i < fs.length := (List.getElem?_eq_some_iff.mp hu).1
    refine ⟨rfl, ?_⟩
    refine ⟨_, rfl, ⟨rfl, ⟨_, rfl, ⟨_, _, rfl, rfl, ?_⟩⟩⟩⟩
    rw [starts_S]
    refine ⟨_, hB, szt (by rw [List.length_map, List.length_map, List.length_take]; omega), ?_, fun b o q => updn (nonn nB q) (sm b o q)⟩
    rw [upd_same, List.take_add_one, hu, List.map_append, List.map_append]
    rfl
  · rintro H1 ⟨hB, sm⟩
    rw [List.length_map, List.take_length] at hB
    refine ⟨_, _, rfl, SqL.of hB, ?_⟩
    have eB : (fs.map fun f => decide (f <+: t)).any id = M.frB fs t := by rw [List.any_map]; rfl
    rw [eB]
    have hD1 := sm _ _ hD
    unfold lab at k
    refine ⟨_, rfl, ?_⟩
    cases c : M.frB fs t with
    | true =>
      refine iteT ?_
      have := k H1 sm
      rw [c, if_pos rfl] at this
      exact this
    | false =>
      refine iteF ?_
      rw [c, if_neg (by decide)] at k
      have en : ((((SX.S t).length : Nat) : Int) - (-1)).toNat = (SX.S t).length + 1 := by omega
      have zl : (SX.S t).length = t.length := sx_len t
      have zc : cutS (SX.S t) none = cutS (SX.S t) none := rfl
      refine ⟨_, rfl, ⟨_, _, rfl, ⟨szl (by omega), rfl⟩, ?_⟩⟩
      refine ⟨_, rfl, ⟨_, rfl, ?_⟩⟩
      refine ⟨_, _, _, _, rfl, RgC.neg (by omega) (by omega) (by omega) (by omega), ?_⟩
      rw [en]
      refine for_it walk_rangeC (fun i σ' H' => ∃ x3, σ' = [some (.ref D), some (.ref F), some (sx t), x3, none] ∧ Same H H' ∧ lb (look m) (SX.S t) = lbP (look m) (SX.S t) ((SX.S t).length + 1 - i)) ⟨_, rfl, sm, rfl⟩ (fun _ _ _ _ _ => trivial) ?_ ?_
      · rintro i x σ' H2 H3 hi ⟨x3, rfl, s2, hl⟩ ⟨rfl, rfl⟩
        have hD2 : H3 D = some (.dK (tk m)) := s2 _ _ hD
        refine ⟨_, rfl, ⟨_, rfl, ⟨_, rfl, ?_⟩⟩⟩
        refine ⟨_, rfl, szl (by omega), ?_⟩
        rw [cut_px (SX.S t) (k := (SX.S t).length - i) (by show ((SX.S t).length : Int) + (i : Int) * -1 = _; omega)]
        refine ⟨_, rfl, ⟨D, _, rfl, .inl ⟨tk m, Sum.inr (px (SX.S t) ((SX.S t).length - i)), .inl hD2, rfl, rfl⟩, ?_⟩⟩
        rw [look_has]
        rw [show (SX.S t).length + 1 - i = ((SX.S t).length - i) + 1 by omega] at hl
        cases hc : (look m (px (SX.S t) ((SX.S t).length - i))).isSome with
        | true =>
          rw [lbP_yes hc] at hl
          obtain ⟨g, hgx⟩ := Option.isSome_iff_exists.mp hc
          have hg : goalT (look m) (SX.S t) = g := by unfold goalT; rw [hl]; show (look m _).getD _ = g; rw [hgx]; rfl
          have hk := k _ s2
          rw [hg] at hk
          have hkx : px (SX.S t) ((SX.S t).length - i) ∈ m.map (·.1) := by
            rw [look_key] at hc
            exact of_decide_eq_true hc
          have hv := tk_val m hkx
          rw [look_get, hgx] at hv
          refine ⟨_, rfl, iteT ?_⟩
          refine ⟨_, rfl, ⟨_, rfl, ⟨_, rfl, ⟨_, rfl, ?_⟩⟩⟩⟩
          refine ⟨_, rfl, szl (by omega), ?_⟩
          rw [cut_px (SX.S t) (k := (SX.S t).length - i) (by show ((SX.S t).length : Int) + (i : Int) * -1 = _; omega)]
          refine ⟨D, .str g, rfl, .inl ⟨tk m, Sum.inr (px (SX.S t) ((SX.S t).length - i)), .inl hD2, rfl, hv.symm⟩, ?_⟩
          exact hk
        | false =>
          rw [lbP_no hc] at hl
          refine ⟨_, rfl, iteF ?_⟩
          refine ⟨_, rfl, s2, ?_⟩
          rw [show (SX.S t).length + 1 - (i + 1) = (SX.S t).length - i by omega]
          exact hl
      · rintro σ' H2 ⟨x3, rfl, s2, hl⟩
        rw [Nat.sub_self] at hl
        have hk := k _ s2
        have hg : goalT (look m) (SX.S t) = "hole" := by unfold goalT; rw [hl]; rfl
        rw [hg] at hk
        exact hk
end
open PySem PySem.Spec PyProof.Rows LamX
open L2 hiding pass0
abbrev s_law_sets : Stmt := top 73
theorem sc_law_sets : FnScope ["_law_wide", "_law_rows", "_law_idle", "_law_found", "_law_spot", "_law_goal_here", "_law_size"] ["_law_wide", "_law_rows", "_law_idle"] (defScope s_law_sets) := ⟨rfl, rfl, rfl, by decide +kernel, rfl, by decide +kernel, by decide +kernel⟩
theorem bp_law_sets : BndP "_law_sets" s_law_sets ["_law_wide", "_law_rows", "_law_idle"] := fun _ _ _ _ _ _ us h => match us, h with | [_, _, _], _ => rfl
/-- keys behind so many sizes -/
def ksA (n : Nat) : Nat → List (List Nat)
  | 0 => bitsL n
  | i + 1 => ksA n i ++ bitsL (n - (i + 1))
theorem ksA_mem {n : Nat} {t : List Nat} : ∀ {i : Nat}, i ≤ n → (t ∈ ksA n i ↔ M.BL t ∧ n - i ≤ t.length ∧ t.length ≤ n)
  | 0, _ => by
    unfold ksA
    rw [bitsL_mem]
    constructor
    · rintro ⟨a, b⟩
      exact ⟨a, by omega, by omega⟩
    · rintro ⟨a, b, c⟩
      exact ⟨a, by omega⟩
  | i + 1, h => by
    unfold ksA
    rw [List.mem_append, ksA_mem (by omega), bitsL_mem]
    constructor
    · rintro (⟨a, b, c⟩ | ⟨a, b⟩)
      · exact ⟨a, by omega, c⟩
      · exact ⟨a, by omega, by omega⟩
    · rintro ⟨a, b, c⟩
      by_cases q : t.length = n - (i + 1)
      · exact .inr ⟨a, q⟩
      · exact .inl ⟨a, by omega, c⟩
theorem ksA_len {n : Nat} (hn : n ≤ 6) : ∀ i : Nat, (ksA n i).length ≤ 64 * (i + 1)
  | 0 => by
    unfold ksA
    rw [bitsL_len]
    have := Nat.pow_le_pow_right (n := 2) (by decide) hn
    omega
  | i + 1 => by
    unfold ksA
    rw [List.length_append, bitsL_len]
    have := ksA_len hn i
    have h6 : 2 ^ (n - (i + 1)) ≤ 2 ^ 6 := Nat.pow_le_pow_right (by decide) (by omega)
    omega
/-- the law's own sets -/
def LSet (H : Hp) (D : Addr) (n : Nat) (m : List (Str × Str)) (fs : List (List Nat)) : Prop := ∃ (ks : List (List Nat)) (ad : List Nat → Addr), (∀ t, t ∈ ks ↔ M.BL t ∧ t.length ≤ n) ∧ H D = some (.dK (fd ks fun t => .ref (ad t))) ∧ ∀ t ∈ ks, SnA .non H (ad t) (SN n m fs t)
theorem SetV.ext {H H' : Hp} {mk v : V} {o : Option (List Str)} (h : SetV H mk v o) (s : ExtN H H') : SetV H' mk v o := by
  cases o with
  | none => exact h
  | some x =>
    obtain ⟨b, e, hb⟩ := h
    exact ⟨b, e, s _ _ hb (fun _ z => nomatch z)⟩
theorem SnA.ext {H H' : Hp} {mk : V} {a : Addr} {t : SNd} (h : SnA mk H a t) (s : ExtN H H') : SnA mk H' a t := by
  obtain ⟨v, e, hv⟩ := h
  exact ⟨v, s _ _ e (fun _ z => nomatch z), hv.ext s⟩
@[irreducible] def spSe (TT : List (Addr × Str)) : Sp := fun vs H Q _ => ∃ (D F : Addr) (n : Nat) (m : List (Str × Str)) (fs : List (List Nat)), vs = [.int n, .ref D, .ref F] ∧ Tabs TT H ∧ 1 ≤ n ∧ n ≤ 6 ∧ H D = some (.dK (tk m)) ∧ TabOk (n : Int) m ∧ H F = some (.lst (fs.map sx)) ∧ fs.length ≤ 20 ∧ ∀ L H', ExtN H H' → Tabs TT H' → LSet H' L n m fs → Q (.ref L) H'
theorem se_go {TT : List (Addr × Str)} {D F : Addr} {n : Nat} {m : List (Str × Str)} {fs : List (List Nat)} {H : Hp} {Q : VK} {E : XK} (hT : Tabs TT H) (h0 : 1 ≤ n) (h1 : n ≤ 6) (hD : H D = some (.dK (tk m))) (ok : TabOk (n : Int) m) (hF : H F = some (.lst (fs.map sx))) (lf : fs.length ≤ 20) (k : ∀ L H', ExtN H H' → Tabs TT H' → LSet H' L n m fs → Q (.ref L) H') : spSe TT [.int n, .ref D, .ref F] H Q E := by
  unfold spSe
  exact ⟨D, F, n, m, fs, rfl, hT, h0, h1, hD, ok, hF, lf, k⟩
theorem extD {H H0 H' : Hp} {L : Addr} {o : HO} (x : ExtN H H') (nL : H L = none) : ExtN H (upd H' L o) := fun b u e n => updn (fun q => by rw [q, nL] at e; cases e) (x b u e n)
theorem tabD {TT : List (Addr × Str)} {H : Hp} {L : Addr} {kvs kvs' : List (Key × V)} (t : Tabs TT H) (hL : H L = some (.dK kvs)) : Tabs TT (upd H L (.dK kvs')) := fun p hp => by
  obtain ⟨ps, h1, h2, h3⟩ := t p hp
  refine ⟨ps, updn (fun q => by rw [q, hL] at h1; cases h1) h1, h2, fun pos cv hc => ?_⟩
  obtain ⟨c, e1, e2⟩ := h3 pos cv hc
  exact ⟨c, e1, updn (fun q => by rw [q, hL] at e2; cases e2) e2⟩
section
variable {P : Program} {w : World} {K : PySem.W.Frag} {mg : Str → Option Value} {base : Heap} {f : Addr} {fd' : FuncData} {TT : List (Addr × Str)}
theorem ok_lsets (F : Fun K "_law_sets" "_law_sets" s_law_sets f fd') (hm : mg "_law_sets" = some (.ref f)) (T : Txt K mg) (c_law_bits : Nm P w K mg base CX0 1 "_law_bits" s_law_bits ["_law_many"] (spLB2)) (c_law_goal : Nm P w K mg base CX0 1 "_law_goal" s_law_goal ["_law_rows", "_law_idle", "_law_spot"] (spLG)) (c_law_both : Nm P w K mg base CX0 4 "_law_both" s_law_both ["_law_one", "_law_other"] (spBo TT)) : Nm P w K mg base CX0 5 "_law_sets" s_law_sets ["_law_wide", "_law_rows", "_law_idle"] (spSe TT) := by
  refine nm_of0 F hm sc_law_sets (fun vs H Q E h => ?_) fun cdv A outer s H vs Q E hr h => ?_
  · unfold spSe at h
    obtain ⟨D, F, n, m, fs, rfl, hT, h0, h1, hD, ok, hF, lf, k⟩ := h
    subst_vars
    rfl
  unfold spSe at h
  obtain ⟨D, F, n, m, fs, rfl, hT, h0, h1, hD, ok, hF, lf, k⟩ := h
  refine ⟨_, (pss_cons (ps_set (i := 3) sc_law_sets.nd rfl (by first | exact Or.inl rfl | exact Or.inr rfl) pe_dnewK)
      (C8.pss_cut (ps_for PassesOwn.never rfl (pi_listK (K := K) rfl (pe_g c_law_bits hr (by decide) L2.pass0 bp_law_bits (by rfl) (pa_cons (pv 0) pa_nil))) (pg_name (i := 4) sc_law_sets.nd rfl (by first | exact Or.inl rfl | exact Or.inr rfl)) (pss_cons (ps_set (i := 5) sc_law_sets.nd rfl (by first | exact Or.inl rfl | exact Or.inr rfl) (pe_g c_law_goal hr (by decide) L2.pass0 bp_law_goal (by rfl) (pa_cons (pv 1) (pa_cons (pv 2) (pa_cons (pv 4) pa_nil)))))
      (pss_one (ps_asg (pe_tup (pa_cons (pe_ifExp (pt_cmpR op_isN (pv 5) pe_non (nomark _)) pe_non (pe_lst (pa_cons (pv 5) pa_nil))) (pa_cons pe_int pa_nil))) (pg_sub (pv 3) (pv 4) (set_dict hr.u1))))))
      (pss_cons (ps_for PassesOwn.never rfl (pi_range3 (by rfl) T.b_range (pa_cons (pe_op op_sub (pv 0) pe_int) (pa_cons (pe_un un_neg pe_int) (pa_cons (pe_un un_neg pe_int) pa_nil)))) (pg_name (i := 6) sc_law_sets.nd rfl (by first | exact Or.inl rfl | exact Or.inr rfl)) (pss_one (ps_for PassesOwn.never rfl (pi_listK (K := K) rfl (pe_g c_law_bits hr (by decide) L2.pass0 bp_law_bits (by rfl) (pa_cons (pv 6) pa_nil))) (pg_name (i := 4) sc_law_sets.nd rfl (by first | exact Or.inl rfl | exact Or.inr rfl)) (pss_one (ps_asg (pe_g c_law_both hr (by decide) L2.pass0 bp_law_both (by rfl) (pa_cons (pe_dget hr.u1 (pv 3) (pe_op op_add_str (pv 4) pe_str) (fun _ _ => rfl)) (pa_cons (pe_dget hr.u1 (pv 3) (pe_op op_add_str (pv 4) pe_str) (fun _ _ => rfl)) pa_nil))) (pg_sub (pv 3) (pv 4) (set_dict hr.u1)))))))
      (pss_one (ps_ret (pv 3)))))), ?_⟩
  intro L nL
  have s0 := (Same.refl H).new (o := HO.dK []) nL
  have e0 : upd H L (.dK []) L = some (.dK []) := upd_same
  generalize upd H L (.dK []) = H0 at s0 e0 ⊢
  have blen : (bitsL n).length ≤ 64 := by rw [bitsL_len]; exact Nat.le_trans (Nat.pow_le_pow_right (by decide) h1) (by decide)
  refine ⟨fun σ' H' => ∃ (ad : List Nat → Addr) (x4 x5 : Option V), σ' = [some (.int n), some (.ref D), some (.ref F), some (.ref L), x4, x5, none] ∧ Same H H' ∧ H' L = some (.dK (fd (bitsL n) fun t => .ref (ad t))) ∧ ∀ t ∈ bitsL n, SnA .non H' (ad t) (SN n m fs t), ?_, ?_⟩
  · refine ⟨_, rfl, ?_⟩
    refine lb2_go (by omega) fun B H1 s1 nB eB => ?_
    have s01 := s0.trans s1
    have hBL : B ≠ L := fun q => by rw [q, e0] at nB; cases nB
    refine ⟨B, rfl, ⟨_, SqL.of eB⟩, ?_⟩
    refine for_it (walk_list (xs := (bitsL n).map sx)) (fun i σ' H' => ∃ (ad : List Nat → Addr) (x4 x5 : Option V), σ' = [some (.int n), some (.ref D), some (.ref F), some (.ref L), x4, x5, none] ∧ Same H H' ∧ H' B = some (.lst ((bitsL n).map sx)) ∧ H' L = some (.dK (fd ((bitsL n).take i) fun t => .ref (ad t))) ∧ ∀ t ∈ (bitsL n).take i, SnA .non H' (ad t) (SN n m fs t)) ⟨fun _ => 0, _, _, rfl, s01, eB, s1 _ _ e0, fun t h => by cases h⟩ (fun i σ' H' _ h => let ⟨_, _, _, _, _, e, _⟩ := h; SqL.of e) ?_ ?_
    · rintro i x σ' H3 H4 hi ⟨ad, x4, x5, rfl, s3, eB3, eL3, hev⟩ ⟨rfl, hx⟩
      obtain ⟨t, ht, rfl⟩ := sx_at hx
      obtain ⟨tb, tl⟩ := bitsL_mem.mp (List.mem_of_getElem? ht)
      have nw := take_new (bitsL_nd n) ht
      have fin : ∀ (Hx : Hp) (c : Addr), Same H4 Hx → SnA .non Hx c (SN n m fs t) → ∀ x5, ∃ (ad2 : List Nat → Addr) (y4 y5 : Option V), ([some (.int n), some (.ref D), some (.ref F), some (.ref L), some (sx t), x5, none] : List (Option V)) = [some (.int n), some (.ref D), some (.ref F), some (.ref L), y4, y5, none] ∧ Same H (upd Hx L (.dK (putK (fd ((bitsL n).take i) fun t => .ref (ad t)) (skey t) (.ref c)))) ∧ (upd Hx L (.dK (putK (fd ((bitsL n).take i) fun t => .ref (ad t)) (skey t) (.ref c)))) B = some (.lst ((bitsL n).map sx)) ∧ (upd Hx L (.dK (putK (fd ((bitsL n).take i) fun t => .ref (ad t)) (skey t) (.ref c)))) L = some (.dK (fd ((bitsL n).take (i + 1)) fun t => .ref (ad2 t))) ∧ ∀ u ∈ (bitsL n).take (i + 1), SnA .non (upd Hx L (.dK (putK (fd ((bitsL n).take i) fun t => .ref (ad t)) (skey t) (.ref c)))) (ad2 u) (SN n m fs u) := fun Hx c sx' hc x5 => by
        refine ⟨fup ad t c, _, _, rfl, ?_⟩
        have hLx := sx' _ _ eL3
        refine ⟨fun b o e => updn (fun q => by rw [q, nL] at e; cases e) (sx' _ _ (s3 _ _ e)), updn hBL (sx' _ _ eB3), ?_, fun u hu => ?_⟩
        · rw [upd_same, fd_put, if_neg nw, List.take_add_one, ht]
          exact congrArg (fun z => some (HO.dK z)) (fd_congr fun x _ => by
            by_cases q : x = t
            · rw [q, fup_at, fup_at]
            · rw [fup_ne q, fup_ne q])
        · refine SnA.mutD ?_ hLx
          rw [List.take_add_one, ht, List.mem_append] at hu
          by_cases q : u = t
          · rw [q, fup_at]
            exact hc
          · rw [fup_ne q]
            exact (hev u (hu.resolve_right fun h => q (by simpa using h))).to sx'
      have eL4 : H4 L = some (.dK (fd ((bitsL n).take i) fun t => .ref (ad t))) := eL3
      have ll : (fd ((bitsL n).take i) fun t => V.ref (ad t)).length < sizeLine := szt (by rw [fd_len, List.length_take]; omega)
      have hsn : SN n m fs t = ((lab m fs t).map fun g => [g], 0) := by
        unfold SN
        rw [tl, Nat.sub_self]
        rfl
      refine ⟨_, rfl, ⟨_, rfl, ⟨_, rfl, ?_⟩⟩⟩
      refine lg_go (s3 _ _ hD) (s3 _ _ hF) lf (by omega) fun H5 s5 => ?_
      rw [hsn] at fin
      cases c : lab m fs t with
      | none =>
        rw [c] at fin
        refine ⟨_, rfl, ⟨rfl, ⟨_, rfl, ?_⟩⟩⟩
        rw [show decide (oV none = V.non) = true from decide_eq_true rfl]
        refine iteT ?_
        refine ⟨szl (by show 2 ≤ 1000000; decide), fun q nq => ?_⟩
        have s6 := s5.new (o := HO.tup [.non, .int 0]) nq
        refine ⟨_, rfl, ⟨_, rfl, ⟨L, _, rfl, .inl ⟨_, skey t, s6 _ _ eL4, rfl, ll, rfl⟩, ?_⟩⟩⟩
        obtain ⟨ad', y4, y5, z1, z2, z3, z4, z5⟩ := fin _ q s6 ⟨.non, upd_same, rfl⟩ (some (oV none))
        exact ⟨ad', y4, y5, z1, z2, z3, z4, z5⟩
      | some g =>
        rw [c] at fin
        refine ⟨_, rfl, ⟨rfl, ⟨_, rfl, ?_⟩⟩⟩
        rw [show decide (oV (some g) = V.non) = false from decide_eq_false fun z => nomatch z]
        refine iteF ?_
        refine ⟨_, rfl, ⟨szl (by show 1 ≤ 1000000; decide), fun A nA => ?_⟩⟩
        have s6 := s5.new (o := HO.lst [.str g]) nA
        have eA : upd H5 A (.lst [.str g]) A = some (.lst ([g].map V.str)) := upd_same
        refine ⟨szl (by show 2 ≤ 1000000; decide), fun q nq => ?_⟩
        have s7 := s6.new (o := HO.tup [.ref A, .int 0]) nq
        refine ⟨_, rfl, ⟨_, rfl, ⟨L, _, rfl, .inl ⟨_, skey t, s7 _ _ eL4, rfl, ll, rfl⟩, ?_⟩⟩⟩
        obtain ⟨ad', y4, y5, z1, z2, z3, z4, z5⟩ := fin _ q s7 ⟨.ref A, upd_same, A, rfl, updn (nonn nq eA) eA⟩ (some (oV (some g)))
        exact ⟨ad', y4, y5, z1, z2, z3, z4, z5⟩
    · rintro σ' H3 ⟨ad, x4, x5, rfl, s3, eB3, eL3, hev⟩
      rw [List.length_map, List.take_length] at eL3 hev
      exact ⟨ad, _, _, rfl, s3, eL3, hev⟩
  rintro σ' H1 ⟨ad, x4, x5, rfl, s1, eL, hev⟩
  refine ⟨_, rfl, ⟨_, _, rfl, rfl, ?_⟩⟩
  refine ⟨_, rfl, ⟨_, rfl, ?_⟩⟩
  refine ⟨_, _, _, _, rfl, RgC.neg (by omega) (by omega) (by omega) (by omega), ?_⟩
  rw [show ((n : Int) - 1 - (-1)).toNat = n by omega]
  refine for_it walk_rangeC (fun i σ' H' => ∃ (ad : List Nat → Addr) (x4 x5 x6 : Option V), σ' = [some (.int n), some (.ref D), some (.ref F), some (.ref L), x4, x5, x6] ∧ ExtN H H' ∧ Tabs TT H' ∧ H' L = some (.dK (fd (ksA n i) fun t => .ref (ad t))) ∧ ∀ t ∈ ksA n i, SnA .non H' (ad t) (SN n m fs t)) ⟨ad, _, _, _, rfl, ExtN.of s1, hT.ext s1, eL, hev⟩ (fun _ _ _ _ _ => trivial) ?_ ?_
  · clear s1 eL hev ad s0 e0
    rintro i x σ' H2 H3 hi ⟨ad, x4, x5, x6, rfl, x2, t2, eL2, hev⟩ ⟨rfl, rfl⟩
    refine ⟨_, rfl, ?_⟩
    show spLB2 [V.int ((n : Int) - 1 + (i : Int) * -1)] H3 _ _
    rw [show (n : Int) - 1 + (i : Int) * -1 = ((n - (i + 1) : Nat) : Int) by omega]
    refine lb2_go (by omega) fun B H4 s4 nB eB => ?_
    refine ⟨B, rfl, ⟨_, SqL.of eB⟩, ?_⟩
    have hBL : B ≠ L := fun q => by rw [q, show H3 L = _ from eL2] at nB; cases nB
    have klen := ksA_len h1 i
    have blen2 : (bitsL (n - (i + 1))).length ≤ 64 := by rw [bitsL_len]; exact Nat.le_trans (Nat.pow_le_pow_right (by decide) (show n - (i + 1) ≤ 6 by omega)) (by decide)
    refine for_it (walk_list (xs := (bitsL (n - (i + 1))).map sx)) (fun j σ' H' => ∃ (ad : List Nat → Addr) (x4 : Option V), σ' = [some (.int n), some (.ref D), some (.ref F), some (.ref L), x4, x5, some (.int ((n : Int) - 1 + (i : Int) * -1))] ∧ ExtN H H' ∧ Tabs TT H' ∧ H' B = some (.lst ((bitsL (n - (i + 1))).map sx)) ∧ H' L = some (.dK (fd (ksA n i ++ (bitsL (n - (i + 1))).take j) fun t => .ref (ad t))) ∧ ∀ t ∈ ksA n i ++ (bitsL (n - (i + 1))).take j, SnA .non H' (ad t) (SN n m fs t)) ⟨ad, _, rfl, x2.trans (ExtN.of s4), t2.ext s4, eB, by rw [List.take_zero, List.append_nil]; exact s4 _ _ eL2, fun t h => by rw [List.take_zero, List.append_nil] at h; exact (hev t h).to s4⟩ (fun j σ' H' _ h => let ⟨_, _, _, _, _, e, _⟩ := h; SqL.of e) ?_ ?_
    · clear x2 t2 eL2 hev ad s4 eB
      rintro j x σ' H5 H6 hj ⟨ad, x4, rfl, x5', t5, eB5, eL5, hev⟩ ⟨rfl, hx⟩
      obtain ⟨s, hs', rfl⟩ := sx_at hx
      obtain ⟨sb, sl⟩ := bitsL_mem.mp (List.mem_of_getElem? hs')
      have nw1 : s ∉ ksA n i := fun q => by
        have := (ksA_mem (by omega)).mp q
        omega
      have nw : s ∉ ksA n i ++ (bitsL (n - (i + 1))).take j := fun q => (List.mem_append.mp q).elim nw1 (take_new (bitsL_nd _) hs')
      have k0 : s ++ [48] ∈ ksA n i ++ (bitsL (n - (i + 1))).take j := List.mem_append_left _ ((ksA_mem (by omega)).mpr ⟨sb.app fun c hc => .inl (List.mem_singleton.mp hc), by rw [List.length_append]; show n - i ≤ s.length + 1; omega, by rw [List.length_append]; show s.length + 1 ≤ n; omega⟩)
      have k1 : s ++ [49] ∈ ksA n i ++ (bitsL (n - (i + 1))).take j := List.mem_append_left _ ((ksA_mem (by omega)).mpr ⟨sb.app fun c hc => .inr (List.mem_singleton.mp hc), by rw [List.length_append]; show n - i ≤ s.length + 1; omega, by rw [List.length_append]; show s.length + 1 ≤ n; omega⟩)
      have h0' := hev _ k0
      have h1' := hev _ k1
      have hL6 : H6 L = some (.dK (fd (ksA n i ++ (bitsL (n - (i + 1))).take j) fun t => .ref (ad t))) := eL5
      have v0 : ∀ b, s ++ [b] ∈ ksA n i ++ (bitsL (n - (i + 1))).take j → some (V.ref (ad (s ++ [b]))) = valV (fd (ksA n i ++ (bitsL (n - (i + 1))).take j) fun t => V.ref (ad t)) (skey (s ++ [b])) := fun b h => by rw [fd_val, if_pos h]
      refine ⟨_, rfl, ⟨_, rfl, ⟨_, _, rfl, rfl, szl (by rw [sx_len]; show s.length + 1 ≤ 1000000; omega), ?_⟩⟩⟩
      rw [str0]
      refine ⟨L, _, rfl, .inl ⟨_, skey (s ++ [48]), .inl hL6, rfl, v0 48 k0⟩, ?_⟩
      refine ⟨_, rfl, ⟨_, rfl, ⟨_, _, rfl, rfl, szl (by rw [sx_len]; show s.length + 1 ≤ 1000000; omega), ?_⟩⟩⟩
      rw [str1]
      refine ⟨L, _, rfl, .inl ⟨_, skey (s ++ [49]), .inl hL6, rfl, v0 49 k1⟩, ?_⟩
      refine bo_go t5 h0' h1' (SN_sz ok) (SN_sz ok) fun c H7 x7 t7 hc => ?_
      rw [← SN_in (by omega)] at hc
      have hL7 := x7 _ _ hL6 (fun _ z => nomatch z)
      refine ⟨_, rfl, ⟨_, rfl, ⟨L, _, rfl, .inl ⟨_, skey s, hL7, rfl, szt (by rw [fd_len, List.length_append, List.length_take]; omega), rfl⟩, ?_⟩⟩⟩
      refine ⟨fup ad s c, _, rfl, extD (H0 := H) (x5'.trans x7) nL, tabD t7 hL7, updn hBL (x7 _ _ eB5 (fun _ z => nomatch z)), ?_, fun u hu => ?_⟩
      · rw [upd_same, fd_put, if_neg nw, List.take_add_one, hs', ← List.append_assoc]
        exact congrArg (fun z => some (HO.dK z)) (fd_congr fun x _ => by
          by_cases q : x = s
          · rw [q, fup_at, fup_at]
          · rw [fup_ne q, fup_ne q])
      · refine SnA.mutD ?_ hL7
        rw [List.take_add_one, hs', ← List.append_assoc, List.mem_append] at hu
        by_cases q : u = s
        · rw [q, fup_at]
          exact hc
        · rw [fup_ne q]
          exact (hev u (hu.resolve_right fun h => q (by simpa using h))).ext x7
    · rintro σ' H5 ⟨ad, x4, rfl, x5', t5, eB5, eL5, hev⟩
      rw [List.length_map, List.take_length] at eL5 hev
      exact ⟨ad, _, _, _, rfl, x5', t5, eL5, hev⟩
  · rintro σ' H2 ⟨ad, x4, x5, x6, rfl, x2, t2, eL2, hev⟩
    refine ⟨_, rfl, k L H2 x2 t2 ⟨ksA n n, ad, fun t => ?_, eL2, hev⟩⟩
    rw [ksA_mem (Nat.le_refl n), Nat.sub_self]
    exact ⟨fun h => ⟨h.1, h.2.2⟩, fun h => ⟨h.1, Nat.zero_le _, h.2⟩⟩
end
open PySem PySem.Spec PyProof.Rows LamX
open L2 hiding pass0
abbrev s_law_fewest : Stmt := top 74
theorem sc_law_fewest : FnScope ["_law_sets_here", "_law_goals", "_law_need"] ["_law_sets_here"] (defScope s_law_fewest) := ⟨rfl, rfl, rfl, by decide +kernel, rfl, by decide +kernel, by decide +kernel⟩
theorem bp_law_fewest : BndP "_law_fewest" s_law_fewest ["_law_sets_here"] := fun _ _ _ _ _ _ us h => match us, h with | [_], _ => rfl
@[irreducible] def spFw (TT : List (Addr × Str)) : Sp := fun vs H Q _ => ∃ (D : Addr) (n : Nat) (m : List (Str × Str)) (fs : List (List Nat)), vs = [.ref D] ∧ LSet H D n m fs ∧ Q (.int (cst (SN n m fs []) "hole" : Nat)) H
theorem fw_go {TT : List (Addr × Str)} {D : Addr} {n : Nat} {m : List (Str × Str)} {fs : List (List Nat)} {H : Hp} {Q : VK} {E : XK} (h : LSet H D n m fs) (k : Q (.int (cst (SN n m fs []) "hole" : Nat)) H) : spFw TT [.ref D] H Q E := by
  unfold spFw
  exact ⟨D, n, m, fs, rfl, h, k⟩
/-- rows that say nothing new -/
def Says (m m2 : List (Str × Str)) : Prop := (∀ k, look m2 k = none → look m k = none) ∧ ∀ t g, look m2 (SX.S t) = some g → g = goalT (look m) (SX.S t)
theorem goal_key {m : List (Str × Str)} {t : List Nat} {g : Str} (h : look m (SX.S t) = some g) : goalT (look m) (SX.S t) = g := by
  by_cases q : t = []
  · subst q
    rw [goal_nil, show ("" : Str) = SX.S [] by decide +kernel, h]
    rfl
  · obtain ⟨s, b, rfl⟩ := snoc_of q
    rw [goal_snoc, h]
    rfl
theorem Says.same {m m2 : List (Str × Str)} (h : Says m m2) : ∀ (k : Nat) (t : List Nat), t.length = k → goalT (look m2) (SX.S t) = goalT (look m) (SX.S t)
  | 0, t, e => by
    have : t = [] := List.eq_nil_of_length_eq_zero e
    subst this
    rw [goal_nil, goal_nil]
    have e0 : ("" : Str) = SX.S [] := by decide +kernel
    cases c : look m2 "" with
    | none => rw [h.1 _ c]
    | some g =>
      have := h.2 [] g (by rw [← e0]; exact c)
      rw [goal_nil] at this
      exact this
  | k + 1, t, e => by
    obtain ⟨s, b, rfl⟩ := snoc_of (s := t) (fun q => by rw [q] at e; cases e)
    have ih := h.same k s (by rw [List.length_append] at e; exact Nat.succ.inj e)
    cases c : look m2 (SX.S (s ++ [b])) with
    | none =>
      rw [goal_snoc, goal_snoc, c, h.1 _ c]
      exact ih
    | some g => rw [goal_key c]; exact h.2 _ _ c
theorem Says.put {m m2 : List (Str × Str)} {s : List Nat} (h : Says m m2) : Says m (putT m2 (SX.S s) (goalT (look m) (SX.S s))) := ⟨fun k e => by
    rw [look_put] at e
    split at e
    · cases e
    · exact h.1 k e, fun t g e => by
    rw [look_put] at e
    split at e
    · rename_i q
      have := S_inj q
      cases e
      rw [this]
    · exact h.2 t g e⟩
section
variable {P : Program} {w : World} {K : PySem.W.Frag} {mg : Str → Option Value} {base : Heap} {f : Addr} {fd' : FuncData} {TT : List (Addr × Str)}
theorem ok_lfewest (F : Fun K "_law_fewest" "_law_fewest" s_law_fewest f fd') (hm : mg "_law_fewest" = some (.ref f)) (T : Txt K mg) : Nm P w K mg base CX0 1 "_law_fewest" s_law_fewest ["_law_sets_here"] (spFw TT) := by
  refine nm_of F hm sc_law_fewest (fun vs H Q E h => ?_) fun cdv A outer s H vs Q E hr h => ?_
  · unfold spFw at h
    obtain ⟨D, n, m, fs, rfl, ⟨ks, ad, hks, hD, hev⟩, k⟩ := h
    subst_vars
    rfl
  unfold spFw at h
  obtain ⟨D, n, m, fs, rfl, ⟨ks, ad, hks, hD, hev⟩, k⟩ := h
  refine ⟨_, (pss_cons (ps_asg (pe_dget hr.u1 (pv 0) pe_str (fun _ _ => rfl)) (pg_tup (by rfl) (pgs_cons (pg_name (i := 1) sc_law_fewest.nd rfl (by first | exact Or.inl rfl | exact Or.inr rfl)) (pgs_cons (pg_name (i := 2) sc_law_fewest.nd rfl (by first | exact Or.inl rfl | exact Or.inr rfl)) pgs_nil))))
      (pss_one (ps_ret (pe_op op_add (pv 2) (pe_callTy call_int1 (by rfl) T.b_int (by decide +kernel) (pa_cons (pe_and (pe_cmpR op_notN (pv 1) pe_non (nomark _)) (pe_one (pe_cmpR (op_notInK (K := K) rfl) pe_str (pv 1) rfl))) pa_nil)))))), ?_⟩
  have h00 : [] ∈ ks := (hks []).mpr ⟨(fun c hc => by cases hc), Nat.zero_le _⟩
  obtain ⟨v, ec, hv⟩ := hev _ h00
  generalize SN n m fs [] = S at ec hv k
  refine ⟨_, rfl, ⟨D, .ref (ad []), rfl, .inl ⟨_, skey [], .inl hD, (by show V.str "" = V.str (SX.S []); decide +kernel), (by rw [fd_val, if_pos h00])⟩, ?_⟩⟩
  refine ⟨ad [], _, rfl, SqT.of ec, rfl, ⟨_, _, rfl, ⟨_, _, rfl, ⟨rfl, ?_⟩⟩⟩⟩
  obtain ⟨o, i⟩ := S
  refine ⟨_, rfl, ⟨_, rfl, ⟨rfl, ?_⟩⟩⟩
  cases o with
  | none =>
    obtain rfl : v = .non := hv
    refine ⟨_, rfl, ?_⟩
    rw [decide_eq_true rfl]
    refine iteF ?_
    refine .inr ⟨false, rfl, ⟨_, _, rfl, rfl, ?_⟩⟩
    have e : V.int ((i : Int) + (if false = true then 1 else 0)) = V.int ((cst (none, i) "hole" : Nat) : Int) := by rw [cst_none]; exact congrArg V.int (by simp)
    rw [← e] at k
    exact k
  | some xs =>
    obtain ⟨A1, rfl, hA⟩ := hv
    refine ⟨_, rfl, ?_⟩
    rw [decide_eq_false (show ¬ V.ref A1 = V.non from fun z => nomatch z)]
    refine iteT ?_
    refine ⟨_, rfl, ⟨A1, _, rfl, .inl (SqL.of hA), rfl, flat_strs _, ?_⟩⟩
    rw [show inV (.str "hole") (xs.map V.str) = decide (("hole" : Str) ∈ xs) from inV_strs "hole" xs]
    refine .inr ⟨_, rfl, ⟨_, _, rfl, rfl, ?_⟩⟩
    have e : V.int ((i : Int) + (if (!decide (("hole" : Str) ∈ xs)) = true then 1 else 0)) = V.int ((cst (some xs, i) "hole" : Nat) : Int) := by
      rw [cst_some]
      refine congrArg V.int ?_
      by_cases q : ("hole" : Str) ∈ xs <;> simp [q]
    rw [← e] at k
    exact k
end
open PySem PySem.Spec PyProof.Rows LamX
open L2 hiding pass0
abbrev s_law_world : Stmt := top 70
theorem sc_law_world : FnScope ["_law_pot_here", "_law_most", "_law_wide", "_law_aims", "_law_rows", "_law_spots", "_law_turn", "_law_idle", "_law_spot"] ["_law_pot_here", "_law_most"] (defScope s_law_world) := ⟨rfl, rfl, rfl, by decide +kernel, rfl, by decide +kernel, by decide +kernel⟩
theorem bp_law_world : BndP "_law_world" s_law_world ["_law_pot_here", "_law_most"] := fun _ _ _ _ _ _ us h => match us, h with | [_, _], _ => rfl
def GoalG (g : Str) : Prop := goalB g = true ∧ (∀ c ∈ g.cps.toList, c < 128) ∧ g.length ≤ 200
theorem gg_a : GoalG "a" := by unfold GoalG; decide +kernel
theorem gg_b : GoalG "b" := by unfold GoalG; decide +kernel
theorem gg_c : GoalG "c" := by unfold GoalG; decide +kernel
theorem gg_d : GoalG "d" := by unfold GoalG; decide +kernel
theorem gg_hole : GoalG "hole" := by unfold GoalG; decide +kernel
theorem gg_home : GoalG "home" := by unfold GoalG; decide +kernel
/-- a list at B, made since H0, of such tuples; there are draws -/
def LQ (p : Addr) (H0 : Hp) (B : Addr) (m : List (Str × Str)) (H : Hp) : Prop := (∃ ts : List Addr, H B = some (.lst (ts.map V.ref)) ∧ Tq H ts m) ∧ Go p H0 H
theorem LQ.nil {p B : Addr} {H0 : Hp} (hp : PotAt H0 p) (nB : H0 B = none) : LQ p H0 B [] (upd H0 B (.lst [])) := ⟨⟨[], upd_same, .nil⟩, (Go.refl hp).new nB⟩
theorem LQ.turn {p B t : Addr} {H0 H1 H2 : Hp} {x y : Str} {m : List (Str × Str)} (hp : PotAt H0 p) (h : LQ p H0 B m H1) (nB : H0 B = none) (g : Go p H1 H2) (nt : H2 t = none) (hl : m.length ≤ 100000) :
    ∃ acc, upd H2 t (.tup [.str x, .str y]) B = some (.lst acc) ∧ acc.length < sizeLine ∧ LQ p H0 B (m ++ [(x, y)]) (upd (upd H2 t (.tup [.str x, .str y])) B (.lst (acc ++ [.ref t]))) := by
  obtain ⟨⟨ts, hB, tq⟩, g1⟩ := h
  have npB : B ≠ p := hp.ne nB
  have hB2 := g.kp hB npB
  have nt' : B ≠ t := nonn nt hB2
  have tq2 : Tq (upd H2 t (.tup [.str x, .str y])) ts m := tq.mono fun a l e => by
    have e2 := g.tp g1.pot e
    exact updn (nonn nt e2) e2
  refine ⟨_, updn nt' hB2, szt (by rw [List.length_map, tq.len]; omega), ⟨ts ++ [t], by rw [upd_same, List.map_append]; rfl, ?_⟩, ?_⟩
  · have t3 : Tq (upd H2 t (.tup [.str x, .str y])) (ts ++ [t]) (m ++ [(x, y)]) := Tq.app (.cons (q := (x, y)) upd_same .nil) tq2
    refine t3.mono fun a l e => ?_
    have n : a ≠ B := fun q => by
      subst q
      rw [updn nt' hB2] at e
      cases e
    exact updn n e
  · exact ((g1.trans g).new nt).mut nB npB
structure GsAt (H : Hp) (p G : Addr) (gs : List Str) : Prop where
  e : H G = some (.lst (gs.map V.str))
  np : G ≠ p
  l0 : 0 < gs.length
  l5 : gs.length ≤ 5
  ok : ∀ g ∈ gs, GoalG g
theorem GsAt.via {H H' : Hp} {p G : Addr} {gs : List Str} (h : GsAt H p G gs) (g : Go p H H') : GsAt H' p G gs := ⟨g.kp h.e h.np, h.np, h.l0, h.l5, h.ok⟩
theorem cut_from (xs : List V) (k : Nat) : cutV xs (some (k : Int)) none = xs.drop k := by
  unfold cutV
  rw [HT.sIx_nat, HT.sIx_none]
  by_cases h : k ≤ xs.length
  · rw [Nat.min_eq_left h, List.take_of_length_le (by rw [List.length_drop]; exact Nat.le_refl _)]
  · rw [Nat.min_eq_right (by omega), Nat.sub_self, List.take_zero, List.drop_eq_nil_of_le (by omega)]
@[irreducible] def spWo : Sp := fun vs H Q _ => ∃ p, vs = [.ref p, .int 6] ∧ PotAt H p ∧ ∀ t D F (n : Nat) m fs H', Go p H H' → H' t = some (.tup [.int n, .ref D, .ref F]) → 1 ≤ n → n ≤ 6 → H' D = some (.dK (tk m)) → D ≠ p → TabOk (n : Int) m → H' F = some (.lst (fs.map sx)) → F ≠ p → Fits n fs → fs.Nodup → fs.length ≤ 4 → Q (.ref t) H'
theorem wo_go {p : Addr} {H : Hp} {Q : VK} {E : XK} (hp : PotAt H p) (k : ∀ t D F (n : Nat) m fs H', Go p H H' → H' t = some (.tup [.int n, .ref D, .ref F]) → 1 ≤ n → n ≤ 6 → H' D = some (.dK (tk m)) → D ≠ p → TabOk (n : Int) m → H' F = some (.lst (fs.map sx)) → F ≠ p → Fits n fs → fs.Nodup → fs.length ≤ 4 → Q (.ref t) H') : spWo [.ref p, .int 6] H Q E := by
  unfold spWo
  exact ⟨p, rfl, hp, k⟩
section
variable {P : Program} {w : World} {K : PySem.W.Frag} {mg : Str → Option Value} {base : Heap} {f : Addr} {fd' : FuncData}
theorem ok_world (F : Fun K "_law_world" "_law_world" s_law_world f fd') (hm : mg "_law_world" = some (.ref f)) (T : Txt K mg) (c_law_draw : Nm P w K mg base CX0 1 "_law_draw" s_law_draw ["_law_pot_here", "_law_many"] (spDraw)) (c_law_pick : Nm P w K mg base CX0 2 "_law_pick" s_law_pick ["_law_pot_here", "_law_some"] (spAmong K)) (c_law_bits : Nm P w K mg base CX0 1 "_law_bits" s_law_bits ["_law_many"] (spLB2)) (c_law_stretches : Nm P w K mg base CX0 2 "_law_stretches" s_law_stretches ["_law_wide"] (spLS)) : Nm P w K mg base CX0 3 "_law_world" s_law_world ["_law_pot_here", "_law_most"] (spWo) := by
  refine nm_of0 F hm sc_law_world (fun vs H Q E h => ?_) fun cdv A outer s H vs Q E hr h => ?_
  · unfold spWo at h
    obtain ⟨p, rfl, hp, k⟩ := h
    subst_vars
    rfl
  unfold spWo at h
  obtain ⟨p, rfl, hp, k⟩ := h
  refine ⟨_, (C8.pss_cut (ps_set (i := 2) sc_law_world.nd rfl (by first | exact Or.inl rfl | exact Or.inr rfl) (pe_op op_add pe_int (pe_g c_law_draw hr (by decide) L2.pass0 bp_law_draw (by rfl) (pa_cons (pv 0) (pa_cons (pv 1) pa_nil)))))
      (C8.pss_cut (ps_set (i := 3) sc_law_world.nd rfl (by first | exact Or.inl rfl | exact Or.inr rfl) (pe_g c_law_pick hr (by decide) L2.pass0 bp_law_pick (by rfl) (pa_cons (pv 0) (pa_cons (pe_lst (pa_cons (pe_lst (pa_cons pe_str (pa_cons pe_str pa_nil))) (pa_cons (pe_lst (pa_cons pe_str (pa_cons pe_str (pa_cons pe_str pa_nil)))) (pa_cons (pe_lst (pa_cons pe_str (pa_cons pe_str pa_nil))) (pa_cons (pe_lst (pa_cons pe_str (pa_cons pe_str (pa_cons pe_str (pa_cons pe_str pa_nil))))) (pa_cons (pe_lst (pa_cons pe_str (pa_cons pe_str (pa_cons pe_str (pa_cons pe_str pa_nil))))) pa_nil)))))) pa_nil))))
      (C8.pss_cut (ps_par (i := 4) (j := 5) (by rfl) sc_law_world.nd rfl rfl (by decide) rfl rfl (pa_cons pe_dnewK (pa_cons (pe_g c_law_stretches hr (by decide) L2.pass0 bp_law_stretches (by rfl) (pa_cons (pv 2) pa_nil)) pa_nil)) (by rfl))
      (C8.pss_cut (ps_if (pt_cmpR op_eq (pe_g c_law_draw hr (by decide) L2.pass0 bp_law_draw (by rfl) (pa_cons (pv 0) (pa_cons pe_int pa_nil))) pe_int (nomark _)) (pss_cons (ps_set (i := 5) sc_law_world.nd rfl (by first | exact Or.inl rfl | exact Or.inr rfl) (pe_g c_law_bits hr (by decide) L2.pass0 bp_law_bits (by rfl) (pa_cons (pv 2) pa_nil)))
      (pss_one (ps_set (i := 4) sc_law_world.nd rfl (by first | exact Or.inl rfl | exact Or.inr rfl) (pe_callTy (call_dictP rfl) (by rfl) T.b_dict (by decide +kernel) (pa_cons (pe_lc (own := [("_law_spot", 8)]) (g := (gName 8)) (by rfl) sc_law_world.nd (pi_listK (K := K) rfl (pe_slice sl_list (pv 5) po_none (po_some pe_int))) (blkOk_by (own := [("_law_spot", 8)]) (N := ["_law_pot_here", "_law_most", "_law_wide", "_law_aims", "_law_rows", "_law_spots", "_law_turn", "_law_idle", "_law_spot"]) (sc := defScope s_law_world) (by decide +kernel)) (fun _ _ _ _ _ => (pg_name (i := 8) sc_law_world.nd rfl (by first | exact Or.inl rfl | exact Or.inr rfl))) (fun _ _ _ _ _ => pts_nil) (fun _ _ _ _ _ => (pe_tup (pa_cons (pv 8) (pa_cons (pe_g c_law_pick hr (by decide) L2.pass0 bp_law_pick (by rfl) (pa_cons (pv 0) (pa_cons (pv 3) pa_nil))) pa_nil))))) pa_nil))))) pss_nil)
      (C8.pss_cut (ps_for PassesOwn.never rfl (pi_range1 (by rfl) T.b_range (pa_cons (pe_g c_law_draw hr (by decide) L2.pass0 bp_law_draw (by rfl) (pa_cons (pv 0) (pa_cons pe_int pa_nil))) pa_nil)) (pg_name (i := 6) sc_law_world.nd rfl (by first | exact Or.inl rfl | exact Or.inr rfl)) (pss_one (ps_if (pt_cmpR op_lt (pe_callB call_lenD (by rfl) T.b_len PySem.boot_len (pa_cons (pv 4) pa_nil)) pe_int (nomark _)) (pss_one (ps_asg (pe_g c_law_pick hr (by decide) L2.pass0 bp_law_pick (by rfl) (pa_cons (pv 0) (pa_cons (pv 3) pa_nil))) (pg_sub (pv 4) (pe_g c_law_pick hr (by decide) L2.pass0 bp_law_pick (by rfl) (pa_cons (pv 0) (pa_cons (pv 5) pa_nil))) (set_dict hr.u1)))) pss_nil)))
      (C8.pss_cut (ps_set (i := 7) sc_law_world.nd rfl (by first | exact Or.inl rfl | exact Or.inr rfl) (pe_lst pa_nil))
      (C8.pss_cut (ps_for PassesOwn.never rfl (pi_range1 (by rfl) T.b_range (pa_cons (pe_g c_law_pick hr (by decide) L2.pass0 bp_law_pick (by rfl) (pa_cons (pv 0) (pa_cons (pe_lst (pa_cons pe_int (pa_cons pe_int (pa_cons pe_int (pa_cons pe_int (pa_cons pe_int (pa_cons pe_int pa_nil))))))) pa_nil))) pa_nil)) (pg_name (i := 6) sc_law_world.nd rfl (by first | exact Or.inl rfl | exact Or.inr rfl)) (C8.pss_cut (ps_set (i := 8) sc_law_world.nd rfl (by first | exact Or.inl rfl | exact Or.inr rfl) (pe_g c_law_pick hr (by decide) L2.pass0 bp_law_pick (by rfl) (pa_cons (pv 0) (pa_cons (pe_slice sl_list (pe_g c_law_stretches hr (by decide) L2.pass0 bp_law_stretches (by rfl) (pa_cons (pv 2) pa_nil)) (po_some (pe_callTy call_int1 (by rfl) T.b_int (by decide +kernel) (pa_cons (pe_cmpR op_gt (pe_g c_law_draw hr (by decide) L2.pass0 bp_law_draw (by rfl) (pa_cons (pv 0) (pa_cons pe_int pa_nil))) pe_int (nomark _)) pa_nil))) po_none) pa_nil))))
      (pss_one (ps_if (pt_cmpR (op_notInK (K := K) rfl) (pv 8) (pv 7) rfl) (pss_one (ps_expr (pe_bm PySem.F.plainAttrs_list PySem.F.slot_list_append PySem.F.type_list_append mt_append (pv 7) (pa_cons (pv 8) pa_nil)))) pss_nil))))
      (pss_one (ps_ret (pe_tup (pa_cons (pv 2) (pa_cons (pv 4) (pa_cons (pv 7) pa_nil))))))))))))), ?_⟩
  refine ⟨fun σ' H' => ∃ n : Nat, σ' = [some (.ref p), some (.int 6), some (.int n), none, none, none, none, none, none] ∧ 1 ≤ n ∧ n ≤ 6 ∧ Go p H H', ?_, ?_⟩
  · refine ⟨_, rfl, ⟨_, rfl, ?_⟩⟩
    refine draw_go hp (by decide) (by decide) fun d H1 d0 d1 g1 => ?_
    obtain ⟨j, rfl⟩ := Int.eq_ofNat_of_zero_le d0
    refine ⟨_, _, rfl, rfl, ?_⟩
    refine ⟨1 + j, ?_, by omega, by omega, g1⟩
    rw [show ((1 + j : Nat) : Int) = 1 + (j : Int) by omega]
    rfl
  rintro σ' H1 ⟨n, rfl, h0, h1, g1⟩
  refine ⟨fun σ' H' => ∃ (A : Addr) (as : List Str), σ' = [some (.ref p), some (.int 6), some (.int n), some (.ref A), none, none, none, none, none] ∧ Go p H H' ∧ GsAt H' p A as, ?_, ?_⟩
  · refine ⟨_, rfl, ?_⟩
    have s0 := Same.refl H1
    refine ⟨szl (by decide), fun A1 nA1 => ?_⟩
    have s1 := s0.new (o := HO.lst [V.str "a", V.str "b"]) nA1
    have eA1 : upd H1 A1 (HO.lst [V.str "a", V.str "b"]) A1 = some (.lst ((["a", "b"] : List Str).map V.str)) := upd_same
    generalize upd H1 A1 (HO.lst [V.str "a", V.str "b"]) = Hh0 at s1 eA1 ⊢
    refine ⟨szl (by decide), fun A2 nA2 => ?_⟩
    have s2 := s1.new (o := HO.lst [V.str "b", V.str "a", V.str "c"]) nA2
    have eA2 : upd Hh0 A2 (HO.lst [V.str "b", V.str "a", V.str "c"]) A2 = some (.lst ((["b", "a", "c"] : List Str).map V.str)) := upd_same
    have eA1 := updn (o := HO.lst [V.str "b", V.str "a", V.str "c"]) (nonn nA2 eA1) eA1
    generalize upd Hh0 A2 (HO.lst [V.str "b", V.str "a", V.str "c"]) = Hh1 at s2 eA1 eA2 ⊢
    refine ⟨szl (by decide), fun A3 nA3 => ?_⟩
    have s3 := s2.new (o := HO.lst [V.str "hole", V.str "a"]) nA3
    have eA3 : upd Hh1 A3 (HO.lst [V.str "hole", V.str "a"]) A3 = some (.lst ((["hole", "a"] : List Str).map V.str)) := upd_same
    have eA1 := updn (o := HO.lst [V.str "hole", V.str "a"]) (nonn nA3 eA1) eA1
    have eA2 := updn (o := HO.lst [V.str "hole", V.str "a"]) (nonn nA3 eA2) eA2
    generalize upd Hh1 A3 (HO.lst [V.str "hole", V.str "a"]) = Hh2 at s3 eA1 eA2 eA3 ⊢
    refine ⟨szl (by decide), fun A4 nA4 => ?_⟩
    have s4 := s3.new (o := HO.lst [V.str "home", V.str "b", V.str "hole", V.str "a"]) nA4
    have eA4 : upd Hh2 A4 (HO.lst [V.str "home", V.str "b", V.str "hole", V.str "a"]) A4 = some (.lst ((["home", "b", "hole", "a"] : List Str).map V.str)) := upd_same
    have eA1 := updn (o := HO.lst [V.str "home", V.str "b", V.str "hole", V.str "a"]) (nonn nA4 eA1) eA1
    have eA2 := updn (o := HO.lst [V.str "home", V.str "b", V.str "hole", V.str "a"]) (nonn nA4 eA2) eA2
    have eA3 := updn (o := HO.lst [V.str "home", V.str "b", V.str "hole", V.str "a"]) (nonn nA4 eA3) eA3
    generalize upd Hh2 A4 (HO.lst [V.str "home", V.str "b", V.str "hole", V.str "a"]) = Hh3 at s4 eA1 eA2 eA3 eA4 ⊢
    refine ⟨szl (by decide), fun A5 nA5 => ?_⟩
    have s5 := s4.new (o := HO.lst [V.str "c", V.str "d", V.str "b", V.str "a"]) nA5
    have eA5 : upd Hh3 A5 (HO.lst [V.str "c", V.str "d", V.str "b", V.str "a"]) A5 = some (.lst ((["c", "d", "b", "a"] : List Str).map V.str)) := upd_same
    have eA1 := updn (o := HO.lst [V.str "c", V.str "d", V.str "b", V.str "a"]) (nonn nA5 eA1) eA1
    have eA2 := updn (o := HO.lst [V.str "c", V.str "d", V.str "b", V.str "a"]) (nonn nA5 eA2) eA2
    have eA3 := updn (o := HO.lst [V.str "c", V.str "d", V.str "b", V.str "a"]) (nonn nA5 eA3) eA3
    have eA4 := updn (o := HO.lst [V.str "c", V.str "d", V.str "b", V.str "a"]) (nonn nA5 eA4) eA4
    generalize upd Hh3 A5 (HO.lst [V.str "c", V.str "d", V.str "b", V.str "a"]) = Hh4 at s5 eA1 eA2 eA3 eA4 eA5 ⊢
    refine ⟨szl (by show 5 ≤ 1000000; decide), fun L nL => ?_⟩
    have gL : Go p H1 (upd Hh4 L (.lst [.ref A1, .ref A2, .ref A3, .ref A4, .ref A5])) := (Go.of g1.pot s5).new nL
    have eA1 := updn (o := HO.lst [.ref A1, .ref A2, .ref A3, .ref A4, .ref A5]) (nonn nL eA1) eA1
    have eA2 := updn (o := HO.lst [.ref A1, .ref A2, .ref A3, .ref A4, .ref A5]) (nonn nL eA2) eA2
    have eA3 := updn (o := HO.lst [.ref A1, .ref A2, .ref A3, .ref A4, .ref A5]) (nonn nL eA3) eA3
    have eA4 := updn (o := HO.lst [.ref A1, .ref A2, .ref A3, .ref A4, .ref A5]) (nonn nL eA4) eA4
    have eA5 := updn (o := HO.lst [.ref A1, .ref A2, .ref A3, .ref A4, .ref A5]) (nonn nL eA5) eA5
    have nnA1 : A1 ≠ p := fun q => by obtain ⟨_, _, e, _⟩ := gL.pot; have e' := e; rw [← q] at e'; rw [eA1] at e'; cases e'
    have nnA2 : A2 ≠ p := fun q => by obtain ⟨_, _, e, _⟩ := gL.pot; have e' := e; rw [← q] at e'; rw [eA2] at e'; cases e'
    have nnA3 : A3 ≠ p := fun q => by obtain ⟨_, _, e, _⟩ := gL.pot; have e' := e; rw [← q] at e'; rw [eA3] at e'; cases e'
    have nnA4 : A4 ≠ p := fun q => by obtain ⟨_, _, e, _⟩ := gL.pot; have e' := e; rw [← q] at e'; rw [eA4] at e'; cases e'
    have nnA5 : A5 ≠ p := fun q => by obtain ⟨_, _, e, _⟩ := gL.pot; have e' := e; rw [← q] at e'; rw [eA5] at e'; cases e'
    refine among_l gL.pot (((Go.of g1.pot s5).pot).ne nL) (SqL.of upd_same) (by show 0 < 5; decide) (by show 5 ≤ 1000; decide) fun v hv H2 g2 => ?_
    have gz := (g1.trans gL).trans g2
    simp only [List.mem_cons, List.not_mem_nil, or_false] at hv
    rcases hv with rfl | rfl | rfl | rfl | rfl
    · exact ⟨A1, ["a", "b"], rfl, gz, ⟨g2.kp eA1 nnA1, nnA1, by decide, by decide, fun g hg => by
        simp only [List.mem_cons, List.not_mem_nil, or_false] at hg
        rcases hg with rfl | rfl
        · exact gg_a
        · exact gg_b⟩⟩
    · exact ⟨A2, ["b", "a", "c"], rfl, gz, ⟨g2.kp eA2 nnA2, nnA2, by decide, by decide, fun g hg => by
        simp only [List.mem_cons, List.not_mem_nil, or_false] at hg
        rcases hg with rfl | rfl | rfl
        · exact gg_b
        · exact gg_a
        · exact gg_c⟩⟩
    · exact ⟨A3, ["hole", "a"], rfl, gz, ⟨g2.kp eA3 nnA3, nnA3, by decide, by decide, fun g hg => by
        simp only [List.mem_cons, List.not_mem_nil, or_false] at hg
        rcases hg with rfl | rfl
        · exact gg_hole
        · exact gg_a⟩⟩
    · exact ⟨A4, ["home", "b", "hole", "a"], rfl, gz, ⟨g2.kp eA4 nnA4, nnA4, by decide, by decide, fun g hg => by
        simp only [List.mem_cons, List.not_mem_nil, or_false] at hg
        rcases hg with rfl | rfl | rfl | rfl
        · exact gg_home
        · exact gg_b
        · exact gg_hole
        · exact gg_a⟩⟩
    · exact ⟨A5, ["c", "d", "b", "a"], rfl, gz, ⟨g2.kp eA5 nnA5, nnA5, by decide, by decide, fun g hg => by
        simp only [List.mem_cons, List.not_mem_nil, or_false] at hg
        rcases hg with rfl | rfl | rfl | rfl
        · exact gg_c
        · exact gg_d
        · exact gg_b
        · exact gg_a⟩⟩
  rintro σ' H2 ⟨A, as, rfl, g2, hA⟩
  clear g1
  have okN : TabOk (n : Int) [] := ⟨by omega, by omega, (fun q hq => by cases hq), .nil, by decide⟩
  refine ⟨fun σ' H' => ∃ (D S : Addr) (ss : List (List Nat)), σ' = [some (.ref p), some (.int 6), some (.int n), some (.ref A), some (.ref D), some (.ref S), none, none, none] ∧ Go p H H' ∧ GsAt H' p A as ∧ H D = none ∧ H' D = some (.dK (tk [])) ∧ S ≠ p ∧ H' S = some (.lst (ss.map sx)) ∧ 0 < ss.length ∧ ss.length ≤ 1000 ∧ (∀ t ∈ ss, M.BL t ∧ t.length ≤ n), ?_, ?_⟩
  · intro D nD
    have g3 := g2.new (o := HO.dK []) nD
    have eD : upd H2 D (.dK []) D = some (.dK (tk [])) := upd_same
    have hA3 := hA.via ((Go.refl g2.pot).new (o := HO.dK []) nD)
    have nDH := g2.fresh hp nD
    generalize upd H2 D (.dK []) = H3 at g3 eD hA3 ⊢
    refine ⟨_, rfl, ?_⟩
    refine ls_go h1 fun L H4 s4 nL eL => ?_
    have g4 := Go.of g3.pot s4
    have ll := strL_len (n + 1)
    have l7 := pow7 (k := n + 1) (by omega)
    have l1 : 1 < 2 ^ (n + 1) := Nat.one_lt_two_pow (by omega)
    exact ⟨_, _, rfl, D, L, strL (n + 1), rfl, g3.trans g4, hA3.via g4, nDH, s4 _ _ eD, g3.pot.ne nL, eL, by omega, by omega, fun t ht => ⟨(strL_mem.mp ht).1, by have := (strL_mem.mp ht).2; omega⟩⟩
  rintro σ' H3 ⟨D, S, ss, rfl, g3, hA3, nD, eD, nSp, eS, ls0, ls1, hss⟩
  clear g2 hA
  refine ⟨fun σ' H' => ∃ (D S : Addr) (m : List (Str × Str)) (ss : List (List Nat)) (x8 : Option V), σ' = [some (.ref p), some (.int 6), some (.int n), some (.ref A), some (.ref D), some (.ref S), none, none, x8] ∧ Go p H H' ∧ GsAt H' p A as ∧ H D = none ∧ H' D = some (.dK (tk m)) ∧ TabOk (n : Int) m ∧ S ≠ p ∧ H' S = some (.lst (ss.map sx)) ∧ 0 < ss.length ∧ ss.length ≤ 1000 ∧ (∀ t ∈ ss, M.BL t ∧ t.length ≤ n), ?_, ?_⟩
  · refine ⟨_, rfl, ?_⟩
    refine draw_go g3.pot (by decide) (by decide) fun d H4 d0 d1 g4 => ?_
    have nDp := hp.ne nD
    have eD4 := g4.kp eD nDp
    have eS4 := g4.kp eS nSp
    have hA4 := hA3.via g4
    have g34 := g3.trans g4
    refine ⟨rfl, ⟨_, rfl, ?_⟩⟩
    refine ite2 (fun c => ?_) fun c => ?_
    · clear eD eS ls0 ls1 hss eD4 eS4 nD nDp
      refine ⟨_, rfl, ?_⟩
      refine lb2_go (by omega) fun S2 H5 s5 nS2 eS2 => ?_
      have g5 := g34.trans (Go.of g34.pot s5)
      have hA5 := hA4.via (Go.of g34.pot s5)
      have nS2p := g34.pot.ne nS2
      refine ⟨_, rfl, ⟨_, rfl, ⟨S2, _, rfl, SqL.of eS2, fun F nF => ?_⟩⟩⟩
      rw [show cutV ((bitsL n).map sx) none (some 40) = ((bitsL n).take 40).map sx by rw [show (40 : Int) = ((40 : Nat) : Int) from rfl, cutV_to, List.map_take]]
      have gF := (Go.refl g5.pot).new (o := HO.lst (((bitsL n).take 40).map sx)) nF
      have eF : upd H5 F (.lst (((bitsL n).take 40).map sx)) F = some (.lst (((bitsL n).take 40).map sx)) := upd_same
      have nFp := g5.pot.ne nF
      generalize upd H5 F (.lst (((bitsL n).take 40).map sx)) = H6 at gF eF ⊢
      have g6 := g5.trans gF
      have hA6 := hA5.via gF
      have eS6 := gF.kp eS2 nS2p
      generalize hus : (bitsL n).take 40 = us at eF ⊢
      have husm : ∀ u ∈ us, M.BL u ∧ u.length ≤ n := fun u hu => by
        have := bitsL_mem.mp (List.mem_of_mem_take (hus ▸ hu))
        exact ⟨this.1, by omega⟩
      have ndu : us.Nodup := by rw [← hus]; exact (List.take_sublist _ _).nodup (bitsL_nd n)
      have lu : us.length ≤ 40 := by rw [← hus, List.length_take]; omega
      refine ⟨F, rfl, ⟨_, SqL.of eF⟩, fun B nB => ?_⟩
      refine lc_it (walk_list (xs := us.map sx)) (fun j H' => ∃ m, m.map (·.1) = (us.take j).map SX.S ∧ (∀ q ∈ m, RowOk (n : Int) q) ∧ LQ p H6 B m H') ⟨[], rfl, (fun q hq => by cases hq), .nil g6.pot nB⟩ (fun j H' _ ⟨m, _, _, h⟩ => SqL.of (h.2.kp eF nFp)) ?_ ?_
      · rintro j y Hw H7 hj ⟨m, hm1, hm2, hq⟩ ⟨rfl, hy⟩
        obtain ⟨u, hu, rfl⟩ := sx_at hy
        obtain ⟨ub, ul⟩ := husm u (List.mem_of_getElem? hu)
        have hA7 := hA6.via hq.2
        refine ⟨rfl, ?_⟩
        dsimp only [tYes]
        rw [if_pos rfl]
        refine ⟨_, rfl, ⟨_, rfl, ⟨_, rfl, ?_⟩⟩⟩
        refine among_l hq.2.pot hA7.np (SqL.of hA7.e) (by rw [List.length_map]; exact hA7.l0) (by rw [List.length_map]; have := hA7.l5; omega) fun v hv H8 g8 => ?_
        obtain ⟨g, hg, rfl⟩ := List.mem_map.mp hv
        have hgo := hA7.ok g hg
        refine ⟨szl (by show 2 ≤ 1000000; decide), fun t nt => ?_⟩
        have lm : m.length ≤ 100000 := by
          have := congrArg List.length hm1
          rw [List.length_map, List.length_map, List.length_take] at this
          omega
        obtain ⟨acc, e1, e2, e3⟩ := LQ.turn (x := SX.S u) (y := g) g6.pot hq nB g8 nt lm
        refine ⟨acc, e1, e2, m ++ [(SX.S u, g)], ?_, fun q hq => ?_, e3⟩
        · rw [List.map_append, hm1, List.take_add_one, hu, List.map_append]
          rfl
        · rcases List.mem_append.mp hq with h | h
          · exact hm2 q h
          · rw [List.mem_singleton] at h
            subst h
            exact ⟨sx_bits ub, by rw [sx_len]; omega, hgo.1, hgo.2.1, hgo.2.2⟩
      · rintro H7 ⟨m, hm1, hm2, ⟨⟨tt, hB, tq⟩, g7⟩⟩
        rw [List.length_map, List.take_length] at hm1
        have ndm : (m.map (·.1)).Nodup := by
          rw [hm1]
          show List.Pairwise _ _
          rw [List.pairwise_map]
          exact ndu.imp fun {a b} h e => h (S_inj e)
        have lm : m.length ≤ 40 := by
          have := congrArg List.length hm1
          rw [List.length_map, List.length_map] at this
          omega
        refine ⟨B, tt, _, rfl, SqL.of hB, tq.pair, fun M nM => ?_⟩
        rw [mrg_nil ndm]
        have g67 := g6.trans g7
        have g8 := g67.new (o := HO.dK (tk m)) nM
        have eS7 := g7.kp eS6 nS2p
        have bl := bitsL_len n
        have b7 := pow7 (k := n) (by omega)
        have b1 : 0 < 2 ^ n := Nat.two_pow_pos n
        exact ⟨M, S2, m, bitsL n, _, rfl, g8, (hA6.via g7).via ((Go.refl g7.pot).new nM), g67.fresh hp nM, upd_same, ⟨by omega, by omega, hm2, ndm, lm⟩, nS2p, updn (nonn nM eS7) eS7, by omega, by omega, fun t ht => ⟨(bitsL_mem.mp ht).1, by have := (bitsL_mem.mp ht).2; omega⟩⟩
    · exact ⟨D, S, [], ss, _, rfl, g34, hA4, nD, eD4, okN, nSp, eS4, ls0, ls1, hss⟩
  clear g3 hA3 eD nSp eS ls0 ls1 hss nD D S ss
  rintro σ' H4 ⟨D, S, m, ss, x8, rfl, g4, hA4, nD, eD, ok, nSp, eS, ls0, ls1, hss⟩
  have nDp := hp.ne nD
  refine ⟨fun σ' H' => ∃ (m : List (Str × Str)) (x6 : Option V), σ' = [some (.ref p), some (.int 6), some (.int n), some (.ref A), some (.ref D), some (.ref S), x6, none, x8] ∧ Go p H H' ∧ H' D = some (.dK (tk m)) ∧ TabOk (n : Int) m, ?_, ?_⟩
  · refine ⟨_, rfl, ?_⟩
    refine draw_go g4.pot (by decide) (by decide) fun d H5 d0 d1 g5 => ?_
    refine ⟨_, rfl, by omega, by omega, ?_⟩
    refine for_it walk_range (fun i σ' H' => ∃ (m : List (Str × Str)) (x6 : Option V), σ' = [some (.ref p), some (.int 6), some (.int n), some (.ref A), some (.ref D), some (.ref S), x6, none, x8] ∧ Go p H H' ∧ GsAt H' p A as ∧ H' S = some (.lst (ss.map sx)) ∧ H' D = some (.dK (tk m)) ∧ TabOk (n : Int) m) ⟨m, _, rfl, g4.trans g5, hA4.via g5, g5.kp eS nSp, g5.kp eD nDp, ok⟩ (fun _ _ _ _ _ => trivial) ?_ ?_
    · clear g4 hA4 eD ok eS g5 m
      rintro i x σ' H6 H7 hi ⟨m, x6, rfl, g6, hA6, eS6, eD6, ok6⟩ ⟨rfl, rfl⟩
      have hD7 : H7 D = some (.dK (tk m)) := eD6
      refine ⟨_, rfl, ⟨D, _, rfl, hD7, ?_⟩⟩
      refine ⟨_, _, rfl, rfl, ?_⟩
      refine ⟨_, rfl, ?_⟩
      by_cases q : m.length < 40
      · rw [show decide (((tk m).length : Int) < 40) = true from decide_eq_true (by rw [tk_len]; omega)]
        refine iteT ?_
        refine ⟨_, rfl, ⟨_, rfl, ?_⟩⟩
        refine among_l g6.pot hA6.np (SqL.of hA6.e) (by rw [List.length_map]; exact hA6.l0) (by rw [List.length_map]; have := hA6.l5; omega) fun v hv H8 g8 => ?_
        obtain ⟨g, hg, rfl⟩ := List.mem_map.mp hv
        have hgo := hA6.ok g hg
        have eS8 := g8.kp eS6 nSp
        refine ⟨_, rfl, ⟨_, rfl, ⟨_, rfl, ?_⟩⟩⟩
        refine among_l g8.pot nSp (SqL.of eS8) (by rw [List.length_map]; exact ls0) (by rw [List.length_map]; exact ls1) fun u hu H9 g9 => ?_
        obtain ⟨t, ht, rfl⟩ := List.mem_map.mp hu
        have hst := hss t ht
        have g69 := g8.trans g9
        have eD9 := g69.kp hD7 nDp
        have hne : S ≠ D := fun z => by rw [z] at eS8; rw [g8.kp hD7 nDp] at eS8; cases eS8
        have hAD : A ≠ D := fun z => by have := hA6.e; rw [z] at this; rw [hD7] at this; cases this
        have hA9 := (hA6.via g8).via g9
        refine ⟨D, _, rfl, .inl ⟨_, Sum.inr (SX.S t), eD9, rfl, szt (by rw [tk_len]; omega), rfl⟩, ?_⟩
        refine ⟨putT m (SX.S t) g, _, rfl, (g6.trans g69).mut nD nDp, ⟨updn hAD hA9.e, hA9.np, hA9.l0, hA9.l5, hA9.ok⟩, updn hne (g9.kp eS8 nSp), by rw [upd_same, tk_put], ⟨by omega, by omega, put_ok ok6.rows ⟨sx_bits hst.1, by rw [sx_len]; omega, hgo.1, hgo.2.1, hgo.2.2⟩, put_nodup ok6.nd, by have := put_len m (SX.S t) g; omega⟩⟩
      · rw [show decide (((tk m).length : Int) < 40) = false from decide_eq_false (by rw [tk_len]; omega)]
        refine iteF ?_
        exact ⟨m, _, rfl, g6, hA6, eS6, hD7, ok6⟩
    · rintro σ' H6 ⟨m, x6, rfl, g6, hA6, eS6, eD6, ok6⟩
      exact ⟨m, _, rfl, g6, eD6, ok6⟩
  clear g4 hA4 eD ok nSp eS ls0 ls1 hss m
  rintro σ' H5 ⟨m, x6, rfl, g5, eD, ok⟩
  refine ⟨fun σ' H' => ∃ F, σ' = [some (.ref p), some (.int 6), some (.int n), some (.ref A), some (.ref D), some (.ref S), x6, some (.ref F), x8] ∧ Go p H H' ∧ H F = none ∧ H' F = some (.lst (([] : List (List Nat)).map sx)) ∧ H' D = some (.dK (tk m)), ?_, ?_⟩
  · refine ⟨szl (Nat.zero_le _), fun F nF => ?_⟩
    exact ⟨F, rfl, g5.new nF, g5.fresh hp nF, upd_same, updn (nonn nF eD) eD⟩
  rintro σ' H6 ⟨F, rfl, g6, nF, eF, eD6⟩
  clear g5 eD
  have nFp := hp.ne nF
  have hFD : F ≠ D := fun z => by rw [z, eD6] at eF; cases eF
  refine ⟨fun σ' H' => ∃ (x6 x8 : Option V) (fs : List (List Nat)), σ' = [some (.ref p), some (.int 6), some (.int n), some (.ref A), some (.ref D), some (.ref S), x6, some (.ref F), x8] ∧ Go p H H' ∧ H' D = some (.dK (tk m)) ∧ H' F = some (.lst (fs.map sx)) ∧ Fits n fs ∧ fs.Nodup ∧ fs.length ≤ 4, ?_, ?_⟩
  · refine ⟨_, rfl, ?_⟩
    refine ⟨szl (by show 6 ≤ 1000000; decide), fun L nL => ?_⟩
    have gL := (Go.refl g6.pot).new (o := HO.lst [.int 0, .int 0, .int 1, .int 1, .int 2, .int 4]) nL
    refine among_l gL.pot (g6.pot.ne nL) (SqL.of upd_same) (by show 0 < 6; decide) (by show 6 ≤ 1000; decide) fun v hv H7 g7 => ?_
    have g67 := gL.trans g7
    obtain ⟨c, rfl, hc⟩ : ∃ c : Nat, v = .int c ∧ c ≤ 4 := by
      simp only [List.mem_cons, List.not_mem_nil, or_false] at hv
      rcases hv with rfl | rfl | rfl | rfl | rfl | rfl
      · exact ⟨0, rfl, by decide⟩
      · exact ⟨0, rfl, by decide⟩
      · exact ⟨1, rfl, by decide⟩
      · exact ⟨1, rfl, by decide⟩
      · exact ⟨2, rfl, by decide⟩
      · exact ⟨4, rfl, by decide⟩
    refine ⟨_, rfl, by omega, by omega, ?_⟩
    rw [show ((c : Int)).toNat = c by omega]
    refine for_it walk_range (fun i σ' H' => ∃ (x6 x8 : Option V) (fs : List (List Nat)), σ' = [some (.ref p), some (.int 6), some (.int n), some (.ref A), some (.ref D), some (.ref S), x6, some (.ref F), x8] ∧ Go p H H' ∧ H' D = some (.dK (tk m)) ∧ H' F = some (.lst (fs.map sx)) ∧ Fits n fs ∧ fs.Nodup ∧ fs.length ≤ i) ⟨_, _, [], rfl, g6.trans g67, g67.kp eD6 nDp, g67.kp eF nFp, (fun t h => by cases h), .nil, Nat.le_refl _⟩ (fun _ _ _ _ _ => trivial) ?_ ?_
    · clear gL g7 g67 g6 eF eD6
      rintro i x σ' H8 H9 hi ⟨y6, y8, fs, rfl, g8, eD8, eF8, ff, nd, lf⟩ ⟨rfl, rfl⟩
      refine ⟨fun σ' H' => ∃ t : List Nat, σ' = [some (.ref p), some (.int 6), some (.int n), some (.ref A), some (.ref D), some (.ref S), some (.int (0 + (i : Int))), some (.ref F), some (sx t)] ∧ Go p H H' ∧ H' D = some (.dK (tk m)) ∧ H' F = some (.lst (fs.map sx)) ∧ M.BL t ∧ t.length ≤ n, ?_, ?_⟩
      · have g9 : Go p H H9 := g8
        have eD9 : H9 D = some (.dK (tk m)) := eD8
        have eF9 : H9 F = some (.lst (fs.map sx)) := eF8
        refine ⟨_, rfl, ⟨_, rfl, ?_⟩⟩
        refine ls_go h1 fun L2 Ha sa nL2 eL2 => ?_
        have ga := Go.of g9.pot sa
        have nL2p := g9.pot.ne nL2
        refine ⟨_, rfl, ?_⟩
        refine draw_go ga.pot (by decide) (by decide) fun d Hb d0 d1 gb => ?_
        refine ⟨_, _, rfl, rfl, ?_⟩
        refine .inr ⟨_, rfl, ?_⟩
        have eL3 := gb.kp eL2 nL2p
        refine ⟨_, rfl, ⟨L2, _, rfl, SqL.of eL3, fun A1 nA1 => ?_⟩⟩
        have ll := strL_len (n + 1)
        have l7 := pow7 (k := n + 1) (by omega)
        have l2 : 2 ^ 2 ≤ 2 ^ (n + 1) := Nat.pow_le_pow_right (by decide) (by omega)
        obtain ⟨kk, hk1, hk2⟩ : ∃ kk : Nat, (if decide (0 < d) = true then (1 : Int) else 0) = (kk : Int) ∧ kk ≤ 1 := by
          by_cases z : (0 : Int) < d
          · exact ⟨1, by rw [decide_eq_true z]; rfl, by decide⟩
          · exact ⟨0, by rw [decide_eq_false z]; rfl, by decide⟩
        have hk1' : (if decide ((0 : Int) < d) = true then (1 : Int) else 0) = (kk : Int) := hk1
        rw [hk1', cut_from, List.map_drop.symm]
        have gA := (ga.trans gb).new (o := HO.lst (((strL (n + 1)).drop kk).map sx)) nA1
        have lz : 3 ≤ (strL (n + 1)).length := by omega
        refine among_l gA.pot (gb.pot.ne nA1) (SqL.of upd_same) (by rw [List.length_map, List.length_drop]; omega) (by rw [List.length_map, List.length_drop]; omega) fun u hu Hc gc => ?_
        obtain ⟨t, ht, rfl⟩ := List.mem_map.mp hu
        have hst := strL_mem.mp (List.mem_of_mem_drop ht)
        have gAc := gA.trans gc
        exact ⟨t, rfl, g9.trans gAc, gAc.kp eD9 nDp, gAc.kp eF9 nFp, hst.1, by omega⟩
      clear g8 eD8 eF8
      rintro σ' Ha ⟨t, rfl, ga, eDa, eFa, tb, tl⟩
      refine ⟨_, rfl, ⟨_, rfl, ⟨F, _, rfl, .inl (SqL.of eFa), rfl, flat_sx _, ?_⟩⟩⟩
      refine ⟨_, rfl, ?_⟩
      show (fun b H1 => if b = true then _ else _) (!inV (sx t) (fs.map sx)) Ha
      rw [any_sx]
      by_cases q : t ∈ fs
      · rw [decide_eq_true q]
        refine iteF ?_
        exact ⟨_, _, fs, rfl, ga, eDa, eFa, ff, nd, by omega⟩
      · rw [decide_eq_false q]
        refine iteT ?_
        refine ⟨_, rfl, ⟨.inl ⟨rfl, _, SqL.of eFa⟩, ⟨_, rfl, ?_⟩⟩⟩
        refine ⟨F, _, _, rfl, rfl, eFa, szt (by rw [List.length_map]; omega), ?_⟩
        refine ⟨_, _, fs ++ [t], rfl, ga.mut nF nFp, updn hFD.symm eDa, by rw [upd_same, List.map_append]; rfl, fun u hu => ?_, ?_, by rw [List.length_append]; show fs.length + 1 ≤ i + 1; omega⟩
        · rcases List.mem_append.mp hu with h | h
          · exact ff u h
          · rw [List.mem_singleton] at h
            rw [h]
            exact ⟨tb, tl⟩
        · exact List.nodup_append.mpr ⟨nd, by simp, fun a ha b hb e => by rw [List.mem_singleton] at hb; subst hb; exact q (e ▸ ha)⟩
    · rintro σ' H8 ⟨y6, y8, fs, rfl, g8, eD8, eF8, ff, nd, lf⟩
      exact ⟨_, _, fs, rfl, g8, eD8, eF8, ff, nd, by omega⟩
  rintro σ' H7 ⟨y6, y8, fs, rfl, g7, eD7, eF7, ff, nd, lf⟩
  refine ⟨_, rfl, ⟨_, rfl, ⟨_, rfl, ⟨szl (by show 3 ≤ 1000000; decide), fun t nt => ?_⟩⟩⟩⟩
  exact k t D F n m fs _ (g7.new nt) upd_same h0 h1 (updn (nonn nt eD7) eD7) nDp ok (updn (nonn nt eF7) eF7) nFp ff nd lf
end
open PySem PySem.Spec PyProof.Rows LamX
open L2 hiding pass0
theorem look_mem_key {m : List (Str × Str)} {k : Str} : k ∈ m.map (·.1) ↔ (look m k).isSome = true := by
  rw [look_key, decide_eq_true_iff]
theorem perm_nd : ∀ {a b : List Str}, a.Nodup → b.Nodup → (∀ x, x ∈ a ↔ x ∈ b) → a.Perm b
  | [], b, _, _, h => by
    cases b with
    | nil => exact .nil
    | cons x r => exact absurd ((h x).mpr (List.mem_cons_self ..)) List.not_mem_nil
  | x :: a, b, ha, hb, h => by
    have hx : x ∈ b := (h x).mp (List.mem_cons_self ..)
    have ha' := List.nodup_cons.mp ha
    refine List.Perm.trans (List.Perm.cons x (perm_nd ha'.2 (hb.erase x) fun y => ?_)) (List.perm_cons_erase hx).symm
    rw [hb.mem_erase_iff]
    constructor
    · intro hy
      exact ⟨fun e => ha'.1 (e ▸ hy), (h y).mp (List.mem_cons_of_mem _ hy)⟩
    · rintro ⟨hne, hy⟩
      exact (List.mem_cons.mp ((h y).mpr hy)).resolve_left hne
theorem srt_eq {X m : List (Str × Str)} (h1 : (X.map (·.1)).Nodup) (h2 : (m.map (·.1)).Nodup) (h : ∀ k, look X k = look m k) : srt X = srt m := by
  have hp : (X.map (·.1)).Perm (m.map (·.1)) := perm_nd h1 h2 fun x => by rw [look_mem_key, look_mem_key, h x]
  have hk : tsort (X.map (·.1)) = tsort (m.map (·.1)) := tsort_uniq ((tsort_perm _).trans hp) (tsort_ts _)
  unfold srt
  rw [hk]
  refine List.map_congr_left fun k _ => ?_
  rw [look_get, look_get, h k]
/-- the goal to take where g is inherited -/
def pick (s : SNd) (g : Str) : Str := if inS s g = true then g else (s.1.getD []).headD Str.empty
def inh (f : List Nat → SNd) (t : List Nat) : Str := (List.range t.length).foldl (fun g k => pick (f (t.take k)) g) "hole"
def gl (f : List Nat → SNd) (t : List Nat) : Str := pick (f t) (inh f t)
theorem inh_nil (f : List Nat → SNd) : inh f [] = "hole" := rfl
theorem fold_same {α β : Type} {u v : β → α → β} : ∀ {l : List α} {g : β}, (∀ x ∈ l, ∀ g, u g x = v g x) → l.foldl u g = l.foldl v g
  | [], _, _ => rfl
  | a :: l, g, h => by
    rw [List.foldl_cons, List.foldl_cons, h a List.mem_cons_self]
    exact fold_same fun x hx => h x (List.mem_cons_of_mem _ hx)
theorem inh_snoc (f : List Nat → SNd) (t : List Nat) (b : Nat) : inh f (t ++ [b]) = gl f t := by
  unfold gl inh
  rw [List.length_append, show t.length + [b].length = t.length + 1 from rfl, List.range_succ, List.foldl_append]
  have e : ∀ g, ([t.length] : List Nat).foldl (fun g k => pick (f ((t ++ [b]).take k)) g) g = pick (f t) g := fun g => by
    show pick (f ((t ++ [b]).take t.length)) g = _
    rw [List.take_left']
    rfl
  rw [e]
  congr 1
  refine fold_same fun k hk g => ?_
  have := List.mem_range.mp hk
  rw [List.take_append_of_le_length (by omega)]
theorem pick_in {s : SNd} {x : List Str} (e : s.1 = some x) (h : x ≠ []) (g : Str) : pick s g ∈ x := by
  unfold pick inS
  rw [e]
  by_cases q : g ∈ x
  · rw [if_pos (decide_eq_true q)]; exact q
  · rw [if_neg (by simpa using q)]
    cases x with
    | nil => exact absurd rfl h
    | cons a x => exact List.mem_cons_self
theorem pick_yes {s : SNd} {g : Str} (h : inS s g = true) : pick s g = g := if_pos h
theorem cst_step {a b : SNd} (ha : ∀ x, a.1 = some x → x ≠ []) (hb : ∀ x, b.1 = some x → x ≠ []) (g : Str) :
    cst (both2 a b) g = (if inS (both2 a b) g = true then 0 else 1) + (cst a (pick (both2 a b) g) + cst b (pick (both2 a b) g)) := by
  have key : ∀ g', g' = pick (both2 a b) g → (both2 a b).2 = cst a g' + cst b g' := by
    rintro g' rfl
    obtain ⟨a, i⟩ := a
    obtain ⟨b, j⟩ := b
    cases a with
    | none =>
      rw [both_nl]
      cases b with
      | none => rw [cst_none, cst_none]
      | some y =>
        have := pick_in (s := (some y, i + j)) rfl (hb y rfl) g
        rw [cst_none, cst_some, if_pos this]
        rfl
    | some x =>
      cases b with
      | none =>
        rw [both_nr]
        have := pick_in (s := (some x, i + j)) rfl (ha x rfl) g
        rw [cst_none, cst_some, if_pos this]
        show i + j = _
        omega
      | some y =>
        rw [both_ss]
        by_cases q : shr x y = []
        · rw [if_pos q]
          have hne : tsort (x ++ y) ≠ [] := fun e => by
            have := (tsort_perm (x ++ y)).length_eq
            rw [e, List.length_append] at this
            have h2 : x.length ≠ 0 := fun z => ha x rfl (List.eq_nil_of_length_eq_zero z)
            have h3 : ([] : List Str).length = 0 := rfl
            omega
          have hp := pick_in (s := (some (tsort (x ++ y)), i + j + 1)) rfl hne g
          generalize pick (some (tsort (x ++ y)), i + j + 1) g = g' at hp
          have hp := List.mem_append.mp (mem_tsort.mp hp)
          have hn := shr_nil q g'
          rw [cst_some, cst_some]
          show i + j + 1 = _
          by_cases h1 : g' ∈ x
          · rw [if_pos h1, if_neg fun h2 => hn ⟨h1, h2⟩]; omega
          · rw [if_neg h1, if_pos (hp.resolve_left h1)]; omega
        · rw [if_neg q]
          have hp := pick_in (s := (some (shr x y), i + j)) rfl q g
          have hp := mem_shr.mp hp
          rw [cst_some, cst_some, if_pos hp.1, if_pos hp.2]
          rfl
  rw [← key _ rfl]
  show (both2 a b).2 + _ = _
  omega
open Classical in
/-- the row, or none, of a spare table at a stretch -/
noncomputable def rowT (n : Nat) (f : List Nat → SNd) (t : List Nat) : Option Str := if M.BL t ∧ t.length ≤ n ∧ inS (f t) (inh f t) = false then some (gl f t) else none
structure Due (n : Nat) (f : List Nat → SNd) (d : List (Str × Str)) : Prop where
  nd : (d.map (·.1)).Nodup
  at' : ∀ t, look d (SX.S t) = rowT n f t
theorem Due.at_ {n : Nat} {f : List Nat → SNd} {d : List (Str × Str)} (h : Due n f d) (z : Str) : look d z = rowT n f z.cps.toList := by
  rw [← h.at', S_cp]
theorem Due.uniq {n : Nat} {f : List Nat → SNd} {d e : List (Str × Str)} (h : Due n f d) (g : Due n f e) : srt d = srt e := srt_eq h.nd g.nd fun k => by rw [h.at_, g.at_]
theorem Due.srt {n : Nat} {f : List Nat → SNd} {d : List (Str × Str)} (h : Due n f d) : Due n f (Cov.srt d) := ⟨by rw [srt_keys]; exact (tsort_perm _).nodup_iff.mpr h.nd, fun t => by rw [look_srt]; exact h.at' t⟩
theorem BL.pre {t p : List Nat} (h : M.BL t) (q : p <+: t) : M.BL p := fun c hc => h c (q.subset hc)
theorem Due.goal {n : Nat} {f : List Nat → SNd} {d : List (Str × Str)} (h : Due n f d) : ∀ (k : Nat) (t : List Nat), t.length = k → M.BL t → t.length ≤ n → goalT (look d) (SX.S t) = gl f t := by
  intro k
  induction k with
  | zero =>
    intro t e _ _
    have := List.eq_nil_of_length_eq_zero e
    subst this
    rw [goal_nil, show ("" : Str) = SX.S [] by decide +kernel, h.at', rowT]
    by_cases q : inS (f []) (inh f []) = true
    · rw [if_neg (by rw [q]; simp), gl, pick_yes q]; rfl
    · rw [if_pos ⟨(fun c hc => by cases hc), Nat.zero_le _, by simpa using q⟩]; rfl
  | succ k ih =>
    intro t e bl l
    obtain ⟨s, b, rfl⟩ := snoc_of (s := t) (fun z => by rw [z] at e; cases e)
    have e' : s.length + 1 = k + 1 := by rw [List.length_append] at e; exact e
    have l' : s.length + 1 ≤ n := by rw [List.length_append] at l; exact l
    rw [goal_snoc, h.at', rowT, ih s (by omega) (BL.pre bl (List.prefix_append _ _)) (by omega)]
    by_cases q : inS (f (s ++ [b])) (inh f (s ++ [b])) = true
    · rw [if_neg (by rw [q]; simp), show gl f (s ++ [b]) = inh f (s ++ [b]) from pick_yes q, inh_snoc]; rfl
    · rw [if_pos ⟨bl, l, by simpa using q⟩]; rfl
/-- the same goals at all used addresses -/
def Like (n : Nat) (m m2 : List (Str × Str)) (fs : List (List Nat)) : Prop := ∀ z, M.BL z → z.length = n → M.frB fs z = false → goalT (look m) (SX.S z) = goalT (look m2) (SX.S z)
theorem Like.symm {n : Nat} {m m2 : List (Str × Str)} {fs : List (List Nat)} (h : Like n m m2 fs) : Like n m2 m fs := fun z a b c => (h z a b c).symm
theorem Like.trans {n : Nat} {m m2 m3 : List (Str × Str)} {fs : List (List Nat)} (h : Like n m m2 fs) (g : Like n m2 m3 fs) : Like n m m3 fs := fun z a b c => (h z a b c).trans (g z a b c)
theorem SN_ne {n : Nat} {m : List (Str × Str)} {fs : List (List Nat)} {t : List Nat} : ∀ x, (SN n m fs t).1 = some x → x ≠ [] ∧ ∀ g ∈ x, g ∈ ("hole" : Str) :: m.map (·.2) := fun x hx => by
  obtain ⟨_, ne, sub⟩ := SNk_sub (GS := ("hole" : Str) :: m.map (·.2)) (fun y g _ _ e => by
    unfold lab at e
    split at e
    · cases e
    · cases e
      exact goal_in m _) x hx
  exact ⟨ne, sub⟩
theorem SN_end {n : Nat} {m : List (Str × Str)} {fs : List (List Nat)} {t : List Nat} (l : t.length = n) : SN n m fs t = ((lab m fs t).map fun g => [g], 0) := by
  unfold SN
  rw [l, Nat.sub_self]
  rfl
theorem count_kids {ks : List (List Nat)} (nd : ks.Nodup) (bl : ∀ s ∈ ks, M.BL s) (t : List Nat) :
    ks.countP (fun s => decide (t <+: s)) = (if t ∈ ks then 1 else 0) + (ks.countP (fun s => decide (t ++ [48] <+: s)) + ks.countP (fun s => decide (t ++ [49] <+: s))) := by
  induction ks with
  | nil => rfl
  | cons s ks ih =>
    obtain ⟨n1, n2⟩ := List.nodup_cons.mp nd
    have ih := ih n2 fun x hx => bl x (List.mem_cons_of_mem _ hx)
    rw [List.countP_cons, List.countP_cons, List.countP_cons, ih]
    have hb := bl s List.mem_cons_self
    by_cases e : s = t
    · subst e
      have h0 : ∀ b : Nat, ¬ s ++ [b] <+: s := fun b q => by
        have := q.length_le
        rw [List.length_append] at this
        have : s.length + 1 ≤ s.length := this
        omega
      rw [if_neg n1, if_pos List.mem_cons_self, if_pos (decide_eq_true (List.prefix_refl s)), if_neg (by simpa using h0 48), if_neg (by simpa using h0 49)]
      omega
    · have em : (t ∈ s :: ks) ↔ t ∈ ks := by
        rw [List.mem_cons]
        exact ⟨fun q => q.resolve_left fun z => e z.symm, .inr⟩
      have e2 : (if t ∈ s :: ks then 1 else 0) = if t ∈ ks then 1 else 0 := by
        by_cases z : t ∈ ks
        · rw [if_pos z, if_pos (em.mpr z)]
        · rw [if_neg z, if_neg fun y => z (em.mp y)]
      rw [e2]
      by_cases q : t <+: s
      · obtain ⟨y, rfl⟩ := q
        cases y with
        | nil => rw [List.append_nil] at e; exact absurd rfl e
        | cons b y =>
          have hbb : b = 48 ∨ b = 49 := hb b (by simp)
          have pc : ∀ c : Nat, (t ++ [c] <+: t ++ b :: y) ↔ c = b := fun c => by
            rw [show t ++ b :: y = t ++ ([b] ++ y) from rfl]
            rw [List.prefix_append_right_inj]
            constructor
            · rintro ⟨z, hz⟩
              cases hz
              rfl
            · rintro rfl
              exact ⟨y, rfl⟩
          rw [if_pos (decide_eq_true (List.prefix_append _ _))]
          rcases hbb with rfl | rfl
          · rw [if_pos (decide_eq_true ((pc 48).mpr rfl)), if_neg (show ¬ (decide (t ++ [49] <+: t ++ 48 :: y) = true) from fun z => by have := (pc 49).mp (of_decide_eq_true z); omega)]
            omega
          · rw [if_neg (show ¬ (decide (t ++ [48] <+: t ++ 49 :: y) = true) from fun z => by have := (pc 48).mp (of_decide_eq_true z); omega), if_pos (decide_eq_true ((pc 49).mpr rfl))]
            omega
      · have h0 : ∀ b : Nat, ¬ t ++ [b] <+: s := fun b z => q ((List.prefix_append _ _).trans z)
        rw [if_neg (show ¬ (decide (t <+: s) = true) from fun z => q (of_decide_eq_true z)), if_neg (show ¬ (decide (t ++ [48] <+: s) = true) from fun z => h0 48 (of_decide_eq_true z)), if_neg (show ¬ (decide (t ++ [49] <+: s) = true) from fun z => h0 49 (of_decide_eq_true z))]
        omega
theorem Due.mem {n : Nat} {f : List Nat → SNd} {d : List (Str × Str)} (h : Due n f d) (t : List Nat) : t ∈ kz d ↔ (M.BL t ∧ t.length ≤ n ∧ inS (f t) (inh f t) = false) := by
  have e : t ∈ kz d ↔ (look d (SX.S t)).isSome = true := by
    rw [look_key, decide_eq_true_iff]
    unfold Cov.kz
    rw [List.mem_map, List.mem_map]
    constructor
    · rintro ⟨p, hp, rfl⟩
      exact ⟨p, hp, (S_cp _).symm⟩
    · rintro ⟨p, hp, e⟩
      exact ⟨p, hp, by rw [e, tl_S]⟩
  rw [e, h.at', rowT]
  split <;> simp_all
theorem kz_nd {d : List (Str × Str)} (h : (d.map (·.1)).Nodup) : (kz d).Nodup := by
  have e : kz d = (d.map (·.1)).map fun z => z.cps.toList := by unfold kz; rw [List.map_map]; rfl
  rw [e]
  show List.Pairwise _ _
  rw [List.pairwise_map]
  exact h.imp fun {a b} q z => q (by rw [← S_cp a, ← S_cp b, z])
/-- and just so many rows -/
theorem Due.len {n : Nat} {m d : List (Str × Str)} {fs : List (List Nat)} (h : Due n (SN n m fs) d) : d.length = cst (SN n m fs []) "hole" := by
  have nd := kz_nd h.nd
  have bl : ∀ s ∈ kz d, M.BL s := fun s hs => ((h.mem s).mp hs).1
  have main : ∀ (k : Nat) (t : List Nat), t.length + k = n → M.BL t → (kz d).countP (fun s => decide (t <+: s)) = cst (SN n m fs t) (inh (SN n m fs) t) := by
    intro k
    induction k with
    | zero =>
      intro t l bt
      have z : ∀ b : Nat, (kz d).countP (fun s => decide (t ++ [b] <+: s)) = 0 := fun b => by
        rw [List.countP_eq_zero]
        intro s hs q
        have h1 := (of_decide_eq_true q).length_le
        have h2 := ((h.mem s).mp hs).2.1
        rw [List.length_append] at h1
        have : t.length + 1 ≤ s.length := h1
        omega
      rw [count_kids nd bl, z, z]
      have e := SN_end (m := m) (fs := fs) (t := t) (n := n) (by omega)
      have hm := h.mem t
      unfold cst
      rw [show (SN n m fs t).2 = 0 by rw [e]]
      by_cases q : inS (SN n m fs t) (inh (SN n m fs) t) = true
      · rw [if_pos q, if_neg fun z => by have := (hm.mp z).2.2; rw [q] at this; cases this]
      · rw [if_neg q, if_pos (hm.mpr ⟨bt, by omega, by simpa using q⟩)]
    | succ k ih =>
      intro t l bt
      have hb : ∀ b : Nat, b = 48 ∨ b = 49 → M.BL (t ++ [b]) := fun b hb => bt.app fun c hc => by rw [List.mem_singleton] at hc; rw [hc]; exact hb
      rw [count_kids nd bl, ih (t ++ [48]) (by rw [List.length_append]; show t.length + 1 + k = n; omega) (hb 48 (.inl rfl)), ih (t ++ [49]) (by rw [List.length_append]; show t.length + 1 + k = n; omega) (hb 49 (.inr rfl))]
      rw [inh_snoc, inh_snoc]
      have e := SN_in (m := m) (fs := fs) (t := t) (n := n) (by omega)
      have st := cst_step (a := SN n m fs (t ++ [48])) (b := SN n m fs (t ++ [49])) (fun x hx => (SN_ne x hx).1) (fun x hx => (SN_ne x hx).1) (inh (SN n m fs) t)
      rw [← e] at st
      rw [st]
      have hm := h.mem t
      unfold gl
      by_cases q : inS (SN n m fs t) (inh (SN n m fs) t) = true
      · rw [if_pos q, if_neg fun z => by have := (hm.mp z).2.2; rw [q] at this; cases this]
      · rw [if_neg q, if_pos (hm.mpr ⟨bt, by omega, by simpa using q⟩)]
  have := main n [] (by simp) (fun c hc => by cases hc)
  rw [inh_nil] at this
  rw [← this, List.countP_eq_length.mpr (fun s _ => decide_eq_true (List.nil_prefix)), kz_len]
/-- no table that is alike has fewer rows -/
theorem few_le {n : Nat} {m : List (Str × Str)} {fs : List (List Nat)} : cst (SN n m fs []) "hole" ≤ m.length := by
  have h := SNk_rows (lab := lab m fs) (G := fun t => goalT (look m) (SX.S t)) (ks := kz m) (k := n) (t := []) (fun y hy ly => by
    unfold lab
    by_cases q : M.frB fs ([] ++ y) = true
    · exact .inr (if_pos q)
    · exact .inl (if_neg q)) (fun y b _ _ hn => by
    show goalT (look m) _ = goalT (look m) _
    rw [goal_snoc]
    have : look m (SX.S ([] ++ y ++ [b])) = none := by
      have e : ¬ (look m (SX.S ([] ++ y ++ [b]))).isSome = true := fun z => hn (by
        rw [look_key, decide_eq_true_iff, List.mem_map] at z
        obtain ⟨p, hp, e⟩ := z
        exact List.mem_map.mpr ⟨p, hp, by rw [e, tl_S]⟩)
      cases c : look m (SX.S ([] ++ y ++ [b])) with
      | none => rfl
      | some g => rw [c] at e; exact absurd rfl e
    rw [this]
    rfl)
  have e0 : SN n m fs [] = SNk (lab m fs) n [] := by unfold SN; rfl
  rw [← e0] at h
  have lk := kz_len m
  by_cases q : ([] : List Nat) ∈ kz m
  · have h1 := cst_low (SN n m fs []) "hole" (goalT (look m) (SX.S []))
    have h2 : (kz m).countP (fun s => decide (([] : List Nat) <+: s) && !decide (s = [])) < (kz m).length := by
      refine Nat.lt_of_le_of_ne List.countP_le_length fun e => ?_
      have := (List.countP_eq_length.mp e) _ q
      simp at this
    omega
  · have hn : look m "" = none := by
      have e : ¬ (look m "").isSome = true := fun z => q (by
        rw [look_key, decide_eq_true_iff, List.mem_map] at z
        obtain ⟨p, hp, e⟩ := z
        exact List.mem_map.mpr ⟨p, hp, by rw [e]; decide +kernel⟩)
      cases c : look m "" with
      | none => rfl
      | some g => rw [c] at e; exact absurd rfl e
    have hG : goalT (look m) (SX.S []) = "hole" := by rw [goal_nil, hn]; rfl
    have h' : cst (SN n m fs []) (goalT (look m) (SX.S [])) ≤ _ := h
    rw [hG] at h'
    have := List.countP_le_length (l := kz m) (p := fun s => decide (([] : List Nat) <+: s) && !decide (s = []))
    omega
theorem Due.ok {n : Nat} {m d : List (Str × Str)} {fs : List (List Nat)} (ok : TabOk (n : Int) m) (h : Due n (SN n m fs) d) : TabOk (n : Int) d := ⟨ok.w0, ok.w1, fun p hp => by
  have hl := look_of h.nd hp
  rw [h.at_, rowT] at hl
  split at hl
  case isFalse => cases hl
  case isTrue c =>
  obtain ⟨bl, l, q⟩ := c
  have hg := Option.some.inj hl
  have hin : p.2 ∈ ("hole" : Str) :: m.map (·.2) := by
    rw [← hg]
    unfold gl
    cases e : (SN n m fs p.1.cps.toList).1 with
    | none => unfold inS at q; rw [e] at q; cases q
    | some x =>
      have hx := SN_ne x e
      exact hx.2 _ (pick_in e hx.1 _)
  have hb : Bits p.1 := fun c hc => bl c hc
  have hle : ((p.1.length : Nat) : Int) ≤ n := by
    have : p.1.length = p.1.cps.toList.length := by rw [← SX.S_len, S_cp]
    omega
  rcases List.mem_cons.mp hin with e | e
  · rw [show p = (p.1, p.2) from rfl, e]
    exact ⟨hb, hle, gg_hole.1, gg_hole.2.1, gg_hole.2.2⟩
  · obtain ⟨r, hr, er⟩ := List.mem_map.mp e
    rw [show p = (p.1, p.2) from rfl, ← er]
    have := ok.rows r hr
    exact ⟨hb, hle, this.2.2.1, this.2.2.2.1, this.2.2.2.2⟩, h.nd, by
  rw [h.len]
  have := few_le (n := n) (m := m) (fs := fs)
  have := ok.few
  omega⟩
open PySem PySem.Spec PyProof.Rows
open L2 hiding pass0
def al3 : List V → List V → List V := fun us _ => us
def kwR : List V → List V → List V := fun _ zs => zs.reverse
theorem vals_rev : ∀ {zs : List V} {ws : List Value}, Vals zs ws → Vals zs.reverse ws.reverse
  | _, _, .nil => .nil
  | _, _, .cons r t => by
    rw [List.reverse_cons, List.reverse_cons]
    exact (vals_rev t).append (.cons r .nil)
open PySem PySem.Spec PyProof.Rows LamX
open L2 hiding pass0
/-- a pair: where it begins (none: outside), where it ends -/
abbrev Pr := Option (List Nat) × List Nat
/-- the border of s is passed downwards, upwards -/
def dnP (q : Pr) (s : List Nat) : Prop := s <+: q.2 ∧ ∀ z, q.1 = some z → ¬ s <+: z
def upP (q : Pr) (s : List Nat) : Prop := ∃ z, q.1 = some z ∧ s <+: z ∧ ¬ s <+: q.2
/-- two pairs keep clear of each other -/
def Clear (G : List Nat → Str) (q r : Pr) : Prop := ∀ s, ¬ (dnP q s ∧ upP r s) ∧ ¬ (upP q s ∧ dnP r s) ∧ (dnP q s ∧ dnP r s → G q.2 ≠ G r.2) ∧ (upP q s ∧ upP r s → G q.2 ≠ G r.2)
/-- the goal of each stretch by a table's rows -/
def gT (d : List (Str × Str)) (t : List Nat) : Str := goalT (look d) (SX.S t)
open PySem PySem.Spec PyProof.Rows LamX
open L2 hiding pass0
/-- a pair as a tuple's fields -/
def oB : Option (List Nat) → V
  | none => .non
  | some z => sx z
/-- both ends are used, and lead apart -/
def okP (d : List (Str × Str)) (fs : List (List Nat)) (q : Pr) : Bool := !M.frB fs q.2 && (match q.1 with
  | none => !decide (gT d q.2 = "hole")
  | some z => !M.frB fs z && !decide (gT d z = gT d q.2))
/-- its ends are addresses -/
def PrOk (n : Nat) (q : Pr) : Prop := (M.BL q.2 ∧ q.2.length = n) ∧ ∀ z, q.1 = some z → M.BL z ∧ z.length = n
/-- what stands in a tuple: a pair, or nothing -/
def oT : Option Pr → List V
  | none => []
  | some q => [oB q.1, sx q.2]
def okO (d : List (Str × Str)) (fs : List (List Nat)) : Option Pr → Bool
  | none => false
  | some q => okP d fs q
open PySem PySem.Spec PyProof.Rows
open L2 hiding pass0
abbrev s_common : Stmt := top 32
theorem sc_common : FnScope ["one", "other", "bits", "length", "left", "right"] ["one", "other"] (defScope s_common) := ⟨rfl, rfl, rfl, by decide +kernel, rfl, by decide +kernel, by decide +kernel⟩
theorem bp_common : BndP "common" s_common ["one", "other"] := fun _ _ _ _ _ _ us h => match us, h with | [_, _], _ => rfl
abbrev s_path : Stmt := top 51
theorem sc_path : FnScope ["width", "begin", "end", "shared", "ups", "downs", "length"] ["width", "begin", "end"] (defScope s_path) := ⟨rfl, rfl, rfl, by decide +kernel, rfl, by decide +kernel, by decide +kernel⟩
theorem bp_path : BndP "path" s_path ["width", "begin", "end"] := fun _ _ _ _ _ _ us h => match us, h with | [_, _, _], _ => rfl
abbrev s_law_path : Stmt := top 75
theorem sc_law_path : FnScope ["_law_begin", "_law_end", "_law_found", "_law_size"] ["_law_begin", "_law_end"] (defScope s_law_path) := ⟨rfl, rfl, rfl, by decide +kernel, rfl, by decide +kernel, by decide +kernel⟩
theorem bp_law_path : BndP "_law_path" s_law_path ["_law_begin", "_law_end"] := fun _ _ _ _ _ _ us h => match us, h with | [_, _], _ => rfl
def cpl : List Nat → List Nat → Nat
  | c :: z, d :: e => if c = d then cpl z e + 1 else 0
  | [], _ => 0
  | _ :: _, [] => 0
theorem cpl_le : ∀ z e, cpl z e ≤ z.length ∧ cpl z e ≤ e.length
  | [], _ => ⟨Nat.zero_le _, Nat.zero_le _⟩
  | _ :: _, [] => ⟨Nat.zero_le _, Nat.zero_le _⟩
  | c :: z, d :: e => by
    have h := cpl_le z e
    show (if c = d then cpl z e + 1 else 0) ≤ z.length + 1 ∧ (if c = d then cpl z e + 1 else 0) ≤ e.length + 1
    split <;> omega
theorem take_cpl : ∀ (z e : List Nat) (k : Nat), k ≤ z.length → k ≤ e.length → (z.take k = e.take k ↔ k ≤ cpl z e)
  | _, _, 0, _, _ => by simp
  | c :: z, d :: e, k + 1, h1, h2 => by
    have h := take_cpl z e k (Nat.le_of_succ_le_succ h1) (Nat.le_of_succ_le_succ h2)
    show c :: z.take k = d :: e.take k ↔ k + 1 ≤ (if c = d then cpl z e + 1 else 0)
    rw [List.cons.injEq, h]
    split <;> rename_i q <;> simp [q]
  | [], _, k + 1, h1, _ => by cases h1
  | _ :: _, [], k + 1, _, h2 => by cases h2
theorem cpl_step : ∀ {z e : List Nat} {i c d : Nat}, i ≤ cpl z e → z[i]? = some c → e[i]? = some d → (c = d → i + 1 ≤ cpl z e) ∧ (c ≠ d → cpl z e = i)
  | x :: z, y :: e, 0, c, d, _, hc, hd => by
    cases hc; cases hd
    show (x = y → 0 + 1 ≤ (if x = y then cpl z e + 1 else 0)) ∧ (x ≠ y → (if x = y then cpl z e + 1 else 0) = 0)
    exact ⟨fun q => by rw [if_pos q]; omega, fun q => if_neg q⟩
  | x :: z, y :: e, i + 1, c, d, h, hc, hd => by
    have h' : i + 1 ≤ (if x = y then cpl z e + 1 else 0) := h
    show (c = d → i + 1 + 1 ≤ (if x = y then cpl z e + 1 else 0)) ∧ (c ≠ d → (if x = y then cpl z e + 1 else 0) = i + 1)
    by_cases q : x = y
    · rw [if_pos q] at h' ⊢
      have r := cpl_step (z := z) (e := e) (i := i) (c := c) (d := d) (by omega) (by simpa using hc) (by simpa using hd)
      exact ⟨fun a => by have := r.1 a; omega, fun a => by have := r.2 a; omega⟩
    · rw [if_neg q] at h'
      omega
  | [], _, _, _, _, _, hc, _ => by simp at hc
  | _ :: _, [], _, _, _, _, _, hd => by simp at hd
def cpS (z e : Str) : Nat := cpl z.cps.toList e.cps.toList
theorem cpS_le (z e : Str) : cpS z e ≤ z.length ∧ cpS z e ≤ e.length := by
  have h := cpl_le z.cps.toList e.cps.toList
  rw [Array.length_toList, Array.length_toList] at h
  exact h
def pathN (e : Str) (n : Nat) : List (Str × Str) := (List.range n).map fun i => (px e i, "down")
def pathU (z : Str) (w n : Nat) : List (Str × Str) := (List.range n).map fun i => (px z (w - i), "up")
def pathD (e : Str) (s n : Nat) : List (Str × Str) := (List.range n).map fun i => (px e (s + 1 + i), "down")
def pathP (z e : Str) (w : Nat) : List (Str × Str) := pathU z w (w - cpS z e) ++ pathD e (cpS z e) (w - cpS z e)
def pathOf (b : V) (e : Str) (w : Nat) : List (Str × Str) := match b with
  | .str z => pathP z e w
  | _ => pathN e (w + 1)
theorem range_snoc {α : Type} (f : Nat → α) (n : Nat) : (List.range (n + 1)).map f = (List.range n).map f ++ [f n] := by
  rw [List.range_succ, List.map_append]; rfl
/-- tuples of two texts -/
inductive Tp (H : Hp) : List V → List (Str × Str) → Prop
  | nil : Tp H [] []
  | cons {a : Addr} {x y : Str} {vs : List V} {ps : List (Str × Str)} : H a = some (.tup [.str x, .str y]) → Tp H vs ps → Tp H (.ref a :: vs) ((x, y) :: ps)
theorem Tp.mono {H H' : Hp} (k : ∀ a l, H a = some (.tup l) → H' a = some (.tup l)) : ∀ {vs : List V} {ps : List (Str × Str)}, Tp H vs ps → Tp H' vs ps
  | _, _, .nil => .nil
  | _, _, .cons h r => .cons (k _ _ h) (r.mono k)
theorem Tp.same {H H' : Hp} {vs : List V} {ps : List (Str × Str)} (t : Tp H vs ps) (s : Same H H') : Tp H' vs ps := t.mono fun a l e => s a _ e
theorem Tp.put {H : Hp} {D : Addr} {o o' : List V} {vs : List V} {ps : List (Str × Str)} (t : Tp H vs ps) (h : H D = some (.lst o)) : Tp (upd H D (.lst o')) vs ps :=
  t.mono fun a l e => by
    have n : a ≠ D := fun q => by subst q; rw [e] at h; cases h
    exact updn n e
theorem Tp.len {H : Hp} : ∀ {vs : List V} {ps : List (Str × Str)}, Tp H vs ps → vs.length = ps.length
  | _, _, .nil => rfl
  | _, _, .cons _ r => congrArg (· + 1) r.len
theorem Tp.app {H : Hp} {us : List V} {qs : List (Str × Str)} (u : Tp H us qs) : ∀ {vs : List V} {ps : List (Str × Str)}, Tp H vs ps → Tp H (vs ++ us) (ps ++ qs)
  | _, _, .nil => u
  | _, _, .cons h r => .cons h (Tp.app u r)
theorem Tp.snoc {H : Hp} {a : Addr} {x y : Str} {vs : List V} {ps : List (Str × Str)} (t : Tp H vs ps) (h : H a = some (.tup [.str x, .str y])) : Tp H (vs ++ [.ref a]) (ps ++ [(x, y)]) := Tp.app (Tp.cons h .nil) t
theorem Tp.at {H : Hp} : ∀ {vs : List V} {ps : List (Str × Str)} {i : Nat} {v : V}, Tp H vs ps → vs[i]? = some v → ∃ a x y, v = .ref a ∧ H a = some (.tup [.str x, .str y]) ∧ ps[i]? = some (x, y)
  | _, _, _, _, .nil, e => by simp at e
  | _, _, 0, _, .cons h r, e => by cases e; exact ⟨_, _, _, rfl, h, rfl⟩
  | _, _, i + 1, _, .cons h r, e => r.at (i := i) (by simpa using e)
def prD (q : Str × Str) : PyData := .tuple [.str q.1, .str q.2]
theorem Tp.dp {K : PySem.W.Frag} {H : Hp} : ∀ {vs : List V} {ps : List (Str × Str)}, Tp H vs ps → DpAll K H vs (ps.map prD)
  | _, _, .nil => .nil
  | _, _, .cons h r => .cons (.tup (SqT.of h) (.cons (.str _) (.cons (.str _) .nil))) r.dp
@[irreducible] def spCommon : Sp := fun vs H Q _ => ∃ a b : Str, vs = [.str a, .str b] ∧ Bits a ∧ Bits b ∧ a.length ≤ 1000 ∧ b.length ≤ 1000 ∧ ∀ H', Same H H' → Q (.str (px a (cpS a b))) H'
def PathArg (b : V) (w : Nat) : Prop := b = .non ∨ ∃ z : Str, b = .str z ∧ Bits z ∧ z.length = w
@[irreducible] def spPath : Sp := fun vs H Q _ => ∃ (w : Nat) (b : V) (e : Str), vs = [.int w, b, .str e] ∧ 1 ≤ w ∧ w ≤ 100 ∧ Bits e ∧ e.length = w ∧ PathArg b w ∧
  ∀ a ts H', H a = none → Same H H' → H' a = some (.lst ts) → Tp H' ts (pathOf b e w) → Q (.ref a) H'
@[irreducible] def spLPath : Sp := fun vs H Q _ => ∃ (w : Nat) (b : V) (e : Str), vs = [b, .str e] ∧ 1 ≤ w ∧ w ≤ 100 ∧ Bits e ∧ e.length = w ∧ PathArg b w ∧
  ∀ a ts H', H a = none → Same H H' → H' a = some (.lst ts) → Tp H' ts (pathOf b e w) → Q (.ref a) H'
section
variable {H : Hp} {Q : VK} {E : XK} {a b e : Str} {x : V} {w : Nat}
theorem common_go (ha : Bits a) (hb : Bits b) (h0 : a.length ≤ 1000) (h1 : b.length ≤ 1000) (q : ∀ H', Same H H' → Q (.str (px a (cpS a b))) H') : spCommon [.str a, .str b] H Q E := by
  unfold spCommon
  exact ⟨a, b, rfl, ha, hb, h0, h1, q⟩
theorem path_go (h0 : 1 ≤ w) (h1 : w ≤ 100) (he : Bits e) (hl : e.length = w) (hx : PathArg x w) (q : ∀ a ts H', H a = none → Same H H' → H' a = some (.lst ts) → Tp H' ts (pathOf x e w) → Q (.ref a) H') : spPath [.int w, x, .str e] H Q E := by
  unfold spPath
  exact ⟨w, x, e, rfl, h0, h1, he, hl, hx, q⟩
theorem lpath_go (h0 : 1 ≤ w) (h1 : w ≤ 100) (he : Bits e) (hl : e.length = w) (hx : PathArg x w) (q : ∀ a ts H', H a = none → Same H H' → H' a = some (.lst ts) → Tp H' ts (pathOf x e w) → Q (.ref a) H') : spLPath [x, .str e] H Q E := by
  unfold spLPath
  exact ⟨w, x, e, rfl, h0, h1, he, hl, hx, q⟩
end
section
variable {P : Program} {w : World} {K : PySem.W.Frag} {mg : Str → Option Value} {base : Heap} {f : Addr} {fd : FuncData}
theorem ok_common (F : Fun K "common" "common" s_common f fd) (hm : mg "common" = some (.ref f)) (T : Txt K mg) (c_is_bits : Nm P w K mg base CX0 1 "is_bits" s_is_bits ["value"] (spTo bitsB)) : Nm P w K mg base CX0 2 "common" s_common ["one", "other"] (spCommon) := by
  refine nm_of0 F hm sc_common (fun vs H Q E h => ?_) fun cdv A outer s H vs Q E hr h => ?_
  · unfold spCommon at h
    obtain ⟨a, b, rfl, ha, hb, h0, h1, k⟩ := h
    subst_vars
    rfl
  unfold spCommon at h
  obtain ⟨a, b, rfl, ha, hb, h0, h1, k⟩ := h
  refine ⟨_, (pss_cons (ps_for PassesOwn.never rfl (pi_tup (pe_tup (pa_cons (pv 0) (pa_cons (pv 1) pa_nil)))) (pg_name (i := 2) sc_common.nd rfl (by first | exact Or.inl rfl | exact Or.inr rfl)) (pss_one (ps_if (pt_not (pt_val (pe_g c_is_bits hr (by decide) L2.pass0 bp_is_bits (by rfl) (pa_cons (pv 2) pa_nil)))) (pss_one ps_never) pss_nil)))
      (pss_cons (ps_set (i := 3) sc_common.nd rfl (by first | exact Or.inl rfl | exact Or.inr rfl) pe_int)
      (pss_cons (ps_for PassesOwn.never rfl (pi_zipS (by rfl) T.b_zip (pa_cons (pv 0) (pa_cons (pv 1) pa_nil))) (pg_tup (by rfl) (pgs_cons (pg_name (i := 4) sc_common.nd rfl (by first | exact Or.inl rfl | exact Or.inr rfl)) (pgs_cons (pg_name (i := 5) sc_common.nd rfl (by first | exact Or.inl rfl | exact Or.inr rfl)) pgs_nil))) (pss_cons (ps_if (pt_cmpR op_ne (pv 4) (pv 5) (nomark _)) (pss_one ps_break) pss_nil)
      (pss_one (ps_set (i := 3) sc_common.nd rfl (by first | exact Or.inl rfl | exact Or.inr rfl) (pe_op op_add (pv 3) pe_int)))))
      (pss_one (ps_ret (pe_slice sl_str (pv 0) po_none (po_some (pv 3)))))))), ?_⟩
  repeat walk_at "s1"
  rename_i t nt
  have sm0 : Same H (upd H t (.tup [.str a, .str b])) := fun c o e => updn (nonn nt e) e
  refine ⟨⟨_, SqT.of upd_same⟩, for_it (walk_tup (xs := [.str a, .str b])) (fun i σ H1 => (∃ x2, σ = [some (.str a), some (.str b), x2, none, none, none]) ∧ Same (upd H t (.tup [.str a, .str b])) H1) ⟨⟨_, rfl⟩, Same.refl _⟩ (fun i σ H1 _ h => SqT.of (h.2 _ _ upd_same)) ?_ ?_⟩
  · rintro i x σ H1 H2 hi ⟨⟨x2, rfl⟩, sm⟩ ⟨rfl, hx⟩
    have hx' : x = .str a ∨ x = .str b := by
      have := List.mem_of_getElem? hx
      simpa using this
    refine ⟨_, rfl, ?_⟩
    rcases hx' with rfl | rfl
    · refine to_go h0 fun H3 sm3 => ?_
      rw [bitsB_of ha]
      refine ⟨_, rfl, iteF ?_⟩
      exact ⟨⟨_, rfl⟩, sm.trans sm3⟩
    · refine to_go h1 fun H3 sm3 => ?_
      rw [bitsB_of hb]
      refine ⟨_, rfl, iteF ?_⟩
      exact ⟨⟨_, rfl⟩, sm.trans sm3⟩
  · rintro σ H1 ⟨⟨x2, rfl⟩, sm⟩
    have lea := cpl_le a.cps.toList b.cps.toList
    have la : a.cps.toList.length = a.length := Array.length_toList
    have lb : b.cps.toList.length = b.length := Array.length_toList
    have fin : ∀ (H2 : Hp) (i : Nat), Same H1 H2 → cpS a b = i → Q (.str (cutS a none (some (i : Int)))) H2 := fun H2 i s2 e => by
      rw [cut_px a rfl, ← e]
      exact k H2 (sm0.trans (sm.trans s2))
    repeat walk_at "s1"
    refine ⟨ha.low.small, hb.low.small, for_it walk_zipS (fun i σ H2 => (∃ x4 x5, σ = [some (.str a), some (.str b), x2, some (.int i), x4, x5]) ∧ Same H1 H2 ∧ i ≤ cpS a b) ⟨⟨_, _, rfl⟩, Same.refl _, Nat.zero_le _⟩ (fun _ _ _ _ _ => trivial) ?_ ?_⟩
    · rintro i x σ H2 H3 hi ⟨⟨x4, x5, rfl⟩, sm2, hle⟩ ⟨t1, c, d, rfl, nT, rfl, hc, hd⟩
      have sm3 : Same H1 (upd H2 t1 (.tup [.str ⟨#[c]⟩, .str ⟨#[d]⟩])) := fun c o e => updn (nonn nT (sm2 c o e)) (sm2 c o e)
      refine ⟨t1, _, rfl, SqT.of upd_same, rfl, ⟨_, _, rfl, ⟨_, _, rfl, ⟨rfl, ?_⟩⟩⟩⟩
      have st := cpl_step hle hc hd
      repeat walk_at "s1"
      refine ite2 (fun hq => ?_) fun hq => ?_
      · have hne : c ≠ d := fun q => by subst q; simp at hq
        repeat walk_at "s1"
        refine fin _ i sm3 (st.2 hne)
      · have heq : c = d := by
          have h5 : (V.str ⟨#[c]⟩ : V) = V.str ⟨#[d]⟩ := by
            by_cases q : (V.str ⟨#[c]⟩ : V) = V.str ⟨#[d]⟩
            · exact q
            · exact absurd (by rw [decide_eq_false q]; rfl) hq
          injection h5 with h5
          injection h5 with h5
          simpa using h5
        repeat walk_at "s1"
        exact ⟨⟨_, _, rfl⟩, sm3, st.1 heq⟩
    · rintro σ H2 ⟨⟨x4, x5, rfl⟩, sm2, hle⟩
      repeat walk_at "s1"
      have hle' : min a.length b.length ≤ cpl a.cps.toList b.cps.toList := hle
      refine fin _ _ sm2 ?_
      show cpl a.cps.toList b.cps.toList = _
      omega
/-- a list at D, made since H0, of such tuples -/
def LI (H0 : Hp) (D : Addr) (ps : List (Str × Str)) (H : Hp) : Prop := (∃ ts, H D = some (.lst ts) ∧ Tp H ts ps) ∧ Same H0 H
theorem LI.nil {H0 : Hp} {D : Addr} (nD : H0 D = none) : LI H0 D [] (upd H0 D (.lst [])) := ⟨⟨[], upd_same, .nil⟩, fun b u e => updn (nonn nD e) e⟩
theorem LI.turn {H0 H1 : Hp} {D t : Addr} {x y : Str} {ps : List (Str × Str)} {Pv : Hp → Prop} (nD : H0 D = none) (h : LI H0 D ps H1) (nt : H1 t = none) (hl : ps.length ≤ 100000) (hp : ∀ H, LI H0 D (ps ++ [(x, y)]) H → Pv H) :
    ∃ acc, upd H1 t (.tup [.str x, .str y]) D = some (.lst acc) ∧ acc.length < sizeLine ∧ Pv (upd (upd H1 t (.tup [.str x, .str y])) D (.lst (acc ++ [.ref t]))) := by
  obtain ⟨⟨ts, hD, tp⟩, sm⟩ := h
  have nt' : D ≠ t := nonn nt hD
  refine ⟨ts, updn nt' hD, szt (by rw [tp.len]; omega), hp _ ⟨⟨_, upd_same, ?_⟩, fun b u e => updn (nonn nD e) (updn (nonn nt (sm b u e)) (sm b u e))⟩⟩
  have tp2 : Tp (upd H1 t (.tup [.str x, .str y])) ts ps := tp.mono fun a l e => updn (nonn nt e) e
  exact (tp2.snoc (a := t) (x := x) (y := y) upd_same).put (updn nt' hD)
theorem LI.end {H0 H1 : Hp} {D : Addr} {ps : List (Str × Str)} (h : LI H0 D ps H1) : ∃ ts, H1 D = some (.lst ts) ∧ Tp H1 ts ps ∧ Same H0 H1 := let ⟨⟨ts, a, b⟩, c⟩ := h; ⟨ts, a, b, c⟩
theorem nd_t {p : Prop} [Decidable p] (h : (!decide p) = true) : ¬ p := fun q => by rw [decide_eq_true q] at h; cases h
theorem nd_f {p : Prop} [Decidable p] (h : ¬ (!decide p) = true) : p := by
  by_cases q : p
  · exact q
  · exact absurd (by rw [decide_eq_false q]; rfl) h
theorem str_ne {a b : Str} : (V.str a = V.str b) ↔ a = b := ⟨fun h => by injection h, fun h => by rw [h]⟩
theorem sm_fresh {H H1 : Hp} {a : Addr} (s : Same H H1) (n : H1 a = none) : H a = none := by
  cases e : H a with
  | none => rfl
  | some o => rw [s a o e] at n; cases n
theorem ok_path (F : Fun K "path" "path" s_path f fd) (hm : mg "path" = some (.ref f)) (T : Txt K mg) (c_check_width : Nm P w K mg base CX0 3 "check_width" s_check_width ["width"] (spCW)) (c_is_address : Nm P w K mg base CX0 5 "is_address" s_is_address ["width", "value"] (spIT adrB)) (c_check_address : Nm P w K mg base CX0 6 "check_address" s_check_address ["width", "address"] (spCT adrB)) (c_common : Nm P w K mg base CX0 2 "common" s_common ["one", "other"] (spCommon)) : Nm P w K mg base CX0 7 "path" s_path ["width", "begin", "end"] (spPath) := by
  refine nm_of F hm sc_path (fun vs H Q E h => ?_) fun cdv A outer s H vs Q E hr h => ?_
  · unfold spPath at h
    obtain ⟨n, x, e, rfl, h0, h1, he, hl, hx, k⟩ := h
    subst_vars
    rfl
  unfold spPath at h
  obtain ⟨n, x, e, rfl, h0, h1, he, hl, hx, k⟩ := h
  refine ⟨_, (pss_cons (ps_expr (pe_g c_check_width hr (by decide) L2.pass0 bp_check_width (by rfl) (pa_cons (pv 0) pa_nil)))
      (pss_cons (ps_if (PW.pt (pw_and (pt_cmpR op_notN (pv 1) pe_non (nomark _)) (pw_and1 (pt_not (pt_val (pe_g c_is_address hr (by decide) L2.pass0 bp_is_address (by rfl) (pa_cons (pv 0) (pa_cons (pv 1) pa_nil)))))))) (pss_one ps_never) pss_nil)
      (pss_cons (ps_expr (pe_g c_check_address hr (by decide) L2.pass0 bp_check_address (by rfl) (pa_cons (pv 0) (pa_cons (pv 2) pa_nil))))
      (pss_cons (ps_if (pt_cmpR op_isN (pv 1) pe_non (nomark _)) (pss_one (ps_ret (pe_lc (own := [("length", 6)]) (g := (gName 6)) (by rfl) sc_path.nd (pi_range1 (by rfl) T.b_range (pa_cons (pe_op op_add (pv 0) pe_int) pa_nil)) (blkOk_by (own := [("length", 6)]) (N := ["width", "begin", "end", "shared", "ups", "downs", "length"]) (sc := defScope s_path) (by decide +kernel)) (fun _ _ _ _ _ => (pg_name (i := 6) sc_path.nd rfl (by first | exact Or.inl rfl | exact Or.inr rfl))) (fun _ _ _ _ _ => pts_nil) (fun _ _ _ _ _ => (pe_tup (pa_cons (pe_slice sl_str (pv 2) po_none (po_some (pv 6))) (pa_cons pe_str pa_nil))))))) pss_nil)
      (pss_cons (ps_set (i := 3) sc_path.nd rfl (by first | exact Or.inl rfl | exact Or.inr rfl) (pe_callB (call_lenK (K := K) rfl) (by rfl) T.b_len PySem.boot_len (pa_cons (pe_g c_common hr (by decide) L2.pass0 bp_common (by rfl) (pa_cons (pv 1) (pa_cons (pv 2) pa_nil))) pa_nil)))
      (pss_cons (ps_setLc (i := 4) (own := [("length", 6)]) (g := (gName 6)) (by rfl) sc_path.nd rfl rfl (sw_true rfl rfl rfl (by decide +kernel)) (pi_range3 (by rfl) T.b_range (pa_cons (pv 0) (pa_cons (pv 3) (pa_cons (pe_un un_neg pe_int) pa_nil)))) (blkOk_by (own := [("length", 6)]) (N := ["width", "begin", "end", "shared", "ups", "downs", "length"]) (sc := defScope s_path) (by decide +kernel)) (fun _ _ _ _ _ => (pg_name (i := 6) sc_path.nd rfl (by first | exact Or.inl rfl | exact Or.inr rfl))) (fun _ _ _ _ _ => pts_nil) (fun _ _ _ _ _ => (pe_tup (pa_cons (pe_slice sl_str (pv 1) po_none (po_some (pv 6))) (pa_cons pe_str pa_nil)))))
      (pss_cons (ps_setLc (i := 5) (own := [("length", 6)]) (g := (gName 6)) (by rfl) sc_path.nd rfl rfl (sw_true rfl rfl rfl (by decide +kernel)) (pi_range2 (by rfl) T.b_range (pa_cons (pe_op op_add (pv 3) pe_int) (pa_cons (pe_op op_add (pv 0) pe_int) pa_nil))) (blkOk_by (own := [("length", 6)]) (N := ["width", "begin", "end", "shared", "ups", "downs", "length"]) (sc := defScope s_path) (by decide +kernel)) (fun _ _ _ _ _ => (pg_name (i := 6) sc_path.nd rfl (by first | exact Or.inl rfl | exact Or.inr rfl))) (fun _ _ _ _ _ => pts_nil) (fun _ _ _ _ _ => (pe_tup (pa_cons (pe_slice sl_str (pv 2) po_none (po_some (pv 6))) (pa_cons pe_str pa_nil)))))
      (pss_one (ps_ret (pe_lst (StX.pa_star (pv 4) (StX.pa_star (pv 5) pa_nil)))))))))))), ?_⟩
  have adr : ∀ {z : Str}, Bits z → z.length = n → adrB n z = true := fun {z} hz lz => by
    show (bitsB z && decide ((z.length : Int) = n)) = true
    rw [bitsB_of hz, lz, decide_eq_true rfl]
    rfl
  repeat walk_at "s1"
  refine cw_go (by omega) (by omega) fun H1 sm1 => ?_
  repeat walk_at "s1"
  rcases hx with rfl | ⟨z, rfl, hz, lz⟩
  · refine iteF ?_
    repeat walk_at "s1"
    refine ct_go (by omega) (by omega) (by omega) (adr he hl) fun H2 sm2 => ?_
    repeat walk_at "s1"
    rename_i D nD
    refine lc_it walk_range (fun i => LI H2 D (pathN e i)) (LI.nil nD) (fun _ _ _ _ => trivial) ?_ ?_
    · rintro i x H3 H4 hi hI ⟨rfl, rfl⟩
      refine ⟨rfl, ?_⟩
      dsimp only [tYes]
      rw [if_pos rfl]
      repeat walk_at "s1"
      rename_i t nt
      rw [cut_px e (k := i) (by omega)]
      refine hI.turn nD nt (by unfold pathN; rw [List.length_map, List.length_range]; omega) fun H h => ?_
      show LI H2 D (pathN e (i + 1)) H
      unfold pathN
      rw [range_snoc]
      exact h
    · intro H3 hI
      obtain ⟨ts, hD, tp, sm⟩ := hI.end
      have e1 : (((n : Nat) : Int) + 1 - 0).toNat = n + 1 := by omega
      refine k _ ts _ (sm_fresh (sm1.trans sm2) nD) ((sm1.trans sm2).trans sm) hD ?_
      exact tp
  · refine iteT ?_
    repeat walk_at "s1"
    refine it_go (by omega) (by omega) (by omega) fun H2 sm2 => ?_
    rw [adr hz lz]
    refine ⟨_, rfl, iteF ?_⟩
    repeat walk_at "s1"
    refine ct_go (by omega) (by omega) (by omega) (adr he hl) fun H3 sm3 => ?_
    repeat walk_at "s1"
    refine common_go hz he (by omega) (by omega) fun H4 sm4 => ?_
    have hsm : Same H H4 := ((sm1.trans sm2).trans sm3).trans sm4
    have cl := cpS_le z e
    have tl := px_len z (cpS z e)
    refine ⟨_, _, rfl, ⟨szl (by omega), rfl⟩, ?_⟩
    rw [show (px z (cpS z e)).length = cpS z e by omega]
    generalize hs : cpS z e = c at cl tl ⊢
    repeat walk_at "s1"
    refine ⟨_, _, _, _, rfl, RgC.neg (by omega) (by omega) (by omega) (by omega), fun D nD => ?_⟩
    have en : ((n : Int) - (c : Int)).toNat = n - c := by omega
    rw [en]
    refine lc_it walk_rangeC (fun i => LI H4 D (pathU z n i)) (LI.nil nD) (fun _ _ _ _ => trivial) ?_ ?_
    · rintro i x H5 H6 hi hI ⟨rfl, rfl⟩
      refine ⟨rfl, ?_⟩
      dsimp only [tYes]
      rw [if_pos rfl]
      repeat walk_at "s1"
      rename_i t nt
      rw [cut_px z (k := n - i) (by omega)]
      refine hI.turn nD nt (by unfold pathU; rw [List.length_map, List.length_range]; omega) fun H h => ?_
      show LI H4 D (pathU z n (i + 1)) H
      unfold pathU
      rw [range_snoc]
      exact h
    · intro H5 hI
      obtain ⟨us, hD, tpu, sm5⟩ := hI.end
      repeat walk_at "s1"
      rename_i B nB
      have en2 : ((n : Int) + 1 - ((c : Int) + 1)).toNat = n - c := by omega
      rw [en2]
      refine lc_it walk_range (fun i => LI H5 B (pathD e c i)) (LI.nil nB) (fun _ _ _ _ => trivial) ?_ ?_
      · rintro i x H6 H7 hi hI ⟨rfl, rfl⟩
        refine ⟨rfl, ?_⟩
        dsimp only [tYes]
        rw [if_pos rfl]
        repeat walk_at "s1"
        rename_i t nt
        rw [cut_px e (k := c + 1 + i) (by omega)]
        refine hI.turn nB nt (by unfold pathD; rw [List.length_map, List.length_range]; omega) fun H h => ?_
        show LI H5 B (pathD e c (i + 1)) H
        unfold pathD
        rw [range_snoc]
        exact h
      · intro H6 hI
        obtain ⟨ds, hB, tpd, sm6⟩ := hI.end
        repeat walk_at "s1"
        refine ⟨D, us, rfl, Or.inr (SqL.of (sm6 _ _ hD)), ?_⟩
        refine ⟨_, rfl, ⟨B, ds, rfl, Or.inr (SqL.of hB), ?_⟩⟩
        have l1 : us.length = n - c := by rw [tpu.len]; unfold pathU; rw [List.length_map, List.length_range]
        have l2 : ds.length = n - c := by rw [tpd.len]; unfold pathD; rw [List.length_map, List.length_range]
        refine ⟨szl (by rw [List.length_append, List.append_nil]; omega), fun L nL => ?_⟩
        have sL : Same H4 H6 := sm5.trans sm6
        have hall : Same H H6 := hsm.trans sL
        refine k L (us ++ (ds ++ [])) _ (sm_fresh hall nL) (fun b u q => updn (nonn nL (hall b u q)) (hall b u q)) upd_same ?_
        rw [List.append_nil]
        have tpu6 : Tp (upd H6 L (.lst (us ++ ds))) us (pathU z n (n - c)) := tpu.mono fun a l q => updn (nonn nL (sm6 _ _ q)) (sm6 _ _ q)
        have tpd6 : Tp (upd H6 L (.lst (us ++ ds))) ds (pathD e c (n - c)) := tpd.mono fun a l q => updn (nonn nL q) q
        have := Tp.app tpd6 tpu6
        show Tp _ _ (pathU z n (n - cpS z e) ++ pathD e (cpS z e) (n - cpS z e))
        rw [hs]
        exact this
theorem ok_law_path (F : Fun K "_law_path" "_law_path" s_law_path f fd) (hm : mg "_law_path" = some (.ref f)) (T : Txt K mg) : Nm P w K mg base CX0 1 "_law_path" s_law_path ["_law_begin", "_law_end"] (spLPath) := by
  refine nm_of F hm sc_law_path (fun vs H Q E h => ?_) fun cdv A outer s H vs Q E hr h => ?_
  · unfold spLPath at h
    obtain ⟨n, x, e, rfl, h0, h1, he, hl, hx, k⟩ := h
    subst_vars
    rfl
  unfold spLPath at h
  obtain ⟨n, x, e, rfl, h0, h1, he, hl, hx, k⟩ := h
  refine ⟨_, (pss_cons (ps_if (pt_cmpR op_isN (pv 0) pe_non (nomark _)) (pss_one (ps_ret (pe_lc (own := [("_law_size", 3)]) (g := (gName 3)) (by rfl) sc_law_path.nd (pi_range1 (by rfl) T.b_range (pa_cons (pe_op op_add (pe_callB (call_lenK (K := K) rfl) (by rfl) T.b_len PySem.boot_len (pa_cons (pv 1) pa_nil)) pe_int) pa_nil)) (blkOk_by (own := [("_law_size", 3)]) (N := ["_law_begin", "_law_end", "_law_found", "_law_size"]) (sc := defScope s_law_path) (by decide +kernel)) (fun _ _ _ _ _ => (pg_name (i := 3) sc_law_path.nd rfl (by first | exact Or.inl rfl | exact Or.inr rfl))) (fun _ _ _ _ _ => pts_nil) (fun _ _ _ _ _ => (pe_tup (pa_cons (pe_slice sl_str (pv 1) po_none (po_some (pv 3))) (pa_cons pe_str pa_nil))))))) pss_nil)
      (pss_cons (ps_setLc (i := 2) (own := [("_law_size", 3)]) (g := (gName 3)) (by rfl) sc_law_path.nd rfl rfl (sw_true rfl rfl rfl (by decide +kernel)) (pi_range3 (by rfl) T.b_range (pa_cons (pe_callB (call_lenK (K := K) rfl) (by rfl) T.b_len PySem.boot_len (pa_cons (pv 0) pa_nil)) (pa_cons pe_int (pa_cons (pe_un un_neg pe_int) pa_nil)))) (blkOk_by (own := [("_law_size", 3)]) (N := ["_law_begin", "_law_end", "_law_found", "_law_size"]) (sc := defScope s_law_path) (by decide +kernel)) (fun _ _ _ _ _ => (pg_name (i := 3) sc_law_path.nd rfl (by first | exact Or.inl rfl | exact Or.inr rfl))) (fun _ _ _ _ _ => (pts_one (pt_cmpR op_ne (pe_slice sl_str (pv 0) po_none (po_some (pv 3))) (pe_slice sl_str (pv 1) po_none (po_some (pv 3))) (nomark _)))) (fun _ _ _ _ _ => (pe_tup (pa_cons (pe_slice sl_str (pv 0) po_none (po_some (pv 3))) (pa_cons pe_str pa_nil)))))
      (pss_one (ps_ret (pe_op op_cat (pv 2) (pe_lc (own := [("_law_size", 3)]) (g := (gName 3)) (by rfl) sc_law_path.nd (pi_range2 (by rfl) T.b_range (pa_cons pe_int (pa_cons (pe_op op_add (pe_callB (call_lenK (K := K) rfl) (by rfl) T.b_len PySem.boot_len (pa_cons (pv 1) pa_nil)) pe_int) pa_nil))) (blkOk_by (own := [("_law_size", 3)]) (N := ["_law_begin", "_law_end", "_law_found", "_law_size"]) (sc := defScope s_law_path) (by decide +kernel)) (fun _ _ _ _ _ => (pg_name (i := 3) sc_law_path.nd rfl (by first | exact Or.inl rfl | exact Or.inr rfl))) (fun _ _ _ _ _ => (pts_one (pt_cmpR op_ne (pe_slice sl_str (pv 0) po_none (po_some (pv 3))) (pe_slice sl_str (pv 1) po_none (po_some (pv 3))) (nomark _)))) (fun _ _ _ _ _ => (pe_tup (pa_cons (pe_slice sl_str (pv 1) po_none (po_some (pv 3))) (pa_cons pe_str pa_nil)))))))))), ?_⟩
  rcases hx with rfl | ⟨z, rfl, hz, lz⟩
  · repeat walk_at "s1"
    rename_i D nD
    refine lc_it walk_range (fun i => LI H D (pathN e i)) (LI.nil nD) (fun _ _ _ _ => trivial) ?_ ?_
    · rintro i x H3 H4 hi hI ⟨rfl, rfl⟩
      refine ⟨rfl, ?_⟩
      dsimp only [tYes]
      rw [if_pos rfl]
      repeat walk_at "s1"
      rename_i t nt
      rw [cut_px e (k := i) (by omega)]
      refine hI.turn nD nt (by unfold pathN; rw [List.length_map, List.length_range]; omega) fun H h2 => ?_
      show LI _ D (pathN e (i + 1)) H
      unfold pathN
      rw [range_snoc]
      exact h2
    · intro H3 hI
      obtain ⟨ts, hD, tp, sm⟩ := hI.end
      have e1 : (((e.length : Nat) : Int) + 1).toNat = n + 1 := by omega
      rw [e1] at tp
      exact k _ ts _ nD sm hD tp
  · have cl := cpS_le z e
    have tq : ∀ k, k ≤ n → ((px z k = px e k) ↔ k ≤ cpS z e) := fun k hk => by
      have q := take_cpl z.cps.toList e.cps.toList k (by rw [Array.length_toList]; show k ≤ z.length; omega) (by rw [Array.length_toList]; show k ≤ e.length; omega)
      refine Iff.trans ⟨fun h => ?_, fun h => congrArg SX.S h⟩ q
      exact SX.S_inj h
    generalize hs : cpS z e = c at cl tq
    repeat walk_at "s1"
    refine ⟨_, _, _, _, rfl, RgC.neg (by omega) (by omega) (by omega) (by omega), fun D nD => ?_⟩
    have en : ((z.length : Int) - 0).toNat = n := by omega
    rw [en]
    refine lc_it walk_rangeC (fun i => LI H D (pathU z n (min i (n - c)))) (LI.nil nD) (fun _ _ _ _ => trivial) ?_ ?_
    · rintro i x H5 H6 hi hI ⟨rfl, rfl⟩
      refine ⟨rfl, ?_⟩
      repeat walk_at "s1"
      rw [cut_px z (k := n - i) (by omega), cut_px e (k := n - i) (by omega)]
      refine ite2 (fun hq => ?_) fun hq => ?_
      · have hlt : i < n - c := by
          have h2 : ¬ (n - i ≤ c) := fun h2 => nd_t hq (str_ne.mpr ((tq (n - i) (by omega)).mpr h2))
          omega
        repeat walk_at "s1"
        rename_i t nt
        rw [cut_px z (k := n - i) (by omega)]
        refine hI.turn nD nt (by unfold pathU; rw [List.length_map, List.length_range]; omega) fun H h2 => ?_
        rw [show min i (n - c) = i by omega] at h2
        rw [show min (i + 1) (n - c) = i + 1 by omega]
        unfold pathU
        rw [range_snoc]
        exact h2
      · have hge : n - c ≤ i := by
          have h2 := (tq (n - i) (by omega)).mp (str_ne.mp (nd_f hq))
          omega
        rw [show min (i + 1) (n - c) = min i (n - c) by omega]
        exact hI
    · intro H5 hI
      rw [show min n (n - c) = n - c by omega] at hI
      obtain ⟨us, hD, tpu, sm5⟩ := hI.end
      repeat walk_at "s1"
      rename_i B nB
      have en2 : (((e.length : Nat) : Int) + 1 - 1).toNat = n := by omega
      rw [en2]
      refine lc_it walk_range (fun i => LI H5 B (pathD e c (i - c))) (by rw [Nat.zero_sub]; exact LI.nil nB) (fun _ _ _ _ => trivial) ?_ ?_
      · rintro i x H6 H7 hi hI ⟨rfl, rfl⟩
        refine ⟨rfl, ?_⟩
        repeat walk_at "s1"
        rw [cut_px z (k := i + 1) (by omega), cut_px e (k := i + 1) (by omega)]
        refine ite2 (fun hq => ?_) fun hq => ?_
        · have hlt : c ≤ i := by
            have h2 : ¬ (i + 1 ≤ c) := fun h2 => nd_t hq (str_ne.mpr ((tq (i + 1) (by omega)).mpr h2))
            omega
          repeat walk_at "s1"
          rename_i t nt
          rw [cut_px e (k := c + 1 + (i - c)) (by omega)]
          refine hI.turn nB nt (by unfold pathD; rw [List.length_map, List.length_range]; omega) fun H h2 => ?_
          rw [show i + 1 - c = (i - c) + 1 by omega]
          unfold pathD
          rw [range_snoc]
          exact h2
        · have hge : i + 1 ≤ c := (tq (i + 1) (by omega)).mp (str_ne.mp (nd_f hq))
          rw [show i + 1 - c = i - c by omega]
          exact hI
      · intro H6 hI
        obtain ⟨ds, hB, tpd, sm6⟩ := hI.end
        have l1 : us.length = n - c := by rw [tpu.len]; unfold pathU; rw [List.length_map, List.length_range]
        have l2 : ds.length = n - c := by rw [tpd.len]; unfold pathD; rw [List.length_map, List.length_range]
        refine ⟨D, B, us, ds, rfl, rfl, sm6 _ _ hD, hB, szl (by omega), fun L nL => ?_⟩
        have hall : Same H H6 := sm5.trans sm6
        refine k L (us ++ ds) _ (sm_fresh hall nL) (fun b u q => updn (nonn nL (hall b u q)) (hall b u q)) upd_same ?_
        have tpu6 : Tp (upd H6 L (.lst (us ++ ds))) us (pathU z n (n - c)) := tpu.mono fun a l q => updn (nonn nL (sm6 _ _ q)) (sm6 _ _ q)
        have tpd6 : Tp (upd H6 L (.lst (us ++ ds))) ds (pathD e c (n - c)) := tpd.mono fun a l q => updn (nonn nL q) q
        have := Tp.app tpd6 tpu6
        show Tp _ _ (pathU z n (n - cpS z e) ++ pathD e (cpS z e) (n - cpS z e))
        rw [hs]
        exact this
end
open PySem PySem.Spec PyProof.Rows LamX
open L2 hiding pass0
theorem dn_ne_up : ("down" : Str) ≠ "up" := by decide +kernel
theorem pre_of_take {s e : List Nat} (h : s <+: e) : s = e.take s.length := List.prefix_iff_eq_take.mp h
theorem path_dn {n : Nat} {q : Pr} (hq : PrOk n q) (s : List Nat) : (SX.S s, ("down" : Str)) ∈ pathOf (oB q.1) (SX.S q.2) n ↔ dnP q s := by
  obtain ⟨b, e⟩ := q
  obtain ⟨⟨eb, el⟩, hz⟩ := hq
  cases b with
  | none =>
    show (SX.S s, ("down" : Str)) ∈ pathN (SX.S e) (n + 1) ↔ _
    unfold pathN
    rw [List.mem_map]
    constructor
    · rintro ⟨i, _, h⟩
      have h1 := (Prod.mk.inj h).1
      rw [px_S] at h1
      have h2 := S_inj h1
      exact ⟨h2 ▸ List.take_prefix i e, fun z hz => nomatch hz⟩
    · rintro ⟨h, _⟩
      have hl := h.length_le
      exact ⟨s.length, List.mem_range.mpr (by dsimp only at hl el; omega), by rw [px_S, ← pre_of_take h]⟩
  | some z =>
    obtain ⟨zb, zl⟩ := hz z rfl
    have el : e.length = n := el
    show (SX.S s, ("down" : Str)) ∈ pathP (SX.S z) (SX.S e) n ↔ _
    unfold pathP pathU pathD cpS
    rw [tl_S, tl_S, List.mem_append, List.mem_map, List.mem_map]
    have hc := cpl_le z e
    constructor
    · rintro (⟨i, _, h⟩ | ⟨i, hi, h⟩)
      · exact absurd (Prod.mk.inj h).2.symm dn_ne_up
      · have h1 := (Prod.mk.inj h).1
        rw [px_S] at h1
        have h2 := S_inj h1
        have hi := List.mem_range.mp hi
        refine ⟨h2 ▸ List.take_prefix _ e, fun z' hz' q => ?_⟩
        cases hz'
        have h3 := pre_of_take q
        have hl : s.length = cpl z e + 1 + i := by rw [← h2, List.length_take]; omega
        have := (take_cpl z e (cpl z e + 1 + i) (by omega) (by omega)).mp (by rw [← hl, ← h3, hl, h2])
        omega
    · rintro ⟨h, hn⟩
      have h : s <+: e := h
      have hl := h.length_le
      have hk : ¬ s.length ≤ cpl z e := fun c => by
        have := (take_cpl z e s.length (by omega) (by omega)).mpr c
        rw [← pre_of_take h] at this
        exact hn z rfl (this ▸ List.take_prefix _ z)
      refine .inr ⟨s.length - cpl z e - 1, List.mem_range.mpr (by omega), ?_⟩
      rw [px_S, show cpl z e + 1 + (s.length - cpl z e - 1) = s.length by omega, ← pre_of_take h]
theorem path_up {n : Nat} {q : Pr} (hq : PrOk n q) (s : List Nat) : (SX.S s, ("up" : Str)) ∈ pathOf (oB q.1) (SX.S q.2) n ↔ upP q s := by
  obtain ⟨b, e⟩ := q
  obtain ⟨⟨eb, el⟩, hz⟩ := hq
  cases b with
  | none =>
    show (SX.S s, ("up" : Str)) ∈ pathN (SX.S e) (n + 1) ↔ _
    unfold pathN
    rw [List.mem_map]
    constructor
    · rintro ⟨i, _, h⟩
      exact absurd (Prod.mk.inj h).2 dn_ne_up
    · rintro ⟨z, hz, _⟩
      cases hz
  | some z =>
    obtain ⟨zb, zl⟩ := hz z rfl
    have el : e.length = n := el
    show (SX.S s, ("up" : Str)) ∈ pathP (SX.S z) (SX.S e) n ↔ _
    unfold pathP pathU pathD cpS
    rw [tl_S, tl_S, List.mem_append, List.mem_map, List.mem_map]
    have hc := cpl_le z e
    constructor
    · rintro (⟨i, hi, h⟩ | ⟨i, _, h⟩)
      · have h1 := (Prod.mk.inj h).1
        rw [px_S] at h1
        have h2 := S_inj h1
        have hi := List.mem_range.mp hi
        refine ⟨z, rfl, h2 ▸ List.take_prefix _ z, fun q => ?_⟩
        have h3 := pre_of_take q
        have hl : s.length = n - i := by rw [← h2, List.length_take]; omega
        have := (take_cpl z e (n - i) (by omega) (by omega)).mp (by rw [← hl, ← h3, hl, h2])
        omega
      · exact absurd (Prod.mk.inj h).2 dn_ne_up
    · rintro ⟨z', hz', h, hn⟩
      cases hz'
      have hl := h.length_le
      have hk : ¬ s.length ≤ cpl z e := fun c => by
        have := (take_cpl z e s.length (by omega) (by omega)).mpr c
        rw [← pre_of_take h] at this
        exact hn (this ▸ List.take_prefix _ e)
      refine .inl ⟨n - s.length, List.mem_range.mpr (by omega), ?_⟩
      rw [px_S, show n - (n - s.length) = s.length by omega, ← pre_of_take h]
open PySem PySem.Spec PyProof.Rows LamX
open L2 hiding pass0
/-- a border, the way, the goal of the end -/
abbrev En := Str × Str × Str
def ents (n : Nat) (G : List Nat → Str) (q : Pr) : List En := (pathOf (oB q.1) (SX.S q.2) n).map fun p => (p.1, p.2, G q.2)
/-- they may both be there -/
def RB (e x : En) : Bool := !decide (e.1 = x.1) || (decide (e.2.1 = x.2.1) && !decide (e.2.2 = x.2.2))
def fit1 (E : List En) (x : En) : Bool := E.all fun e => RB e x
abbrev Keep (E : List En) : Prop := E.Pairwise fun e x => RB e x = true
theorem RB_iff {e x : En} : RB e x = true ↔ (e.1 = x.1 → e.2.1 = x.2.1 ∧ e.2.2 ≠ x.2.2) := by
  unfold RB
  by_cases a : e.1 = x.1 <;> by_cases b : e.2.1 = x.2.1 <;> by_cases c : e.2.2 = x.2.2 <;> simp [a, b, c]
theorem keep_snoc {E : List En} {x : En} : Keep (E ++ [x]) ↔ Keep E ∧ fit1 E x = true := by
  unfold Keep fit1
  rw [List.pairwise_append, List.all_eq_true]
  constructor
  · rintro ⟨a, _, c⟩
    exact ⟨a, fun e he => c e he x (List.mem_singleton.mpr rfl)⟩
  · rintro ⟨a, c⟩
    exact ⟨a, List.pairwise_singleton _ _, fun e he y hy => by rw [List.mem_singleton.mp hy]; exact c e he⟩
theorem keep_pre {E F : List En} (h : Keep (E ++ F)) : Keep E := (List.pairwise_append.mp h).1
def flat (n : Nat) (G : List Nat → Str) (qs : List Pr) : List En := qs.flatMap (ents n G)
theorem flat_snoc (n : Nat) (G : List Nat → Str) (qs : List Pr) (q : Pr) : flat n G (qs ++ [q]) = flat n G qs ++ ents n G q := by
  unfold flat
  rw [List.flatMap_append]
  simp
/-- whether a list of pairs is a pack -/
def packB (n : Nat) (d : List (Str × Str)) (fs : List (List Nat)) (qs : List Pr) : Bool := qs.all (okP d fs) && decide (Keep (flat n (gT d) qs))
theorem nd_map {α β : Type} {f : α → β} : ∀ {l : List α}, l.Nodup → (∀ a ∈ l, ∀ b ∈ l, f a = f b → a = b) → (l.map f).Nodup
  | [], _, _ => List.nodup_nil
  | a :: l, h, k => by
    obtain ⟨h1, h2⟩ := List.nodup_cons.mp h
    rw [List.map_cons, List.nodup_cons]
    refine ⟨fun q => ?_, nd_map h2 fun x hx y hy => k x (List.mem_cons_of_mem _ hx) y (List.mem_cons_of_mem _ hy)⟩
    obtain ⟨y, hy, e⟩ := List.mem_map.mp q
    have := k y (List.mem_cons_of_mem _ hy) a List.mem_cons_self e
    exact h1 (this ▸ hy)
theorem px_inj_len {z : List Nat} {i j : Nat} (hi : i ≤ z.length) (hj : j ≤ z.length) (e : px (SX.S z) i = px (SX.S z) j) : i = j := by
  rw [px_S, px_S] at e
  have := congrArg List.length (S_inj e)
  rw [List.length_take, List.length_take] at this
  omega
/-- a path passes each border once -/
theorem path_nd {n : Nat} {q : Pr} (hq : PrOk n q) : ((pathOf (oB q.1) (SX.S q.2) n).map (·.1)).Nodup := by
  obtain ⟨b, e⟩ := q
  obtain ⟨⟨eb, el⟩, hz⟩ := hq
  have el : e.length = n := el
  cases b with
  | none =>
    show ((pathN (SX.S e) (n + 1)).map (·.1)).Nodup
    unfold pathN
    rw [List.map_map]
    refine nd_map List.nodup_range fun i hi j hj h => ?_
    have hi := List.mem_range.mp hi
    have hj := List.mem_range.mp hj
    exact px_inj_len (by omega) (by omega) h
  | some z =>
    obtain ⟨zb, zl⟩ := hz z rfl
    show ((pathP (SX.S z) (SX.S e) n).map (·.1)).Nodup
    unfold pathP pathU pathD cpS
    rw [tl_S, tl_S, List.map_append, List.map_map, List.map_map, List.nodup_append]
    have hc := cpl_le z e
    refine ⟨nd_map List.nodup_range fun i hi j hj h => ?_, nd_map List.nodup_range fun i hi j hj h => ?_, fun a ha b hb h => ?_⟩
    · have hi := List.mem_range.mp hi
      have hj := List.mem_range.mp hj
      have := px_inj_len (z := z) (i := n - i) (j := n - j) (by omega) (by omega) h
      omega
    · have hi := List.mem_range.mp hi
      have hj := List.mem_range.mp hj
      have := px_inj_len (z := e) (i := cpl z e + 1 + i) (j := cpl z e + 1 + j) (by omega) (by omega) h
      omega
    · subst h
      obtain ⟨i, hi, h1⟩ := List.mem_map.mp ha
      obtain ⟨j, hj, h2⟩ := List.mem_map.mp hb
      have hi := List.mem_range.mp hi
      have hj := List.mem_range.mp hj
      have h3 : px (SX.S z) (n - i) = px (SX.S e) (cpl z e + 1 + j) := h1.trans h2.symm
      rw [px_S, px_S] at h3
      have h4 := S_inj h3
      have h5 := congrArg List.length h4
      rw [List.length_take, List.length_take] at h5
      have h6 : n - i = cpl z e + 1 + j := by omega
      rw [h6] at h4
      have := (take_cpl z e (cpl z e + 1 + j) (by omega) (by omega)).mp h4
      omega
theorem ents_keep {n : Nat} {G : List Nat → Str} {q : Pr} (hq : PrOk n q) : Keep (ents n G q) := by
  have h := path_nd hq
  unfold Keep ents
  rw [List.pairwise_map]
  unfold List.Nodup at h
  rw [List.pairwise_map] at h
  exact h.imp fun {a b} h => RB_iff.mpr fun e => absurd e h
theorem keep_add {n : Nat} {G : List Nat → Str} {E : List En} {q : Pr} (hq : PrOk n q) : Keep (E ++ ents n G q) ↔ Keep E ∧ (ents n G q).all (fit1 E) = true := by
  unfold Keep
  rw [List.pairwise_append, List.all_eq_true]
  constructor
  · rintro ⟨a, _, c⟩
    exact ⟨a, fun x hx => List.all_eq_true.mpr fun e he => c e he x hx⟩
  · rintro ⟨a, c⟩
    exact ⟨a, ents_keep hq, fun e he x hx => List.all_eq_true.mp (c x hx) e he⟩
/-- whether a pair goes beside these -/
def goesB (n : Nat) (d : List (Str × Str)) (fs : List (List Nat)) (E : List En) (q : Pr) : Bool := okP d fs q && (ents n (gT d) q).all (fit1 E)
theorem pack_snoc {n : Nat} {d : List (Str × Str)} {fs : List (List Nat)} {qs : List Pr} {q : Pr} (hq : PrOk n q) : packB n d fs (qs ++ [q]) = (packB n d fs qs && goesB n d fs (flat n (gT d) qs) q) := by
  unfold packB goesB
  rw [List.all_append, flat_snoc]
  have e : decide (Keep (flat n (gT d) qs ++ ents n (gT d) q)) = (decide (Keep (flat n (gT d) qs)) && (ents n (gT d) q).all (fit1 (flat n (gT d) qs))) := by
    by_cases a : Keep (flat n (gT d) qs)
    · by_cases b : (ents n (gT d) q).all (fit1 (flat n (gT d) qs)) = true
      · rw [decide_eq_true ((keep_add hq).mpr ⟨a, b⟩), decide_eq_true a, b]; rfl
      · rw [decide_eq_false fun z => b ((keep_add hq).mp z).2, decide_eq_true a, Bool.eq_false_iff.mpr b]; rfl
    · rw [decide_eq_false fun z => a ((keep_add hq).mp z).1, decide_eq_false a]; rfl
  rw [e]
  simp only [List.all_cons, List.all_nil, Bool.and_true]
  generalize (qs.all (okP d fs)) = a1
  generalize (okP d fs q) = a2
  generalize decide (Keep (flat n (gT d) qs)) = a3
  generalize (ents n (gT d) q).all (fit1 (flat n (gT d) qs)) = a4
  cases a1 <;> cases a2 <;> cases a3 <;> cases a4 <;> rfl
theorem mem_flat {n : Nat} {G : List Nat → Str} {qs : List Pr} {e : En} : e ∈ flat n G qs ↔ ∃ q ∈ qs, e ∈ ents n G q := by
  unfold flat
  rw [List.mem_flatMap]
theorem mem_ents {n : Nat} {G : List Nat → Str} {q : Pr} (s w g : Str) : (s, w, g) ∈ ents n G q ↔ (s, w) ∈ pathOf (oB q.1) (SX.S q.2) n ∧ g = G q.2 := by
  unfold ents
  rw [List.mem_map]
  constructor
  · rintro ⟨p, hp, e⟩
    have e1 := (Prod.mk.inj e).1
    obtain ⟨e2, e3⟩ := Prod.mk.inj (Prod.mk.inj e).2
    exact ⟨by rw [← e1, ← e2]; exact hp, e3.symm⟩
  · rintro ⟨h, rfl⟩
    exact ⟨(s, w), h, rfl⟩
/-- pairs that stand beside one another -/
def Off (n : Nat) (G : List Nat → Str) (q r : Pr) : Prop := ∀ e ∈ ents n G q, ∀ x ∈ ents n G r, RB e x = true
theorem keep_flat {n : Nat} {G : List Nat → Str} : ∀ {qs : List Pr}, (∀ q ∈ qs, PrOk n q) → (Keep (flat n G qs) ↔ qs.Pairwise (Off n G))
  | [], _ => ⟨fun _ => .nil, fun _ => .nil⟩
  | q :: qs, h => by
    have e : flat n G (q :: qs) = ents n G q ++ flat n G qs := rfl
    unfold Keep
    rw [e, List.pairwise_append, List.pairwise_cons, show List.Pairwise (fun e x => RB e x = true) (flat n G qs) ↔ qs.Pairwise (Off n G) from keep_flat fun r hr => h r (List.mem_cons_of_mem _ hr)]
    constructor
    · rintro ⟨_, b, c⟩
      exact ⟨fun r hr e he x hx => c e he x (mem_flat.mpr ⟨r, hr, hx⟩), b⟩
    · rintro ⟨a, b⟩
      refine ⟨ents_keep (h q List.mem_cons_self), b, fun e he x hx => ?_⟩
      obtain ⟨r, hr, hx⟩ := mem_flat.mp hx
      exact a r hr e he x hx
theorem okP_like {n : Nat} {m d : List (Str × Str)} {fs : List (List Nat)} {q : Pr} (h : Like n m d fs) (hq : PrOk n q) : okP d fs q = okP m fs q := by
  obtain ⟨b, e⟩ := q
  obtain ⟨⟨eb, el⟩, hz⟩ := hq
  unfold okP
  dsimp only
  cases ce : M.frB fs e with
  | true => rfl
  | false =>
    have ge : gT d e = gT m e := (h e eb el ce).symm
    rw [ge]
    cases b with
    | none => rfl
    | some z =>
      obtain ⟨zb, zl⟩ := hz z rfl
      dsimp only
      cases cz : M.frB fs z with
      | true => rfl
      | false => rw [show gT d z = gT m z from (h z zb zl cz).symm]
theorem okP_end {d : List (Str × Str)} {fs : List (List Nat)} {q : Pr} (h : okP d fs q = true) : M.frB fs q.2 = false := by
  unfold okP at h
  cases c : M.frB fs q.2 with
  | true => rw [c] at h; exact absurd h (by simp)
  | false => rfl
/-- for alike tables the same are packs -/
theorem pack_like {n : Nat} {m d : List (Str × Str)} {fs : List (List Nat)} {qs : List Pr} (h : Like n m d fs) (hq : ∀ q ∈ qs, PrOk n q) : packB n d fs qs = packB n m fs qs := by
  have e1 : qs.all (okP d fs) = qs.all (okP m fs) := by
    rw [Bool.eq_iff_iff, List.all_eq_true, List.all_eq_true]
    exact ⟨fun k q x => by rw [← okP_like h (hq q x)]; exact k q x, fun k q x => by rw [okP_like h (hq q x)]; exact k q x⟩
  unfold packB
  rw [e1]
  cases c : qs.all (okP m fs) with
  | false => rfl
  | true =>
    have e2 : flat n (gT d) qs = flat n (gT m) qs := by
      unfold flat
      rw [List.flatMap_def, List.flatMap_def]
      refine congrArg List.flatten (List.map_congr_left fun q x => ?_)
      unfold ents
      rw [show gT d q.2 = gT m q.2 from (h q.2 (hq q x).1.1 (hq q x).1.2 (okP_end (List.all_eq_true.mp c q x))).symm]
    rw [e2]
open PySem PySem.Spec PyProof.Rows LamX
open L2 hiding pass0
abbrev s_keep_clear : Stmt := top 63
theorem sc_keep_clear : FnScope ["table", "pairs", "directions", "passed", "begin", "end", "goal", "stretch", "direction"] ["table", "pairs"] (defScope s_keep_clear) := ⟨rfl, rfl, rfl, by decide +kernel, rfl, by decide +kernel, by decide +kernel⟩
theorem bp_keep_clear : BndP "_keep_clear" s_keep_clear ["table", "pairs"] := fun _ _ _ _ _ _ us h => match us, h with | [_, _], _ => rfl
/-- the first way at each border -/
def DirAt (H : Hp) (D : Addr) (E : List En) : Prop := ∃ kvs, H D = some (.dK kvs) ∧ kvs.length ≤ E.length ∧ ∀ s, valV kvs (Sum.inr s) = (E.find? fun e => decide (e.1 = s)).map fun e => V.str e.2.1
/-- goals at each border -/
def PasAt (H : Hp) (D : Addr) (E : List En) : Prop := ∃ kvs : List (List Key × V), H D = some (.dT kvs) ∧ kvs.length ≤ E.length ∧ ∀ s g : Str, valV kvs [Sum.inr s, Sum.inr g] = if (E.any fun e => decide (e.1 = s ∧ e.2.2 = g)) = true then some (.bl true) else none
/-- the values of a row of tuples -/
def vz {α : Type} (zs : List (Addr × α)) : List V := zs.map fun z => V.ref z.1
theorem vz_len {α : Type} (zs : List (Addr × α)) : (vz zs).length = zs.length := List.length_map ..
theorem vz_at {α : Type} {zs : List (Addr × α)} {i : Nat} {x : V} (h : (vz zs)[i]? = some x) : ∃ z, zs[i]? = some z ∧ x = .ref z.1 := by
  unfold vz at h
  rw [List.getElem?_map] at h
  cases e : zs[i]? with
  | none => rw [e] at h; cases h
  | some z => rw [e] at h; exact ⟨z, rfl, (Option.some.inj h).symm⟩
def Pz (H : Hp) (zs : List (Addr × Option Pr)) : Prop := ∀ z ∈ zs, H z.1 = some (.tup (oT z.2))
def LT (H : Hp) (v : Addr) (xs : List V) : Prop := H v = some (.lst xs) ∨ H v = some (.tup xs)
theorem LT.to {H H' : Hp} {v : Addr} {xs : List V} (h : LT H v xs) (s : Same H H') : LT H' v xs := h.elim (fun e => .inl (s _ _ e)) fun e => .inr (s _ _ e)
/-- a walk over a list or a tuple -/
theorem for_seqA {K : PySem.W.Frag} {j : Nat} {σ : L2.St} {H0 H1 : Hp} {v : Addr} {xs : List V} {g : TG} {tb : L2.TS} {D : Ends} (h : LT H0 v xs) (s : Same H0 H1) (Pv : Nat → L2.St → Hp → Prop) (p0 : Pv 0 σ H1) (hσ : σ[j]? = some (some (.ref v))) (hS : ∀ i σ H, Pv i σ H → Same H0 H)
    (hs : ∀ i x σ H, xs[i]? = some x → Pv i σ H → g x σ H fun σ2 H2 => tb { D with nx := Pv (i + 1), ct := Pv (i + 1), bk := D.nx } σ2 H2) (hd : ∀ σ H, Pv xs.length σ H → D.nx σ H) : tFor (iSeqA K (tVar j)) g tb D σ H1 := by
  refine ⟨_, hσ, v, xs, rfl, ?_⟩
  rcases h with e | e
  · exact .inl ⟨SqL.of (s _ _ e), for_it walk_list Pv p0 (fun i σ H' _ h => SqL.of (hS i σ H' h _ _ e)) (fun i x σ H H' _ h y => by obtain ⟨rfl, hx⟩ := y; exact hs i x σ _ hx h) hd⟩
  · exact .inr ⟨SqT.of (s _ _ e), for_it walk_tup Pv p0 (fun i σ H' _ h => SqT.of (hS i σ H' h _ _ e)) (fun i x σ H H' _ h y => by obtain ⟨rfl, hx⟩ := y; exact hs i x σ _ hx h) hd⟩
theorem lc_seqA {K : PySem.W.Frag} {j : Nat} {σ : L2.St} {H0 H1 : Hp} {v : Addr} {xs : List V} {g : TG} {te : TE} {vs : List Nat} {Q : VK} (h : LT H0 v xs) (s : Same H0 H1) (hσ : σ[j]? = some (some (.ref v))) (Pv : Addr → Nat → Hp → Prop) (p0 : ∀ D, H1 D = none → Pv D 0 (upd H1 D (.lst []))) (hS : ∀ D i H, Pv D i H → Same H0 H)
    (hs : ∀ D i x H, xs[i]? = some x → Pv D i H → g x (wipe σ vs) H fun σ2 H2 => wipe σ2 vs = wipe σ vs ∧ tYes σ2 H2 fun b H3 => if b = true then te σ2 H3 fun y H4 => ∃ acc, H4 D = some (.lst acc) ∧ acc.length < sizeLine ∧ Pv D (i + 1) (upd H4 D (.lst (acc ++ [y]))) else Pv D (i + 1) H3) (hd : ∀ D H, Pv D xs.length H → Q (.ref D) H) : tLc (iSeqA K (tVar j)) g tYes te vs σ H1 Q := by
  refine ⟨_, hσ, v, xs, rfl, ?_⟩
  rcases h with e | e
  · exact .inl ⟨SqL.of (s _ _ e), fun D nD => lc_it walk_list (Pv D) (p0 D nD) (fun i H' _ h => SqL.of (hS D i H' h _ _ e)) (fun i x H H' _ h y => by obtain ⟨rfl, hx⟩ := y; exact hs D i x _ hx h) (hd D)⟩
  · exact .inr ⟨SqT.of (s _ _ e), fun D nD => lc_it walk_tup (Pv D) (p0 D nD) (fun i H' _ h => SqT.of (hS D i H' h _ _ e)) (fun i x H H' _ h y => by obtain ⟨rfl, hx⟩ := y; exact hs D i x _ hx h) (hd D)⟩
def prs (zs : List (Addr × Option Pr)) : List Pr := zs.filterMap (·.2)
theorem prs_snoc {zs : List (Addr × Option Pr)} {i : Nat} {t : Addr} {q : Pr} (h : zs[i]? = some (t, some q)) : prs (zs.take (i + 1)) = prs (zs.take i) ++ [q] := by
  unfold prs
  rw [List.take_add_one, h, List.filterMap_append]
  rfl
theorem prs_split {zs : List (Addr × Option Pr)} {i : Nat} {t : Addr} {q : Pr} (h : zs[i]? = some (t, some q)) : prs zs = prs (zs.take i) ++ [q] ++ prs (zs.drop (i + 1)) := by
  rw [← prs_snoc h]
  unfold prs
  rw [← List.filterMap_append, List.take_append_drop]
@[irreducible] def spKC (C : Addr) : Sp := fun vs H Q _ => ∃ (a v : Addr) (n : Nat) (d : List (Str × Str)) (zs : List (Addr × Option Pr)), vs = [.ref a, .ref v] ∧ TabAt C H a n d ∧ 1 ≤ n ∧ n ≤ 100 ∧ LT H v (vz zs) ∧ Pz H zs ∧ (∀ z ∈ zs, ∃ q, z.2 = some q ∧ PrOk n q) ∧ zs.length ≤ 400 ∧ ∀ H', Same H H' → Q (.bl (decide (Keep (flat n (gT d) (prs zs))))) H'
section
variable {K : PySem.W.Frag} {C a v F : Addr} {n : Nat} {d : List (Str × Str)} {fs : List (List Nat)} {zs : List (Addr × Option Pr)} {H : Hp} {Q : VK} {E : XK}
theorem kc_go (ht : TabAt C H a n d) (h0 : 1 ≤ n) (h1 : n ≤ 100) (hv : LT H v (vz zs)) (pz : Pz H zs) (hz : ∀ z ∈ zs, ∃ q, z.2 = some q ∧ PrOk n q) (l : zs.length ≤ 400) (k : ∀ H', Same H H' → Q (.bl (decide (Keep (flat n (gT d) (prs zs))))) H') : spKC C [.ref a, .ref v] H Q E := by
  unfold spKC
  exact ⟨a, v, n, d, zs, rfl, ht, h0, h1, hv, pz, hz, l, k⟩
end
theorem path_len {n : Nat} {q : Pr} (hq : PrOk n q) (h1 : n ≤ 100) : (pathOf (oB q.1) (SX.S q.2) n).length ≤ 200 := by
  obtain ⟨b, e⟩ := q
  cases b with
  | none =>
    show (pathN (SX.S e) (n + 1)).length ≤ 200
    unfold pathN
    rw [List.length_map, List.length_range]
    omega
  | some z =>
    show (pathP (SX.S z) (SX.S e) n).length ≤ 200
    unfold pathP pathU pathD
    rw [List.length_append, List.length_map, List.length_map, List.length_range]
    omega
theorem oB_arg {n : Nat} {q : Pr} (hq : PrOk n q) : PathArg (oB q.1) n := by
  obtain ⟨b, e⟩ := q
  cases b with
  | none => exact .inl rfl
  | some z => exact .inr ⟨SX.S z, rfl, sx_bits (hq.2 z rfl).1, by rw [sx_len]; exact (hq.2 z rfl).2⟩
theorem DirAt.put {H : Hp} {D : Addr} {kvs : List (Key × V)} {E : List En} {s w g : Str} (hl : kvs.length ≤ E.length) (hv : ∀ s, valV kvs (Sum.inr s) = (E.find? fun e => decide (e.1 = s)).map fun e => V.str e.2.1) (hn : valV kvs (Sum.inr s) = none) (h : H D = some (.dK (putK kvs (Sum.inr s) (.str w)))) : DirAt H D (E ++ [(s, w, g)]) := by
  refine ⟨_, h, ?_, fun s' => ?_⟩
  · have := length_putK kvs (Sum.inr s : Key) (V.str w)
    rw [List.length_append, List.length_singleton]
    omega
  · rw [valV_put, List.find?_append, hv]
    by_cases c : s' = s
    · subst c
      rw [if_pos rfl]
      rw [hv] at hn
      cases e : E.find? fun e => decide (e.1 = s') with
      | some z => rw [e] at hn; cases hn
      | none => simp
    · rw [if_neg fun z => c (Sum.inr.inj z)]
      cases e : E.find? fun e => decide (e.1 = s') with
      | some z => simp
      | none => simp; exact fun z => c z.symm
theorem DirAt.more {H : Hp} {D : Addr} {kvs : List (Key × V)} {E : List En} {s w g v : Str} (hl : kvs.length ≤ E.length) (hv : ∀ s, valV kvs (Sum.inr s) = (E.find? fun e => decide (e.1 = s)).map fun e => V.str e.2.1) (hn : valV kvs (Sum.inr s) = some (.str v)) (h : H D = some (.dK kvs)) : DirAt H D (E ++ [(s, w, g)]) := by
  refine ⟨_, h, by rw [List.length_append]; omega, fun s' => ?_⟩
  rw [List.find?_append, hv]
  by_cases c : s' = s
  · subst c
    rw [hv] at hn
    cases e : E.find? fun e => decide (e.1 = s') with
    | some z => simp
    | none => rw [e] at hn; cases hn
  · cases e : E.find? fun e => decide (e.1 = s') with
    | some z => simp
    | none => simp; exact fun z => c z.symm
theorem PasAt.put {H : Hp} {D : Addr} {kvs : List (List Key × V)} {E : List En} {s w g : Str} (hl : kvs.length ≤ E.length) (hv : ∀ s g : Str, valV kvs [Sum.inr s, Sum.inr g] = if (E.any fun e => decide (e.1 = s ∧ e.2.2 = g)) = true then some (.bl true) else none) (h : H D = some (.dT (putK kvs [Sum.inr s, Sum.inr g] (.bl true)))) : PasAt H D (E ++ [(s, w, g)]) := by
  refine ⟨_, h, ?_, fun s' g' => ?_⟩
  · have := length_putK kvs ([Sum.inr s, Sum.inr g] : List Key) (V.bl true)
    rw [List.length_append, List.length_singleton]
    omega
  · rw [valV_put, hv, List.any_append]
    by_cases c : s' = s ∧ g' = g
    · obtain ⟨rfl, rfl⟩ := c
      rw [if_pos rfl]
      simp
    · rw [if_neg fun z => c ⟨Sum.inr.inj (List.cons.inj z).1, Sum.inr.inj (List.cons.inj (List.cons.inj z).2).1⟩]
      have : (List.any [((s, w, g) : En)] fun e => decide (e.1 = s' ∧ e.2.2 = g')) = false := by
        simp
        exact fun a b => c ⟨a.symm, b.symm⟩
      rw [this, Bool.or_false]
section
variable {P : Program} {w : World} {K : PySem.W.Frag} {mg : Str → Option Value} {base : Heap} {f C : Addr} {fd : FuncData}
theorem ok_keep_clear (F : Fun K "_keep_clear" "_keep_clear" s_keep_clear f fd) (hm : mg "_keep_clear" = some (.ref f)) (T : Txt K mg) (TC : TabC K C) (c_path : Nm P w K mg base CX0 7 "path" s_path ["width", "begin", "end"] (spPath))
    (c_Table_width : Prp P w K mg base CX0 1 C "width" "Table.width" s_Table_width ["self"] (spWidth C)) (c_Table__call__ : Mth P w K mg base CX0 8 C "__call__" "Table.__call__" s_Table__call__ ["self", "address"] (spCall C)) : Nm P w K mg base CX0 9 "_keep_clear" s_keep_clear ["table", "pairs"] (spKC C) := by
  refine nm_of0 F hm sc_keep_clear (fun vs H Q E h => ?_) fun cdv A outer s H vs Q E hr h => ?_
  · unfold spKC at h
    obtain ⟨a, v, n, d, zs, rfl, ht, h0, h1, hv, pz, hz, l, k⟩ := h
    subst_vars
    rfl
  unfold spKC at h
  obtain ⟨a, v, n, d, zs, rfl, ht, h0, h1, hv, pz, hz, l, k⟩ := h
  refine ⟨_, (C8.pss_cut (ps_set (i := 2) sc_keep_clear.nd rfl (by first | exact Or.inl rfl | exact Or.inr rfl) pe_dnewK)
      (C8.pss_cut (ps_set (i := 3) sc_keep_clear.nd rfl (by first | exact Or.inl rfl | exact Or.inr rfl) pe_dnewT)
      (pss_cons (ps_for PassesOwn.never rfl (pi_seqAK (K := K) rfl (pv 1)) (pg_tup (by rfl) (pgs_cons (pg_name (i := 4) sc_keep_clear.nd rfl (by first | exact Or.inl rfl | exact Or.inr rfl)) (pgs_cons (pg_name (i := 5) sc_keep_clear.nd rfl (by first | exact Or.inl rfl | exact Or.inr rfl)) pgs_nil))) (pss_cons (ps_set (i := 6) sc_keep_clear.nd rfl (by first | exact Or.inl rfl | exact Or.inr rfl) (pe_o c_Table__call__ hr (by decide) L2.pass0 bm_Table__call__ (pv 0) (pa_cons (pv 5) pa_nil)))
      (pss_one (ps_for PassesOwn.never rfl (pi_listK (K := K) rfl (pe_g c_path hr (by decide) L2.pass0 bp_path (by rfl) (pa_cons (pe_p c_Table_width TC.cl hr (by decide) L2.pass0 bm_Table_width (pv 0)) (pa_cons (pv 4) (pa_cons (pv 5) pa_nil))))) (pg_tup (by rfl) (pgs_cons (pg_name (i := 7) sc_keep_clear.nd rfl (by first | exact Or.inl rfl | exact Or.inr rfl)) (pgs_cons (pg_name (i := 8) sc_keep_clear.nd rfl (by first | exact Or.inl rfl | exact Or.inr rfl)) pgs_nil))) (pss_cons (ps_if (PW.pt (pw_or (by refine pt_cmpR op_ne (ta := tDSetd (tVar 2) (tVar 7) (tVar 8)) ?_ (pv 8) (nomark _); refine pe_dsetd ?_ ?_ ?_ ?_; exact pv 2; exact pv 7; exact pv 8; exact ⟨by rfl, by rfl, by rfl, by rfl⟩) (pw_or1 (pt_cmp (pc_din hr.u1 (pe_tup (pa_cons (pv 7) (pa_cons (pv 6) pa_nil))) (pv 3)))))) (pss_one (ps_ret pe_bl)) pss_nil)
      (pss_one (ps_asg pe_bl (pg_sub (pv 3) (pe_tup (pa_cons (pv 7) (pa_cons (pv 6) pa_nil))) (set_dict hr.u1)))))))))
      (pss_one (ps_ret pe_bl))))), ?_⟩
  obtain ⟨dx, Dm, ha, hDm, hne⟩ := ht
  have ht : TabAt C H a n d := ⟨dx, Dm, ha, hDm, hne⟩
  refine ⟨fun σ' H' => ∃ D, σ' = [some (.ref a), some (.ref v), some (.ref D), none, none, none, none, none, none] ∧ Same H H' ∧ H D = none ∧ H' D = some (.dK []), ?_, ?_⟩
  · intro D nD
    exact ⟨D, rfl, fun b o e => updn (nonn nD e) e, nD, upd_same⟩
  rintro σ' H1 ⟨D, rfl, s1, nD, eD⟩
  refine ⟨fun σ' H' => ∃ M, σ' = [some (.ref a), some (.ref v), some (.ref D), some (.ref M), none, none, none, none, none] ∧ Same H H' ∧ H M = none ∧ D ≠ M ∧ H' D = some (.dK []) ∧ H' M = some (.dT []), ?_, ?_⟩
  · intro M nM
    exact ⟨M, rfl, s1.new nM, s1.back nM, nonn nM eD, updn (nonn nM eD) eD, upd_same⟩
  clear s1 eD H1
  rintro σ' H1 ⟨M, rfl, s1, nM, nDM, eD, eM⟩
  have hv1 := hv.to s1
  -- behind all
  have fin : ∀ (σ' : L2.St) (H' : Hp), Same H H' → Keep (flat n (gT d) (prs zs)) → Q (.bl true) H' := fun _ H' s' kp => by
    have := k H' s'
    rw [decide_eq_true kp] at this
    exact this
  have bad : ∀ H', Same H H' → ¬ Keep (flat n (gT d) (prs zs)) → Q (.bl false) H' := fun H' s' kp => by
    have := k H' s'
    rw [decide_eq_false kp] at this
    exact this
  have eE : ∀ i t q, zs[i]? = some (t, some q) → flat n (gT d) (prs (zs.take (i + 1))) = flat n (gT d) (prs (zs.take i)) ++ ents n (gT d) q := fun i t q h => by rw [prs_snoc h, flat_snoc]
  refine for_seqA hv s1 (fun i σ' H' => ∃ x4 x5 x6 x7 x8, σ' = [some (.ref a), some (.ref v), some (.ref D), some (.ref M), x4, x5, x6, x7, x8] ∧ Same H H' ∧ Keep (flat n (gT d) (prs (zs.take i))) ∧ (flat n (gT d) (prs (zs.take i))).length ≤ 200 * i ∧ DirAt H' D (flat n (gT d) (prs (zs.take i))) ∧ PasAt H' M (flat n (gT d) (prs (zs.take i))))
    ⟨_, _, _, _, _, rfl, s1, .nil, Nat.le_refl _, ⟨[], eD, Nat.le_refl _, fun s => rfl⟩, ⟨[], eM, Nat.le_refl _, fun s g => rfl⟩⟩ rfl (fun i σ' H' h => let ⟨_, _, _, _, _, _, s, _⟩ := h; s) ?_ ?_
  · rintro i x σ' H2 hx ⟨x4, x5, x6, x7, x8, rfl, s2, kp, lE, hD, hM⟩
    obtain ⟨⟨t, o⟩, hz1, rfl⟩ := vz_at hx
    obtain ⟨q, rfl, hq⟩ := hz _ (List.mem_of_getElem? hz1)
    have ht1 : H t = some (.tup [oB q.1, sx q.2]) := pz _ (List.mem_of_getElem? hz1)
    obtain ⟨⟨eb, el⟩, _⟩ := id hq
    have li : i < zs.length := (List.getElem?_eq_some_iff.mp hz1).1
    refine ⟨t, _, rfl, SqT.of (s2 _ _ ht1), rfl, ⟨_, _, rfl, ⟨_, _, rfl, ⟨rfl, ?_⟩⟩⟩⟩
    refine ⟨_, rfl, ⟨_, rfl, ⟨_, rfl, ⟨⟨dx, _, s2 _ _ ha⟩, ?_⟩⟩⟩⟩
    refine call_go (ht.to s2) h0 h1 (sx_bits eb) (by rw [sx_len]; exact el) fun H4 s4 => ?_
    refine ⟨_, rfl, ⟨a, dx, _, rfl, s4 _ _ (s2 _ _ ha), width_go ((ht.to s2).to s4) ?_⟩⟩
    refine ⟨_, rfl, ⟨_, rfl, ?_⟩⟩
    refine path_go h0 h1 (sx_bits eb) (by rw [sx_len]; exact el) (oB_arg hq) fun L ts H5 nL s5 hL tp => ?_
    refine ⟨L, rfl, ⟨_, SqL.of hL⟩, ?_⟩
    have s25 : Same H H5 := s2.trans (s4.trans s5)
    have lF : (ents n (gT d) q).length ≤ 200 := by
      unfold ents
      rw [List.length_map]
      exact path_len hq h1
    have tot : ∀ j x, (ents n (gT d) q)[j]? = some x → Keep (flat n (gT d) (prs zs)) → Keep (flat n (gT d) (prs (zs.take i)) ++ (ents n (gT d) q).take j ++ [x]) := fun j x hx kk => by
      have e1 : flat n (gT d) (prs zs) = flat n (gT d) (prs (zs.take i)) ++ ents n (gT d) q ++ flat n (gT d) (prs (zs.drop (i + 1))) := by
        rw [prs_split hz1, ← flat_snoc]
        unfold flat
        rw [List.flatMap_append]
      rw [e1] at kk
      have kk := keep_pre kk
      rw [← List.take_append_drop (j + 1) (ents n (gT d) q), ← List.append_assoc] at kk
      have kk := keep_pre kk
      rw [List.take_add_one, hx, ← List.append_assoc] at kk
      exact kk
    have eN := eE i t q hz1
    generalize hE0 : flat n (gT d) (prs (zs.take i)) = E0 at kp lE hD hM tot eN
    generalize hF : ents n (gT d) q = F at lF tot eN
    have hD5 : DirAt H5 D E0 := let ⟨kv, e, r⟩ := hD; ⟨kv, s5 _ _ (s4 _ _ e), r⟩
    have hM5 : PasAt H5 M E0 := let ⟨kv, e, r⟩ := hM; ⟨kv, s5 _ _ (s4 _ _ e), r⟩
    have nLD : L ≠ D := fun z => by obtain ⟨kv, e, _⟩ := hD5; rw [z, e] at hL; cases hL
    have nLM : L ≠ M := fun z => by obtain ⟨kv, e, _⟩ := hM5; rw [z, e] at hL; cases hL
    refine for_it (walk_list (xs := ts)) (fun j σ' H' => ∃ x7 x8, σ' = [some (.ref a), some (.ref v), some (.ref D), some (.ref M), some (oB q.1), some (sx q.2), some (.str (gT d q.2)), x7, x8] ∧ (∀ b o, b ≠ D → b ≠ M → H5 b = some o → H' b = some o) ∧ Keep (E0 ++ F.take j) ∧ DirAt H' D (E0 ++ F.take j) ∧ PasAt H' M (E0 ++ F.take j))
      ⟨_, _, rfl, fun _ _ _ _ e => e, by rw [List.take_zero, List.append_nil]; exact kp, by rw [List.take_zero, List.append_nil]; exact hD5, by rw [List.take_zero, List.append_nil]; exact hM5⟩ (fun j σ' H' _ h => let ⟨_, _, _, kk, _⟩ := h; SqL.of (kk _ _ nLD nLM hL)) ?_ ?_
    · rintro j x σ' Hx H6 hj ⟨x7, x8, rfl, k6, kp6, ⟨kv, eD6, lv, hv6⟩, ⟨km, eM6, lm, hm6⟩⟩ ⟨rfl, hx⟩
      obtain ⟨t2, s, w', rfl, ht2, hp⟩ := tp.at hx
      have hx2 : F[j]? = some (s, w', gT d q.2) := by
        rw [← hF]
        unfold ents
        rw [List.getElem?_map, hp]
        rfl
      have lj : j < F.length := (List.getElem?_eq_some_iff.mp hx2).1
      have lT : (E0 ++ F.take j).length < 100000 := by
        rw [List.length_append, List.length_take]
        omega
      have nt2D : t2 ≠ D := fun z => by obtain ⟨kv, e, _⟩ := hD5; rw [z, e] at ht2; cases ht2
      have nt2M : t2 ≠ M := fun z => by obtain ⟨kv, e, _⟩ := hM5; rw [z, e] at ht2; cases ht2
      have sv : Same H H6 := fun b o e => k6 b o (fun z => by rw [z, nD] at e; cases e) (fun z => by rw [z, nM] at e; cases e) (s25 _ _ e)
      have eT : E0 ++ F.take (j + 1) = E0 ++ F.take j ++ [(s, w', gT d q.2)] := by
        rw [List.take_add_one, hx2, ← List.append_assoc]
        rfl
      have tot2 := tot j _ hx2
      generalize hE1 : E0 ++ F.take j = E1 at kp6 lv hv6 lm hm6 lT eT tot2
      refine ⟨t2, _, rfl, SqT.of (k6 _ _ nt2D nt2M ht2), rfl, ⟨_, _, rfl, ⟨_, _, rfl, ⟨rfl, ?_⟩⟩⟩⟩
      have nMD : M ≠ D := fun z => nDM z.symm
      have lkv : kv.length < sizeLine := szt (by omega)
      have lkm : km.length < sizeLine := szt (by omega)
      refine ⟨_, rfl, ⟨D, rfl, .inl ⟨_, .inl eD6⟩, ?_⟩⟩
      refine ⟨_, rfl, ⟨_, rfl, ?_⟩⟩
      refine ⟨kv, Sum.inr s, eD6, rfl, lkv, fun v0 hv0 => ?_, fun hn => ?_⟩
      · have hf := hv6 s
        rw [hv0] at hf
        cases ef : E1.find? fun e => decide (e.1 = s) with
        | none => rw [ef] at hf; cases hf
        | some e0 =>
        rw [ef] at hf
        have hf : v0 = V.str e0.2.1 := Option.some.inj hf
        subst hf
        have m0 := List.mem_of_find?_eq_some ef
        have k0 : e0.1 = s := by have := List.find?_some ef; simpa using this
        refine ⟨_, rfl, ⟨rfl, ⟨_, rfl, ?_⟩⟩⟩
        by_cases cw : e0.2.1 = w'
        case neg =>
          rw [decide_eq_false (show ¬ V.str e0.2.1 = V.str w' from fun z => cw (V.str.inj z))]
          refine iteT (iteT ?_)
          refine bad _ sv fun kk => ?_
          have := List.all_eq_true.mp (keep_snoc.mp (tot2 kk)).2 e0 m0
          exact cw (RB_iff.mp this k0).1
        case pos =>
        rw [decide_eq_true (show V.str e0.2.1 = V.str w' from congrArg V.str cw)]
        refine iteF ?_
        have eM8 : H6 M = some (.dT km) := eM6
        have hD8 : DirAt H6 D (E1 ++ [(s, w', gT d q.2)]) := DirAt.more lv hv6 hv0 eD6
        have aw : ∀ e ∈ E1, e.1 = s → e.2.1 = w' := fun e he e1 => by
          have sym := List.pairwise_iff_getElem.mp kp6
          by_cases ee : e = e0
          · rw [ee]; exact cw
          · obtain ⟨i1, h1, r1⟩ := List.getElem_of_mem he
            obtain ⟨i2, h2, r2⟩ := List.getElem_of_mem m0
            rcases Nat.lt_trichotomy i1 i2 with g | g | g
            · have := sym i1 i2 h1 h2 g
              rw [r1, r2] at this
              rw [(RB_iff.mp this (e1.trans k0.symm)).1]
              exact cw
            · subst g
              exact absurd (r1.symm.trans r2) ee
            · have := sym i2 i1 h2 h1 g
              rw [r1, r2] at this
              rw [← (RB_iff.mp this (k0.trans e1.symm)).1]
              exact cw
        obtain ⟨H8, hH8⟩ : ∃ H8, H8 = H6 := ⟨_, rfl⟩
        have k8 : ∀ b o, b ≠ D → b ≠ M → H6 b = some o → H8 b = some o := fun _ _ _ _ e => by rw [hH8]; exact e
        rw [← hH8] at eM8 hD8 ⊢
        have sv8 : Same H H8 := fun b o e => k8 b o (fun z => by rw [z, nD] at e; cases e) (fun z => by rw [z, nM] at e; cases e) (sv _ _ e)
        refine ⟨_, rfl, ⟨_, rfl, ⟨szl (by show 2 ≤ 1000000; decide), fun t3 nt3 => ?_⟩⟩⟩
        have eM9 := updn (o := HO.tup [.str s, .str (gT d q.2)]) (nonn nt3 eM8) eM8
        have sv9 := sv8.new (o := HO.tup [.str s, .str (gT d q.2)]) nt3
        refine ⟨_, rfl, ?_⟩
        refine ⟨M, _, rfl, DGet.t (k := [Sum.inr s, Sum.inr (gT d q.2)]) eM9 upd_same, ?_⟩
        refine ⟨_, rfl, ?_⟩
        rw [hm6]
        by_cases cp : (E1.any fun e => decide (e.1 = s ∧ e.2.2 = gT d q.2)) = true
        · rw [if_pos cp]
          refine iteT ?_
          refine bad _ sv9 fun kk => ?_
          obtain ⟨e0, m0, c0⟩ := List.any_eq_true.mp cp
          have c0 := of_decide_eq_true c0
          have := List.all_eq_true.mp (keep_snoc.mp (tot2 kk)).2 e0 m0
          exact (RB_iff.mp this c0.1).2 c0.2
        · rw [if_neg cp]
          refine iteF ?_
          have kn : Keep (E1 ++ [(s, w', gT d q.2)]) := keep_snoc.mpr ⟨kp6, List.all_eq_true.mpr fun e he => RB_iff.mpr fun e1 => ⟨aw e he e1, fun e2 => cp (List.any_eq_true.mpr ⟨e, he, decide_eq_true ⟨e1, e2⟩⟩)⟩⟩
          refine ⟨_, rfl, ⟨_, rfl, ⟨_, rfl, ⟨szl (by show 2 ≤ 1000000; decide), fun t4 nt4 => ?_⟩⟩⟩⟩
          have eM10 := updn (o := HO.tup [.str s, .str (gT d q.2)]) (nonn nt4 eM9) eM9
          refine ⟨M, _, rfl, .inr ⟨km, [Sum.inr s, Sum.inr (gT d q.2)], t4, eM10, rfl, upd_same, lkm, rfl⟩, ?_⟩
          refine ⟨_, _, rfl, fun b o n1 n2 e => ?_, eT ▸ kn, ?_, ?_⟩
          · have e8 := k8 b o n1 n2 (k6 b o n1 n2 e)
            have e9 := updn (o := HO.tup [.str s, .str (gT d q.2)]) (nonn nt3 e8) e8
            exact updn n2 (updn (nonn nt4 e9) e9)
          · rw [eT]
            obtain ⟨kv8, e8, r8⟩ := hD8
            have e9 := updn (o := HO.tup [.str s, .str (gT d q.2)]) (nonn nt3 e8) e8
            exact ⟨kv8, updn nDM (updn (nonn nt4 e9) e9), r8⟩
          · rw [eT]
            exact PasAt.put lm hm6 upd_same
      · have none : ∀ e ∈ E1, e.1 ≠ s := fun e he e1 => by
          have h2 := hv6 s
          rw [hn] at h2
          cases ef : E1.find? fun e => decide (e.1 = s) with
          | none => exact absurd (decide_eq_true e1) (by simpa using (List.find?_eq_none.mp ef) e he)
          | some z => rw [ef] at h2; cases h2
        refine ⟨_, rfl, ⟨rfl, ⟨_, rfl, ?_⟩⟩⟩
        rw [decide_eq_true (show V.str w' = V.str w' from rfl)]
        refine iteF ?_
        have aw : ∀ e ∈ E1, e.1 = s → e.2.1 = w' := fun e he e1 => absurd e1 (none e he)
        have k8 : ∀ b o, b ≠ D → b ≠ M → H6 b = some o → upd H6 D (.dK (putK kv (Sum.inr s) (.str w'))) b = some o := fun b o n1 _ e => updn n1 e
        have eM8 : upd H6 D (.dK (putK kv (Sum.inr s) (.str w'))) M = some (.dT km) := updn nMD eM6
        have hD8 : DirAt (upd H6 D (.dK (putK kv (Sum.inr s) (.str w')))) D (E1 ++ [(s, w', gT d q.2)]) := DirAt.put lv hv6 hn upd_same
        generalize upd H6 D (.dK (putK kv (Sum.inr s) (.str w'))) = H8 at k8 eM8 hD8 ⊢
        have sv8 : Same H H8 := fun b o e => k8 b o (fun z => by rw [z, nD] at e; cases e) (fun z => by rw [z, nM] at e; cases e) (sv _ _ e)
        refine ⟨_, rfl, ⟨_, rfl, ⟨szl (by show 2 ≤ 1000000; decide), fun t3 nt3 => ?_⟩⟩⟩
        have eM9 := updn (o := HO.tup [.str s, .str (gT d q.2)]) (nonn nt3 eM8) eM8
        have sv9 := sv8.new (o := HO.tup [.str s, .str (gT d q.2)]) nt3
        refine ⟨_, rfl, ?_⟩
        refine ⟨M, _, rfl, DGet.t (k := [Sum.inr s, Sum.inr (gT d q.2)]) eM9 upd_same, ?_⟩
        refine ⟨_, rfl, ?_⟩
        rw [hm6]
        by_cases cp : (E1.any fun e => decide (e.1 = s ∧ e.2.2 = gT d q.2)) = true
        · rw [if_pos cp]
          refine iteT ?_
          refine bad _ sv9 fun kk => ?_
          obtain ⟨e0, m0, c0⟩ := List.any_eq_true.mp cp
          have c0 := of_decide_eq_true c0
          have := List.all_eq_true.mp (keep_snoc.mp (tot2 kk)).2 e0 m0
          exact (RB_iff.mp this c0.1).2 c0.2
        · rw [if_neg cp]
          refine iteF ?_
          have kn : Keep (E1 ++ [(s, w', gT d q.2)]) := keep_snoc.mpr ⟨kp6, List.all_eq_true.mpr fun e he => RB_iff.mpr fun e1 => ⟨aw e he e1, fun e2 => cp (List.any_eq_true.mpr ⟨e, he, decide_eq_true ⟨e1, e2⟩⟩)⟩⟩
          refine ⟨_, rfl, ⟨_, rfl, ⟨_, rfl, ⟨szl (by show 2 ≤ 1000000; decide), fun t4 nt4 => ?_⟩⟩⟩⟩
          have eM10 := updn (o := HO.tup [.str s, .str (gT d q.2)]) (nonn nt4 eM9) eM9
          refine ⟨M, _, rfl, .inr ⟨km, [Sum.inr s, Sum.inr (gT d q.2)], t4, eM10, rfl, upd_same, lkm, rfl⟩, ?_⟩
          refine ⟨_, _, rfl, fun b o n1 n2 e => ?_, eT ▸ kn, ?_, ?_⟩
          · have e8 := k8 b o n1 n2 (k6 b o n1 n2 e)
            have e9 := updn (o := HO.tup [.str s, .str (gT d q.2)]) (nonn nt3 e8) e8
            exact updn n2 (updn (nonn nt4 e9) e9)
          · rw [eT]
            obtain ⟨kv8, e8, r8⟩ := hD8
            have e9 := updn (o := HO.tup [.str s, .str (gT d q.2)]) (nonn nt3 e8) e8
            exact ⟨kv8, updn nDM (updn (nonn nt4 e9) e9), r8⟩
          · rw [eT]
            exact PasAt.put lm hm6 upd_same
    · rintro σ' H6 ⟨x7, x8, rfl, k6, kp6, hD6, hM6⟩
      have lts : ts.length = F.length := by
        rw [tp.len, ← hF]
        unfold ents
        rw [List.length_map]
      rw [lts, List.take_length] at kp6 hD6 hM6
      have sv : Same H H6 := fun b o e => k6 b o (fun z => by rw [z, nD] at e; cases e) (fun z => by rw [z, nM] at e; cases e) (s25 _ _ e)
      exact ⟨_, _, _, _, _, rfl, sv, eN ▸ kp6, by rw [eN, List.length_append]; omega, eN ▸ hD6, eN ▸ hM6⟩
  · rintro σ' H2 ⟨x4, x5, x6, x7, x8, rfl, s2, kp, _, _⟩
    rw [vz_len, List.take_length] at kp
    exact fin [] H2 s2 kp
end
open PySem PySem.Spec PyProof.Rows LamX
open L2 hiding pass0
abbrev s_is_used_address : Stmt := top 62
theorem sc_is_used_address : FnScope ["width", "free", "value"] ["width", "free", "value"] (defScope s_is_used_address) := ⟨rfl, rfl, rfl, by decide +kernel, rfl, by decide +kernel, by decide +kernel⟩
theorem bp_is_used_address : BndP "_is_used_address" s_is_used_address ["width", "free", "value"] := fun _ _ _ _ _ _ us h => match us, h with | [_, _, _], _ => rfl
abbrev s_is_pair : Stmt := top 61
theorem sc_is_pair : FnScope ["table", "free", "pair", "begin", "end"] ["table", "free", "pair"] (defScope s_is_pair) := ⟨rfl, rfl, rfl, by decide +kernel, rfl, by decide +kernel, by decide +kernel⟩
theorem bp_is_pair : BndP "_is_pair" s_is_pair ["table", "free", "pair"] := fun _ _ _ _ _ _ us h => match us, h with | [_, _, _], _ => rfl
/-- an address of n bits -/
abbrev adV (n : Nat) : V → Bool := liS (adrB (n : Int))
theorem adV_sx {n : Nat} {z : List Nat} (zb : M.BL z) (zl : z.length = n) : adV n (sx z) = true := adr_ok (sx_bits zb) (by rw [sx_len]; exact zl)
theorem adV_of {n : Nat} {x : V} (h : adV n x = true) : ∃ z, x = sx z ∧ M.BL z ∧ z.length = n := by
  cases x with
  | str z =>
    have h : (bitsB z && decide ((z.length : Int) = n)) = true := h
    rw [Bool.and_eq_true, decide_eq_true_iff] at h
    refine ⟨z.cps.toList, (sx_tl z).symm, fun c hc => Bits.of h.1 c hc, ?_⟩
    have : z.cps.toList.length = z.length := Array.length_toList
    omega
  | _ => cases h
theorem Od.sx {p : Addr} {H : Hp} {z : List Nat} (l : z.length ≤ 1000) : Od p H (sx z) "str" := .str (by show (SX.S z).length ≤ 1000; rw [sx_len]; exact l)
/-- what may stand in a pack: a pair, or something that is none -/
inductive El (p : Addr) (H : Hp) (n : Nat) : V → Option Pr → Prop
  | pr {t : Addr} {q : Pr} (nt : t ≠ p) (e : H t = some (.tup [oB q.1, sx q.2])) (h : PrOk n q) : El p H n (.ref t) (some q)
  | kd {x : V} {s : String} (o : Od p H x s) (h : s ≠ "tuple") : El p H n x none
  | ln {t : Addr} {xs : List V} (nt : t ≠ p) (e : H t = some (.tup xs)) (h : xs.length ≠ 2) : El p H n (.ref t) none
  | fe {t : Addr} {b e : V} {s : String} (nt : t ≠ p) (h : H t = some (.tup [b, e])) (o : Od p H e s) (a : adV n e = false) : El p H n (.ref t) none
  | be {t : Addr} {b : V} {z : List Nat} {s : String} (nt : t ≠ p) (h : H t = some (.tup [b, sx z])) (zb : M.BL z) (zl : z.length = n) (o : Od p H b s) (nn : s ≠ "NoneType") (a : adV n b = false) : El p H n (.ref t) none
theorem El.kp {p : Addr} {H H' : Hp} {n : Nat} {x : V} {o : Option Pr} (h : El p H n x o) (k : Kp p H H') : El p H' n x o := by
  cases h with
  | pr nt e h => exact .pr nt (k _ _ e nt) h
  | kd o h => exact .kd (o.kp k) h
  | ln nt e h => exact .ln nt (k _ _ e nt) h
  | fe nt h o a => exact .fe nt (k _ _ h nt) (o.kp k) a
  | be nt h zb zl o nn a => exact .be nt (k _ _ h nt) zb zl (o.kp k) nn a
theorem Od.nn {p : Addr} {H : Hp} {x : V} {s : String} (h : Od p H x s) (n : s ≠ "NoneType") : x ≠ .non := by
  cases h <;> first | exact absurd rfl n | exact fun z => nomatch z
@[irreducible] def spUA (K : PySem.W.Frag) : Sp := fun vs H Q _ => ∃ (p F : Addr) (n : Nat) (fs : List (List Nat)) (x : V) (s : String), vs = [.int n, .ref F, x] ∧ 1 ≤ n ∧ n ≤ 100 ∧ FrA K H F fs ∧ fs.length ≤ 20 ∧ Od p H x s ∧ (adV n x = false → ∀ H', Same H H' → Q (.bl false) H') ∧ ∀ z, x = sx z → M.BL z → z.length = n → ∀ H', Same H H' → Q (.bl (!M.frB fs z)) H'
@[irreducible] def spIP (K : PySem.W.Frag) (C : Addr) : Sp := fun vs H Q _ => ∃ (p a F : Addr) (n : Nat) (d : List (Str × Str)) (fs : List (List Nat)) (x : V) (o : Option Pr), vs = [.ref a, .ref F, x] ∧ TF K C H a F n d fs ∧ El p H n x o ∧ ∀ H', Same H H' → Q (.bl (okO d fs o)) H'
section
variable {K : PySem.W.Frag} {C a F : Addr} {n : Nat} {d : List (Str × Str)} {fs : List (List Nat)} {H : Hp} {Q : VK} {E : XK}
theorem ua_go {z : List Nat} (h0 : 1 ≤ n) (h1 : n ≤ 100) (hF : FrA K H F fs) (lf : fs.length ≤ 20) (zb : M.BL z) (zl : z.length = n) (k : ∀ H', Same H H' → Q (.bl (!M.frB fs z)) H') : spUA K [.int n, .ref F, sx z] H Q E := by
  unfold spUA
  refine ⟨(0 : Nat), F, n, fs, _, _, rfl, h0, h1, hF, lf, .sx (by omega), fun h => ?_, fun y hy _ _ => ?_⟩
  · rw [adV_sx zb zl] at h
    cases h
  · rw [← S_inj (V.str.inj hy)]
    exact k
theorem uan_go {p : Addr} {x : V} {s : String} (h0 : 1 ≤ n) (h1 : n ≤ 100) (hF : FrA K H F fs) (lf : fs.length ≤ 20) (o : Od p H x s) (a : adV n x = false) (k : ∀ H', Same H H' → Q (.bl false) H') : spUA K [.int n, .ref F, x] H Q E := by
  unfold spUA
  refine ⟨p, F, n, fs, _, _, rfl, h0, h1, hF, lf, o, fun _ => k, fun y hy zb zl => ?_⟩
  subst hy
  rw [adV_sx zb zl] at a
  cases a
theorem ip_go {p : Addr} {x : V} {o : Option Pr} (tf : TF K C H a F n d fs) (h : El p H n x o) (k : ∀ H', Same H H' → Q (.bl (okO d fs o)) H') : spIP K C [.ref a, .ref F, x] H Q E := by
  unfold spIP
  exact ⟨p, a, F, n, d, fs, x, o, rfl, tf, h, k⟩
end
section
variable {P : Program} {w : World} {K : PySem.W.Frag} {mg : Str → Option Value} {base : Heap} {f C : Addr} {fd : FuncData}
theorem ok_used_address (F : Fun K "_is_used_address" "_is_used_address" s_is_used_address f fd) (hm : mg "_is_used_address" = some (.ref f)) (T : Txt K mg) (c_is_address : Nm P w K mg base CX0 5 "is_address" s_is_address ["width", "value"] (spIT adrB)) (c_is_free : Nm P w K mg base CX0 1 "is_free" s_is_free ["free", "bits"] (spIF K)) : Nm P w K mg base CX0 6 "_is_used_address" s_is_used_address ["width", "free", "value"] (spUA K) := by
  refine nm_of F hm sc_is_used_address (fun vs H Q E h => ?_) fun cdv A outer s H vs Q E hr h => ?_
  · unfold spUA at h
    obtain ⟨p, G, n, fs, x, s, rfl, h0, h1, hF, lf, ho, kn, ky⟩ := h
    subst_vars
    rfl
  unfold spUA at h
  obtain ⟨p, G, n, fs, x, s, rfl, h0, h1, hF, lf, ho, kn, ky⟩ := h
  refine ⟨_, (pss_one (ps_ret (pe_and (pe_g c_is_address hr (by decide) L2.pass0 bp_is_address (by rfl) (pa_cons (pv 0) (pa_cons (pv 2) pa_nil))) (pe_one (pe_not (pe_g c_is_free hr (by decide) L2.pass0 bp_is_free (by rfl) (pa_cons (pv 1) (pa_cons (pv 2) pa_nil)))))))), ?_⟩
  refine ⟨_, rfl, ⟨_, rfl, ?_⟩⟩
  refine ito_go (by omega) (by omega) ho fun H1 s1 => ?_
  cases ca : liS (adrB (n : Int)) x with
  | false => exact ⟨_, rfl, iteF (kn ca H1 s1)⟩
  | true =>
  obtain ⟨z, rfl, zb, zl⟩ := adV_of ca
  refine ⟨_, rfl, iteT ?_⟩
  refine ⟨_, rfl, ⟨_, rfl, ?_⟩⟩
  refine if_go (hF.same s1) (by omega) (by omega) fun H2 s2 => ?_
  refine ⟨_, rfl, ?_⟩
  exact ky z rfl zb zl H2 (s1.trans s2)
theorem ok_is_pair (F : Fun K "_is_pair" "_is_pair" s_is_pair f fd) (hm : mg "_is_pair" = some (.ref f)) (T : Txt K mg) (TC : TabC K C) (c_is_used_address : Nm P w K mg base CX0 6 "_is_used_address" s_is_used_address ["width", "free", "value"] (spUA K))
    (c_Table_width : Prp P w K mg base CX0 1 C "width" "Table.width" s_Table_width ["self"] (spWidth C)) (c_Table__call__ : Mth P w K mg base CX0 8 C "__call__" "Table.__call__" s_Table__call__ ["self", "address"] (spCall C)) : Nm P w K mg base CX0 9 "_is_pair" s_is_pair ["table", "free", "pair"] (spIP K C) := by
  refine nm_of F hm sc_is_pair (fun vs H Q E h => ?_) fun cdv A outer s H vs Q E hr h => ?_
  · unfold spIP at h
    obtain ⟨p, a, G, n, d, fs, x, o, rfl, tf, el, k⟩ := h
    subst_vars
    rfl
  unfold spIP at h
  obtain ⟨p, a, G, n, d, fs, x, o, rfl, tf, el, k⟩ := h
  refine ⟨_, (pss_cons (ps_if (PW.pt (pw_or (pt_not (pt_val (pe_callB (call_isiK' (K := K) rfl) (by rfl) T.b_isinstance (by decide +kernel) (pa_cons (pv 2) (pa_cons (pe_ty "tuple" (by rfl) T.b_tuple (by decide +kernel)) pa_nil))))) (pw_or1 (pt_cmpR op_ne (pe_callB (call_lenK (K := K) rfl) (by rfl) T.b_len PySem.boot_len (pa_cons (pv 2) pa_nil)) pe_int (nomark _))))) (pss_one (ps_ret pe_bl)) pss_nil)
      (pss_cons (ps_asg (pv 2) (pg_tup (by rfl) (pgs_cons (pg_name (i := 3) sc_is_pair.nd rfl (by first | exact Or.inl rfl | exact Or.inr rfl)) (pgs_cons (pg_name (i := 4) sc_is_pair.nd rfl (by first | exact Or.inl rfl | exact Or.inr rfl)) pgs_nil))))
      (pss_cons (ps_if (pt_not (pt_val (pe_g c_is_used_address hr (by decide) L2.pass0 bp_is_used_address (by rfl) (pa_cons (pe_p c_Table_width TC.cl hr (by decide) L2.pass0 bm_Table_width (pv 0)) (pa_cons (pv 1) (pa_cons (pv 4) pa_nil)))))) (pss_one (ps_ret pe_bl)) pss_nil)
      (pss_cons (ps_if (pt_cmpR op_isN (pv 3) pe_non (nomark _)) (pss_one (ps_ret (pe_cmpR op_ne (pe_o c_Table__call__ hr (by decide) L2.pass0 bm_Table__call__ (pv 0) (pa_cons (pv 4) pa_nil)) pe_str (nomark _)))) pss_nil)
      (pss_one (ps_ret (pe_and (pe_g c_is_used_address hr (by decide) L2.pass0 bp_is_used_address (by rfl) (pa_cons (pe_p c_Table_width TC.cl hr (by decide) L2.pass0 bm_Table_width (pv 0)) (pa_cons (pv 1) (pa_cons (pv 3) pa_nil)))) (pe_one (pe_cmpR op_ne (pe_o c_Table__call__ hr (by decide) L2.pass0 bm_Table__call__ (pv 0) (pa_cons (pv 3) pa_nil)) (pe_o c_Table__call__ hr (by decide) L2.pass0 bm_Table__call__ (pv 0) (pa_cons (pv 4) pa_nil)) (nomark _)))))))))), ?_⟩
  have h0 : 1 ≤ n := by have := tf.ok.w0; omega
  have h1 : n ≤ 100 := by have := tf.ok.w1; omega
  have lf := tf.lf
  obtain ⟨dx, Dm, ha, hDm, hne⟩ := tf.ht
  have isT : kitB "tuple" "tuple" = some true := by decide +kernel
  refine ⟨_, rfl, ?_⟩
  cases el with
  | kd o h =>
    have kb := o.kit.2.1
    rw [decide_eq_false h] at kb
    refine ⟨_, _, _, _, _, rfl, .ty _, o.ty, kit_ty kb, ?_⟩
    refine ⟨_, rfl, ?_⟩
    refine iteT (iteT ?_)
    exact k H (Same.refl H)
  | ln nt ht hl =>
    refine ⟨_, _, _, _, _, rfl, .ty _, .base (.tup ht), kit_ty isT, ?_⟩
    refine ⟨_, rfl, ?_⟩
    refine iteF ?_
    refine ⟨_, rfl, ⟨_, _, rfl, .inr ⟨_, SqT.of ht, rfl⟩, ?_⟩⟩
    refine ⟨rfl, ⟨_, rfl, ?_⟩⟩
    rw [decide_eq_false (show ¬ V.int (_ : Int) = V.int 2 from fun q => by injection q with q; omega)]
    refine iteT ?_
    exact k H (Same.refl H)
  | fe nt ht o ae =>
    refine ⟨_, _, _, _, _, rfl, .ty _, .base (.tup ht), kit_ty isT, ?_⟩
    refine ⟨_, rfl, ?_⟩
    refine iteF ?_
    refine ⟨_, rfl, ⟨_, _, rfl, .inr ⟨_, SqT.of ht, rfl⟩, ?_⟩⟩
    refine ⟨rfl, ⟨_, rfl, ?_⟩⟩
    rw [decide_eq_true (show V.int (([_, _] : List V).length : Int) = V.int 2 from rfl)]
    refine iteF ?_
    refine ⟨_, rfl, ⟨_, _, rfl, SqT.of ht, rfl, ⟨_, _, rfl, ⟨_, _, rfl, ⟨rfl, ?_⟩⟩⟩⟩⟩
    refine ⟨_, rfl, ⟨a, dx, _, rfl, ha, width_go tf.ht ?_⟩⟩
    refine ⟨_, rfl, ⟨_, rfl, ?_⟩⟩
    refine uan_go h0 h1 tf.hF lf o ae fun H1 s1 => ?_
    refine ⟨_, rfl, iteT ?_⟩
    exact k H1 s1
  | be nt ht zb zl o nn ab =>
    rename_i t b z s
    refine ⟨_, _, _, _, _, rfl, .ty _, .base (.tup ht), kit_ty isT, ?_⟩
    refine ⟨_, rfl, ?_⟩
    refine iteF ?_
    refine ⟨_, rfl, ⟨_, _, rfl, .inr ⟨_, SqT.of ht, rfl⟩, ?_⟩⟩
    refine ⟨rfl, ⟨_, rfl, ?_⟩⟩
    rw [decide_eq_true (show V.int (([_, _] : List V).length : Int) = V.int 2 from rfl)]
    refine iteF ?_
    refine ⟨_, rfl, ⟨_, _, rfl, SqT.of ht, rfl, ⟨_, _, rfl, ⟨_, _, rfl, ⟨rfl, ?_⟩⟩⟩⟩⟩
    refine ⟨_, rfl, ⟨a, dx, _, rfl, ha, width_go tf.ht ?_⟩⟩
    refine ⟨_, rfl, ⟨_, rfl, ?_⟩⟩
    refine ua_go h0 h1 tf.hF lf zb zl fun H1 s1 => ?_
    refine ⟨_, rfl, ?_⟩
    cases ce : M.frB fs z with
    | true => exact iteT (k H1 s1)
    | false =>
      refine iteF ?_
      have tf1 := tf.to s1
      refine ⟨_, rfl, ⟨rfl, ⟨_, rfl, ?_⟩⟩⟩
      rw [decide_eq_false (show ¬ b = V.non from o.nn nn)]
      refine iteF ?_
      refine ⟨_, rfl, ⟨a, dx, _, rfl, s1 _ _ ha, width_go tf1.ht ?_⟩⟩
      refine ⟨_, rfl, ⟨_, rfl, ?_⟩⟩
      refine uan_go h0 h1 tf1.hF lf (o.kp (Same.kp s1)) ab fun H2 s2 => ?_
      exact ⟨_, rfl, iteF (k H2 (s1.trans s2))⟩
  | pr nt ht hq' =>
  rename_i t q
  obtain ⟨b, e⟩ := q
  obtain ⟨⟨eb, el⟩, hz⟩ := hq'
  have ht : H t = some (.tup [oB b, sx e]) := ht
  have k : ∀ H', Same H H' → Q (.bl (okP d fs (b, e))) H' := k
  refine ⟨_, _, _, _, _, rfl, .ty _, .base (.tup ht), kit_ty isT, ?_⟩
  refine ⟨_, rfl, ?_⟩
  refine iteF ?_
  refine ⟨_, rfl, ⟨_, _, rfl, .inr ⟨_, SqT.of ht, rfl⟩, ?_⟩⟩
  refine ⟨rfl, ⟨_, rfl, ?_⟩⟩
  rw [decide_eq_true (show V.int (([_, _] : List V).length : Int) = V.int 2 from rfl)]
  refine iteF ?_
  refine ⟨_, rfl, ⟨t, _, rfl, SqT.of ht, rfl, ⟨_, _, rfl, ⟨_, _, rfl, ⟨rfl, ?_⟩⟩⟩⟩⟩
  refine ⟨_, rfl, ⟨a, dx, _, rfl, ha, width_go tf.ht ?_⟩⟩
  refine ⟨_, rfl, ⟨_, rfl, ?_⟩⟩
  refine ua_go h0 h1 tf.hF lf eb el fun H1 s1 => ?_
  refine ⟨_, rfl, ?_⟩
  have tf1 := tf.to s1
  cases ce : M.frB fs e with
  | true =>
    refine iteT ?_
    have := k H1 s1
    unfold okP at this
    rw [ce] at this
    exact this
  | false =>
    refine iteF ?_
    refine ⟨_, rfl, ⟨rfl, ⟨_, rfl, ?_⟩⟩⟩
    cases b with
    | none =>
      rw [decide_eq_true (show oB none = V.non from rfl)]
      refine iteT ?_
      refine ⟨_, rfl, ⟨_, rfl, ?_⟩⟩
      refine ⟨_, rfl, ⟨⟨dx, _, s1 _ _ ha⟩, ?_⟩⟩
      refine call_go tf1.ht h0 h1 (sx_bits eb) (by rw [sx_len]; exact el) fun H2 s2 => ?_
      refine ⟨rfl, ?_⟩
      have := k H2 (s1.trans s2)
      unfold okP at this
      rw [ce] at this
      rw [show decide (V.str (goalT (look d) (SX.S e)) = V.str "hole") = decide (gT d e = "hole") from decide_eq_decide.mpr ⟨fun q => V.str.inj q, fun q => congrArg V.str q⟩]
      exact this
    | some z =>
      rw [decide_eq_false (show ¬ oB (some z) = V.non from fun q => nomatch q)]
      refine iteF ?_
      obtain ⟨zb, zl⟩ := hz z rfl
      refine ⟨_, rfl, ⟨a, dx, _, rfl, s1 _ _ ha, width_go tf1.ht ?_⟩⟩
      refine ⟨_, rfl, ⟨_, rfl, ?_⟩⟩
      refine ua_go h0 h1 tf1.hF lf zb zl fun H2 s2 => ?_
      have s12 := s1.trans s2
      refine ⟨_, rfl, ?_⟩
      cases cz : M.frB fs z with
      | true =>
        refine iteF ?_
        have := k H2 s12
        unfold okP at this
        rw [ce] at this
        dsimp only at this
        rw [cz] at this
        exact this
      | false =>
        refine iteT ?_
        refine ⟨_, rfl, ⟨_, rfl, ⟨_, rfl, ⟨⟨dx, _, s12 _ _ ha⟩, ?_⟩⟩⟩⟩
        refine call_go (tf.ht.to s12) h0 h1 (sx_bits zb) (by rw [sx_len]; exact zl) fun H3 s3 => ?_
        refine ⟨_, rfl, ⟨_, rfl, ⟨_, rfl, ⟨⟨dx, _, s3 _ _ (s12 _ _ ha)⟩, ?_⟩⟩⟩⟩
        refine call_go ((tf.ht.to s12).to s3) h0 h1 (sx_bits eb) (by rw [sx_len]; exact el) fun H4 s4 => ?_
        refine ⟨rfl, ?_⟩
        have := k H4 ((s12.trans s3).trans s4)
        unfold okP at this
        rw [ce] at this
        dsimp only at this
        rw [cz] at this
        rw [show decide (V.str (goalT (look d) (SX.S z)) = V.str (goalT (look d) (SX.S e))) = decide (gT d z = gT d e) from decide_eq_decide.mpr ⟨fun q => V.str.inj q, fun q => congrArg V.str q⟩]
        exact this
end
open PySem PySem.Spec PyProof.Rows LamX
open L2 hiding pass0
abbrev s_is_pack : Stmt := top 53
theorem sc_is_pack : FnScope ["table", "value", "free", "pair"] ["table", "value", "free"] (defScope s_is_pack) := ⟨rfl, rfl, rfl, by decide +kernel, rfl, by decide +kernel, by decide +kernel⟩
/-- what may be a pack -/
inductive Th (p : Addr) (H : Hp) (n : Nat) : V → Option (List (Option Pr)) → Prop
  | sq {v : Addr} {zs : List (V × Option Pr)} (nv : v ≠ p) (e : LT H v (zs.map (·.1))) (h : ∀ z ∈ zs, El p H n z.1 z.2) (l : zs.length ≤ 400) : Th p H n (.ref v) (some (zs.map (·.2)))
  | od {x : V} {s : String} (o : Od p H x s) (h1 : s ≠ "list") (h2 : s ≠ "tuple") : Th p H n x none
theorem LT.kp {p v : Addr} {H H' : Hp} {xs : List V} (h : LT H v xs) (nv : v ≠ p) (k : Kp p H H') : LT H' v xs := h.elim (fun e => .inl (k _ _ e nv)) fun e => .inr (k _ _ e nv)
theorem Th.kp {p : Addr} {H H' : Hp} {n : Nat} {x : V} {o : Option (List (Option Pr))} (h : Th p H n x o) (k : Kp p H H') : Th p H' n x o := by
  cases h with
  | sq nv e h l => exact .sq nv (e.kp nv k) (fun z hz => (h z hz).kp k) l
  | od o h1 h2 => exact .od (o.kp k) h1 h2
/-- whether it is a pack -/
def thB (n : Nat) (d : List (Str × Str)) (fs : List (List Nat)) : Option (List (Option Pr)) → Bool
  | none => false
  | some os => os.all (okO d fs) && decide (Keep (flat n (gT d) (os.filterMap id)))
/-- all of them pairs -/
theorem El.all {p : Addr} {H : Hp} {n : Nat} {d : List (Str × Str)} {fs : List (List Nat)} : ∀ {zs : List (V × Option Pr)}, (∀ z ∈ zs, El p H n z.1 z.2) → ((zs.map (·.2)).all (okO d fs)) = true →
    ∃ us : List (Addr × Option Pr), vz us = zs.map (·.1) ∧ prs us = (zs.map (·.2)).filterMap id ∧ Pz H us ∧ (∀ u ∈ us, ∃ q, u.2 = some q ∧ PrOk n q) ∧ us.length = zs.length
  | [], _, _ => ⟨[], rfl, rfl, fun _ h => (by cases h), fun _ h => (by cases h), rfl⟩
  | (x, o) :: zs, h, k => by
    rw [List.map_cons, List.all_cons, Bool.and_eq_true] at k
    obtain ⟨us, e1, e2, e3, e4, e5⟩ := El.all (fun z hz => h z (List.mem_cons_of_mem _ hz)) k.2
    have hx : El p H n x o := h _ List.mem_cons_self
    have k1 : okO d fs o = true := k.1
    cases hx with
    | pr nt e hq =>
      rename_i t q
      refine ⟨(t, some q) :: us, ?_, ?_, ?_, ?_, ?_⟩
      · show V.ref t :: vz us = _
        rw [e1]
        rfl
      · show q :: prs us = _
        rw [e2]
        rfl
      · intro u hu
        rcases List.mem_cons.mp hu with rfl | hu
        · exact e
        · exact e3 u hu
      · intro u hu
        rcases List.mem_cons.mp hu with rfl | hu
        · exact ⟨q, rfl, hq⟩
        · exact e4 u hu
      · rw [List.length_cons, List.length_cons, e5]
    | kd _ _ => cases k1
    | ln _ _ _ => cases k1
    | fe _ _ _ _ => cases k1
    | be _ _ _ _ _ _ _ => cases k1
theorem LT.ty {K : PySem.W.Frag} {H : Hp} {a : Addr} {xs : List V} (h : LT H a xs) : ∃ t, TyX K H (.ref a) t ∧ PySem.W.kitAny K t [.type "list", .type "tuple"] = some true := by
  have e2 : kitB "tuple" "list" = some false := by decide +kernel
  have e3 : kitB "tuple" "tuple" = some true := by decide +kernel
  have e1 : kitB "list" "list" = some true := by decide +kernel
  rcases h with e | e
  · exact ⟨_, .base (.lst e), kitAny_cons (kit_ty e1) (fun z => nomatch z) fun _ => rfl⟩
  · exact ⟨_, .base (.tup e), kitAny_cons (kit_ty e2) (fun _ => kitAny_cons (kit_ty e3) (fun z => nomatch z) fun _ => rfl) fun z => nomatch z⟩
theorem Od.noseq {K : PySem.W.Frag} {p : Addr} {H : Hp} {x : V} {s : String} (o : Od p H x s) (h1 : s ≠ "list") (h2 : s ≠ "tuple") : PySem.W.kitAny K (.type s) [.type "list", .type "tuple"] = some false := by
  have k1 := o.kit.2.2
  have k2 := o.kit.2.1
  rw [decide_eq_false h1] at k1
  rw [decide_eq_false h2] at k2
  exact kitAny_cons (kit_ty k1) (fun _ => kitAny_cons (kit_ty k2) (fun _ => rfl) fun z => nomatch z) (fun z => nomatch z)
@[irreducible] def spIPk (K : PySem.W.Frag) (C : Addr) : Sp := fun vs H Q _ => ∃ (p a F : Addr) (n : Nat) (d : List (Str × Str)) (fs : List (List Nat)) (x : V) (o : Option (List (Option Pr))), vs = [.ref a, x, .ref F] ∧ TF K C H a F n d fs ∧ Th p H n x o ∧ ∀ H', Same H H' → Q (.bl (thB n d fs o)) H'
theorem ipk_go {K : PySem.W.Frag} {C a F p : Addr} {n : Nat} {d : List (Str × Str)} {fs : List (List Nat)} {x : V} {o : Option (List (Option Pr))} {H : Hp} {Q : VK} {E : XK} (tf : TF K C H a F n d fs) (h : Th p H n x o) (k : ∀ H', Same H H' → Q (.bl (thB n d fs o)) H') : spIPk K C [.ref a, x, .ref F] H Q E := by
  unfold spIPk
  exact ⟨p, a, F, n, d, fs, x, o, rfl, tf, h, k⟩
theorem map_at {α β : Type} {f : α → β} {l : List α} {i : Nat} {x : β} (h : (l.map f)[i]? = some x) : ∃ z, l[i]? = some z ∧ x = f z := by
  rw [List.getElem?_map] at h
  obtain ⟨z, hz, rfl⟩ := Option.map_eq_some_iff.mp h
  exact ⟨z, hz, rfl⟩
section
variable {P : Program} {w : World} {K : PySem.W.Frag} {mg : Str → Option Value} {base : Heap} {f C : Addr} {fd : FuncData}
theorem ok_is_pack {params : Arguments} {dvs : List V} {kws : List (Str × V)} (F : FunD K "is_pack" "is_pack" params (defBody s_is_pack) (defScope s_is_pack) dvs kws f fd) (T : Txt K mg) (TC : TabC K C) (c_check_free : Nm P w K mg base CX0 5 "check_free" s_check_free ["width", "free"] (spCF K)) (c_is_pair : Nm P w K mg base CX0 9 "_is_pair" s_is_pair ["table", "free", "pair"] (spIP K C)) (c_keep_clear : Nm P w K mg base CX0 9 "_keep_clear" s_keep_clear ["table", "pairs"] (spKC C))
    (c_Table_width : Prp P w K mg base CX0 1 C "width" "Table.width" s_Table_width ["self"] (spWidth C)) : FnG P w K mg base CX0 10 f fd ["table", "value", "free"] (spIPk K C) := by
  obtain ⟨oc, od, dV, kV, doc, pm, an, cdv, ct, osl, rfl, lk, hcd, _, _⟩ := F.ex
  refine fnG_core0 lk hcd sc_is_pack (fun vs H Q E h => ?_) fun A outer s H vs Q E hr h => ?_
  · unfold spIPk at h
    obtain ⟨p, a, F, n, d, fs, x, o, rfl, _⟩ := h
    rfl
  unfold spIPk at h
  obtain ⟨p, a, F, n, d, fs, x, o, rfl, tf, th, k⟩ := h
  refine ⟨_, (pss_cons (ps_expr (pe_g c_check_free hr (by decide) L2.pass0 bp_check_free (by rfl) (pa_cons (pe_p c_Table_width TC.cl hr (by decide) L2.pass0 bm_Table_width (pv 0)) (pa_cons (pv 2) pa_nil))))
      (pss_cons (ps_if (pt_not (pt_val (pe_callB call_isiT (by rfl) T.b_isinstance (by decide +kernel) (pa_cons (pv 1) (pa_cons (pe_tup (pa_cons (pe_ty "list" (by rfl) T.b_list (by decide +kernel)) (pa_cons (pe_ty "tuple" (by rfl) T.b_tuple (by decide +kernel)) pa_nil))) pa_nil))))) (pss_one (ps_ret pe_bl)) pss_nil)
      (pss_cons (ps_if (pt_not (pt_val (pe_callB (call_allK (K := K) rfl rfl) (by rfl) T.b_all (by decide +kernel) (pa_cons (pe_lc (own := [("pair", 3)]) (g := (gName 3)) (by rfl) sc_is_pack.nd (pi_seqAK (K := K) rfl (pv 1)) (blkOk_by (own := [("pair", 3)]) (N := ["table", "value", "free", "pair"]) (sc := defScope s_is_pack) (by decide +kernel)) (fun _ _ _ _ _ => (pg_name (i := 3) sc_is_pack.nd rfl (by first | exact Or.inl rfl | exact Or.inr rfl))) (fun _ _ _ _ _ => pts_nil) (fun _ _ _ _ _ => (pe_g c_is_pair hr (by decide) L2.pass0 bp_is_pair (by rfl) (pa_cons (pv 0) (pa_cons (pv 2) (pa_cons (pv 3) pa_nil)))))) pa_nil)))) (pss_one (ps_ret pe_bl)) pss_nil)
      (pss_one (ps_ret (pe_g c_keep_clear hr (by decide) L2.pass0 bp_keep_clear (by rfl) (pa_cons (pv 0) (pa_cons (pv 1) pa_nil)))))))), ?_⟩
  have h0 : 1 ≤ n := by have := tf.ok.w0; omega
  have h1 : n ≤ 100 := by have := tf.ok.w1; omega
  obtain ⟨dx, Dm, ha, hDm, hne⟩ := tf.ht
  refine ⟨_, rfl, ⟨a, dx, _, rfl, ha, width_go tf.ht ?_⟩⟩
  refine ⟨_, rfl, ?_⟩
  refine cf_go h0 h1 tf.hF tf.ff tf.nd tf.lf fun H1 s1 => ?_
  refine ⟨_, rfl, ?_⟩
  refine ⟨szl (by show 2 ≤ 1000000; decide), fun T nT => ?_⟩
  have s2 : Same H (upd H1 T (.tup [.ty "list", .ty "tuple"])) := s1.new nT
  cases th with
  | od o h1 h2 =>
    refine ⟨_, T, _, _, _, false, rfl, upd_same, .cons (.ty _) (.cons (.ty _) .nil), (o.kp (Same.kp s2)).ty, o.noseq h1 h2, ?_⟩
    exact ⟨_, rfl, iteT (k _ s2)⟩
  | sq nv hv hz l =>
  rename_i v zs
  obtain ⟨ty, hty, hk⟩ := (hv.to s2).ty (K := K)
  refine ⟨_, T, _, ty, _, true, rfl, upd_same, .cons (.ty _) (.cons (.ty _) .nil), hty, hk, ?_⟩
  refine ⟨_, rfl, ?_⟩
  refine iteF ?_
  generalize upd H1 T (.tup [.ty "list", .ty "tuple"]) = H2 at s2 hty ⊢
  clear hty hk nT s1
  unfold tNext tSeq tIfS tNot tB tCB tCons
  dsimp only
  refine lc_seqA hv s2 rfl (fun D i H' => H' D = some (.lst (((zs.take i).map fun z => okO d fs z.2).map V.bl)) ∧ Same H H' ∧ H D = none) (fun D nD => ⟨upd_same, s2.new nD, s2.back nD⟩) (fun D i H' h => h.2.1) ?_ ?_
  · rintro D i x H3 hx ⟨hD, s3, nD⟩
    obtain ⟨⟨t, o⟩, hz1, rfl⟩ := map_at hx
    have li : i < zs.length := (List.getElem?_eq_some_iff.mp hz1).1
    refine ⟨rfl, ?_⟩
    refine ⟨_, rfl, ⟨_, rfl, ⟨_, rfl, ?_⟩⟩⟩
    refine ip_go (tf.to s3) ((hz _ (List.mem_of_getElem? hz1)).kp (Same.kp s3)) fun H4 s4 => ?_
    refine ⟨_, s4 _ _ hD, szt (by rw [List.length_map, List.length_map, List.length_take]; omega), ?_, fun b o q => updn (nonn nD q) (s4 _ _ (s3 b o q)), nD⟩
    rw [upd_same, List.take_add_one, hz1, List.map_append, List.map_append]
    rfl
  · rintro D H3 ⟨hD, s3, nD⟩
    rw [List.length_map, List.take_length] at hD
    refine ⟨_, _, rfl, SqL.of hD, ?_⟩
    have e0 : ((zs.map fun z => okO d fs z.2).all id) = (zs.map (·.2)).all (okO d fs) := by rw [List.all_map, List.all_map]; rfl
    rw [e0]
    refine ⟨_, rfl, ?_⟩
    have k : ∀ H', Same H H' → Q (.bl ((zs.map (·.2)).all (okO d fs) && decide (Keep (flat n (gT d) ((zs.map (·.2)).filterMap id))))) H' := k
    cases c : (zs.map (·.2)).all (okO d fs) with
    | false =>
      refine iteT ?_
      have := k H3 s3
      rw [c] at this
      exact this
    | true =>
      refine iteF ?_
      refine ⟨_, rfl, ⟨_, rfl, ?_⟩⟩
      obtain ⟨us, e1, e2, e3, e4, e5⟩ := El.all hz c
      rw [← e1] at hv
      refine kc_go (tf.ht.to s3) h0 h1 (hv.to s3) (fun z hz' => s3 _ _ (e3 z hz')) e4 (by omega) fun H4 s4 => ?_
      have := k H4 (s3.trans s4)
      rw [c, ← e2] at this
      exact this
end
open PySem PySem.Spec PyProof.Rows LamX
open L2 hiding pass0
abbrev s_law_is_spot : Stmt := top 76
theorem sc_law_is_spot : FnScope ["_law_wide", "_law_thing", "_law_bit"] ["_law_wide", "_law_thing"] (defScope s_law_is_spot) := ⟨rfl, rfl, rfl, by decide +kernel, rfl, by decide +kernel, by decide +kernel⟩
theorem bp_law_is_spot : BndP "_law_is_spot" s_law_is_spot ["_law_wide", "_law_thing"] := fun _ _ _ _ _ _ us h => match us, h with | [_, _], _ => rfl
abbrev s_law_goes : Stmt := top 77
theorem sc_law_goes : FnScope ["_law_wide", "_law_rows", "_law_idle", "_law_noted_here", "_law_one", "_law_far", "_law_near", "_law_border", "_law_way", "_law_other", "_law_goal_here"] ["_law_wide", "_law_rows", "_law_idle", "_law_noted_here", "_law_one"] (defScope s_law_goes) := ⟨rfl, rfl, rfl, by decide +kernel, rfl, by decide +kernel, by decide +kernel⟩
theorem bp_law_goes : BndP "_law_goes" s_law_goes ["_law_wide", "_law_rows", "_law_idle", "_law_noted_here", "_law_one"] := fun _ _ _ _ _ _ us h => match us, h with | [_, _, _, _, _], _ => rfl
theorem all_rep : ∀ n : Nat, (List.replicate n true).all id = true
  | 0 => rfl
  | n + 1 => by rw [List.replicate_succ, List.all_cons, all_rep n]; rfl
@[irreducible] def spIs : Sp := fun vs H Q _ => ∃ (p : Addr) (n : Nat) (x : V) (s : String), vs = [.int n, x] ∧ n ≤ 100 ∧ Od p H x s ∧ ∀ H', Same H H' → Q (.bl (adV n x)) H'
theorem is_go {n : Nat} {z : List Nat} {H : Hp} {Q : VK} {E : XK} (h1 : n ≤ 100) (zb : M.BL z) (zl : z.length = n) (k : ∀ H', Same H H' → Q (.bl true) H') : spIs [.int n, sx z] H Q E := by
  unfold spIs
  exact ⟨(0 : Nat), n, sx z, _, rfl, h1, .sx (by omega), by rw [adV_sx zb zl]; exact k⟩
theorem iso_go {n : Nat} {p : Addr} {x : V} {s : String} {H : Hp} {Q : VK} {E : XK} (h1 : n ≤ 100) (o : Od p H x s) (a : adV n x = false) (k : ∀ H', Same H H' → Q (.bl false) H') : spIs [.int n, x] H Q E := by
  unfold spIs
  exact ⟨p, n, x, _, rfl, h1, o, by rw [a]; exact k⟩
/-- what is noted of a border -/
def filt (E : List En) (s : Str) : List (Str × Str) := (E.filter fun e => decide (e.1 = s)).map (·.2)
theorem filt_snoc (E : List En) (s w g s' : Str) : filt (E ++ [(s, w, g)]) s' = filt E s' ++ if s = s' then [(w, g)] else [] := by
  unfold filt
  rw [List.filter_append, List.map_append]
  by_cases c : s = s'
  · rw [if_pos c, List.filter_cons_of_pos (by simpa using c)]
    rfl
  · rw [if_neg c, List.filter_cons_of_neg (by simpa using c)]
    rfl
theorem filt_len (E : List En) (s : Str) : (filt E s).length ≤ E.length := by
  unfold filt
  rw [List.length_map]
  exact List.length_filter_le _ _
def NtAt (W : Addr → Prop) (H : Hp) (D : Addr) (E : List En) : Prop := ∃ kvs, H D = some (.dK kvs) ∧ kvs.length ≤ E.length ∧ ∀ s, (valV kvs (Sum.inr s) = none ∧ filt E s = []) ∨ ∃ p ts, valV kvs (Sum.inr s) = some (.ref p) ∧ (p ≠ D ∧ W p) ∧ H p = some (.lst ts) ∧ Tp H ts (filt E s)
theorem NtAt.to {W : Addr → Prop} {H H' : Hp} {D : Addr} {E : List En} (h : NtAt W H D E) (s : Same H H') : NtAt W H' D E := by
  obtain ⟨kvs, e, l, f⟩ := h
  refine ⟨kvs, s _ _ e, l, fun x => ?_⟩
  rcases f x with h | ⟨p, ts, h1, h2, h3, h4⟩
  · exact .inl h
  · exact .inr ⟨p, ts, h1, h2, s _ _ h3, h4.same s⟩
theorem fit_filt (E : List En) (s w g : Str) : fit1 E (s, w, g) = !((filt E s).any fun p => !decide (p.1 = w) || decide (p.2 = g)) := by
  rw [Bool.eq_iff_iff, Bool.not_eq_true', Bool.eq_false_iff]
  unfold fit1 filt
  rw [List.all_eq_true]
  constructor
  · intro h c
    obtain ⟨p, hp, c⟩ := List.any_eq_true.mp c
    obtain ⟨e, he, rfl⟩ := List.mem_map.mp hp
    obtain ⟨he, hs⟩ := List.mem_filter.mp he
    have r := RB_iff.mp (h e he) (of_decide_eq_true hs)
    rw [decide_eq_true r.1, decide_eq_false r.2] at c
    cases c
  · intro h e he
    refine RB_iff.mpr fun hs => ?_
    have hm : e.2 ∈ (E.filter fun e => decide (e.1 = s)).map (·.2) := List.mem_map.mpr ⟨e, List.mem_filter.mpr ⟨he, decide_eq_true hs⟩, rfl⟩
    refine ⟨?_, fun c => h (List.any_eq_true.mpr ⟨e.2, hm, ?_⟩)⟩
    · by_cases c : e.2.1 = w
      · exact c
      · exact absurd (List.any_eq_true.mpr ⟨e.2, hm, by rw [decide_eq_false c]; rfl⟩) h
    · rw [decide_eq_true c, Bool.or_true]
def nearO (m : List (Str × Str)) (fs : List (List Nat)) : Option (List Nat) → Option Str
  | none => some "hole"
  | some z => lab m fs z
def ne2 : Option Str → Option Str → Bool
  | some g, some h => !decide (g = h)
  | _, _ => false
theorem okP_lab (m : List (Str × Str)) (fs : List (List Nat)) (b : Option (List Nat)) (e : List Nat) : okP m fs (b, e) = ne2 (lab m fs e) (nearO m fs b) := by
  unfold okP lab
  cases ce : M.frB fs e with
  | true => rfl
  | false =>
    cases b with
    | none => rfl
    | some z =>
      unfold nearO lab
      dsimp only
      cases cz : M.frB fs z with
      | true => rfl
      | false =>
        show (true && (true && !decide (gT m z = gT m e))) = !decide (gT m e = gT m z)
        rw [show decide (gT m z = gT m e) = decide (gT m e = gT m z) from decide_eq_decide.mpr ⟨Eq.symm, Eq.symm⟩]
        rfl
/-- whether it goes beside these -/
def goO (n : Nat) (m : List (Str × Str)) (fs : List (List Nat)) (E : List En) : Option Pr → Bool
  | none => false
  | some q => goesB n m fs E q
@[irreducible] def spGo : Sp := fun vs H Q _ => ∃ (p : Addr) (W : Addr → Prop) (D F N : Addr) (x : V) (n : Nat) (m : List (Str × Str)) (fs : List (List Nat)) (E : List En) (o : Option Pr), vs = [.int n, .ref D, .ref F, .ref N, x] ∧ 1 ≤ n ∧ n ≤ 100 ∧ H D = some (.dK (tk m)) ∧ H F = some (.lst (fs.map sx)) ∧ fs.length ≤ 20 ∧ NtAt W H N E ∧ E.length ≤ 100000 ∧ El p H n x o ∧ ∀ H', Same H H' → Q (.bl (goO n m fs E o)) H'
@[irreducible] def spNo : Sp := fun vs H Q _ => ∃ (W : Addr → Prop) (D F N t : Addr) (n : Nat) (m : List (Str × Str)) (fs : List (List Nat)) (E : List En) (q : Pr), vs = [.ref D, .ref F, .ref N, .ref t] ∧ 1 ≤ n ∧ n ≤ 100 ∧ H D = some (.dK (tk m)) ∧ H F = some (.lst (fs.map sx)) ∧ fs.length ≤ 20 ∧ NtAt W H N E ∧ E.length ≤ 100000 ∧ H t = some (.tup [oB q.1, sx q.2]) ∧ PrOk n q ∧ M.frB fs q.2 = false ∧ D ≠ N ∧ (∀ a, H a = none → W a) ∧ ∀ H', (∀ b o, b ≠ N → H b = some o → H' b = some o) → NtAt W H' N (E ++ ents n (gT m) q) → Q .non H'
section
variable {W : Addr → Prop} {D F N t : Addr} {n : Nat} {m : List (Str × Str)} {fs : List (List Nat)} {E : List En} {q : Pr} {H : Hp} {Q : VK} {Ex : XK}
theorem go_go {p : Addr} {x : V} {o : Option Pr} (h0 : 1 ≤ n) (h1 : n ≤ 100) (hD : H D = some (.dK (tk m))) (hF : H F = some (.lst (fs.map sx))) (lf : fs.length ≤ 20) (hN : NtAt W H N E) (lE : E.length ≤ 100000) (el : El p H n x o) (k : ∀ H', Same H H' → Q (.bl (goO n m fs E o)) H') : spGo [.int n, .ref D, .ref F, .ref N, x] H Q Ex := by
  unfold spGo
  exact ⟨p, W, D, F, N, x, n, m, fs, E, o, rfl, h0, h1, hD, hF, lf, hN, lE, el, k⟩
theorem no_go (h0 : 1 ≤ n) (h1 : n ≤ 100) (hD : H D = some (.dK (tk m))) (hF : H F = some (.lst (fs.map sx))) (lf : fs.length ≤ 20) (hN : NtAt W H N E) (lE : E.length ≤ 100000) (ht : H t = some (.tup [oB q.1, sx q.2])) (hq : PrOk n q) (nf : M.frB fs q.2 = false) (nDN : D ≠ N) (hW : ∀ a, H a = none → W a) (k : ∀ H', (∀ b o, b ≠ N → H b = some o → H' b = some o) → NtAt W H' N (E ++ ents n (gT m) q) → Q .non H') : spNo [.ref D, .ref F, .ref N, .ref t] H Q Ex := by
  unfold spNo
  exact ⟨W, D, F, N, t, n, m, fs, E, q, rfl, h0, h1, hD, hF, lf, hN, lE, ht, hq, nf, nDN, hW, k⟩
end
section
variable {P : Program} {w : World} {K : PySem.W.Frag} {mg : Str → Option Value} {base : Heap} {f C : Addr} {fd : FuncData}
theorem ok_is_spot (F : Fun K "_law_is_spot" "_law_is_spot" s_law_is_spot f fd) (hm : mg "_law_is_spot" = some (.ref f)) (T : Txt K mg) : Nm P w K mg base CX0 1 "_law_is_spot" s_law_is_spot ["_law_wide", "_law_thing"] (spIs) := by
  refine nm_of F hm sc_law_is_spot (fun vs H Q E h => ?_) fun cdv A outer s H vs Q E hr h => ?_
  · unfold spIs at h
    obtain ⟨p, n, x, s, rfl, h1, ho, k⟩ := h
    subst_vars
    rfl
  unfold spIs at h
  obtain ⟨p, n, x, s, rfl, h1, ho, k⟩ := h
  refine ⟨_, (pss_one (ps_ret (pe_and (pe_callB (call_isiK' (K := K) rfl) (by rfl) T.b_isinstance (by decide +kernel) (pa_cons (pv 1) (pa_cons (pe_ty "str" (by rfl) T.b_str (by decide +kernel)) pa_nil))) (pe_and (pe_cmpR op_eq (pe_callB (call_lenK (K := K) rfl) (by rfl) T.b_len PySem.boot_len (pa_cons (pv 1) pa_nil)) (pv 0) (nomark _)) (pe_one (pe_callB (call_allK (K := K) rfl rfl) (by rfl) T.b_all (by decide +kernel) (pa_cons (pe_lc (own := [("_law_bit", 2)]) (g := (gName 2)) (by rfl) sc_law_is_spot.nd (pi_str (pv 1)) (blkOk_by (own := [("_law_bit", 2)]) (N := ["_law_wide", "_law_thing", "_law_bit"]) (sc := defScope s_law_is_spot) (by decide +kernel)) (fun _ _ _ _ _ => (pg_name (i := 2) sc_law_is_spot.nd rfl (by first | exact Or.inl rfl | exact Or.inr rfl))) (fun _ _ _ _ _ => pts_nil) (fun _ _ _ _ _ => (pe_cmpR (op_inK (K := K) rfl) (pv 2) (pe_tup (pa_cons pe_str (pa_cons pe_str pa_nil))) rfl))) pa_nil))))))), ?_⟩
  refine ⟨_, rfl, ?_⟩
  rcases ho.two with ⟨z, rfl, rfl, lz⟩ | ⟨ns, nl⟩
  case inr =>
    have kb := ho.kit.1
    rw [decide_eq_false ns] at kb
    have k : Q (.bl (liS (adrB (n : Int)) x)) H := k H (Same.refl H)
    rw [nl] at k
    refine ⟨_, _, _, _, _, rfl, .ty _, ho.ty, kit_ty kb, ?_⟩
    exact ⟨_, rfl, iteF k⟩
  have k : ∀ H', Same H H' → Q (.bl (bitsB z && decide ((z.length : Int) = (n : Int)))) H' := k
  refine ⟨_, _, _, _, _, rfl, .ty _, .base (.str _), kit_ty (show kitB "str" "str" = some true by decide +kernel), ?_⟩
  refine ⟨_, rfl, iteT ?_⟩
  refine ⟨_, rfl, ⟨_, _, rfl, ⟨szl (by omega), rfl⟩, ⟨_, rfl, ⟨rfl, ?_⟩⟩⟩⟩
  rw [show decide (V.int (z.length : Int) = V.int (n : Int)) = decide ((z.length : Int) = (n : Int)) from decide_eq_decide.mpr ⟨fun q => V.int.inj q, fun q => congrArg V.int q⟩]
  cases cl : decide ((z.length : Int) = (n : Int)) with
  | false =>
    have k := k H (Same.refl H)
    rw [cl, Bool.and_false] at k
    exact ⟨_, rfl, iteF k⟩
  | true =>
  rw [cl, Bool.and_true] at k
  have zsz : z.cps.size ≤ 1000 := lz
  refine ⟨_, rfl, iteT ?_⟩
  refine ⟨_, rfl, ⟨z, rfl, fun B nB => ?_⟩⟩
  refine lc_it walk_str (fun i H' => H' B = some (.lst (((z.cps.toList.take i).map fun c => decide (c ∈ ("01" : Str).cps.toList)).map V.bl)) ∧ Same H H') ⟨upd_same, (Same.refl H).new nB⟩ (fun _ _ _ _ => trivial) ?_ ?_
  · rintro i x H2 H3 hi ⟨hB, sm⟩ ⟨rfl, c, hc, rfl⟩
    refine ⟨rfl, ?_⟩
    dsimp only [tYes]
    rw [if_pos rfl]
    refine ⟨_, rfl, ⟨szl (by show 2 ≤ 1000000; decide), fun t nt => ?_⟩⟩
    have s3 := sm.new (o := HO.tup [.str "0", .str "1"]) nt
    have hB3 := updn (o := HO.tup [.str "0", .str "1"]) (nonn nt hB) hB
    refine ⟨t, [.str "0", .str "1"], rfl, .inr (SqT.of upd_same), rfl, by decide, ?_⟩
    have hin : inV (.str ⟨#[c]⟩) [.str "0", .str "1"] = decide (c ∈ ("01" : Str).cps.toList) := by
      by_cases c1 : c = 48
      · subst c1; decide +kernel
      by_cases c2 : c = 49
      · subst c2; decide +kernel
      have e1 : decide (c ∈ ("01" : Str).cps.toList) = false := decide_eq_false fun h => by
        have h2 : c ∈ [48, 49] := h
        simp only [List.mem_cons, List.not_mem_nil, or_false] at h2
        omega
      rw [e1]
      refine (inV_strs ⟨#[c]⟩ ["0", "1"]).trans (decide_eq_false fun h => ?_)
      have hn : ∀ a : Nat, c ≠ a → ¬ (⟨#[c]⟩ : Str) = ⟨#[a]⟩ := fun a h q => h (by
        have := congrArg (fun s : Str => s.cps[0]?) q
        simpa using this)
      rcases List.mem_cons.mp h with h | h
      · exact hn 48 c1 h
      · rcases List.mem_cons.mp h with h | h
        · exact hn 49 c2 h
        · cases h
    rw [if_neg (by decide), hin]
    refine ⟨_, hB3, szt (by rw [List.length_map, List.length_map, List.length_take]; have : z.cps.toList.length = z.cps.size := Array.length_toList; omega), ?_, fun b o q => updn (nonn nB q) (s3 b o q)⟩
    rw [upd_same, List.take_add_one, Array.getElem?_toList, hc, List.map_append, List.map_append]
    rfl
  · rintro H2 ⟨hB, sm⟩
    rw [List.take_of_length_le (by rw [Array.length_toList]; exact Nat.le_refl _)] at hB
    refine ⟨_, _, rfl, SqL.of hB, ?_⟩
    have e : bitsB z = ((z.cps.toList.map fun c => decide (c ∈ ("01" : Str).cps.toList)).all id) := by rw [List.all_map]; rfl
    have hk := k H2 sm
    rw [e] at hk
    exact hk
theorem ok_goes (F : Fun K "_law_goes" "_law_goes" s_law_goes f fd) (hm : mg "_law_goes" = some (.ref f)) (T : Txt K mg) (c_law_is_spot : Nm P w K mg base CX0 1 "_law_is_spot" s_law_is_spot ["_law_wide", "_law_thing"] (spIs)) (c_law_goal : Nm P w K mg base CX0 1 "_law_goal" s_law_goal ["_law_rows", "_law_idle", "_law_spot"] (spLG)) (c_law_path : Nm P w K mg base CX0 1 "_law_path" s_law_path ["_law_begin", "_law_end"] (spLPath)) : Nm P w K mg base CX0 2 "_law_goes" s_law_goes ["_law_wide", "_law_rows", "_law_idle", "_law_noted_here", "_law_one"] (spGo) := by
  refine nm_of0 F hm sc_law_goes (fun vs H Q E h => ?_) fun cdv A outer s H vs Q E hr h => ?_
  · unfold spGo at h
    obtain ⟨p, W, D, G, N, x, n, m, fs, E', o, rfl, h0, h1, hD, hF, lf, hN, lE, elx, k⟩ := h
    subst_vars
    rfl
  unfold spGo at h
  obtain ⟨p, W, D, G, N, x, n, m, fs, E', o, rfl, h0, h1, hD, hF, lf, hN, lE, elx, k⟩ := h
  refine ⟨_, (pss_cons (ps_if (PW.pt (pw_or (pt_not (pt_val (pe_callB (call_isiK' (K := K) rfl) (by rfl) T.b_isinstance (by decide +kernel) (pa_cons (pv 4) (pa_cons (pe_ty "tuple" (by rfl) T.b_tuple (by decide +kernel)) pa_nil))))) (pw_or (pt_cmpR op_ne (pe_callB (call_lenK (K := K) rfl) (by rfl) T.b_len PySem.boot_len (pa_cons (pv 4) pa_nil)) pe_int (nomark _)) (pw_or1 (pt_not (pt_val (pe_g c_law_is_spot hr (by decide) L2.pass0 bp_law_is_spot (by rfl) (pa_cons (pv 0) (pa_cons (pe_ix (ix_seqK (K := K) rfl) (pv 4) pe_int (fun _ _ => rfl)) pa_nil))))))))) (pss_one (ps_ret pe_bl)) pss_nil)
      (C8.pss_cut (ps_if (PW.pt (pw_and (pt_cmpR op_notN (pe_ix (ix_seqK (K := K) rfl) (pv 4) pe_int (fun _ _ => rfl)) pe_non (nomark _)) (pw_and1 (pt_not (pt_val (pe_g c_law_is_spot hr (by decide) L2.pass0 bp_law_is_spot (by rfl) (pa_cons (pv 0) (pa_cons (pe_ix (ix_seqK (K := K) rfl) (pv 4) pe_int (fun _ _ => rfl)) pa_nil)))))))) (pss_one (ps_ret pe_bl)) pss_nil)
      (C8.pss_cut (ps_set (i := 5) sc_law_goes.nd rfl (by first | exact Or.inl rfl | exact Or.inr rfl) (pe_g c_law_goal hr (by decide) L2.pass0 bp_law_goal (by rfl) (pa_cons (pv 1) (pa_cons (pv 2) (pa_cons (pe_ix (ix_seqK (K := K) rfl) (pv 4) pe_int (fun _ _ => rfl)) pa_nil)))))
      (C8.pss_cut (ps_set (i := 6) sc_law_goes.nd rfl (by first | exact Or.inl rfl | exact Or.inr rfl) (pe_ifExp (pt_cmpR op_isN (pe_ix (ix_seqK (K := K) rfl) (pv 4) pe_int (fun _ _ => rfl)) pe_non (nomark _)) pe_str (pe_g c_law_goal hr (by decide) L2.pass0 bp_law_goal (by rfl) (pa_cons (pv 1) (pa_cons (pv 2) (pa_cons (pe_ix (ix_seqK (K := K) rfl) (pv 4) pe_int (fun _ _ => rfl)) pa_nil))))))
      (C8.pss_cut (ps_if (PW.pt (pw_or (pt_cmpR op_isN (pv 5) pe_non (nomark _)) (pw_or (pt_cmpR op_isN (pv 6) pe_non (nomark _)) (pw_or1 (pt_cmpR op_eq (pv 5) (pv 6) (nomark _)))))) (pss_one (ps_ret pe_bl)) pss_nil)
      (pss_cons (ps_for PassesOwn.never rfl (pi_listK (K := K) rfl (pe_g c_law_path hr (by decide) L2.pass0 bp_law_path (by rfl) (pa_cons (pe_ix (ix_seqK (K := K) rfl) (pv 4) pe_int (fun _ _ => rfl)) (pa_cons (pe_ix (ix_seqK (K := K) rfl) (pv 4) pe_int (fun _ _ => rfl)) pa_nil)))) (pg_tup (by rfl) (pgs_cons (pg_name (i := 7) sc_law_goes.nd rfl (by first | exact Or.inl rfl | exact Or.inr rfl)) (pgs_cons (pg_name (i := 8) sc_law_goes.nd rfl (by first | exact Or.inl rfl | exact Or.inr rfl)) pgs_nil))) (pss_one (ps_if (pt_val (pe_callB (cr_any rfl) (by rfl) T.b_any (by decide +kernel) (pa_cons (pe_lc (own := [("_law_other", 9), ("_law_goal_here", 10)]) (g := (gTup K 2 (gCons (gName 9) (gCons (gName 10) gNil)))) (by rfl) sc_law_goes.nd (pi_listK (K := K) rfl (pe_dget2 hr.u1 (pv 3) (pv 7) (pe_lst pa_nil) ⟨by rfl, by rfl, by rfl, by rfl⟩)) (blkOk_by (own := [("_law_other", 9), ("_law_goal_here", 10)]) (N := ["_law_wide", "_law_rows", "_law_idle", "_law_noted_here", "_law_one", "_law_far", "_law_near", "_law_border", "_law_way", "_law_other", "_law_goal_here"]) (sc := defScope s_law_goes) (by decide +kernel)) (fun _ _ _ _ _ => (pg_tup (by rfl) (pgs_cons (pg_name (i := 9) sc_law_goes.nd rfl (by first | exact Or.inl rfl | exact Or.inr rfl)) (pgs_cons (pg_name (i := 10) sc_law_goes.nd rfl (by first | exact Or.inl rfl | exact Or.inr rfl)) pgs_nil)))) (fun _ _ _ _ _ => pts_nil) (fun _ _ _ _ _ => (pe_or (pe_cmpR op_ne (pv 9) (pv 8) (nomark _)) (pe_one (pe_cmpR op_eq (pv 10) (pv 5) (nomark _)))))) pa_nil))) (pss_one (ps_ret pe_bl)) pss_nil)))
      (pss_one (ps_ret pe_bl)))))))), ?_⟩
  refine ⟨_, rfl, ?_⟩
  have isT : kitB "tuple" "tuple" = some true := by decide +kernel
  cases elx with
  | kd o h =>
    have kb := o.kit.2.1
    rw [decide_eq_false h] at kb
    refine ⟨_, _, _, _, _, rfl, .ty _, o.ty, kit_ty kb, ?_⟩
    refine ⟨_, rfl, ?_⟩
    refine iteT (iteT ?_)
    exact k H (Same.refl H)
  | ln nt ht hl =>
    refine ⟨_, _, _, _, _, rfl, .ty _, .base (.tup ht), kit_ty isT, ?_⟩
    refine ⟨_, rfl, ?_⟩
    refine iteF ?_
    refine ⟨_, rfl, ⟨_, _, rfl, .inr ⟨_, SqT.of ht, rfl⟩, ?_⟩⟩
    refine ⟨rfl, ⟨_, rfl, ?_⟩⟩
    rw [decide_eq_false (show ¬ V.int (_ : Int) = V.int 2 from fun q => by injection q with q; omega)]
    refine iteT (iteT ?_)
    exact k H (Same.refl H)
  | fe nt ht o ae =>
    refine ⟨_, _, _, _, _, rfl, .ty _, .base (.tup ht), kit_ty isT, ?_⟩
    refine ⟨_, rfl, ?_⟩
    refine iteF ?_
    refine ⟨_, rfl, ⟨_, _, rfl, .inr ⟨_, SqT.of ht, rfl⟩, ?_⟩⟩
    refine ⟨rfl, ⟨_, rfl, ?_⟩⟩
    rw [decide_eq_true (show V.int (([_, _] : List V).length : Int) = V.int 2 from rfl)]
    refine iteF ?_
    refine ⟨_, rfl, ⟨_, rfl, .inr (.inl ⟨_, _, _, _, rfl, rfl, SqT.of ht, rfl, ?_⟩)⟩⟩
    refine iso_go h1 o ae fun H1 s1 => ?_
    refine ⟨_, rfl, iteT ?_⟩
    exact k H1 s1
  | be nt ht zb zl o nn ab =>
    rename_i t b z s
    refine ⟨_, _, _, _, _, rfl, .ty _, .base (.tup ht), kit_ty isT, ?_⟩
    refine ⟨_, rfl, ?_⟩
    refine iteF ?_
    refine ⟨_, rfl, ⟨_, _, rfl, .inr ⟨_, SqT.of ht, rfl⟩, ?_⟩⟩
    refine ⟨rfl, ⟨_, rfl, ?_⟩⟩
    rw [decide_eq_true (show V.int (([_, _] : List V).length : Int) = V.int 2 from rfl)]
    refine iteF ?_
    refine ⟨_, rfl, ⟨_, rfl, .inr (.inl ⟨_, _, _, _, rfl, rfl, SqT.of ht, rfl, ?_⟩)⟩⟩
    refine is_go h1 zb zl fun H1 s1 => ?_
    refine ⟨_, rfl, iteF ?_⟩
    refine ⟨fun _ _ => False, ?_, fun _ _ h => h.elim⟩
    refine ⟨_, rfl, .inr (.inl ⟨_, _, _, _, rfl, rfl, SqT.of (s1 _ _ ht), rfl, ?_⟩)⟩
    refine ⟨rfl, ⟨_, rfl, ?_⟩⟩
    rw [decide_eq_false (show ¬ b = V.non from o.nn nn)]
    refine iteT ?_
    refine ⟨_, rfl, ⟨_, rfl, .inr (.inl ⟨_, _, _, _, rfl, rfl, SqT.of (s1 _ _ ht), rfl, ?_⟩)⟩⟩
    refine iso_go h1 (o.kp (Same.kp s1)) ab fun H2 s2 => ?_
    exact ⟨_, rfl, iteT (k H2 (s1.trans s2))⟩
  | pr nt ht hq =>
  rename_i t q
  have k : ∀ H', Same H H' → Q (.bl (goesB n m fs E' q)) H' := k
  obtain ⟨b, e⟩ := q
  obtain ⟨⟨eb, el⟩, hz⟩ := id hq
  have el : e.length = n := el
  refine ⟨_, _, _, _, _, rfl, .ty _, .base (.tup ht), kit_ty (show kitB "tuple" "tuple" = some true by decide +kernel), ?_⟩
  refine ⟨_, rfl, ?_⟩
  refine iteF ?_
  refine ⟨_, rfl, ⟨_, _, rfl, .inr ⟨_, SqT.of ht, rfl⟩, ?_⟩⟩
  refine ⟨rfl, ⟨_, rfl, ?_⟩⟩
  rw [decide_eq_true (show V.int (([oB b, sx e] : List V).length : Int) = V.int 2 from rfl)]
  refine iteF ?_
  refine ⟨_, rfl, ⟨_, rfl, .inr (.inl ⟨_, _, _, _, rfl, rfl, SqT.of ht, rfl, ?_⟩)⟩⟩
  refine is_go h1 eb el fun H1 s1 => ?_
  refine ⟨_, rfl, iteF ?_⟩
  refine ⟨fun σ' H' => σ' = [some (.int n), some (.ref D), some (.ref G), some (.ref N), some (.ref t), none, none, none, none, none, none] ∧ Same H H', ?_, ?_⟩
  · refine ⟨_, rfl, .inr (.inl ⟨_, _, _, _, rfl, rfl, SqT.of (s1 _ _ ht), rfl, ?_⟩)⟩
    refine ⟨rfl, ⟨_, rfl, ?_⟩⟩
    cases b with
    | none =>
      rw [decide_eq_true (show oB none = V.non from rfl)]
      exact iteF (iteF ⟨rfl, s1⟩)
    | some z =>
      obtain ⟨zb, zl⟩ := hz z rfl
      rw [decide_eq_false (show ¬ oB (some z) = V.non from fun q => nomatch q)]
      refine iteT ?_
      refine ⟨_, rfl, ⟨_, rfl, .inr (.inl ⟨_, _, _, _, rfl, rfl, SqT.of (s1 _ _ ht), rfl, ?_⟩)⟩⟩
      refine is_go h1 zb zl fun H2 s2 => ?_
      exact ⟨_, rfl, iteF ⟨rfl, s1.trans s2⟩⟩
  clear s1 H1
  rintro σ' H1 ⟨rfl, s1⟩
  refine ⟨fun σ' H' => σ' = [some (.int n), some (.ref D), some (.ref G), some (.ref N), some (.ref t), some (oV (lab m fs e)), none, none, none, none, none] ∧ Same H H', ?_, ?_⟩
  · refine ⟨_, rfl, ⟨_, rfl, ⟨_, rfl, .inr (.inl ⟨_, _, _, _, rfl, rfl, SqT.of (s1 _ _ ht), rfl, ?_⟩)⟩⟩⟩
    exact lg_go (s1 _ _ hD) (s1 _ _ hF) lf (by omega) fun H2 s2 => ⟨rfl, s1.trans s2⟩
  clear s1 H1
  rintro σ' H1 ⟨rfl, s1⟩
  refine ⟨fun σ' H' => σ' = [some (.int n), some (.ref D), some (.ref G), some (.ref N), some (.ref t), some (oV (lab m fs e)), some (oV (nearO m fs b)), none, none, none, none] ∧ Same H H', ?_, ?_⟩
  · refine ⟨_, rfl, .inr (.inl ⟨_, _, _, _, rfl, rfl, SqT.of (s1 _ _ ht), rfl, ?_⟩)⟩
    refine ⟨rfl, ⟨_, rfl, ?_⟩⟩
    cases b with
    | none =>
      rw [decide_eq_true (show oB none = V.non from rfl)]
      exact iteT ⟨rfl, s1⟩
    | some z =>
      obtain ⟨zb, zl⟩ := hz z rfl
      rw [decide_eq_false (show ¬ oB (some z) = V.non from fun q => nomatch q)]
      refine iteF ?_
      refine ⟨_, rfl, ⟨_, rfl, ⟨_, rfl, .inr (.inl ⟨_, _, _, _, rfl, rfl, SqT.of (s1 _ _ ht), rfl, ?_⟩)⟩⟩⟩
      exact lg_go (s1 _ _ hD) (s1 _ _ hF) lf (by omega) fun H2 s2 => ⟨rfl, s1.trans s2⟩
  clear s1 H1
  rintro σ' H1 ⟨rfl, s1⟩
  have okq := okP_lab m fs b e
  refine ⟨fun σ' H' => σ' = [some (.int n), some (.ref D), some (.ref G), some (.ref N), some (.ref t), some (.str (gT m e)), some (oV (nearO m fs b)), none, none, none, none] ∧ Same H H' ∧ okP m fs (b, e) = true, ?_, ?_⟩
  · generalize nearO m fs b = nr at okq ⊢
    have hl : ∀ g, lab m fs e = some g → g = gT m e := fun g h => by
      unfold lab at h
      cases ce : M.frB fs e with
      | true => rw [ce] at h; cases h
      | false => rw [ce] at h; exact (Option.some.inj h).symm
    generalize lab m fs e = lb at okq hl ⊢
    cases lb with
    | none =>
      refine ⟨_, rfl, ⟨rfl, ⟨_, rfl, ?_⟩⟩⟩
      rw [decide_eq_true (show oV none = V.non from rfl)]
      refine iteT (iteT ?_)
      have := k H1 s1
      unfold goesB at this
      rw [okq] at this
      exact this
    | some g =>
      obtain rfl := hl g rfl
      refine ⟨_, rfl, ⟨rfl, ⟨_, rfl, ?_⟩⟩⟩
      rw [decide_eq_false (show ¬ oV (some (gT m e)) = V.non from fun q => nomatch q)]
      refine iteF ?_
      cases nr with
      | none =>
        refine ⟨_, rfl, ⟨rfl, ⟨_, rfl, ?_⟩⟩⟩
        rw [decide_eq_true (show oV none = V.non from rfl)]
        refine iteT (iteT ?_)
        have := k H1 s1
        unfold goesB at this
        rw [okq] at this
        exact this
      | some h =>
        refine ⟨_, rfl, ⟨rfl, ⟨_, rfl, ?_⟩⟩⟩
        rw [decide_eq_false (show ¬ oV (some h) = V.non from fun q => nomatch q)]
        refine iteF ?_
        refine ⟨_, rfl, ⟨_, rfl, ⟨rfl, ⟨_, rfl, ?_⟩⟩⟩⟩
        rw [show decide (oV (some (gT m e)) = oV (some h)) = decide (gT m e = h) from decide_eq_decide.mpr ⟨fun q => V.str.inj q, fun q => congrArg V.str q⟩]
        by_cases c : gT m e = h
        · have okq : okP m fs (b, e) = !decide (gT m e = h) := okq
          rw [decide_eq_true c] at okq ⊢
          refine iteT ?_
          have := k H1 s1
          unfold goesB at this
          rw [okq] at this
          exact this
        · have okq : okP m fs (b, e) = !decide (gT m e = h) := okq
          rw [decide_eq_false c] at okq ⊢
          exact iteF ⟨rfl, s1, okq⟩
  clear s1 H1
  rintro σ' H1 ⟨rfl, s1, ok⟩
  generalize oV (nearO m fs b) = nv
  have hq0 : PrOk n (b, e) := hq
  have ht0 : H t = some (.tup [oB b, sx e]) := ht
  have gb : ∀ c, goesB n m fs E' (b, e) = c → ∀ H', Same H H' → Q (.bl c) H' := fun c hc H' s' => hc ▸ k H' s'
  clear k hz hq okq
  refine ⟨_, rfl, .inr (.inl ⟨_, _, _, _, rfl, rfl, SqT.of (s1 _ _ ht), rfl, ?_⟩)⟩
  refine ⟨_, rfl, .inr (.inl ⟨_, _, _, _, rfl, rfl, SqT.of (s1 _ _ ht), rfl, ?_⟩)⟩
  refine lpath_go (w := n) h0 h1 (sx_bits eb) (by rw [sx_len]; exact el) (oB_arg hq0) fun L ts H5 nL s5 hL tp => ?_
  have s15 : Same H H5 := s1.trans s5
  refine ⟨L, rfl, ⟨_, SqL.of hL⟩, ?_⟩
  have hF' : ∀ j s w', (pathOf (oB b) (SX.S e) n)[j]? = some (s, w') → (ents n (gT m) (b, e))[j]? = some (s, w', gT m e) := fun j s w' h => by
    unfold ents
    rw [List.getElem?_map, h]
    rfl
  have lts : ts.length = (ents n (gT m) (b, e)).length := by
    rw [tp.len]
    unfold ents
    rw [List.length_map]
  have tp : Tp H5 ts (pathOf (oB b) (SX.S e) n) := tp
  have gg : goesB n m fs E' (b, e) = (ents n (gT m) (b, e)).all (fit1 E') := by
    unfold goesB
    rw [ok, Bool.true_and]
  generalize ents n (gT m) (b, e) = Fs at hF' lts gg
  refine for_it (walk_list (xs := ts)) (fun j σ' H' => ∃ x7 x8, σ' = [some (.int n), some (.ref D), some (.ref G), some (.ref N), some (.ref t), some (.str (gT m e)), some nv, x7, x8, none, none] ∧ Same H5 H' ∧ (Fs.take j).all (fit1 E') = true)
    ⟨_, _, rfl, Same.refl _, by rw [List.take_zero]; rfl⟩ (fun j σ' H' _ h => let ⟨_, _, _, s, _⟩ := h; SqL.of (s _ _ hL)) ?_ ?_
  · rintro j x σ' Hx H6 hj ⟨x7, x8, rfl, s6, ha⟩ ⟨rfl, hx⟩
    obtain ⟨t2, s, w', rfl, ht2, hp⟩ := tp.at hx
    have hx2 := hF' j s w' hp
    have sv : Same H H6 := s15.trans s6
    refine ⟨t2, _, rfl, SqT.of (s6 _ _ ht2), rfl, ⟨_, _, rfl, ⟨_, _, rfl, ⟨rfl, ?_⟩⟩⟩⟩
    obtain ⟨kv, eN, lv, hkv⟩ := hN.to sv
    refine ⟨_, rfl, ⟨N, rfl, .inl ⟨_, .inl eN⟩, ?_⟩⟩
    refine ⟨_, rfl, ?_⟩
    refine ⟨szl (Nat.zero_le _), fun l nl => ?_⟩
    have s67 : Same H6 (upd H6 l (.lst [])) := (Same.refl H6).new nl
    have el7 : upd H6 l (.lst []) l = some (.lst []) := upd_same
    generalize upd H6 l (.lst []) = H7 at s67 el7 ⊢
    refine ⟨_, DGet.k (k := Sum.inr s) (s67 _ _ eN), ?_⟩
    obtain ⟨L2, ts2, eL, hL2, tp2⟩ : ∃ L2 ts2, (valV kv (Sum.inr s)).getD (.ref l) = .ref L2 ∧ H7 L2 = some (.lst ts2) ∧ Tp H7 ts2 (filt E' s) := by
      rcases hkv s with ⟨h1, h2⟩ | ⟨p, ts2, h1, h2, h3, h4⟩
      · exact ⟨l, [], by rw [h1]; rfl, el7, by rw [h2]; exact .nil⟩
      · exact ⟨p, ts2, by rw [h1]; rfl, s67 _ _ h3, h4.same s67⟩
    rw [eL]
    refine ⟨L2, rfl, ⟨_, SqL.of hL2⟩, fun B nB => ?_⟩
    have lf2 := filt_len E' s
    have hfit := fit_filt E' s w' (gT m e)
    generalize filt E' s = fl at tp2 lf2 hfit
    refine lc_it (walk_list (xs := ts2)) (fun i H' => H' B = some (.lst (((fl.take i).map fun p => !decide (p.1 = w') || decide (p.2 = gT m e)).map V.bl)) ∧ Same H7 H') ⟨upd_same, (Same.refl _).new nB⟩ (fun i H' _ h => SqL.of (h.2 _ _ hL2)) ?_ ?_
    · rintro i x Hx H8 hi ⟨hB, s8⟩ ⟨rfl, hx⟩
      obtain ⟨t3, g1, g2, rfl, ht3, hp3⟩ := tp2.at hx
      refine ⟨t3, _, rfl, SqT.of (s8 _ _ ht3), rfl, ⟨_, _, rfl, ⟨_, _, rfl, ⟨rfl, ?_⟩⟩⟩⟩
      have fin : ∀ c, c = (!decide (g1 = w') || decide (g2 = gT m e)) → ∃ acc, H8 B = some (.lst acc) ∧ acc.length < sizeLine ∧ (upd H8 B (.lst (acc ++ [.bl c])) B = some (.lst (((fl.take (i + 1)).map fun p => !decide (p.1 = w') || decide (p.2 = gT m e)).map V.bl)) ∧ Same H7 (upd H8 B (.lst (acc ++ [.bl c])))) := fun c hc => by
        refine ⟨_, hB, szt (by rw [List.length_map, List.length_map, List.length_take]; omega), ?_, fun b o q => updn (nonn nB q) (s8 b o q)⟩
        rw [upd_same, List.take_add_one, hp3, List.map_append, List.map_append, hc]
        rfl
      refine ⟨rfl, ?_⟩
      dsimp only [tYes]
      rw [if_pos rfl]
      refine ⟨_, rfl, ⟨_, rfl, ⟨rfl, ⟨_, rfl, ?_⟩⟩⟩⟩
      rw [show decide (V.str g1 = V.str w') = decide (g1 = w') from decide_eq_decide.mpr ⟨fun q => V.str.inj q, fun q => congrArg V.str q⟩]
      by_cases c : g1 = w'
      · rw [decide_eq_true c] at fin ⊢
        refine iteF ?_
        refine ⟨_, rfl, ⟨_, rfl, ⟨rfl, ?_⟩⟩⟩
        rw [show decide (V.str g2 = V.str (gT m e)) = decide (g2 = gT m e) from decide_eq_decide.mpr ⟨fun q => V.str.inj q, fun q => congrArg V.str q⟩]
        exact fin _ rfl
      · rw [decide_eq_false c] at fin ⊢
        exact iteT (fin _ rfl)
    · rintro H8 ⟨hB, s8⟩
      rw [tp2.len, List.take_length] at hB
      refine ⟨_, _, rfl, SqL.of hB, ?_⟩
      rw [show ((fl.map fun p => !decide (p.1 = w') || decide (p.2 = gT m e)).any id) = fl.any (fun p => !decide (p.1 = w') || decide (p.2 = gT m e)) by rw [List.any_map]; rfl]
      refine ⟨_, rfl, ?_⟩
      cases c : fl.any fun p => !decide (p.1 = w') || decide (p.2 = gT m e) with
      | true =>
        rw [c] at hfit
        refine iteT ?_
        refine gb _ (gg.trans ?_) _ (sv.trans (s67.trans s8))
        by_cases cc : Fs.all (fit1 E') = true
        · have := List.all_eq_true.mp cc _ (List.mem_of_getElem? hx2)
          rw [hfit] at this
          cases this
        · exact Bool.eq_false_iff.mpr cc
      | false =>
        rw [c] at hfit
        refine iteF ?_
        refine ⟨_, _, rfl, s6.trans (s67.trans s8), ?_⟩
        rw [List.take_add_one, hx2, List.all_append, ha]
        simp [hfit]
  · rintro σ' H6 ⟨x7, x8, rfl, s6, ha⟩
    rw [lts, List.take_length] at ha
    exact gb _ (gg.trans ha) _ (s15.trans s6)
end
open PySem PySem.Spec PyProof.Rows LamX
open L2 hiding pass0
abbrev s_law_noted : Stmt := top 78
theorem sc_law_noted : FnScope ["_law_rows", "_law_idle", "_law_noted_here", "_law_one", "_law_border", "_law_way"] ["_law_rows", "_law_idle", "_law_noted_here", "_law_one"] (defScope s_law_noted) := ⟨rfl, rfl, rfl, by decide +kernel, rfl, by decide +kernel, by decide +kernel⟩
theorem bp_law_noted : BndP "_law_noted" s_law_noted ["_law_rows", "_law_idle", "_law_noted_here", "_law_one"] := fun _ _ _ _ _ _ us h => match us, h with | [_, _, _, _], _ => rfl
abbrev s_law_is_pack : Stmt := top 79
theorem sc_law_is_pack : FnScope ["_law_wide", "_law_rows", "_law_idle", "_law_thing", "_law_noted_here", "_law_one"] ["_law_wide", "_law_rows", "_law_idle", "_law_thing"] (defScope s_law_is_pack) := ⟨rfl, rfl, rfl, by decide +kernel, rfl, by decide +kernel, by decide +kernel⟩
theorem bp_law_is_pack : BndP "_law_is_pack" s_law_is_pack ["_law_wide", "_law_rows", "_law_idle", "_law_thing"] := fun _ _ _ _ _ _ us h => match us, h with | [_, _, _, _], _ => rfl
theorem NtAt.put {W : Addr → Prop} {H H' : Hp} {N p t3 : Addr} {kv : List (Key × V)} {E : List En} {s w g : Str} {ts2 : List V} (eN : H N = some (.dK kv)) (lv : kv.length ≤ E.length) (hkv : ∀ s, (valV kv (Sum.inr s) = none ∧ filt E s = []) ∨ ∃ p ts, valV kv (Sum.inr s) = some (.ref p) ∧ (p ≠ N ∧ W p) ∧ H p = some (.lst ts) ∧ Tp H ts (filt E s))
    (kp : ∀ b o, b ≠ N → H b = some o → H' b = some o) (eN' : H' N = some (.dK (putK kv (Sum.inr s) (.ref p)))) (np : p ≠ N ∧ W p) (hp : H' p = some (.lst (ts2 ++ [.ref t3]))) (tp : Tp H' (ts2 ++ [.ref t3]) (filt E s ++ [(w, g)])) : NtAt W H' N (E ++ [(s, w, g)]) := by
  refine ⟨_, eN', ?_, fun s' => ?_⟩
  · have := length_putK kv (Sum.inr s : Key) (V.ref p)
    rw [List.length_append, List.length_singleton]
    omega
  · rw [valV_put, filt_snoc]
    by_cases c : s' = s
    · subst c
      rw [if_pos rfl, if_pos rfl]
      exact .inr ⟨p, _, rfl, np, hp, tp⟩
    · rw [if_neg fun z => c (Sum.inr.inj z), if_neg fun z => c z.symm, List.append_nil]
      rcases hkv s' with h | ⟨p', ts, h1, h2, h3, h4⟩
      · exact .inl h
      · exact .inr ⟨p', ts, h1, h2, kp _ _ h2.1 h3, h4.mono fun a l e => kp _ _ (fun z => by rw [z, eN] at e; cases e) e⟩
@[irreducible] def spLP : Sp := fun vs H Q _ => ∃ (p D F : Addr) (n : Nat) (m : List (Str × Str)) (fs : List (List Nat)) (x : V) (o : Option (List (Option Pr))), vs = [.int n, .ref D, .ref F, x] ∧ 1 ≤ n ∧ n ≤ 100 ∧ H D = some (.dK (tk m)) ∧ H F = some (.lst (fs.map sx)) ∧ fs.length ≤ 20 ∧ Th p H n x o ∧ ∀ H', Same H H' → Q (.bl (thB n m fs o)) H'
theorem lp_go {D F p : Addr} {n : Nat} {m : List (Str × Str)} {fs : List (List Nat)} {x : V} {o : Option (List (Option Pr))} {H : Hp} {Q : VK} {E : XK} (h0 : 1 ≤ n) (h1 : n ≤ 100) (hD : H D = some (.dK (tk m))) (hF : H F = some (.lst (fs.map sx))) (lf : fs.length ≤ 20) (h : Th p H n x o) (k : ∀ H', Same H H' → Q (.bl (thB n m fs o)) H') : spLP [.int n, .ref D, .ref F, x] H Q E := by
  unfold spLP
  exact ⟨p, D, F, n, m, fs, x, o, rfl, h0, h1, hD, hF, lf, h, k⟩
/-- some of it is none -/
theorem thB_none {n : Nat} {d : List (Str × Str)} {fs : List (List Nat)} {os : List (Option Pr)} (h : none ∈ os) : thB n d fs (some os) = false := by
  show (os.all (okO d fs) && _) = false
  rw [show os.all (okO d fs) = false from Bool.eq_false_iff.mpr fun z => by have := List.all_eq_true.mp z none h; cases this]
  rfl
theorem thB_some {n : Nat} {d : List (Str × Str)} {fs : List (List Nat)} (qs : List Pr) : thB n d fs (some (qs.map some)) = packB n d fs qs := by
  show ((qs.map some).all (okO d fs) && decide (Keep (flat n (gT d) ((qs.map some).filterMap id)))) = _
  unfold packB
  rw [List.all_map, List.filterMap_map]
  rw [show qs.filterMap (id ∘ some) = qs from by
    rw [show (id ∘ some : Pr → Option Pr) = some from rfl, List.filterMap_some]]
  rfl
section
variable {P : Program} {w : World} {K : PySem.W.Frag} {mg : Str → Option Value} {base : Heap} {f C : Addr} {fd : FuncData}
theorem ok_noted (F : Fun K "_law_noted" "_law_noted" s_law_noted f fd) (hm : mg "_law_noted" = some (.ref f)) (T : Txt K mg) (c_law_goal : Nm P w K mg base CX0 1 "_law_goal" s_law_goal ["_law_rows", "_law_idle", "_law_spot"] (spLG)) (c_law_path : Nm P w K mg base CX0 1 "_law_path" s_law_path ["_law_begin", "_law_end"] (spLPath)) : Nm P w K mg base CX0 2 "_law_noted" s_law_noted ["_law_rows", "_law_idle", "_law_noted_here", "_law_one"] (spNo) := by
  refine nm_of0 F hm sc_law_noted (fun vs H Q E h => ?_) fun cdv A outer s H vs Q E hr h => ?_
  · unfold spNo at h
    obtain ⟨W, D, G, N, t, n, m, fs, E', q, rfl, h0, h1, hD, hF, lf, hN, lE, ht, hq, nf, nDN, hW, k⟩ := h
    subst_vars
    rfl
  unfold spNo at h
  obtain ⟨W, D, G, N, t, n, m, fs, E', q, rfl, h0, h1, hD, hF, lf, hN, lE, ht, hq, nf, nDN, hW, k⟩ := h
  refine ⟨_, (pss_one (ps_for PassesOwn.never rfl (pi_listK (K := K) rfl (pe_g c_law_path hr (by decide) L2.pass0 bp_law_path (by rfl) (pa_cons (pe_ix (ix_seqK (K := K) rfl) (pv 3) pe_int (fun _ _ => rfl)) (pa_cons (pe_ix (ix_seqK (K := K) rfl) (pv 3) pe_int (fun _ _ => rfl)) pa_nil)))) (pg_tup (by rfl) (pgs_cons (pg_name (i := 4) sc_law_noted.nd rfl (by first | exact Or.inl rfl | exact Or.inr rfl)) (pgs_cons (pg_name (i := 5) sc_law_noted.nd rfl (by first | exact Or.inl rfl | exact Or.inr rfl)) pgs_nil))) (pss_one (ps_asg (pe_op op_cat (pe_dget2 hr.u1 (pv 2) (pv 4) (pe_lst pa_nil) ⟨by rfl, by rfl, by rfl, by rfl⟩) (pe_lst (pa_cons (pe_tup (pa_cons (pv 5) (pa_cons (pe_g c_law_goal hr (by decide) L2.pass0 bp_law_goal (by rfl) (pa_cons (pv 0) (pa_cons (pv 1) (pa_cons (pe_ix (ix_seqK (K := K) rfl) (pv 3) pe_int (fun _ _ => rfl)) pa_nil)))) pa_nil))) pa_nil))) (pg_sub (pv 2) (pv 4) (set_dict hr.u1)))))), ?_⟩
  obtain ⟨b, e⟩ := q
  obtain ⟨⟨eb, el⟩, hz⟩ := id hq
  have el : e.length = n := el
  have hq0 : PrOk n (b, e) := hq
  have nf : M.frB fs e = false := nf
  have lbe : lab m fs e = some (gT m e) := by unfold lab; rw [nf]; rfl
  have ht : H t = some (.tup [oB b, sx e]) := ht
  refine ⟨_, rfl, .inr (.inl ⟨_, _, _, _, rfl, rfl, SqT.of ht, rfl, ?_⟩)⟩
  refine ⟨_, rfl, .inr (.inl ⟨_, _, _, _, rfl, rfl, SqT.of ht, rfl, ?_⟩)⟩
  refine lpath_go (w := n) h0 h1 (sx_bits eb) (by rw [sx_len]; exact el) (oB_arg hq0) fun L ts H5 nL s5 hL tp => ?_
  refine ⟨L, rfl, ⟨_, SqL.of hL⟩, ?_⟩
  have hF' : ∀ j s w', (pathOf (oB b) (SX.S e) n)[j]? = some (s, w') → (ents n (gT m) (b, e))[j]? = some (s, w', gT m e) := fun j s w' h => by
    unfold ents
    rw [List.getElem?_map, h]
    rfl
  have lts : ts.length = (ents n (gT m) (b, e)).length := by
    rw [tp.len]
    unfold ents
    rw [List.length_map]
  have lF : (ents n (gT m) (b, e)).length ≤ 200 := by
    unfold ents
    rw [List.length_map]
    exact path_len hq0 h1
  have tp : Tp H5 ts (pathOf (oB b) (SX.S e) n) := tp
  generalize ents n (gT m) (b, e) = Fs at hF' lts lF k
  obtain ⟨kv0, eN0, _⟩ := id hN
  have neN : ∀ {b o}, H b = some o → (∀ kvs, o ≠ .dK kvs) → b ≠ N := fun {b o} e n z => by rw [z, eN0] at e; exact n _ (Option.some.inj e).symm
  have ntN := neN ht fun _ z => nomatch z
  have nGN := neN hF fun _ z => nomatch z
  have nLN : L ≠ N := fun z => by rw [z, s5 _ _ eN0] at hL; cases hL
  refine for_it (walk_list (xs := ts)) (fun j σ' H' => ∃ x4 x5, σ' = [some (.ref D), some (.ref G), some (.ref N), some (.ref t), x4, x5] ∧ (∀ b o, b ≠ N → H5 b = some o → H' b = some o) ∧ NtAt W H' N (E' ++ Fs.take j) ∧ H' D = some (.dK (tk m)))
    ⟨_, _, rfl, fun _ _ _ e => e, by rw [List.take_zero, List.append_nil]; exact hN.to s5, s5 _ _ hD⟩ (fun j σ' H' _ h => let ⟨_, _, _, s, _⟩ := h; SqL.of (s _ _ nLN hL)) ?_ ?_
  · rintro j x σ' Hx H6 hj ⟨x4, x5, rfl, k6, ⟨kv, eN, lv, hkv⟩, hD6⟩ ⟨rfl, hx⟩
    obtain ⟨t2, s, w', rfl, ht2, hp⟩ := tp.at hx
    have hx2 := hF' j s w' hp
    have nt2 : t2 ≠ N := fun z => by rw [z, s5 _ _ eN0] at ht2; cases ht2
    have eT : E' ++ Fs.take (j + 1) = E' ++ Fs.take j ++ [(s, w', gT m e)] := by
      rw [List.take_add_one, hx2, ← List.append_assoc]
      rfl
    have lT : (E' ++ Fs.take j).length < 200000 := by
      rw [List.length_append, List.length_take]
      omega
    rw [eT]
    generalize E' ++ Fs.take j = E1 at lv hkv lT ⊢
    refine ⟨t2, _, rfl, SqT.of (k6 _ _ nt2 ht2), rfl, ⟨_, _, rfl, ⟨_, _, rfl, ⟨rfl, ?_⟩⟩⟩⟩
    refine ⟨_, rfl, ⟨N, rfl, .inl ⟨_, .inl eN⟩, ?_⟩⟩
    refine ⟨_, rfl, ?_⟩
    refine ⟨szl (Nat.zero_le _), fun l nl => ?_⟩
    have s67 : Same H6 (upd H6 l (.lst [])) := (Same.refl H6).new nl
    have el7 : upd H6 l (.lst []) l = some (.lst []) := upd_same
    have nlN : l ≠ N := fun z => by rw [z, eN] at nl; cases nl
    generalize upd H6 l (.lst []) = H7 at s67 el7 ⊢
    refine ⟨_, DGet.k (k := Sum.inr s) (s67 _ _ eN), ?_⟩
    obtain ⟨L2, ts2, eL, hL2, tp2⟩ : ∃ L2 ts2, (valV kv (Sum.inr s)).getD (.ref l) = .ref L2 ∧ H7 L2 = some (.lst ts2) ∧ Tp H7 ts2 (filt E1 s) := by
      rcases hkv s with ⟨h1, h2⟩ | ⟨p, ts2, h1, h2, h3, h4⟩
      · exact ⟨l, [], by rw [h1]; rfl, el7, by rw [h2]; exact .nil⟩
      · exact ⟨p, ts2, by rw [h1]; rfl, s67 _ _ h3, h4.same s67⟩
    rw [eL]
    refine ⟨_, rfl, ⟨_, rfl, ⟨_, rfl, ⟨_, rfl, .inr (.inl ⟨_, _, _, _, rfl, rfl, SqT.of (s67 _ _ (k6 _ _ ntN (s5 _ _ ht))), rfl, ?_⟩)⟩⟩⟩⟩
    refine lg_go (s67 _ _ hD6) (s67 _ _ (k6 _ _ nGN (s5 _ _ hF))) lf (by omega) fun H8 s8 => ?_
    rw [lbe, show oV (some (gT m e)) = V.str (gT m e) from rfl]
    refine ⟨szl (by show 2 ≤ 1000000; decide), fun t3 nt3 => ?_⟩
    have s79 := s8.new (o := HO.tup [.str w', .str (gT m e)]) nt3
    have et9 : upd H8 t3 (HO.tup [.str w', .str (gT m e)]) t3 = some (.tup [.str w', .str (gT m e)]) := upd_same
    have hL9 : upd H8 t3 (HO.tup [.str w', .str (gT m e)]) L2 = some (.lst ts2) := updn (nonn nt3 (s8 _ _ hL2)) (s8 _ _ hL2)
    generalize upd H8 t3 (HO.tup [.str w', .str (gT m e)]) = H9 at s79 et9 hL9 ⊢
    refine ⟨szl (by show 1 ≤ 1000000; decide), fun l2 nl2 => ?_⟩
    have s7a := s79.new (o := HO.lst [.ref t3]) nl2
    have eta := updn (o := HO.lst [.ref t3]) (nonn nl2 et9) et9
    have hLa := updn (o := HO.lst [.ref t3]) (nonn nl2 hL9) hL9
    have ela : upd H9 l2 (HO.lst [.ref t3]) l2 = some (.lst [.ref t3]) := upd_same
    generalize upd H9 l2 (HO.lst [.ref t3]) = Ha at s7a eta hLa ela ⊢
    have ltl : ts2.length < 300000 := by
      rw [tp2.len]
      have := filt_len E1 s
      omega
    refine ⟨L2, l2, _, _, rfl, rfl, hLa, ela, szl (by show ts2.length + 1 ≤ 1000000; omega), fun p np => ?_⟩
    have s7b := s7a.new (o := HO.lst (ts2 ++ [.ref t3])) np
    have etb := updn (o := HO.lst (ts2 ++ [.ref t3])) (nonn np eta) eta
    have epb : upd Ha p (HO.lst (ts2 ++ [.ref t3])) p = some (.lst (ts2 ++ [.ref t3])) := upd_same
    generalize upd Ha p (HO.lst (ts2 ++ [.ref t3])) = Hb at s7b etb epb ⊢
    have s6b := s67.trans s7b
    have npN : p ≠ N := fun z => by rw [z, s6b _ _ eN] at epb; cases epb
    have hpn : H p = none := by
      cases c : H p with
      | none => rfl
      | some o =>
        have := s7a _ _ (s67 _ _ (k6 _ _ npN (s5 _ _ c)))
        rw [np] at this
        cases this
    have ntN3 : t3 ≠ N := fun z => by rw [z, s6b _ _ eN] at etb; cases etb
    refine ⟨_, rfl, ⟨_, rfl, ?_⟩⟩
    refine ⟨N, _, rfl, .inl ⟨kv, Sum.inr s, s6b _ _ eN, rfl, szt (by omega), rfl⟩, ?_⟩
    refine ⟨_, _, rfl, fun b o n q => updn n (s6b _ _ (k6 b o n q)), NtAt.put (H := H6) eN lv hkv (fun b o n q => updn n (s6b _ _ q)) upd_same ⟨npN, hW _ hpn⟩ (updn npN epb) ?_, updn nDN (s6b _ _ hD6)⟩
    have tpb : Tp Hb ts2 (filt E1 s) := tp2.same s7b
    exact (tpb.snoc etb).mono fun a l e => updn (fun z => by rw [z, s6b _ _ eN] at e; cases e) e
  · rintro σ' H6 ⟨x4, x5, rfl, k6, hN6, hD6⟩
    rw [lts, List.take_length] at hN6
    exact k _ (fun b o n e => k6 b o n (s5 _ _ e)) hN6
theorem ok_lpack (F : Fun K "_law_is_pack" "_law_is_pack" s_law_is_pack f fd) (hm : mg "_law_is_pack" = some (.ref f)) (T : Txt K mg) (c_law_goes : Nm P w K mg base CX0 2 "_law_goes" s_law_goes ["_law_wide", "_law_rows", "_law_idle", "_law_noted_here", "_law_one"] (spGo)) (c_law_noted : Nm P w K mg base CX0 2 "_law_noted" s_law_noted ["_law_rows", "_law_idle", "_law_noted_here", "_law_one"] (spNo)) : Nm P w K mg base CX0 3 "_law_is_pack" s_law_is_pack ["_law_wide", "_law_rows", "_law_idle", "_law_thing"] (spLP) := by
  refine nm_of0 F hm sc_law_is_pack (fun vs H Q E h => ?_) fun cdv A outer s H vs Q E hr h => ?_
  · unfold spLP at h
    obtain ⟨p, D, G, n, m, fs, x, o, rfl, h0, h1, hD, hF, lf, th, k⟩ := h
    subst_vars
    rfl
  unfold spLP at h
  obtain ⟨p, D, G, n, m, fs, x, o, rfl, h0, h1, hD, hF, lf, th, k⟩ := h
  refine ⟨_, (pss_cons (ps_set (i := 4) sc_law_is_pack.nd rfl (by first | exact Or.inl rfl | exact Or.inr rfl) pe_dnewK)
      (pss_cons (ps_if (pt_not (pt_val (pe_callB call_isiT (by rfl) T.b_isinstance (by decide +kernel) (pa_cons (pv 3) (pa_cons (pe_tup (pa_cons (pe_ty "list" (by rfl) T.b_list (by decide +kernel)) (pa_cons (pe_ty "tuple" (by rfl) T.b_tuple (by decide +kernel)) pa_nil))) pa_nil))))) (pss_one (ps_ret pe_bl)) pss_nil)
      (pss_cons (ps_for PassesOwn.never rfl (pi_seqAK (K := K) rfl (pv 3)) (pg_name (i := 5) sc_law_is_pack.nd rfl (by first | exact Or.inl rfl | exact Or.inr rfl)) (pss_cons (ps_if (pt_not (pt_val (pe_g c_law_goes hr (by decide) L2.pass0 bp_law_goes (by rfl) (pa_cons (pv 0) (pa_cons (pv 1) (pa_cons (pv 2) (pa_cons (pv 4) (pa_cons (pv 5) pa_nil)))))))) (pss_one (ps_ret pe_bl)) pss_nil)
      (pss_one (ps_expr (pe_g c_law_noted hr (by decide) L2.pass0 bp_law_noted (by rfl) (pa_cons (pv 1) (pa_cons (pv 2) (pa_cons (pv 4) (pa_cons (pv 5) pa_nil)))))))))
      (pss_one (ps_ret pe_bl))))), ?_⟩
  intro N nN
  have s1 : Same H (upd H N (.dK [])) := (Same.refl H).new nN
  have eN0 : upd H N (.dK []) N = some (.dK []) := upd_same
  generalize upd H N (.dK []) = H1 at s1 eN0 ⊢
  refine ⟨_, rfl, ?_⟩
  refine ⟨szl (by show 2 ≤ 1000000; decide), fun T nT => ?_⟩
  have s2 : Same H (upd H1 T (.tup [.ty "list", .ty "tuple"])) := s1.new nT
  have eN := updn (o := HO.tup [.ty "list", .ty "tuple"]) (nonn nT eN0) eN0
  cases th with
  | od o h1 h2 =>
    refine ⟨_, T, _, _, _, false, rfl, upd_same, .cons (.ty _) (.cons (.ty _) .nil), (o.kp (Same.kp s2)).ty, o.noseq h1 h2, ?_⟩
    exact ⟨_, rfl, iteT (k _ s2)⟩
  | sq nv hv hz l =>
  rename_i v zs
  obtain ⟨ty, hty, hk⟩ := (hv.to s2).ty (K := K)
  refine ⟨_, T, _, ty, _, true, rfl, upd_same, .cons (.ty _) (.cons (.ty _) .nil), hty, hk, ?_⟩
  refine ⟨_, rfl, ?_⟩
  refine iteF ?_
  generalize upd H1 T (.tup [.ty "list", .ty "tuple"]) = H2 at s2 hty eN ⊢
  clear hty hk nT eN0 s1 H1
  have nDN : D ≠ N := nonn nN hD
  have k : ∀ H', Same H H' → Q (.bl (thB n m fs (some (zs.map (·.2))))) H' := k
  -- what was seen so far: pairs, and a pack
  refine for_seqA hv s2 (fun i σ' H' => ∃ x5 qs, σ' = [some (.int n), some (.ref D), some (.ref G), some (.ref v), some (.ref N), x5] ∧ Same H H' ∧ (zs.take i).map (·.2) = qs.map some ∧ NtAt (fun _ => True) H' N (flat n (gT m) qs) ∧ packB n m fs qs = true ∧ (flat n (gT m) qs).length ≤ 200 * i)
    ⟨_, [], rfl, s2, rfl, ⟨[], eN, Nat.le_refl _, fun s => .inl ⟨rfl, rfl⟩⟩, ?_, Nat.le_refl _⟩ rfl (fun i σ' H' h => let ⟨_, _, _, s, _⟩ := h; s) ?_ ?_
  · unfold packB
    exact decide_eq_true (show Keep [] from .nil)
  · rintro i x σ' H6 hx ⟨x5, qs, rfl, s6, eqs, hN6, pk, lE⟩
    obtain ⟨⟨t, o⟩, hz1, rfl⟩ := map_at hx
    have el := (hz _ (List.mem_of_getElem? hz1)).kp (Same.kp s6)
    have li : i < zs.length := (List.getElem?_eq_some_iff.mp hz1).1
    refine ⟨_, rfl, ⟨_, rfl, ⟨_, rfl, ⟨_, rfl, ⟨_, rfl, ?_⟩⟩⟩⟩⟩
    refine go_go h0 h1 (s6 _ _ hD) (s6 _ _ hF) lf hN6 (by omega) el fun H7 s7 => ?_
    refine ⟨_, rfl, ?_⟩
    cases o with
    | none =>
      refine iteT ?_
      have := k H7 (s6.trans s7)
      rw [thB_none (List.mem_map.mpr ⟨_, List.mem_of_getElem? hz1, rfl⟩)] at this
      exact this
    | some q =>
    have eq1 : (zs.take (i + 1)).map (·.2) = (qs ++ [q]).map some := by
      rw [List.take_add_one, hz1, List.map_append, eqs, List.map_append]
      rfl
    have hq : PrOk n q ∧ ∃ a, x = .ref a ∧ H6 a = some (.tup [oB q.1, sx q.2]) := by
      have h2 : El p H6 n x (some q) := el
      cases h2 with
      | pr nt e h => exact ⟨h, _, rfl, e⟩
    obtain ⟨hq, a, rfl, ht⟩ := hq
    have pks := pack_snoc (d := m) (fs := fs) (qs := qs) hq
    rw [pk, Bool.true_and] at pks
    show if (!goesB n m fs (flat n (gT m) qs) q) = true then _ else _
    cases c : goesB n m fs (flat n (gT m) qs) q with
    | false =>
      refine iteT ?_
      have := k H7 (s6.trans s7)
      have e : thB n m fs (some (zs.map (·.2))) = false := by
        by_cases cc : thB n m fs (some (zs.map (·.2))) = true
        · have h1 : ((zs.map (·.2)).all (okO m fs) && decide (Keep (flat n (gT m) ((zs.map (·.2)).filterMap id)))) = true := cc
          rw [Bool.and_eq_true, decide_eq_true_iff] at h1
          have sp : zs.map (·.2) = (qs ++ [q]).map some ++ (zs.drop (i + 1)).map (·.2) := by
            rw [← eq1, ← List.map_append, List.take_append_drop]
          rw [sp, List.all_append, List.filterMap_append] at h1
          rw [Bool.and_eq_true] at h1
          have h2 : packB n m fs (qs ++ [q]) = true := by
            rw [← thB_some]
            show (((qs ++ [q]).map some).all (okO m fs) && decide (Keep (flat n (gT m) (((qs ++ [q]).map some).filterMap id)))) = true
            rw [h1.1.1, Bool.true_and]
            refine decide_eq_true ?_
            have h3 := h1.2
            unfold flat at h3 ⊢
            rw [List.flatMap_append] at h3
            exact keep_pre h3
          rw [pks, c] at h2
          cases h2
        · exact Bool.eq_false_iff.mpr cc
      rw [e] at this
      exact this
    | true =>
      refine iteF ?_
      rw [c] at pks
      have ok : okP m fs q = true := by
        unfold goesB at c
        rw [Bool.and_eq_true] at c
        exact c.1
      have s67 := s6.trans s7
      refine ⟨_, rfl, ⟨_, rfl, ⟨_, rfl, ⟨_, rfl, ?_⟩⟩⟩⟩
      refine no_go h0 h1 (s67 _ _ hD) (s67 _ _ hF) lf (hN6.to s7) (by omega) (s7 _ _ ht) hq (okP_end ok) nDN (fun _ _ => trivial) fun H8 k8 hN8 => ?_
      have lq : (ents n (gT m) q).length ≤ 200 := by
        unfold ents
        rw [List.length_map]
        exact path_len hq h1
      refine ⟨_, qs ++ [q], rfl, fun b o e => k8 b o (nonn nN e) (s67 _ _ e), eq1, ?_, pks, ?_⟩
      · rw [flat_snoc]
        exact hN8
      · rw [flat_snoc, List.length_append]
        omega
  · rintro σ' H6 ⟨x5, qs, rfl, s6, eqs, hN6, pk, lE⟩
    rw [List.length_map, List.take_length] at eqs
    have := k H6 s6
    rw [eqs, thB_some, pk] at this
    exact this
end
open PySem PySem.Spec PyProof.Rows LamX
open L2 hiding pass0
def apB (x y : List Str) : Bool := decide (shr x y = [])
/-- whether the half b lets paths in -/
def nx (f : List Nat → SNd) (t : List Nat) (m : Bool) (b : Nat) : Bool := match (f (t ++ [48])).1, (f (t ++ [49])).1 with
  | some x, some y => if m = apB x y then m else decide (b = 48)
  | _, _ => m
/-- whether a path to g crosses here -/
def crB (f : List Nat → SNd) (t : List Nat) (m : Bool) (g : Str) : Bool := match (f (t ++ [48])).1, (f (t ++ [49])).1 with
  | some x, some y => !decide (m = apB x y) && (decide (g ∈ x) && !decide (g ∈ y))
  | _, _ => false
def mdA (f : List Nat → SNd) : List Nat → Bool → List Nat → Bool
  | _, m, [] => m
  | p, m, b :: r => mdA f (p ++ [b]) (nx f p m b) r
def md (f : List Nat → SNd) (m0 : Bool) (t : List Nat) : Bool := mdA f [] m0 t
def ogA (f : List Nat → SNd) (g : Str) : List Nat → Bool → Option (List Nat) → List Nat → Option (List Nat)
  | _, _, o, [] => o
  | p, m, o, b :: r => ogA f g (p ++ [b]) (nx f p m b) (if crB f p m g = true then some p else o) r
/-- where a path to g that passes here has crossed -/
def og (f : List Nat → SNd) (m0 : Bool) (g : Str) (t : List Nat) : Option (List Nat) := ogA f g [] m0 none t
theorem mdA_snoc (f : List Nat → SNd) : ∀ (r p : List Nat) (m : Bool) (b : Nat), mdA f p m (r ++ [b]) = nx f (p ++ r) (mdA f p m r) b
  | [], p, m, b => by rw [List.append_nil]; rfl
  | c :: r, p, m, b => by
    show mdA f (p ++ [c]) (nx f p m c) (r ++ [b]) = nx f (p ++ c :: r) (mdA f (p ++ [c]) (nx f p m c) r) b
    rw [mdA_snoc f r, List.append_assoc]
    rfl
theorem md_snoc (f : List Nat → SNd) (m0 : Bool) (t : List Nat) (b : Nat) : md f m0 (t ++ [b]) = nx f t (md f m0 t) b := by
  unfold md
  rw [mdA_snoc, List.nil_append]
theorem ogA_snoc (f : List Nat → SNd) (g : Str) : ∀ (r p : List Nat) (m : Bool) (o : Option (List Nat)) (b : Nat), ogA f g p m o (r ++ [b]) = if crB f (p ++ r) (mdA f p m r) g = true then some (p ++ r) else ogA f g p m o r
  | [], p, m, o, b => by rw [List.append_nil]; rfl
  | c :: r, p, m, o, b => by
    show ogA f g (p ++ [c]) (nx f p m c) (if crB f p m g = true then some p else o) (r ++ [b]) = _
    rw [ogA_snoc f g r, List.append_assoc]
    rfl
theorem og_snoc (f : List Nat → SNd) (m0 : Bool) (g : Str) (t : List Nat) (b : Nat) : og f m0 g (t ++ [b]) = if crB f t (md f m0 t) g = true then some t else og f m0 g t := by
  unfold og
  rw [ogA_snoc, List.nil_append]
  rfl
/-- a path to g may be here -/
def Cn (f : List Nat → SNd) (m0 : Bool) (t : List Nat) (g : Str) : Prop := ∃ x, (f t).1 = some x ∧ (g ∈ x ↔ md f m0 t = true)
section
variable {f : List Nat → SNd} {m0 : Bool} {t : List Nat} {g : Str} {n : Nat}
theorem st_none0 (h : f t = both2 (f (t ++ [48])) (f (t ++ [49]))) (c : Cn f m0 t g) (e : (f (t ++ [48])).1 = none) : Cn f m0 (t ++ [49]) g ∧ og f m0 g (t ++ [49]) = og f m0 g t ∧ md f m0 (t ++ [49]) = md f m0 t := by
  have hm : md f m0 (t ++ [49]) = md f m0 t := by rw [md_snoc]; unfold nx; rw [e]
  have ho : og f m0 g (t ++ [49]) = og f m0 g t := by rw [og_snoc]; unfold crB; rw [e]; rfl
  refine ⟨?_, ho, hm⟩
  obtain ⟨x, ex, hx⟩ := c
  refine ⟨x, ?_, by rw [hm]; exact hx⟩
  rw [h] at ex
  unfold both2 at ex
  rw [e] at ex
  exact ex
theorem st_none1 (h : f t = both2 (f (t ++ [48])) (f (t ++ [49]))) (c : Cn f m0 t g) (e0 : (f (t ++ [48])).1 ≠ none) (e : (f (t ++ [49])).1 = none) : Cn f m0 (t ++ [48]) g ∧ og f m0 g (t ++ [48]) = og f m0 g t ∧ md f m0 (t ++ [48]) = md f m0 t := by
  cases e1 : (f (t ++ [48])).1 with
  | none => exact absurd e1 e0
  | some y =>
  have hm : md f m0 (t ++ [48]) = md f m0 t := by rw [md_snoc]; unfold nx; rw [e1, e]
  have ho : og f m0 g (t ++ [48]) = og f m0 g t := by rw [og_snoc]; unfold crB; rw [e1, e]; rfl
  refine ⟨?_, ho, hm⟩
  obtain ⟨x, ex, hx⟩ := c
  refine ⟨y, e1, ?_⟩
  rw [hm]
  rw [h] at ex
  unfold both2 at ex
  rw [e1, e] at ex
  cases ex
  exact hx
theorem st_half {x y : List Str} (h : f t = both2 (f (t ++ [48])) (f (t ++ [49]))) (c : Cn f m0 t g) (e0 : (f (t ++ [48])).1 = some x) (e1 : (f (t ++ [49])).1 = some y) (b : Nat)
    (hb : b = if decide (g ∈ if md f m0 t = true then x else y) = true then 48 else 49) : Cn f m0 (t ++ [b]) g ∧ og f m0 g (t ++ [b]) = og f m0 g t ∧ md f m0 (t ++ [b]) = md f m0 t := by
  obtain ⟨z, ez, hz⟩ := c
  have ez2 : z = if shr x y = [] then tsort (x ++ y) else shr x y := by
    rw [h] at ez
    generalize hA : f (t ++ [48]) = A at ez e0
    generalize hB : f (t ++ [49]) = B at ez e1
    obtain ⟨a, i⟩ := A
    obtain ⟨b', j⟩ := B
    cases e0
    cases e1
    rw [both_ss] at ez
    split at ez
    · rw [if_pos (by assumption)]; exact (Option.some.inj ez).symm
    · rw [if_neg (by assumption)]; exact (Option.some.inj ez).symm
  have mem : g ∈ z ↔ if shr x y = [] then g ∈ x ∨ g ∈ y else g ∈ x ∧ g ∈ y := by
    rw [ez2]
    split
    · rw [mem_tsort, List.mem_append]
    · rw [mem_shr]
  rw [mem] at hz
  have nxe : ∀ b, md f m0 (t ++ [b]) = if md f m0 t = apB x y then md f m0 t else decide (b = 48) := fun b => by
    rw [md_snoc]
    unfold nx
    rw [e0, e1]
  have cre : crB f t (md f m0 t) g = (!decide (md f m0 t = apB x y) && (decide (g ∈ x) && !decide (g ∈ y))) := by
    unfold crB
    rw [e0, e1]
  have key : crB f t (md f m0 t) g = false ∧ md f m0 (t ++ [b]) = md f m0 t ∧ (g ∈ (if b = 48 then x else y) ↔ md f m0 t = true) ∧ (b = 48 ∨ b = 49) := by
    rw [cre, nxe, hb]
    unfold apB
    have sn := @shr_nil x y
    by_cases ap : shr x y = []
    · have sn := sn ap g
      rw [if_pos ap] at hz
      cases hm : md f m0 t with
      | true =>
        rw [hm] at hz
        by_cases gx : g ∈ x
        · simp [ap, gx]
        · have gy : g ∈ y := (hz.mpr rfl).resolve_left gx
          simp [ap, gx, gy]
      | false =>
        rw [hm] at hz
        have gx : ¬ g ∈ x := fun q => by have := hz.mp (.inl q); cases this
        have gy : ¬ g ∈ y := fun q => by have := hz.mp (.inr q); cases this
        simp [ap, gx, gy]
    · rw [if_neg ap] at hz
      cases hm : md f m0 t with
      | true =>
        rw [hm] at hz
        obtain ⟨gx, gy⟩ := hz.mpr rfl
        simp [ap, gx, gy]
      | false =>
        rw [hm] at hz
        by_cases gy : g ∈ y
        · have gx : ¬ g ∈ x := fun q => by have := hz.mp ⟨q, gy⟩; cases this
          simp [ap, gx, gy]
        · simp [ap, gy]
  obtain ⟨k1, k2, k3, k4⟩ := key
  refine ⟨?_, by rw [og_snoc, k1]; rfl, k2⟩
  unfold Cn
  rw [k2]
  rcases k4 with rfl | rfl
  · exact ⟨x, e0, k3⟩
  · exact ⟨y, e1, k3⟩
theorem st_zero {v : Str} (c : Cn f m0 t g) (e : (f t).1 = some [v]) (e0 : (f (t ++ [48])).1 = some [v]) (e1 : (f (t ++ [49])).1 = some [v]) : Cn f m0 (t ++ [48]) g ∧ og f m0 g (t ++ [48]) = og f m0 g t ∧ md f m0 (t ++ [48]) = md f m0 t := by
  obtain ⟨x, ex, hx⟩ := c
  rw [e] at ex
  cases ex
  have na : apB [v] [v] = false := by
    unfold apB
    rw [decide_eq_false]
    intro q
    exact shr_nil q v ⟨List.mem_singleton.mpr rfl, List.mem_singleton.mpr rfl⟩
  have hm : md f m0 (t ++ [48]) = md f m0 t := by
    rw [md_snoc]
    unfold nx
    rw [e0, e1]
    dsimp only
    rw [na]
    cases md f m0 t <;> rfl
  have ho : og f m0 g (t ++ [48]) = og f m0 g t := by
    rw [og_snoc]
    unfold crB
    rw [e0, e1]
    dsimp only
    refine if_neg fun z => ?_
    have z : (!decide (md f m0 t = apB [v] [v]) && (decide (g ∈ [v]) && !decide (g ∈ [v]))) = true := z
    rw [Bool.and_eq_true, Bool.and_eq_true] at z
    have z2 := z.2.1
    have z3 := z.2.2
    rw [z2] at z3
    cases z3
  exact ⟨⟨_, e0, by rw [hm]; exact hx⟩, ho, hm⟩
/-- a path to g goes down from t to z -/
structure Way (f : List Nat → SNd) (m0 : Bool) (g : Str) (t z : List Nat) : Prop where
  pre : t <+: z
  all : ∀ s, t <+: s → s <+: z → Cn f m0 s g ∧ og f m0 g s = og f m0 g t ∧ md f m0 s = md f m0 t
theorem Way.refl (c : Cn f m0 t g) : Way f m0 g t t := ⟨List.prefix_refl _, fun s h1 h2 => by
  have := h1.eq_of_length (Nat.le_antisymm h1.length_le h2.length_le)
  subst this
  exact ⟨c, rfl, rfl⟩⟩
theorem pre_snoc {s z : List Nat} {b : Nat} (h : s <+: z ++ [b]) : s <+: z ∨ s = z ++ [b] := by
  rcases List.prefix_concat_iff.mp h with h | h
  · exact .inr h
  · exact .inl h
theorem Way.snoc {u : List Nat} {b : Nat} (w : Way f m0 g t u) (c : Cn f m0 (u ++ [b]) g ∧ og f m0 g (u ++ [b]) = og f m0 g u ∧ md f m0 (u ++ [b]) = md f m0 u) : Way f m0 g t (u ++ [b]) := ⟨w.pre.trans (List.prefix_append _ _), fun s h1 h2 => by
  rcases pre_snoc h2 with h | rfl
  · exact w.all s h1 h
  · have := w.all u w.pre (List.prefix_refl _)
    exact ⟨c.1, c.2.1.trans this.2.1, c.2.2.trans this.2.2⟩⟩
theorem Way.end {z : List Nat} (w : Way f m0 g t z) : Cn f m0 z g ∧ og f m0 g z = og f m0 g t ∧ md f m0 z = md f m0 t := w.all z w.pre (List.prefix_refl _)
theorem Way.trans {u z : List Nat} (w : Way f m0 g t u) (v : Way f m0 g u z) : Way f m0 g t z := ⟨w.pre.trans v.pre, fun s h1 h2 => by
  rcases List.prefix_or_prefix_of_prefix h2 v.pre with h | h
  · exact w.all s h1 h
  · have a := v.all s h h2
    have b := w.end
    exact ⟨a.1, a.2.1.trans b.2.1, a.2.2.trans b.2.2⟩⟩
end
/-- where a pair crosses (none: it comes from outside), and its goal -/
abbrev Og := Option (List Nat) × Str
/-- a pair of the pack -/
structure IsP (n : Nat) (m : List (Str × Str)) (fs : List (List Nat)) (m0 : Bool) (o : Og) (q : Pr) : Prop where
  ok : PrOk n q
  used : okP m fs q = true
  goal : gT m q.2 = o.2
  dn : ∀ s, dnP q s → md (SN n m fs) m0 s = true ∧ og (SN n m fs) m0 o.2 s = o.1
  up : ∀ s, upP q s → md (SN n m fs) m0 s = false ∧ og (SN n m fs) m0 o.2 s = o.1
theorem ways_two {n : Nat} {q : Pr} (hq : PrOk n q) {s w : Str} (h : (s, w) ∈ pathOf (oB q.1) (SX.S q.2) n) : ∃ t, s = SX.S t ∧ (w = "down" ∧ dnP q t ∨ w = "up" ∧ upP q t) := by
  have e : s = SX.S s.cps.toList := (S_cp s).symm
  refine ⟨s.cps.toList, e, ?_⟩
  rw [e] at h
  have hw : w = "down" ∨ w = "up" := by
    obtain ⟨b, z⟩ := q
    cases b with
    | none =>
      have h : (_, w) ∈ pathN (SX.S z) (n + 1) := h
      unfold pathN at h
      obtain ⟨i, _, e⟩ := List.mem_map.mp h
      exact .inl (Prod.mk.inj e).2.symm
    | some y =>
      have h : (_, w) ∈ pathP (SX.S y) (SX.S z) n := h
      unfold pathP pathU pathD at h
      rcases List.mem_append.mp h with h | h
      · obtain ⟨i, _, e⟩ := List.mem_map.mp h
        exact .inr (Prod.mk.inj e).2.symm
      · obtain ⟨i, _, e⟩ := List.mem_map.mp h
        exact .inl (Prod.mk.inj e).2.symm
  rcases hw with rfl | rfl
  · exact .inl ⟨rfl, (path_dn hq _).mp h⟩
  · exact .inr ⟨rfl, (path_up hq _).mp h⟩
theorem off_of {n : Nat} {m : List (Str × Str)} {fs : List (List Nat)} {m0 : Bool} {o o' : Og} {q r : Pr} (h : IsP n m fs m0 o q) (k : IsP n m fs m0 o' r) (ne : o ≠ o') : Off n (gT m) q r := fun e he x hx => by
  obtain ⟨s, w, g⟩ := e
  obtain ⟨s', w', g'⟩ := x
  obtain ⟨h1, rfl⟩ := (mem_ents s w g).mp he
  obtain ⟨h2, rfl⟩ := (mem_ents s' w' g').mp hx
  refine RB_iff.mpr fun es => ?_
  have es : s = s' := es
  subst es
  obtain ⟨t, rfl, a⟩ := ways_two h.ok h1
  obtain ⟨t', et, b⟩ := ways_two k.ok h2
  have et := S_inj et
  subst et
  have same : ∀ g, og (SN n m fs) m0 g t = o.1 → og (SN n m fs) m0 g t = o'.1 → o.2 = g → o'.2 = g → False := fun g x y z w => ne (Prod.ext (x.symm.trans y) (z.trans w.symm))
  rcases a with ⟨rfl, a⟩ | ⟨rfl, a⟩ <;> rcases b with ⟨rfl, b⟩ | ⟨rfl, b⟩
  · have x := h.dn t a
    have y := k.dn t b
    refine ⟨rfl, fun c => ?_⟩
    have c : gT m q.2 = gT m r.2 := c
    rw [h.goal, k.goal] at c
    exact same o.2 x.2 (c ▸ y.2) rfl c.symm
  · have x := h.dn t a
    have y := k.up t b
    rw [x.1] at y
    cases y.1
  · have x := h.up t a
    have y := k.dn t b
    rw [x.1] at y
    cases y.1
  · have x := h.up t a
    have y := k.up t b
    refine ⟨rfl, fun c => ?_⟩
    have c : gT m q.2 = gT m r.2 := c
    rw [h.goal, k.goal] at c
    exact same o.2 x.2 (c ▸ y.2) rfl c.symm
theorem pack_is {n : Nat} {m : List (Str × Str)} {fs : List (List Nat)} {m0 : Bool} {zs : List (Og × Pr)} (nd : (zs.map (·.1)).Nodup) (h : ∀ z ∈ zs, IsP n m fs m0 z.1 z.2) : packB n m fs (zs.map (·.2)) = true := by
  unfold packB
  rw [Bool.and_eq_true, List.all_eq_true, decide_eq_true_iff, keep_flat]
  · refine ⟨fun q hq => ?_, ?_⟩
    · obtain ⟨z, hz, rfl⟩ := List.mem_map.mp hq
      exact (h z hz).used
    · rw [List.pairwise_map]
      unfold List.Nodup at nd
      rw [List.pairwise_map] at nd
      exact nd.imp_of_mem fun {a b} ha hb ne => off_of (h a ha) (h b hb) ne
  · intro q hq
    obtain ⟨z, hz, rfl⟩ := List.mem_map.mp hq
    exact (h z hz).ok
open PySem PySem.Spec PyProof.Rows LamX
open L2 hiding pass0
def crL (f : List Nat → SNd) (m0 : Bool) (t : List Nat) : List Og := match (f (t ++ [48])).1, (f (t ++ [49])).1 with
  | some x, some y => if md f m0 t = apB x y then [] else (x.filter fun g => !decide (g ∈ y)).map fun g => (some t, g)
  | _, _ => []
/-- all crossings within -/
def pk (f : List Nat → SNd) (m0 : Bool) : Nat → List Nat → List Og
  | 0, _ => []
  | k + 1, t => crL f m0 t ++ (pk f m0 k (t ++ [48]) ++ pk f m0 k (t ++ [49]))
theorem mem_crL {f : List Nat → SNd} {m0 : Bool} {t : List Nat} {o : Og} (h : o ∈ crL f m0 t) : o.1 = some t ∧ crB f t (md f m0 t) o.2 = true := by
  unfold crL at h
  unfold crB
  cases e0 : (f (t ++ [48])).1 with
  | none => rw [e0] at h; cases h
  | some x =>
    cases e1 : (f (t ++ [49])).1 with
    | none => rw [e0, e1] at h; cases h
    | some y =>
      rw [e0, e1] at h
      dsimp only at h ⊢
      by_cases c : md f m0 t = apB x y
      · rw [if_pos c] at h
        cases h
      · rw [if_neg c] at h
        obtain ⟨g, hg, rfl⟩ := List.mem_map.mp h
        obtain ⟨h1, h2⟩ := List.mem_filter.mp hg
        exact ⟨rfl, by rw [decide_eq_false c, decide_eq_true h1, h2]; rfl⟩
theorem crL_nd {f : List Nat → SNd} {m0 : Bool} {t : List Nat} (nd : ∀ t x, (f t).1 = some x → x.Nodup) : (crL f m0 t).Nodup := by
  unfold crL
  cases e0 : (f (t ++ [48])).1 with
  | none => exact .nil
  | some x =>
    cases e1 : (f (t ++ [49])).1 with
    | none => exact .nil
    | some y =>
      dsimp only
      split
      · exact .nil
      · exact nd_map ((nd _ _ e0).filter _) fun a _ b _ h => (Prod.mk.inj h).2
theorem pk_mem {f : List Nat → SNd} {m0 : Bool} : ∀ {k : Nat} {t : List Nat} {o : Og}, o ∈ pk f m0 k t → ∃ u, o.1 = some u ∧ t <+: u ∧ u.length < t.length + k ∧ crB f u (md f m0 u) o.2 = true
  | 0, t, o, h => by cases h
  | k + 1, t, o, h => by
    rcases List.mem_append.mp h with h | h
    · obtain ⟨a, b⟩ := mem_crL h
      exact ⟨t, a, List.prefix_refl _, by omega, b⟩
    · rcases List.mem_append.mp h with h | h
      · obtain ⟨u, a, b, c, d⟩ := pk_mem h
        rw [List.length_append, List.length_singleton] at c
        exact ⟨u, a, (List.prefix_append _ _).trans b, by omega, d⟩
      · obtain ⟨u, a, b, c, d⟩ := pk_mem h
        rw [List.length_append, List.length_singleton] at c
        exact ⟨u, a, (List.prefix_append _ _).trans b, by omega, d⟩
theorem pre_both {t u : List Nat} {a b : Nat} (h : t ++ [a] <+: u) (k : t ++ [b] <+: u) : a = b := by
  rcases List.prefix_or_prefix_of_prefix h k with q | q
  · have := q.eq_of_length (by simp)
    exact (snoc_inj this).2
  · have := q.eq_of_length (by simp)
    exact (snoc_inj this).2.symm
theorem pk_nd {f : List Nat → SNd} {m0 : Bool} (nd : ∀ t x, (f t).1 = some x → x.Nodup) : ∀ (k : Nat) (t : List Nat), (pk f m0 k t).Nodup
  | 0, _ => .nil
  | k + 1, t => by
    show (crL f m0 t ++ (pk f m0 k (t ++ [48]) ++ pk f m0 k (t ++ [49]))).Nodup
    rw [List.nodup_append, List.nodup_append]
    refine ⟨crL_nd nd, ⟨pk_nd nd k _, pk_nd nd k _, fun a ha b hb e => ?_⟩, fun a ha b hb e => ?_⟩
    · subst e
      obtain ⟨u, h1, h2, _⟩ := pk_mem ha
      obtain ⟨u', h1', h2', _⟩ := pk_mem hb
      rw [h1] at h1'
      cases h1'
      have := pre_both h2 h2'
      omega
    · subst e
      obtain ⟨h1, _⟩ := mem_crL ha
      rcases List.mem_append.mp hb with hb | hb
      all_goals
        obtain ⟨u', h1', h2', _⟩ := pk_mem hb
        rw [h1] at h1'
        cases h1'
        have := h2'.length_le
        rw [List.length_append, List.length_singleton] at this
        omega
theorem both_none {a b : SNd} : (both2 a b).1 = none ↔ a.1 = none ∧ b.1 = none := by
  obtain ⟨a, i⟩ := a
  obtain ⟨b, j⟩ := b
  cases a with
  | none => rw [both_nl]; simp
  | some x =>
    cases b with
    | none => rw [both_nr]; simp
    | some y =>
      rw [both_ss]
      split <;> simp
section
variable {n : Nat} {m : List (Str × Str)} {fs : List (List Nat)} {m0 : Bool}
theorem pk_none : ∀ {k : Nat} {t : List Nat}, t.length + k = n → (SN n m fs t).1 = none → pk (SN n m fs) m0 k t = [] ∧ (SN n m fs t).2 = 0
  | 0, t, h, e => ⟨rfl, by rw [SN_end (by omega)]⟩
  | k + 1, t, h, e => by
    have st := SN_in (m := m) (fs := fs) (show t.length < n by omega)
    rw [st] at e ⊢
    obtain ⟨e0, e1⟩ := both_none.mp e
    have l0 : (t ++ [48]).length + k = n := by rw [List.length_append, List.length_singleton]; omega
    have l1 : (t ++ [49]).length + k = n := by rw [List.length_append, List.length_singleton]; omega
    obtain ⟨p0, q0⟩ := pk_none (k := k) l0 e0
    obtain ⟨p1, q1⟩ := pk_none (k := k) l1 e1
    refine ⟨?_, ?_⟩
    · show crL _ _ _ ++ (pk _ _ k _ ++ pk _ _ k _) = []
      rw [p0, p1]
      unfold crL
      rw [e0]
      rfl
    · unfold both2
      rw [e0]
      show _ + _ = 0
      rw [q0, q1]
theorem filt_len2 (x y : List Str) : (x.filter fun g => !decide (g ∈ y)).length + (shr x y).length = x.length := by
  unfold shr
  induction x with
  | nil => rfl
  | cons a x ih =>
    by_cases c : a ∈ y
    · rw [List.filter_cons_of_neg (by simp [c]), List.filter_cons_of_pos (by simp [c]), List.length_cons, List.length_cons]
      omega
    · rw [List.filter_cons_of_pos (by simp [c]), List.filter_cons_of_neg (by simp [c]), List.length_cons, List.length_cons]
      omega
theorem pk_len : ∀ {k : Nat} {t : List Nat} {z : List Str}, t.length + k = n → (SN n m fs t).1 = some z → (pk (SN n m fs) m0 k t).length + (if md (SN n m fs) m0 t = true then z.length else 1) = (SN n m fs t).2 + 1
  | 0, t, z, h, e => by
    rw [SN_end (by omega)] at e ⊢
    dsimp only at e
    cases c : lab m fs t with
    | none => rw [c] at e; cases e
    | some g =>
      rw [c] at e
      cases e
      show 0 + _ = 0 + 1
      split <;> rfl
  | k + 1, t, z, h, e => by
    have st := SN_in (m := m) (fs := fs) (show t.length < n by omega)
    have l0 : (t ++ [48]).length + k = n := by rw [List.length_append, List.length_singleton]; omega
    have l1 : (t ++ [49]).length + k = n := by rw [List.length_append, List.length_singleton]; omega
    have i0 := fun z => pk_len (k := k) (z := z) l0
    have i1 := fun z => pk_len (k := k) (z := z) l1
    have n0 := pk_none (m := m) (fs := fs) (m0 := m0) (k := k) l0
    have n1 := pk_none (m := m) (fs := fs) (m0 := m0) (k := k) l1
    rw [md_snoc] at i0 i1
    unfold nx at i0 i1
    rw [st] at e ⊢
    show (crL _ _ _ ++ (pk _ _ k _ ++ pk _ _ k _)).length + _ = _
    rw [List.length_append, List.length_append]
    unfold crL
    generalize SN n m fs (t ++ [48]) = A at e i0 i1 n0 ⊢
    generalize SN n m fs (t ++ [49]) = B at e i0 i1 n1 ⊢
    obtain ⟨a, i⟩ := A
    obtain ⟨b, j⟩ := B
    cases a with
    | none =>
      obtain ⟨p, q⟩ := n0 rfl
      have q : i = 0 := q
      rw [both_nl] at e ⊢
      have e : b = some z := e
      subst e
      have := i1 z rfl
      rw [p]
      dsimp only at this ⊢
      simp only [List.length_nil]
      omega
    | some x =>
      cases b with
      | none =>
        obtain ⟨p, q⟩ := n1 rfl
        have q : j = 0 := q
        rw [both_nr] at e ⊢
        have e : some x = some z := e
        cases e
        have := i0 z rfl
        rw [p]
        dsimp only at this ⊢
        simp only [List.length_nil]
        omega
      | some y =>
        have h0 := i0 x rfl
        have h1 := i1 y rfl
        have fl := filt_len2 x y
        rw [both_ss] at e ⊢
        unfold apB at h0 h1 ⊢
        dsimp only at h0 h1 ⊢
        by_cases ap : shr x y = []
        · rw [if_pos ap] at e ⊢
          have e : tsort (x ++ y) = z := Option.some.inj e
          have lz : z.length = x.length + y.length := by rw [← e, (tsort_perm _).length_eq, List.length_append]
          simp only [decide_eq_true ap] at h0 h1 ⊢
          rw [ap, List.length_nil] at fl
          cases hm : md (SN n m fs) m0 t with
          | true => rw [hm] at h0 h1; simp at h0 h1 ⊢; omega
          | false =>
            rw [hm] at h0 h1
            have e1 : (if false = true then ([] : List Og) else (x.filter fun g => !decide (g ∈ y)).map fun g => (some t, g)).length = x.length := by
              rw [if_neg (by simp), List.length_map]
              exact fl
            rw [e1]
            simp at h0 h1 ⊢
            omega
        · rw [if_neg ap] at e ⊢
          have e : shr x y = z := Option.some.inj e
          subst e
          simp only [decide_eq_false ap] at h0 h1 ⊢
          cases hm : md (SN n m fs) m0 t with
          | true => rw [hm] at h0 h1; simp at h0 h1 fl ⊢; omega
          | false => rw [hm] at h0 h1; simp at h0 h1 ⊢; omega
end
theorem pk_even {f : List Nat → SNd} {m0 : Bool} {v : Str} : ∀ {k : Nat} {t : List Nat}, (∀ y, M.BL y → y.length ≤ k → (f (t ++ y)).1 = some [v]) → pk f m0 k t = []
  | 0, _, _ => rfl
  | k + 1, t, h => by
    have b0 : M.BL [48] := fun c hc => .inl (by simpa using hc)
    have b1 : M.BL [49] := fun c hc => .inr (by simpa using hc)
    have app : ∀ {a b : List Nat}, M.BL a → M.BL b → M.BL (a ++ b) := fun ha hb c hc => (List.mem_append.mp hc).elim (ha c) (hb c)
    show crL f m0 t ++ (pk f m0 k (t ++ [48]) ++ pk f m0 k (t ++ [49])) = []
    rw [pk_even (k := k) (t := t ++ [48]) fun y hy hl => by rw [List.append_assoc]; exact h _ (app b0 hy) (by rw [List.length_append, List.length_singleton]; omega),
      pk_even (k := k) (t := t ++ [49]) fun y hy hl => by rw [List.append_assoc]; exact h _ (app b1 hy) (by rw [List.length_append, List.length_singleton]; omega)]
    unfold crL
    rw [h [48] b0 (by show 1 ≤ _; omega), h [49] b1 (by show 1 ≤ _; omega)]
    dsimp only
    split
    · rfl
    · rw [List.filter_cons_of_neg (by simp)]
      rfl
/-- an address where a path to g may end, or begin -/
theorem cn_end {n : Nat} {m : List (Str × Str)} {fs : List (List Nat)} {m0 : Bool} {z : List Nat} {g : Str} (h : Cn (SN n m fs) m0 z g) (l : z.length = n) : M.frB fs z = false ∧ (g = gT m z ↔ md (SN n m fs) m0 z = true) := by
  obtain ⟨x, ex, hx⟩ := h
  rw [SN_end l] at ex
  unfold lab at ex
  cases c : M.frB fs z with
  | true => rw [c] at ex; cases ex
  | false =>
    rw [c] at ex
    cases ex
    refine ⟨rfl, ?_⟩
    rw [← hx, List.mem_singleton]
    exact Iff.rfl
section
variable {n : Nat} {m : List (Str × Str)} {fs : List (List Nat)} {m0 : Bool} {t b e : List Nat} {g : Str}
theorem isP_cross (h : crB (SN n m fs) t (md (SN n m fs) m0 t) g = true) (we : Way (SN n m fs) m0 g (t ++ [48]) e) (wb : Way (SN n m fs) m0 g (t ++ [49]) b) (eb : M.BL e) (el : e.length = n) (bb : M.BL b) (bl : b.length = n) : IsP n m fs m0 (some t, g) (some b, e) := by
  have o0 : og (SN n m fs) m0 g (t ++ [48]) = some t := by rw [og_snoc, if_pos h]
  have o1 : og (SN n m fs) m0 g (t ++ [49]) = some t := by rw [og_snoc, if_pos h]
  have mm : md (SN n m fs) m0 (t ++ [48]) = true ∧ md (SN n m fs) m0 (t ++ [49]) = false := by
    rw [md_snoc, md_snoc]
    unfold crB at h
    unfold nx
    cases e0 : (SN n m fs (t ++ [48])).1 with
    | none => rw [e0] at h; cases h
    | some x =>
      cases e1 : (SN n m fs (t ++ [49])).1 with
      | none => rw [e0, e1] at h; cases h
      | some y =>
        rw [e0, e1] at h
        dsimp only at h ⊢
        rw [Bool.and_eq_true, Bool.not_eq_true', decide_eq_false_iff_not] at h
        rw [if_neg h.1, if_neg h.1]
        exact ⟨rfl, rfl⟩
  have ce := we.end
  have cb := wb.end
  obtain ⟨fe, ge⟩ := cn_end ce.1 el
  obtain ⟨fb, gb⟩ := cn_end cb.1 bl
  rw [ce.2.2, mm.1] at ge
  rw [cb.2.2, mm.2] at gb
  have ge := ge.mpr rfl
  have gb : g ≠ gT m b := fun q => by have := gb.mp q; cases this
  have pe : t <+: e := (List.prefix_append _ _).trans we.pre
  have pb : t <+: b := (List.prefix_append _ _).trans wb.pre
  refine ⟨⟨⟨eb, el⟩, fun z hz => by cases hz; exact ⟨bb, bl⟩⟩, ?_, ge.symm, fun s hs => ?_, fun s hs => ?_⟩
  · unfold okP
    dsimp only
    rw [fe, fb, decide_eq_false (fun q => gb (ge.trans q.symm))]
    rfl
  · obtain ⟨h1, h2⟩ := hs
    have h2 := h2 b rfl
    have ts : t ++ [48] <+: s := by
      rcases List.prefix_or_prefix_of_prefix h1 we.pre with q | q
      · rcases pre_snoc q with q | rfl
        · exact absurd (q.trans pb) h2
        · exact List.prefix_refl _
      · exact q
    have := we.all s ts h1
    exact ⟨this.2.2.trans mm.1, this.2.1.trans o0⟩
  · obtain ⟨z, hz, h1, h2⟩ := hs
    cases hz
    have ts : t ++ [49] <+: s := by
      rcases List.prefix_or_prefix_of_prefix h1 wb.pre with q | q
      · rcases pre_snoc q with q | rfl
        · exact absurd (q.trans pe) h2
        · exact List.prefix_refl _
      · exact q
    have := wb.all s ts h1
    exact ⟨this.2.2.trans mm.2, this.2.1.trans o1⟩
theorem isP_out (we : Way (SN n m fs) true g [] e) (eb : M.BL e) (el : e.length = n) (ng : g ≠ "hole") : IsP n m fs true (none, g) (none, e) := by
  have ce := we.end
  obtain ⟨fe, ge⟩ := cn_end ce.1 el
  rw [ce.2.2] at ge
  have ge := ge.mpr rfl
  refine ⟨⟨⟨eb, el⟩, fun z hz => nomatch hz⟩, ?_, ge.symm, fun s hs => ?_, fun s hs => ?_⟩
  · unfold okP
    dsimp only
    rw [fe, decide_eq_false (fun q => ng (ge.trans q))]
    rfl
  · have := we.all s List.nil_prefix hs.1
    exact ⟨this.2.2, this.2.1⟩
  · obtain ⟨z, hz, _⟩ := hs
    cases hz
end
open PySem PySem.Spec PyProof.Rows LamX
open L2 hiding pass0
abbrev s_is_even : Stmt := top 55
theorem sc_is_even : FnScope ["known", "stretch"] ["known", "stretch"] (defScope s_is_even) := ⟨rfl, rfl, rfl, by decide +kernel, rfl, by decide +kernel, by decide +kernel⟩
theorem bp_is_even : BndP "_is_even" s_is_even ["known", "stretch"] := fun _ _ _ _ _ _ us h => match us, h with | [_, _], _ => rfl
abbrev s_fork : Stmt := top 56
theorem sc_fork : FnScope ["known", "stretch", "zero", "one"] ["known", "stretch"] (defScope s_fork) := ⟨rfl, rfl, rfl, by decide +kernel, rfl, by decide +kernel, by decide +kernel⟩
theorem bp_fork : BndP "_fork" s_fork ["known", "stretch"] := fun _ _ _ _ _ _ us h => match us, h with | [_, _], _ => rfl
abbrev s_are_apart : Stmt := top 57
theorem sc_are_apart : FnScope ["known", "zero", "one", "goal"] ["known", "zero", "one"] (defScope s_are_apart) := ⟨rfl, rfl, rfl, by decide +kernel, rfl, by decide +kernel, by decide +kernel⟩
theorem bp_are_apart : BndP "_are_apart" s_are_apart ["known", "zero", "one"] := fun _ _ _ _ _ _ us h => match us, h with | [_, _, _], _ => rfl
/-- what sets_and_needs tells -/
structure Kno (H : Hp) (D n : Nat) (m : List (Str × Str)) (fs hs : List (List Nat)) (ad : List Nat → Addr) : Prop where
  n1 : n ≤ 100
  ok : TabOk (n : Int) m
  ff : Fits n fs
  lf : fs.length ≤ 20
  ho : Hold (kz m ++ fs) hs
  eD : H D = some (.dK (fd (kys hs) fun t => .ref (ad t)))
  ev : ∀ t ∈ kys hs, SnA (.str "all") H (ad t) (SN n m fs t)
section
variable {H H' : Hp} {D n : Nat} {m : List (Str × Str)} {fs hs : List (List Nat)} {ad : List Nat → Addr}
theorem Kno.to (h : Kno H D n m fs hs ad) (s : Same H H') : Kno H' D n m fs hs ad := ⟨h.n1, h.ok, h.ff, h.lf, h.ho, s _ _ h.eD, fun t ht => (h.ev t ht).to s⟩
theorem Kno.ts (h : Kno H D n m fs hs ad) : ∀ t ∈ kz m ++ fs, M.BL t ∧ t.length ≤ n := fun t ht => by
  rcases List.mem_append.mp ht with q | q
  · exact kz_fits h.ok.rows t q
  · exact h.ff t q
theorem Kno.fit (h : Kno H D n m fs hs ad) {t : List Nat} (ht : t ∈ kys hs) : M.BL t ∧ t.length ≤ n := kys_fit h.ho h.ts ht
theorem Kno.lt (h : Kno H D n m fs hs ad) {t : List Nat} (ht : t ∈ hs) : t.length < n := hold_lt h.ho h.ts ht
theorem kys_half {t : List Nat} : t ++ [48] ∈ kys hs ↔ t ∈ hs := by
  rw [kys_mem]
  constructor
  · rintro (h | ⟨s, hs', h⟩)
    · exact absurd h (by simp)
    · rcases h with h | h
      · exact (snoc_inj h).1 ▸ hs'
      · exact absurd (snoc_inj h).2 (by decide)
  · exact fun h => .inr ⟨t, h, .inl rfl⟩
theorem kys_one {t : List Nat} (h : t ∈ hs) : t ++ [49] ∈ kys hs := kys_mem.mpr (.inr ⟨t, h, .inr rfl⟩)
theorem Kno.step (h : Kno H D n m fs hs ad) {t : List Nat} (ht : t ∈ hs) : SN n m fs t = both2 (SN n m fs (t ++ [48])) (SN n m fs (t ++ [49])) := SN_in (h.lt ht)
/-- within a stretch that is known whole -/
theorem Kno.still (h : Kno H D n m fs hs ad) {t : List Nat} (ht : t ∉ hs) : (∃ o : Option Str, (SN n m fs t).1 = o.map fun g => [g]) ∧ ∀ y, (SN n m fs (t ++ y)).1 = (SN n m fs t).1 := by
  have rk := h.ok.rows
  have hx : ∀ q, t <+: q → q ≠ t → q ∉ kz m ++ fs := fun q hp hn z => ht ((h.ho.mem t).mpr ⟨q, z, hp, fun e => hn e.symm⟩)
  have hy : ∀ y, t ++ y ∉ hs := fun y z => ht (h.ho.up z (List.prefix_append _ _))
  have e1 : ∀ t, t ∉ hs → (SN n m fs t).1 = (if gev m fs t = "all" then none else some [gev m fs t]) := fun t ht => by
    rw [SN_leaf rk h.ho ht]
    rfl
  refine ⟨?_, fun y => ?_⟩
  · rw [e1 t ht]
    split
    · exact ⟨none, rfl⟩
    · exact ⟨some _, rfl⟩
  · obtain ⟨f1, f2⟩ := frozen_ext hx _ y rfl
    rw [e1 _ (hy y), e1 t ht]
    unfold gev
    rw [f1, f2]
end
/-- a value of a set as data -/
def dS : Option (List Str) → PyData
  | none => .str "all"
  | some xs => .list (xs.map PyData.str)
theorem setv_dp {K : PySem.W.Frag} {H : Hp} {v : V} {o : Option (List Str)} (h : SetV H (.str "all") v o) : Dp K H v (dS o) := by
  cases o with
  | none =>
    obtain rfl : v = .str "all" := h
    exact .str _
  | some xs =>
    obtain ⟨A, rfl, hA⟩ := h
    exact .lst (SqL.of hA) (dps xs)
theorem dS_eqv (o : Option (List Str)) : PyData.eqv (dS o) (.str "all") = o.isNone := by
  cases o with
  | none => simp [dS, PyData.eqv]
  | some xs => simp [dS, PyData.eqv]
theorem dS_shp {s : SNd} (h : Sz s) : SeqAt.shaped (dS s.1) = true := by
  cases e : s.1 with
  | none => exact (show Fit 200 0 (.str "all") from Fit.str (by decide +kernel) (by decide +kernel)).shp (by decide)
  | some xs => exact (strs_fit (h xs e).2).shp (by decide)
theorem all_shp : SeqAt.shaped (.str "all") = true := (show Fit 200 0 (.str "all") from Fit.str (by decide +kernel) (by decide +kernel)).shp (by decide)
/-- where the paths of a stretch part -/
inductive Fk (f : List Nat → SNd) (hs : List (List Nat)) : List Nat → List Nat → Prop
  | even {t : List Nat} : t ∉ hs → Fk f hs t t
  | both {t : List Nat} : t ∈ hs → (f (t ++ [48])).1 ≠ none → (f (t ++ [49])).1 ≠ none → Fk f hs t t
  | zero {t u : List Nat} : t ∈ hs → (f (t ++ [48])).1 = none → Fk f hs (t ++ [49]) u → Fk f hs t u
  | one {t u : List Nat} : t ∈ hs → (f (t ++ [48])).1 ≠ none → (f (t ++ [49])).1 = none → Fk f hs (t ++ [48]) u → Fk f hs t u
@[irreducible] def spIE : Sp := fun vs H Q _ => ∃ (D n : Nat) (m : List (Str × Str)) (fs hs : List (List Nat)) (ad : List Nat → Addr) (t : List Nat), vs = [.ref D, sx t] ∧ Kno H D n m fs hs ad ∧ t.length ≤ 1000 ∧ Q (.bl (!decide (t ∈ hs))) H
@[irreducible] def spFk : Sp := fun vs H Q _ => ∃ (D n : Nat) (m : List (Str × Str)) (fs hs : List (List Nat)) (ad : List Nat → Addr) (t : List Nat), vs = [.ref D, sx t] ∧ Kno H D n m fs hs ad ∧ t ∈ kys hs ∧ ∀ u H', Same H H' → u ∈ kys hs → Fk (SN n m fs) hs t u → Q (sx u) H'
@[irreducible] def spAA : Sp := fun vs H Q _ => ∃ (D n : Nat) (m : List (Str × Str)) (fs hs : List (List Nat)) (ad : List Nat → Addr) (t t' : List Nat) (x y : List Str), vs = [.ref D, sx t, sx t'] ∧ Kno H D n m fs hs ad ∧ t ∈ kys hs ∧ t' ∈ kys hs ∧ (SN n m fs t).1 = some x ∧ (SN n m fs t').1 = some y ∧ ∀ H', Same H H' → Q (.bl (apB x y)) H'
section
variable {H : Hp} {D n : Nat} {m : List (Str × Str)} {fs hs : List (List Nat)} {ad : List Nat → Addr} {t t' : List Nat} {Q : VK} {E : XK}
theorem ie_go (h : Kno H D n m fs hs ad) (l : t.length ≤ 1000) (k : Q (.bl (!decide (t ∈ hs))) H) : spIE [.ref D, sx t] H Q E := by
  unfold spIE
  exact ⟨D, n, m, fs, hs, ad, t, rfl, h, l, k⟩
theorem fk_go (h : Kno H D n m fs hs ad) (ht : t ∈ kys hs) (k : ∀ u H', Same H H' → u ∈ kys hs → Fk (SN n m fs) hs t u → Q (sx u) H') : spFk [.ref D, sx t] H Q E := by
  unfold spFk
  exact ⟨D, n, m, fs, hs, ad, t, rfl, h, ht, k⟩
theorem aa_go {x y : List Str} (h : Kno H D n m fs hs ad) (ht : t ∈ kys hs) (ht' : t' ∈ kys hs) (ex : (SN n m fs t).1 = some x) (ey : (SN n m fs t').1 = some y) (k : ∀ H', Same H H' → Q (.bl (apB x y)) H') : spAA [.ref D, sx t, sx t'] H Q E := by
  unfold spAA
  exact ⟨D, n, m, fs, hs, ad, t, t', x, y, rfl, h, ht, ht', ex, ey, k⟩
end
section
variable {P : Program} {w : World} {K : PySem.W.Frag} {mg : Str → Option Value} {base : Heap} {f C : Addr} {fd' : FuncData}
theorem ok_is_even (F : Fun K "_is_even" "_is_even" s_is_even f fd') (hm : mg "_is_even" = some (.ref f)) (T : Txt K mg) : Nm P w K mg base CX0 1 "_is_even" s_is_even ["known", "stretch"] (spIE) := by
  refine nm_of F hm sc_is_even (fun vs H Q E h => ?_) fun cdv A outer s H vs Q E hr h => ?_
  · unfold spIE at h
    obtain ⟨D, n, m, fs, hs, ad, t, rfl, kn, l, k⟩ := h
    subst_vars
    rfl
  unfold spIE at h
  obtain ⟨D, n, m, fs, hs, ad, t, rfl, kn, l, k⟩ := h
  refine ⟨_, (pss_one (ps_ret (pe_cmp (pc_dnotin hr.u1 (pe_op op_add_str (pv 1) pe_str) (pv 0))))), ?_⟩
  refine ⟨_, rfl, ⟨_, _, rfl, rfl, szl (by rw [sx_len]; show t.length + 1 ≤ 1000000; omega), ?_⟩⟩
  rw [str0]
  refine ⟨_, rfl, ⟨D, _, rfl, .inl ⟨_, skey (t ++ [48]), .inl kn.eD, rfl, rfl⟩, ?_⟩⟩
  rw [fd_has]
  rw [show decide (t ++ [48] ∈ kys hs) = decide (t ∈ hs) from decide_eq_decide.mpr kys_half]
  exact k
theorem ok_are_apart (F : Fun K "_are_apart" "_are_apart" s_are_apart f fd') (hm : mg "_are_apart" = some (.ref f)) (T : Txt K mg) : Nm P w K mg base CX0 1 "_are_apart" s_are_apart ["known", "zero", "one"] (spAA) := by
  refine nm_of F hm sc_are_apart (fun vs H Q E h => ?_) fun cdv A outer s H vs Q E hr h => ?_
  · unfold spAA at h
    obtain ⟨D, n, m, fs, hs, ad, t, t', x, y, rfl, kn, ht, ht', ex, ey, k⟩ := h
    subst_vars
    rfl
  unfold spAA at h
  obtain ⟨D, n, m, fs, hs, ad, t, t', x, y, rfl, kn, ht, ht', ex, ey, k⟩ := h
  refine ⟨_, (pss_one (ps_ret (pe_not (pe_callB (cr_any rfl) (by rfl) T.b_any (by decide +kernel) (pa_cons (pe_lc (own := [("goal", 3)]) (g := (gName 3)) (by rfl) sc_are_apart.nd (pi_listK (K := K) rfl (pe_ix (ix_seqK (K := K) rfl) (pe_dget hr.u1 (pv 0) (pv 1) (fun _ _ => rfl)) pe_int (fun _ _ => rfl))) (blkOk_by (own := [("goal", 3)]) (N := ["known", "zero", "one", "goal"]) (sc := defScope s_are_apart) (by decide +kernel)) (fun _ _ _ _ _ => (pg_name (i := 3) sc_are_apart.nd rfl (by first | exact Or.inl rfl | exact Or.inr rfl))) (fun _ _ _ _ _ => pts_nil) (fun _ _ _ _ _ => (pe_cmpR (op_inK (K := K) rfl) (pv 3) (pe_ix (ix_seqK (K := K) rfl) (pe_dget hr.u1 (pv 0) (pv 2) (fun _ _ => rfl)) pe_int (fun _ _ => rfl)) rfl))) pa_nil))))), ?_⟩
  obtain ⟨v, ec, hv⟩ := kn.ev t ht
  obtain ⟨v', ec', hv'⟩ := kn.ev t' ht'
  rw [ex] at hv
  rw [ey] at hv'
  obtain ⟨A1, rfl, hA⟩ := hv
  obtain ⟨A2, rfl, hB⟩ := hv'
  have zx := SN_sz (t := t) (fs := fs) kn.ok x ex
  refine ⟨_, rfl, ⟨_, rfl, ⟨D, .ref (ad t), rfl, .inl ⟨_, skey t, .inl kn.eD, rfl, by rw [fd_val, if_pos ht]⟩, .inr (.inl ⟨ad t, _, 0, .ref A1, rfl, rfl, SqT.of ec, rfl, ?_⟩)⟩⟩⟩
  refine ⟨A1, rfl, ⟨_, SqL.of hA⟩, fun B nB => ?_⟩
  refine lc_it (walk_list (xs := x.map V.str)) (fun i H' => H' B = some (.lst (((x.take i).map fun g => decide (g ∈ y)).map V.bl)) ∧ Same H H') ⟨upd_same, (Same.refl H).new nB⟩ (fun i H' _ h => SqL.of (h.2 _ _ hA)) ?_ ?_
  · rintro i u H1 H2 hi ⟨eB, sm⟩ ⟨rfl, hu⟩
    obtain ⟨g, hg, rfl⟩ : ∃ g, x[i]? = some g ∧ u = .str g := by
      rw [List.getElem?_map] at hu
      cases q : x[i]? with
      | none => rw [q] at hu; cases hu
      | some g => rw [q] at hu; exact ⟨g, rfl, (Option.some.inj hu).symm⟩
    refine ⟨rfl, ?_⟩
    dsimp only [tYes]
    rw [if_pos rfl]
    refine ⟨_, rfl, ⟨_, rfl, ⟨_, rfl, ⟨D, .ref (ad t'), rfl, .inl ⟨_, skey t', .inl (sm _ _ kn.eD), rfl, by rw [fd_val, if_pos ht']⟩, .inr (.inl ⟨ad t', _, 0, .ref A2, rfl, rfl, SqT.of (sm _ _ ec'), rfl, ?_⟩)⟩⟩⟩⟩
    refine ⟨A2, _, rfl, .inl (SqL.of (sm _ _ hB)), rfl, flat_strs _, ?_⟩
    rw [if_neg (by decide), inV_strs]
    refine ⟨_, eB, szt (by rw [List.length_map, List.length_map, List.length_take]; have := zx.1; omega), ?_, fun b o q => updn (nonn nB q) (sm b o q)⟩
    rw [upd_same, List.take_add_one, hg, List.map_append, List.map_append]
    rfl
  · rintro H1 ⟨eB, sm⟩
    rw [List.length_map, List.take_length] at eB
    refine ⟨_, _, rfl, SqL.of eB, ?_⟩
    have e2 : (!((x.map fun g => decide (g ∈ y)).any id)) = apB x y := by
      unfold apB shr
      rw [Bool.eq_iff_iff, decide_eq_true_iff, List.filter_eq_nil_iff, Bool.not_eq_true', Bool.eq_false_iff, List.any_map]
      constructor
      · exact fun h g hg q => h (List.any_eq_true.mpr ⟨g, hg, q⟩)
      · intro h c
        obtain ⟨g, hg, q⟩ := List.any_eq_true.mp c
        exact h g hg q
    refine ⟨_, rfl, ?_⟩
    rw [e2]
    exact k H1 sm
theorem ok_fork (F : Fun K "_fork" "_fork" s_fork f fd') (hm : mg "_fork" = some (.ref f)) (T : Txt K mg) (cA : ∃ u, mg "ALL" = some u ∧ RelV (.str "all") u) (c_is_even : Nm P w K mg base CX0 1 "_is_even" s_is_even ["known", "stretch"] (spIE)) : Nm P w K mg base CX0 2 "_fork" s_fork ["known", "stretch"] (spFk) := by
  refine nm_of0 F hm sc_fork (fun vs H Q E h => ?_) fun cdv A outer s H vs Q E hr h => ?_
  · unfold spFk at h
    obtain ⟨D, n, m, fs, hs, ad, t, rfl, kn, ht, k⟩ := h
    subst_vars
    rfl
  unfold spFk at h
  obtain ⟨D, n, m, fs, hs, ad, t, rfl, kn, ht, k⟩ := h
  refine ⟨_, (pss_cons (ps_while PassesOwn.never (pt_not (pt_val (pe_g c_is_even hr (by decide) L2.pass0 bp_is_even (by rfl) (pa_cons (pv 0) (pa_cons (pv 1) pa_nil))))) (C8.pss_cut (ps_par (i := 2) (j := 3) (by rfl) sc_fork.nd rfl rfl (by decide) rfl rfl (pa_cons (pe_op op_add_str (pv 1) pe_str) (pa_cons (pe_op op_add_str (pv 1) pe_str) pa_nil)) (by rfl))
      (C8.pss_cut (ps_if (PW.pt (pw_and (pt_cmpR (op_neDK (K := K) rfl hr.u64) (pe_ix (ix_seqK (K := K) rfl) (pe_dget hr.u1 (pv 0) (pv 2) (fun _ _ => rfl)) pe_int (fun _ _ => rfl)) (pe_cst (by rfl) cA) (nomark _)) (pw_and1 (pt_cmpR (op_neDK (K := K) rfl hr.u64) (pe_ix (ix_seqK (K := K) rfl) (pe_dget hr.u1 (pv 0) (pv 3) (fun _ _ => rfl)) pe_int (fun _ _ => rfl)) (pe_cst (by rfl) cA) (nomark _))))) (pss_one ps_break) pss_nil)
      (pss_one (ps_set (i := 1) sc_fork.nd rfl (by first | exact Or.inl rfl | exact Or.inr rfl) (pe_ifExp (pt_cmpR (op_eqDK (K := K) rfl hr.u64) (pe_ix (ix_seqK (K := K) rfl) (pe_dget hr.u1 (pv 0) (pv 2) (fun _ _ => rfl)) pe_int (fun _ _ => rfl)) (pe_cst (by rfl) cA) (nomark _)) (pv 3) (pv 2)))))))
      (pss_one (ps_ret (pv 1)))), ?_⟩
  refine ⟨fun mm σ' H' => ∃ (s : List Nat) (x2 x3 : Option V), σ' = [some (.ref D), some (sx s), x2, x3] ∧ H' = H ∧ s ∈ kys hs ∧ (∀ u, Fk (SN n m fs) hs s u → Fk (SN n m fs) hs t u) ∧ mm = n - s.length, ⟨_, t, _, _, rfl, rfl, ht, fun _ h => h, rfl⟩, ?_⟩
  rintro mm σ' H1 ⟨s, x2, x3, rfl, rfl, hs', hk, rfl⟩
  have sl := kn.fit hs'
  have n1 := kn.n1
  refine ⟨_, rfl, ⟨_, rfl, ?_⟩⟩
  refine ie_go kn (by omega) ?_
  refine ⟨_, rfl, ?_⟩
  by_cases c : s ∈ hs
  case neg =>
    rw [decide_eq_false c]
    refine iteF ?_
    exact ⟨_, rfl, k s H1 (Same.refl _) hs' (hk s (.even c))⟩
  case pos =>
  rw [decide_eq_true c]
  refine iteT ?_
  have lt := kn.lt c
  refine ⟨fun σ' H' => ∃ (s' : List Nat) (x2 x3 : Option V), σ' = [some (.ref D), some (sx s'), x2, x3] ∧ H' = H1 ∧ s' ∈ kys hs ∧ (∀ u, Fk (SN n m fs) hs s' u → Fk (SN n m fs) hs t u) ∧ s'.length = s.length + 1, fun σ' H' ⟨s', y2, y3, e1, e2, e3, e4, e5⟩ => ⟨_, (by rw [e5]; omega : n - s'.length < n - s.length), s', y2, y3, e1, e2, e3, e4, rfl⟩, ?_⟩
  refine ⟨fun σ' H' => σ' = [some (.ref D), some (sx s), some (sx (s ++ [48])), some (sx (s ++ [49]))] ∧ H' = H1, ?_, ?_⟩
  · refine ⟨_, rfl, ⟨_, _, rfl, rfl, szl (by rw [sx_len]; show s.length + 1 ≤ 1000000; omega), ?_⟩⟩
    rw [str0]
    refine ⟨_, rfl, ⟨_, _, rfl, rfl, szl (by rw [sx_len]; show s.length + 1 ≤ 1000000; omega), ?_⟩⟩
    rw [str1]
    exact ⟨_, _, rfl, rfl, rfl⟩
  rintro σ' H2 ⟨rfl, rfl⟩
  have k0 : s ++ [48] ∈ kys hs := kys_half.mpr c
  have k1 : s ++ [49] ∈ kys hs := kys_one c
  obtain ⟨v0, ec0, hv0⟩ := kn.ev _ k0
  obtain ⟨v1, ec1, hv1⟩ := kn.ev _ k1
  have z0 := SN_sz (t := s ++ [48]) (fs := fs) kn.ok
  have z1 := SN_sz (t := s ++ [49]) (fs := fs) kn.ok
  have val0 : some (V.ref (ad (s ++ [48]))) = valV (fd (kys hs) fun t => V.ref (ad t)) (skey (s ++ [48])) := by rw [fd_val, if_pos k0]
  have val1 : some (V.ref (ad (s ++ [49]))) = valV (fd (kys hs) fun t => V.ref (ad t)) (skey (s ++ [49])) := by rw [fd_val, if_pos k1]
  have dA : Dp K H2 (.str "all") (.str "all") := .str _
  refine ⟨fun σ' H' => σ' = [some (.ref D), some (sx s), some (sx (s ++ [48])), some (sx (s ++ [49]))] ∧ H' = H2 ∧ ((SN n m fs (s ++ [48])).1 = none ∨ (SN n m fs (s ++ [49])).1 = none), ?_, ?_⟩
  · refine ⟨_, rfl, ⟨_, rfl, ⟨D, .ref (ad (s ++ [48])), rfl, .inl ⟨_, skey (s ++ [48]), .inl kn.eD, rfl, val0⟩, .inr (.inl ⟨_, _, 0, v0, rfl, rfl, SqT.of ec0, rfl, ?_⟩)⟩⟩⟩
    refine ⟨_, _, setv_dp hv0, dA, dS_shp z0, all_shp, ?_⟩
    refine ⟨_, rfl, ?_⟩
    rw [dS_eqv]
    cases e0 : (SN n m fs (s ++ [48])).1 with
    | none =>
      refine iteF (iteF ?_)
      exact ⟨rfl, rfl, .inl rfl⟩
    | some x =>
      refine iteT ?_
      refine ⟨_, rfl, ⟨_, rfl, ⟨D, .ref (ad (s ++ [49])), rfl, .inl ⟨_, skey (s ++ [49]), .inl kn.eD, rfl, val1⟩, .inr (.inl ⟨_, _, 0, v1, rfl, rfl, SqT.of ec1, rfl, ?_⟩)⟩⟩⟩
      refine ⟨_, _, setv_dp hv1, dA, dS_shp z1, all_shp, ?_⟩
      refine ⟨_, rfl, ?_⟩
      rw [dS_eqv]
      cases e1 : (SN n m fs (s ++ [49])).1 with
      | none =>
        refine iteF ?_
        exact ⟨rfl, rfl, .inr rfl⟩
      | some y =>
        refine iteT ?_
        exact ⟨_, rfl, k s H2 (Same.refl _) hs' (hk s (.both c (by rw [e0]; simp) (by rw [e1]; simp)))⟩
  rintro σ' H3 ⟨rfl, rfl, hn⟩
  refine ⟨_, rfl, ⟨_, rfl, ⟨D, .ref (ad (s ++ [48])), rfl, .inl ⟨_, skey (s ++ [48]), .inl kn.eD, rfl, val0⟩, .inr (.inl ⟨_, _, 0, v0, rfl, rfl, SqT.of ec0, rfl, ?_⟩)⟩⟩⟩
  refine ⟨_, _, setv_dp hv0, dA, dS_shp z0, all_shp, ?_⟩
  refine ⟨_, rfl, ?_⟩
  rw [dS_eqv]
  cases e0 : (SN n m fs (s ++ [48])).1 with
  | none =>
    refine iteT ?_
    exact ⟨_, rfl, s ++ [49], _, _, rfl, rfl, k1, fun u h => hk u (.zero c e0 h), by rw [List.length_append]; rfl⟩
  | some x =>
    refine iteF ?_
    have e1 := hn.resolve_left (by rw [e0]; simp)
    exact ⟨_, rfl, s ++ [48], _, _, rfl, rfl, k0, fun u h => hk u (.one c (by rw [e0]; simp) e1 h), by rw [List.length_append]; rfl⟩
end
open PySem PySem.Spec PyProof.Rows LamX
open L2 hiding pass0
abbrev s_check_stretch : Stmt := top 28
theorem sc_check_stretch : FnScope ["width", "stretch"] ["width", "stretch"] (defScope s_check_stretch) := ⟨rfl, rfl, rfl, by decide +kernel, rfl, by decide +kernel, by decide +kernel⟩
theorem bp_check_stretch : BndP "check_stretch" s_check_stretch ["width", "stretch"] := fun _ _ _ _ _ _ us h => match us, h with | [_, _], _ => rfl
abbrev s_first : Stmt := top 31
theorem sc_first : FnScope ["width", "stretch"] ["width", "stretch"] (defScope s_first) := ⟨rfl, rfl, rfl, by decide +kernel, rfl, by decide +kernel, by decide +kernel⟩
theorem bp_first : BndP "first" s_first ["width", "stretch"] := fun _ _ _ _ _ _ us h => match us, h with | [_, _], _ => rfl
abbrev s_foot : Stmt := top 60
theorem sc_foot : FnScope ["width", "known", "stretch", "goal", "asked", "half"] ["width", "known", "stretch", "goal", "asked"] (defScope s_foot) := ⟨rfl, rfl, rfl, by decide +kernel, rfl, by decide +kernel, by decide +kernel⟩
theorem bp_foot : BndP "_foot" s_foot ["width", "known", "stretch", "goal", "asked"] := fun _ _ _ _ _ _ us h => match us, h with | [_, _, _, _, _], _ => rfl
abbrev s_end : Stmt := top 58
theorem sc_end : FnScope ["width", "known", "stretch", "goal"] ["width", "known", "stretch", "goal"] (defScope s_end) := ⟨rfl, rfl, rfl, by decide +kernel, rfl, by decide +kernel, by decide +kernel⟩
theorem bp_end : BndP "_end" s_end ["width", "known", "stretch", "goal"] := fun _ _ _ _ _ _ us h => match us, h with | [_, _, _, _], _ => rfl
abbrev s_begin : Stmt := top 59
theorem sc_begin : FnScope ["width", "known", "stretch", "goal"] ["width", "known", "stretch", "goal"] (defScope s_begin) := ⟨rfl, rfl, rfl, by decide +kernel, rfl, by decide +kernel, by decide +kernel⟩
theorem bp_begin : BndP "_begin" s_begin ["width", "known", "stretch", "goal"] := fun _ _ _ _ _ _ us h => match us, h with | [_, _, _, _], _ => rfl
@[irreducible] def spFirst : Sp := fun vs H Q _ => ∃ (n : Nat) (t : List Nat), vs = [.int n, sx t] ∧ 1 ≤ n ∧ n ≤ 100 ∧ M.BL t ∧ t.length ≤ n ∧ ∀ H', Same H H' → Q (sx (t ++ List.replicate (n - t.length) 48)) H'
theorem first_go {n : Nat} {t : List Nat} {H : Hp} {Q : VK} {E : XK} (h0 : 1 ≤ n) (h1 : n ≤ 100) (hb : M.BL t) (hl : t.length ≤ n) (k : ∀ H', Same H H' → Q (sx (t ++ List.replicate (n - t.length) 48)) H') : spFirst [.int n, sx t] H Q E := by
  unfold spFirst
  exact ⟨n, t, rfl, h0, h1, hb, hl, k⟩
theorem lj_eq {n : Nat} {t : List Nat} (hl : t.length ≤ n) : Txt.ljustF (SX.S t) (n : Int) 48 = SX.S (t ++ List.replicate (n - t.length) 48) := by
  unfold Txt.ljustF
  rw [sx_len]
  split
  · rename_i h
    have : n - t.length = 0 := by omega
    rw [this, List.replicate_zero, List.append_nil]
  · rw [Int.toNat_natCast]
    unfold PySem.Builtin.Str.padded SX.S
    simp
theorem pad_ok {n : Nat} (h : n ≤ 100) : PadOk (n : Int) = true := by
  have : ∀ m : Fin 101, PadOk ((m.val : Nat) : Int) = true := by decide +kernel
  exact this ⟨n, by omega⟩
theorem fk_way {f : List Nat → SNd} {hs : List (List Nat)} {m0 : Bool} {g : Str} {t u : List Nat} (st : ∀ s ∈ hs, f s = both2 (f (s ++ [48])) (f (s ++ [49]))) (h : Fk f hs t u) : Cn f m0 t g → Way f m0 g t u := by
  induction h with
  | even _ => exact Way.refl
  | both _ _ _ => exact Way.refl
  | zero hs' e0 _ ih =>
    intro c
    have s := st_none0 (st _ hs') c e0
    exact ((Way.refl c).snoc s).trans (ih s.1)
  | one hs' e0 e1 _ ih =>
    intro c
    have s := st_none1 (st _ hs') c e0 e1
    exact ((Way.refl c).snoc s).trans (ih s.1)
theorem fk_end {f : List Nat → SNd} {hs : List (List Nat)} {t u : List Nat} (h : Fk f hs t u) : u ∉ hs ∨ (u ∈ hs ∧ (f (u ++ [48])).1 ≠ none ∧ (f (u ++ [49])).1 ≠ none) := by
  induction h with
  | even h => exact .inl h
  | both h a b => exact .inr ⟨h, a, b⟩
  | zero _ _ _ ih => exact ih
  | one _ _ _ _ ih => exact ih
theorem fk_pre {f : List Nat → SNd} {hs : List (List Nat)} {t u : List Nat} (h : Fk f hs t u) : t <+: u := by
  induction h with
  | even _ => exact List.prefix_refl _
  | both _ _ _ => exact List.prefix_refl _
  | zero _ _ _ ih => exact (List.prefix_append _ _).trans ih
  | one _ _ _ _ ih => exact (List.prefix_append _ _).trans ih
/-- where a fork leads is one place -/
theorem Fk.uniq {f : List Nat → SNd} {hs hs' : List (List Nat)} (e : ∀ s, s ∈ hs ↔ s ∈ hs') {t u : List Nat} (h : Fk f hs t u) : ∀ {u' : List Nat}, Fk f hs' t u' → u = u' := by
  induction h with
  | even n =>
    intro u' k
    cases k with
    | even _ => rfl
    | both a _ _ => exact absurd ((e _).mpr a) n
    | zero a _ _ => exact absurd ((e _).mpr a) n
    | one a _ _ _ => exact absurd ((e _).mpr a) n
  | both a b c =>
    intro u' k
    cases k with
    | even n => exact absurd ((e _).mp a) n
    | both _ _ _ => rfl
    | zero _ z _ => exact absurd z b
    | one _ _ z _ => exact absurd z c
  | zero a b _ ih =>
    intro u' k
    cases k with
    | even n => exact absurd ((e _).mp a) n
    | both _ z _ => exact absurd b z
    | zero _ _ r => exact ih r
    | one _ z _ _ => exact absurd b z
  | one a b c _ ih =>
    intro u' k
    cases k with
    | even n => exact absurd ((e _).mp a) n
    | both _ _ z => exact absurd c z
    | zero _ z _ => exact absurd z b
    | one _ _ _ r => exact ih r
/-- the way down to an address -/
inductive Ft (n : Nat) (f : List Nat → SNd) (hs : List (List Nat)) (a : Bool) (g : Str) : List Nat → List Nat → Prop
  | even {s : List Nat} : s ∉ hs → Ft n f hs a g s (s ++ List.replicate (n - s.length) 48)
  | go {s u z : List Nat} {ws : List Str} : s ∈ hs → (f (s ++ [if a = true then 48 else 49])).1 = some ws → Fk f hs (s ++ [if decide (g ∈ ws) = true then 48 else 49]) u → Ft n f hs a g u z → Ft n f hs a g s z
theorem Ft.uniq {n : Nat} {f : List Nat → SNd} {hs hs' : List (List Nat)} {a : Bool} {g : Str} (e : ∀ s, s ∈ hs ↔ s ∈ hs') {t u : List Nat} (h : Ft n f hs a g t u) : ∀ {u' : List Nat}, Ft n f hs' a g t u' → u = u' := by
  induction h with
  | even n =>
    intro u' k
    cases k with
    | even _ => rfl
    | go b _ _ _ => exact absurd ((e _).mpr b) n
  | go b c d _ ih =>
    intro u' k
    cases k with
    | even n => exact absurd ((e _).mp b) n
    | go _ c' d' r =>
      rw [c] at c'
      cases c'
      cases d.uniq e d'
      exact ih r
def FtT (n : Nat) (f : List Nat → SNd) (hs : List (List Nat)) (a : Bool) (g : Str) (t z : List Nat) : Prop := ∃ u, Fk f hs t u ∧ Ft n f hs a g u z
theorem FtT.uniq {n : Nat} {f : List Nat → SNd} {hs hs' : List (List Nat)} {a : Bool} {g : Str} (e : ∀ s, s ∈ hs ↔ s ∈ hs') {t z z' : List Nat} (h : FtT n f hs a g t z) (k : FtT n f hs' a g t z') : z = z' := by
  obtain ⟨u, a1, a2⟩ := h
  obtain ⟨u', b1, b2⟩ := k
  cases a1.uniq e b1
  exact a2.uniq e b2
/-- the zeros behind -/
theorem way_zeros {H : Hp} {D n : Nat} {m : List (Str × Str)} {fs hs : List (List Nat)} {ad : List Nat → Addr} {m0 : Bool} {g : Str} {s : List Nat} (kn : Kno H D n m fs hs ad) (hn : s ∉ hs) (c : Cn (SN n m fs) m0 s g) : ∀ k, Way (SN n m fs) m0 g s (s ++ List.replicate k 48)
  | 0 => by rw [List.replicate_zero, List.append_nil]; exact Way.refl c
  | k + 1 => by
    have w := way_zeros kn hn c k
    obtain ⟨⟨o, eo⟩, st⟩ := kn.still hn
    obtain ⟨x, ex, _⟩ := c
    rw [eo] at ex
    cases o with
    | none => cases ex
    | some v =>
      have e : (SN n m fs s).1 = some [v] := eo
      rw [List.replicate_succ', ← List.append_assoc]
      refine w.snoc (st_zero w.end.1 (v := v) (by rw [st]; exact e) ?_ ?_)
      · rw [List.append_assoc, st]; exact e
      · rw [List.append_assoc, st]; exact e
def asked (b : Bool) : Str := if b = true then "0" else "1"
@[irreducible] def spFoot : Sp := fun vs H Q _ => ∃ (D n : Nat) (m : List (Str × Str)) (fs hs : List (List Nat)) (ad : List Nat → Addr) (m0 : Bool) (t : List Nat) (g : Str), vs = [.int n, .ref D, sx t, .str g, .str (asked (md (SN n m fs) m0 t))] ∧ Kno H D n m fs hs ad ∧ 1 ≤ n ∧ t ∈ kys hs ∧ Cn (SN n m fs) m0 t g ∧ ∀ z H', Same H H' → M.BL z → z.length = n → Way (SN n m fs) m0 g t z → FtT n (SN n m fs) hs (md (SN n m fs) m0 t) g t z → Q (sx z) H'
@[irreducible] def spEB (b : Bool) : Sp := fun vs H Q _ => ∃ (D n : Nat) (m : List (Str × Str)) (fs hs : List (List Nat)) (ad : List Nat → Addr) (m0 : Bool) (t : List Nat) (g : Str), vs = [.int n, .ref D, sx t, .str g] ∧ Kno H D n m fs hs ad ∧ 1 ≤ n ∧ t ∈ kys hs ∧ Cn (SN n m fs) m0 t g ∧ md (SN n m fs) m0 t = b ∧ ∀ z H', Same H H' → M.BL z → z.length = n → Way (SN n m fs) m0 g t z → FtT n (SN n m fs) hs b g t z → Q (sx z) H'
section
variable {H : Hp} {D n : Nat} {m : List (Str × Str)} {fs hs : List (List Nat)} {ad : List Nat → Addr} {m0 b : Bool} {t : List Nat} {g : Str} {Q : VK} {E : XK}
theorem foot_go (h : Kno H D n m fs hs ad) (n0 : 1 ≤ n) (ht : t ∈ kys hs) (c : Cn (SN n m fs) m0 t g) (k : ∀ z H', Same H H' → M.BL z → z.length = n → Way (SN n m fs) m0 g t z → FtT n (SN n m fs) hs (md (SN n m fs) m0 t) g t z → Q (sx z) H') : spFoot [.int n, .ref D, sx t, .str g, .str (asked (md (SN n m fs) m0 t))] H Q E := by
  unfold spFoot
  exact ⟨D, n, m, fs, hs, ad, m0, t, g, rfl, h, n0, ht, c, k⟩
theorem eb_go (h : Kno H D n m fs hs ad) (n0 : 1 ≤ n) (ht : t ∈ kys hs) (c : Cn (SN n m fs) m0 t g) (hb : md (SN n m fs) m0 t = b) (k : ∀ z H', Same H H' → M.BL z → z.length = n → Way (SN n m fs) m0 g t z → FtT n (SN n m fs) hs b g t z → Q (sx z) H') : spEB b [.int n, .ref D, sx t, .str g] H Q E := by
  unfold spEB
  exact ⟨D, n, m, fs, hs, ad, m0, t, g, rfl, h, n0, ht, c, hb, k⟩
end
section
variable {P : Program} {w : World} {K : PySem.W.Frag} {mg : Str → Option Value} {base : Heap} {f C : Addr} {fd : FuncData}
theorem ok_check_stretch (F : Fun K "check_stretch" "check_stretch" s_check_stretch f fd) (hm : mg "check_stretch" = some (.ref f)) (T : Txt K mg) (c_is_stretch : Nm P w K mg base CX0 4 "is_stretch" s_is_stretch ["width", "value"] (spIT strB)) : Nm P w K mg base CX0 5 "check_stretch" s_check_stretch ["width", "stretch"] (spCT strB) := by
  refine nm_of F hm sc_check_stretch (fun vs H Q E h => ?_) fun cdv A outer s H vs Q E hr h => ?_
  · unfold spCT at h
    obtain ⟨n, z, rfl, h0, h1, hz, hg, k⟩ := h
    subst_vars
    rfl
  unfold spCT at h
  obtain ⟨n, z, rfl, h0, h1, hz, hg, k⟩ := h
  refine ⟨_, (pss_one (ps_if (pt_not (pt_val (pe_g c_is_stretch hr (by decide) L2.pass0 bp_is_stretch (by rfl) (pa_cons (pv 0) (pa_cons (pv 1) pa_nil))))) (pss_one ps_never) pss_nil)), ?_⟩
  repeat walk_at "s1"
  refine it_go h0 h1 hz fun H2 sm2 => ?_
  repeat walk_at "s1"
  rw [hg]
  refine iteF ?_
  exact k H2 sm2
theorem ok_first (F : Fun K "first" "first" s_first f fd) (hm : mg "first" = some (.ref f)) (T : Txt K mg) (c_check_stretch : Nm P w K mg base CX0 5 "check_stretch" s_check_stretch ["width", "stretch"] (spCT strB)) : Nm P w K mg base CX0 6 "first" s_first ["width", "stretch"] (spFirst) := by
  refine nm_of F hm sc_first (fun vs H Q E h => ?_) fun cdv A outer s H vs Q E hr h => ?_
  · unfold spFirst at h
    obtain ⟨n, t, rfl, h0, h1, hb, hl, k⟩ := h
    subst_vars
    rfl
  unfold spFirst at h
  obtain ⟨n, t, rfl, h0, h1, hb, hl, k⟩ := h
  refine ⟨_, (pss_cons (ps_expr (pe_g c_check_stretch hr (by decide) L2.pass0 bp_check_stretch (by rfl) (pa_cons (pv 0) (pa_cons (pv 1) pa_nil))))
      (pss_one (ps_ret (pe_bm PySem.F.plainAttrs_str PySem.F.slot_str_ljust PySem.F.type_str_ljust mt_ljust2 (pv 1) (pa_cons (pv 0) (pa_cons pe_str pa_nil)))))), ?_⟩
  refine ⟨_, rfl, ?_⟩
  refine ⟨_, rfl, ?_⟩
  refine ct_go (by omega) (by omega) (by rw [sx_len]; omega) (str_ok hb hl) fun H1 sm1 => ?_
  refine ⟨_, rfl, ?_⟩
  have hp : PadOk (n : Int) = true := pad_ok h1
  refine ⟨rfl, ⟨_, rfl, ⟨SX.S t, n, "0", rfl, rfl, hp, rfl, ?_⟩⟩⟩
  have hk := k _ sm1
  unfold sx at hk
  rw [← lj_eq hl] at hk
  exact hk
theorem ok_end (F : Fun K "_end" "_end" s_end f fd) (hm : mg "_end" = some (.ref f)) (T : Txt K mg) (c_foot : Nm P w K mg base CX0 7 "_foot" s_foot ["width", "known", "stretch", "goal", "asked"] (spFoot)) : Nm P w K mg base CX0 8 "_end" s_end ["width", "known", "stretch", "goal"] (spEB true) := by
  refine nm_of F hm sc_end (fun vs H Q E h => ?_) fun cdv A outer s H vs Q E hr h => ?_
  · unfold spEB at h
    obtain ⟨D, n, m, fs, hs, ad, m0, t, g, rfl, kn, n0, ht, c, hb, k⟩ := h
    subst_vars
    rfl
  unfold spEB at h
  obtain ⟨D, n, m, fs, hs, ad, m0, t, g, rfl, kn, n0, ht, c, hb, k⟩ := h
  refine ⟨_, (pss_one (ps_ret (pe_g c_foot hr (by decide) L2.pass0 bp_foot (by rfl) (pa_cons (pv 0) (pa_cons (pv 1) (pa_cons (pv 2) (pa_cons (pv 3) (pa_cons pe_str pa_nil)))))))), ?_⟩
  refine ⟨_, rfl, ⟨_, rfl, ⟨_, rfl, ⟨_, rfl, ?_⟩⟩⟩⟩
  show spFoot [.int n, .ref D, sx t, .str g, .str "0"] _ _ _
  rw [show ("0" : Str) = asked (md (SN n m fs) m0 t) by rw [hb]; rfl]
  exact foot_go kn n0 ht c fun z H' a b c d e => k z H' a b c d (hb ▸ e)
theorem ok_begin (F : Fun K "_begin" "_begin" s_begin f fd) (hm : mg "_begin" = some (.ref f)) (T : Txt K mg) (c_foot : Nm P w K mg base CX0 7 "_foot" s_foot ["width", "known", "stretch", "goal", "asked"] (spFoot)) : Nm P w K mg base CX0 8 "_begin" s_begin ["width", "known", "stretch", "goal"] (spEB false) := by
  refine nm_of F hm sc_begin (fun vs H Q E h => ?_) fun cdv A outer s H vs Q E hr h => ?_
  · unfold spEB at h
    obtain ⟨D, n, m, fs, hs, ad, m0, t, g, rfl, kn, n0, ht, c, hb, k⟩ := h
    subst_vars
    rfl
  unfold spEB at h
  obtain ⟨D, n, m, fs, hs, ad, m0, t, g, rfl, kn, n0, ht, c, hb, k⟩ := h
  refine ⟨_, (pss_one (ps_ret (pe_g c_foot hr (by decide) L2.pass0 bp_foot (by rfl) (pa_cons (pv 0) (pa_cons (pv 1) (pa_cons (pv 2) (pa_cons (pv 3) (pa_cons pe_str pa_nil)))))))), ?_⟩
  refine ⟨_, rfl, ⟨_, rfl, ⟨_, rfl, ⟨_, rfl, ?_⟩⟩⟩⟩
  show spFoot [.int n, .ref D, sx t, .str g, .str "1"] _ _ _
  rw [show ("1" : Str) = asked (md (SN n m fs) m0 t) by rw [hb]; rfl]
  exact foot_go kn n0 ht c fun z H' a b c d e => k z H' a b c d (hb ▸ e)
theorem ok_foot (F : Fun K "_foot" "_foot" s_foot f fd) (hm : mg "_foot" = some (.ref f)) (T : Txt K mg) (c_is_even : Nm P w K mg base CX0 1 "_is_even" s_is_even ["known", "stretch"] (spIE)) (c_fork : Nm P w K mg base CX0 2 "_fork" s_fork ["known", "stretch"] (spFk)) (c_first : Nm P w K mg base CX0 6 "first" s_first ["width", "stretch"] (spFirst)) : Nm P w K mg base CX0 7 "_foot" s_foot ["width", "known", "stretch", "goal", "asked"] (spFoot) := by
  refine nm_of0 F hm sc_foot (fun vs H Q E h => ?_) fun cdv A outer s H vs Q E hr h => ?_
  · unfold spFoot at h
    obtain ⟨D, n, m, fs, hs, ad, m0, t, g, rfl, kn, n0, ht, cn, k⟩ := h
    subst_vars
    rfl
  unfold spFoot at h
  obtain ⟨D, n, m, fs, hs, ad, m0, t, g, rfl, kn, n0, ht, cn, k⟩ := h
  refine ⟨_, (pss_cons (ps_set (i := 2) sc_foot.nd rfl (by first | exact Or.inl rfl | exact Or.inr rfl) (pe_g c_fork hr (by decide) L2.pass0 bp_fork (by rfl) (pa_cons (pv 1) (pa_cons (pv 2) pa_nil))))
      (pss_cons (ps_while PassesOwn.never (pt_not (pt_val (pe_g c_is_even hr (by decide) L2.pass0 bp_is_even (by rfl) (pa_cons (pv 1) (pa_cons (pv 2) pa_nil))))) (C8.pss_cut (ps_set (i := 5) sc_foot.nd rfl (by first | exact Or.inl rfl | exact Or.inr rfl) (pe_ifExp (pt_cmpR (op_inK (K := K) rfl) (pv 3) (pe_ix (ix_seqK (K := K) rfl) (pe_dget hr.u1 (pv 1) (pe_op op_add_str (pv 2) (pv 4)) (fun _ _ => rfl)) pe_int (fun _ _ => rfl)) rfl) pe_str pe_str))
      (pss_one (ps_set (i := 2) sc_foot.nd rfl (by first | exact Or.inl rfl | exact Or.inr rfl) (pe_g c_fork hr (by decide) L2.pass0 bp_fork (by rfl) (pa_cons (pv 1) (pa_cons (pe_op op_add_str (pv 2) (pv 5)) pa_nil)))))))
      (pss_one (ps_ret (pe_g c_first hr (by decide) L2.pass0 bp_first (by rfl) (pa_cons (pv 0) (pa_cons (pv 2) pa_nil))))))), ?_⟩
  have n1 := kn.n1
  have stp : ∀ s ∈ hs, SN n m fs s = both2 (SN n m fs (s ++ [48])) (SN n m fs (s ++ [49])) := fun s hs' => kn.step hs'
  refine ⟨_, rfl, ⟨_, rfl, ?_⟩⟩
  refine fk_go kn ht fun u H1 s1 hu hk => ?_
  have kn1 := kn.to s1
  refine ⟨fun mm σ' H' => ∃ (s : List Nat) (x5 : Option V), σ' = [some (.int n), some (.ref D), some (sx s), some (.str g), some (.str (asked (md (SN n m fs) m0 t))), x5] ∧ Same H H' ∧ s ∈ kys hs ∧ Way (SN n m fs) m0 g t s ∧ (∀ z, Ft n (SN n m fs) hs (md (SN n m fs) m0 t) g s z → FtT n (SN n m fs) hs (md (SN n m fs) m0 t) g t z) ∧ (s ∉ hs ∨ (s ∈ hs ∧ (SN n m fs (s ++ [48])).1 ≠ none ∧ (SN n m fs (s ++ [49])).1 ≠ none)) ∧ mm = n - s.length, ⟨_, u, _, rfl, s1, hu, fk_way stp hk cn, fun z h => ⟨u, hk, h⟩, fk_end hk, rfl⟩, ?_⟩
  clear kn1 s1 hu hk H1 u
  rintro mm σ' H1 ⟨s, x5, rfl, s1, hs', way, hft, hend, rfl⟩
  have kn1 := kn.to s1
  obtain ⟨sb, sl⟩ := kn.fit hs'
  refine ⟨_, rfl, ⟨_, rfl, ?_⟩⟩
  refine ie_go kn1 (by omega) ?_
  refine ⟨_, rfl, ?_⟩
  have we := way.end
  by_cases c : s ∈ hs
  case neg =>
    rw [decide_eq_false c]
    refine iteF ?_
    refine ⟨_, rfl, ⟨_, rfl, ?_⟩⟩
    refine first_go n0 n1 sb sl fun H2 s2 => ?_
    refine k _ H2 (s1.trans s2) (fun x hx => ?_) (by rw [List.length_append, List.length_replicate]; omega) (way.trans (way_zeros kn c we.1 _)) (hft _ (.even c))
    rcases List.mem_append.mp hx with h | h
    · exact sb x h
    · exact .inl (List.eq_of_mem_replicate h)
  case pos =>
  rw [decide_eq_true c]
  refine iteT ?_
  have lt := kn.lt c
  obtain ⟨_, ne0, ne1⟩ := hend.resolve_left fun z => z c
  refine ⟨fun σ' H' => ∃ (s' : List Nat) (x5 : Option V), σ' = [some (.int n), some (.ref D), some (sx s'), some (.str g), some (.str (asked (md (SN n m fs) m0 t))), x5] ∧ Same H H' ∧ s' ∈ kys hs ∧ Way (SN n m fs) m0 g t s' ∧ (∀ z, Ft n (SN n m fs) hs (md (SN n m fs) m0 t) g s' z → FtT n (SN n m fs) hs (md (SN n m fs) m0 t) g t z) ∧ (s' ∉ hs ∨ (s' ∈ hs ∧ (SN n m fs (s' ++ [48])).1 ≠ none ∧ (SN n m fs (s' ++ [49])).1 ≠ none)) ∧ s.length + 1 ≤ s'.length, fun σ' H' ⟨s', y5, e1, e2, e3, e4, eft, e5, e6⟩ => ⟨_, (by have := (kn.fit e3).2; omega : n - s'.length < n - s.length), s', y5, e1, e2, e3, e4, eft, e5, rfl⟩, ?_⟩
  cases e0 : (SN n m fs (s ++ [48])).1 with
  | none => exact absurd e0 ne0
  | some x =>
  cases e1 : (SN n m fs (s ++ [49])).1 with
  | none => exact absurd e1 ne1
  | some y =>
  have k0 : s ++ [48] ∈ kys hs := kys_half.mpr c
  have k1 : s ++ [49] ∈ kys hs := kys_one c
  have half := st_half (stp s c) we.1 e0 e1 _ rfl
  rw [show (if md (SN n m fs) m0 s = true then x else y) = (if md (SN n m fs) m0 t = true then x else y) by rw [we.2.2]] at half
  have aft : (SN n m fs (s ++ [if md (SN n m fs) m0 t = true then 48 else 49])).1 = some (if md (SN n m fs) m0 t = true then x else y) := by
    cases md (SN n m fs) m0 t with
    | true => exact e0
    | false => exact e1
  obtain ⟨z, hz, ez, xz⟩ : ∃ z, z ∈ kys hs ∧ V.str (SX.S s ++ asked (md (SN n m fs) m0 t)) = sx z ∧ (SN n m fs z).1 = some (if md (SN n m fs) m0 t = true then x else y) := by
    unfold asked
    cases md (SN n m fs) m0 t with
    | true => exact ⟨_, k0, str0 s, e0⟩
    | false => exact ⟨_, k1, str1 s, e1⟩
  generalize hw : (if md (SN n m fs) m0 t = true then x else y) = ws at half xz aft
  obtain ⟨v, ec, hv⟩ := kn1.ev z hz
  rw [xz] at hv
  obtain ⟨A1, rfl, hA⟩ := hv
  have la : (asked (md (SN n m fs) m0 t)).length = 1 := by unfold asked; cases md (SN n m fs) m0 t <;> decide +kernel
  refine ⟨fun σ' H' => σ' = [some (.int n), some (.ref D), some (sx s), some (.str g), some (.str (asked (md (SN n m fs) m0 t))), some (sx [if decide (g ∈ ws) = true then 48 else 49])] ∧ H' = H1, ?_, ?_⟩
  · refine ⟨_, rfl, ⟨_, rfl, ⟨_, rfl, ⟨_, rfl, ⟨_, _, rfl, rfl, szl (by rw [sx_len, la]; omega), ?_⟩⟩⟩⟩⟩
    rw [ez]
    refine ⟨D, .ref (ad z), rfl, .inl ⟨_, skey z, .inl kn1.eD, rfl, by rw [fd_val, if_pos hz]⟩, .inr (.inl ⟨ad z, _, 0, .ref A1, rfl, rfl, SqT.of ec, rfl, ?_⟩)⟩
    refine ⟨A1, _, rfl, .inl (SqL.of hA), rfl, flat_strs _, ?_⟩
    refine ⟨_, rfl, ?_⟩
    have ei : (if (false : Bool) = true then !inV (.str g) (ws.map V.str) else inV (.str g) (ws.map V.str)) = decide (g ∈ ws) := by rw [if_neg (by simp), inV_strs]
    rw [ei]
    by_cases q : g ∈ ws
    · rw [decide_eq_true q]
      refine iteT ?_
      exact ⟨by rw [if_pos rfl]; rfl, rfl⟩
    · rw [decide_eq_false q]
      refine iteF ?_
      exact ⟨by rw [if_neg (by decide)]; rfl, rfl⟩
  rintro σ' H2 ⟨rfl, rfl⟩
  generalize hb : (if decide (g ∈ ws) = true then 48 else 49) = b at half ⊢
  have nxt : ∀ u z, Fk (SN n m fs) hs (s ++ [b]) u → Ft n (SN n m fs) hs (md (SN n m fs) m0 t) g u z → Ft n (SN n m fs) hs (md (SN n m fs) m0 t) g s z := fun u z a d => .go c aft (hb ▸ a) d
  have kb : s ++ [b] ∈ kys hs := by
    rw [← hb]
    split
    · exact k0
    · exact k1
  refine ⟨_, rfl, ⟨_, rfl, ⟨_, rfl, ⟨_, _, rfl, rfl, szl (by rw [sx_len, sx_len]; show s.length + 1 ≤ 1000000; omega), ?_⟩⟩⟩⟩
  rw [S_app]
  refine fk_go kn1 kb fun u H3 s3 hu hk => ?_
  have wb := way.snoc half
  refine ⟨u, _, rfl, s1.trans s3, hu, wb.trans (fk_way stp hk half.1), fun z h => hft z (nxt u z hk h), fk_end hk, ?_⟩
  have := (fk_pre hk).length_le
  rw [List.length_append] at this
  exact this
end
open PySem PySem.Spec PyProof.Rows LamX
open L2 hiding pass0
abbrev s_pairs : Stmt := top 54
theorem sc_pairs : FnScope ["width", "known", "lets_in", "pairs", "waiting", "stretch", "zero", "one", "crossing", "goal"] ["width", "known", "lets_in"] (defScope s_pairs) := ⟨rfl, rfl, rfl, by decide +kernel, rfl, by decide +kernel, by decide +kernel⟩
theorem bp_pairs : BndP "_pairs" s_pairs ["width", "known", "lets_in"] := fun _ _ _ _ _ _ us h => match us, h with | [_, _, _], _ => rfl
theorem fk_pk {H : Hp} {D n : Nat} {m : List (Str × Str)} {fs hs : List (List Nat)} {ad : List Nat → Addr} {m0 : Bool} (kn : Kno H D n m fs hs ad) {t u : List Nat} (h : Fk (SN n m fs) hs t u) : pk (SN n m fs) m0 (n - t.length) t = pk (SN n m fs) m0 (n - u.length) u ∧ md (SN n m fs) m0 u = md (SN n m fs) m0 t := by
  induction h with
  | even _ => exact ⟨rfl, rfl⟩
  | both _ _ _ => exact ⟨rfl, rfl⟩
  | @zero t u ht e0 _ ih =>
    have lt := kn.lt ht
    obtain ⟨k, hk⟩ : ∃ k, n - t.length = k + 1 := ⟨n - t.length - 1, by omega⟩
    have hk1 : n - (t ++ [49]).length = k := by rw [List.length_append, List.length_singleton]; omega
    have z := (pk_none (m0 := m0) (k := k) (t := t ++ [48]) (by rw [List.length_append, List.length_singleton]; omega) e0).1
    rw [hk1] at ih
    refine ⟨?_, ih.2.trans (by rw [md_snoc]; unfold nx; rw [e0])⟩
    rw [hk, ← ih.1]
    show crL _ _ _ ++ (pk _ _ k _ ++ pk _ _ k _) = _
    rw [z]
    unfold crL
    rw [e0]
    rfl
  | @one t u ht e0 e1 _ ih =>
    have lt := kn.lt ht
    obtain ⟨k, hk⟩ : ∃ k, n - t.length = k + 1 := ⟨n - t.length - 1, by omega⟩
    have hk1 : n - (t ++ [48]).length = k := by rw [List.length_append, List.length_singleton]; omega
    have z := (pk_none (m0 := m0) (k := k) (t := t ++ [49]) (by rw [List.length_append, List.length_singleton]; omega) e1).1
    rw [hk1] at ih
    cases ex : (SN n m fs (t ++ [48])).1 with
    | none => exact absurd ex e0
    | some x =>
      refine ⟨?_, ih.2.trans (by rw [md_snoc]; unfold nx; rw [ex, e1])⟩
      rw [hk, ← ih.1]
      show crL _ _ _ ++ (pk _ _ k _ ++ pk _ _ k _) = _
      rw [z]
      unfold crL
      rw [ex, e1]
      show [] ++ (_ ++ []) = _
      rw [List.append_nil]
      rfl
theorem even_pk {H : Hp} {D n : Nat} {m : List (Str × Str)} {fs hs : List (List Nat)} {ad : List Nat → Addr} {m0 : Bool} (kn : Kno H D n m fs hs ad) {u : List Nat} (hu : u ∉ hs) (l : u.length ≤ n) : pk (SN n m fs) m0 (n - u.length) u = [] := by
  obtain ⟨⟨o, eo⟩, st⟩ := kn.still hu
  cases o with
  | none => exact (pk_none (by omega) eo).1
  | some v => exact pk_even (v := v) fun y _ _ => (st y).trans eo
/-- pairs that are made -/
def Mz (H : Hp) (n : Nat) (m : List (Str × Str)) (fs : List (List Nat)) (m0 : Bool) (zs : List (Addr × (Og × Pr))) : Prop := ∀ z ∈ zs, H z.1 = some (.tup [oB z.2.2.1, sx z.2.2.2]) ∧ IsP n m fs m0 z.2.1 z.2.2
theorem Mz.to {H H' : Hp} {n : Nat} {m : List (Str × Str)} {fs : List (List Nat)} {m0 : Bool} {zs : List (Addr × (Og × Pr))} (h : Mz H n m fs m0 zs) (s : ∀ a l, H a = some (.tup l) → H' a = some (.tup l)) : Mz H' n m fs m0 zs := fun z hz => ⟨s _ _ (h z hz).1, (h z hz).2⟩
/-- what waits -/
def Wz (H : Hp) (f : List Nat → SNd) (m0 : Bool) (hs : List (List Nat)) (ws : List (Addr × List Nat)) : Prop := (∀ z ∈ ws, H z.1 = some (.tup [sx z.2, .bl (md f m0 z.2)]) ∧ z.2 ∈ kys hs) ∧ ∀ (i : Nat) (z : Addr × List Nat), ws[i]? = some z → i ≤ z.2.length
theorem Wz.to {H H' : Hp} {f : List Nat → SNd} {m0 : Bool} {hs : List (List Nat)} {ws : List (Addr × List Nat)} (h : Wz H f m0 hs ws) (s : ∀ a l, H a = some (.tup l) → H' a = some (.tup l)) : Wz H' f m0 hs ws := ⟨fun z hz => ⟨s _ _ (h.1 z hz).1, (h.1 z hz).2⟩, h.2⟩
def wms (n : Nat) (ws : List (Addr × List Nat)) : Nat := (ws.map fun w => 2 ^ (n + 1 - w.2.length) - 1).sum
theorem wms_app (n : Nat) (a b : List (Addr × List Nat)) : wms n (a ++ b) = wms n a + wms n b := by
  unfold wms
  rw [List.map_append, List.sum_append]
theorem wms_two {n l : Nat} (h : l + 1 ≤ n) : (2 ^ (n + 1 - (l + 1)) - 1) + (2 ^ (n + 1 - (l + 1)) - 1) < 2 ^ (n + 1 - l) - 1 := by
  obtain ⟨k, hk⟩ : ∃ k, n + 1 - (l + 1) = k := ⟨_, rfl⟩
  have : n + 1 - l = k + 1 := by omega
  rw [hk, this, Nat.pow_succ]
  have := Nat.two_pow_pos k
  omega
theorem wms_le {n l l' : Nat} (h : l ≤ l') : 2 ^ (n + 1 - l') - 1 ≤ 2 ^ (n + 1 - l) - 1 := by
  have : 2 ^ (n + 1 - l') ≤ 2 ^ (n + 1 - l) := Nat.pow_le_pow_right (by decide) (by omega)
  omega
/-- how the pairs come -/
inductive Run (n : Nat) (f : List Nat → SNd) (hs : List (List Nat)) (m0 : Bool) : List (List Nat) → List (Og × Pr) → List (Og × Pr) → Prop
  | done {w : List (List Nat)} {zs : List (Og × Pr)} : w = [] → Run n f hs m0 w zs zs
  | even {w ws : List (List Nat)} {t u : List Nat} {zs out : List (Og × Pr)} : w = ws ++ [t] → Fk f hs t u → u ∉ hs → Run n f hs m0 ws zs out → Run n f hs m0 w zs out
  | pass {w ws : List (List Nat)} {t u : List Nat} {x y : List Str} {zs out : List (Og × Pr)} : w = ws ++ [t] → Fk f hs t u → u ∈ hs → (f (u ++ [48])).1 = some x → (f (u ++ [49])).1 = some y → md f m0 t = apB x y → Run n f hs m0 (ws ++ [u ++ [48], u ++ [49]]) zs out → Run n f hs m0 w zs out
  | cross {w ws : List (List Nat)} {t u : List Nat} {x y : List Str} {zs us out : List (Og × Pr)} : w = ws ++ [t] → Fk f hs t u → u ∈ hs → (f (u ++ [48])).1 = some x → (f (u ++ [49])).1 = some y → md f m0 t ≠ apB x y → us.map (·.1) = (x.filter fun g => !decide (g ∈ y)).map (fun g => ((some u, g) : Og)) →
      (∀ z ∈ us, ∃ b, z.2.1 = some b ∧ FtT n f hs false z.1.2 (u ++ [49]) b ∧ FtT n f hs true z.1.2 (u ++ [48]) z.2.2) → Run n f hs m0 (ws ++ [u ++ [48], u ++ [49]]) (zs ++ us) out → Run n f hs m0 w zs out
theorem same_list {α β : Type} {R : α → β → Prop} (un : ∀ a b b', R a b → R a b' → b = b') : ∀ {us vs : List (α × β)}, us.map (·.1) = vs.map (·.1) → (∀ z ∈ us, R z.1 z.2) → (∀ z ∈ vs, R z.1 z.2) → us = vs
  | [], [], _, _, _ => rfl
  | [], _ :: _, e, _, _ => by cases e
  | _ :: _, [], e, _, _ => by cases e
  | (a, b) :: us, (a', b') :: vs, e, h, k => by
    rw [List.map_cons, List.map_cons] at e
    injection e with e1 e2
    have e1 : a = a' := e1
    subst e1
    cases un a b b' (h _ List.mem_cons_self) (k _ List.mem_cons_self)
    rw [same_list un e2 (fun z hz => h z (List.mem_cons_of_mem _ hz)) fun z hz => k z (List.mem_cons_of_mem _ hz)]
theorem Run.uniq {n : Nat} {f : List Nat → SNd} {hs hs' : List (List Nat)} {m0 : Bool} (e : ∀ s, s ∈ hs ↔ s ∈ hs') {w : List (List Nat)} {zs out : List (Og × Pr)} (h : Run n f hs m0 w zs out) : ∀ {out' : List (Og × Pr)}, Run n f hs' m0 w zs out' → out = out' := by
  have fl : ∀ {ws ws' : List (List Nat)} {t t' : List Nat}, ws ++ [t] = ws' ++ [t'] → ws = ws' ∧ t = t' := fun h => by
    have := List.append_inj' h rfl
    exact ⟨this.1, List.head_eq_of_cons_eq this.2⟩
  induction h with
  | done a0 =>
    intro out' k
    subst a0
    cases k with
    | done _ => rfl
    | even a _ _ _ => exact absurd a (by simp)
    | pass a _ _ _ _ _ _ => exact absurd a (by simp)
    | cross a _ _ _ _ _ _ _ _ => exact absurd a (by simp)
  | even a b c _ ih =>
    intro out' k
    subst a
    cases k with
    | done a => exact absurd a (by simp)
    | even a' b' _ r =>
      obtain ⟨rfl, rfl⟩ := fl a'
      exact ih r
    | pass a' b' c' _ _ _ _ =>
      obtain ⟨rfl, rfl⟩ := fl a'
      cases b.uniq e b'
      exact absurd ((e _).mpr c') c
    | cross a' b' c' _ _ _ _ _ _ =>
      obtain ⟨rfl, rfl⟩ := fl a'
      cases b.uniq e b'
      exact absurd ((e _).mpr c') c
  | pass a b c ex ey hm _ ih =>
    intro out' k
    subst a
    cases k with
    | done a => exact absurd a (by simp)
    | even a' b' c' _ =>
      obtain ⟨rfl, rfl⟩ := fl a'
      cases b.uniq e b'
      exact absurd ((e _).mp c) c'
    | pass a' b' c' ex' ey' _ r =>
      obtain ⟨rfl, rfl⟩ := fl a'
      cases b.uniq e b'
      exact ih r
    | cross a' b' c' ex' ey' hm' _ _ _ =>
      obtain ⟨rfl, rfl⟩ := fl a'
      cases b.uniq e b'
      rw [ex] at ex'
      rw [ey] at ey'
      cases ex'
      cases ey'
      exact absurd hm hm'
  | cross a b c ex ey hm um ua _ ih =>
    intro out' k
    subst a
    cases k with
    | done a => exact absurd a (by simp)
    | even a' b' c' _ =>
      obtain ⟨rfl, rfl⟩ := fl a'
      cases b.uniq e b'
      exact absurd ((e _).mp c) c'
    | pass a' b' c' ex' ey' hm' r =>
      obtain ⟨rfl, rfl⟩ := fl a'
      cases b.uniq e b'
      rw [ex] at ex'
      rw [ey] at ey'
      cases ex'
      cases ey'
      exact absurd hm' hm
    | cross a' b' c' ex' ey' _ um' ua' r =>
      obtain ⟨rfl, rfl⟩ := fl a'
      cases b.uniq e b'
      rw [ex] at ex'
      rw [ey] at ey'
      cases ex'
      cases ey'
      rename_i u _ _ _ us _ _ us' _
      have : us = us' := same_list (R := fun (o : Og) (q : Pr) => ∃ hs'', (∀ s, s ∈ hs'' ↔ s ∈ hs') ∧ ∃ b, q.1 = some b ∧ FtT n f hs'' false o.2 (u ++ [49]) b ∧ FtT n f hs'' true o.2 (u ++ [48]) q.2) (fun o q q' h k => by
          obtain ⟨h1, e1, b1, p1, f1, g1⟩ := h
          obtain ⟨h2, e2, b2, p2, f2, g2⟩ := k
          have ee : ∀ s, s ∈ h1 ↔ s ∈ h2 := fun s => (e1 s).trans (e2 s).symm
          cases f1.uniq ee f2
          have := g1.uniq ee g2
          exact Prod.ext (p1.trans p2.symm) this) (um.trans um'.symm) (fun z hz => ⟨_, e, ua z hz⟩) fun z hz => ⟨_, fun s => Iff.rfl, ua' z hz⟩
      subst this
      exact ih r
@[irreducible] def spPs : Sp := fun vs H Q _ => ∃ (D n : Nat) (m : List (Str × Str)) (fs hs : List (List Nat)) (ad : List Nat → Addr) (m0 : Bool), vs = [.int n, .ref D, .bl m0] ∧ Kno H D n m fs hs ad ∧ 1 ≤ n ∧ ∀ L zs H', Same H H' → H L = none → H' L = some (.lst (vz zs)) → Mz H' n m fs m0 zs → (zs.map (·.2.1)).Perm (pk (SN n m fs) m0 n []) → Run n (SN n m fs) hs m0 [[]] [] (zs.map (·.2)) → Q (.ref L) H'
theorem ps_go {H : Hp} {D n : Nat} {m : List (Str × Str)} {fs hs : List (List Nat)} {ad : List Nat → Addr} {m0 : Bool} {Q : VK} {E : XK} (kn : Kno H D n m fs hs ad) (n0 : 1 ≤ n) (k : ∀ L zs H', Same H H' → H L = none → H' L = some (.lst (vz zs)) → Mz H' n m fs m0 zs → (zs.map (·.2.1)).Perm (pk (SN n m fs) m0 n []) → Run n (SN n m fs) hs m0 [[]] [] (zs.map (·.2)) → Q (.ref L) H') : spPs [.int n, .ref D, .bl m0] H Q E := by
  unfold spPs
  exact ⟨D, n, m, fs, hs, ad, m0, rfl, kn, n0, k⟩
theorem pk_few {n : Nat} {m : List (Str × Str)} {fs : List (List Nat)} {m0 : Bool} (few : m.length ≤ 40) : (pk (SN n m fs) m0 n []).length ≤ 41 := by
  cases e : (SN n m fs []).1 with
  | none => rw [(pk_none (k := n) (t := []) (by show 0 + n = n; omega) e).1]; decide
  | some z =>
    have := pk_len (m0 := m0) (k := n) (t := []) (by show 0 + n = n; omega) e
    have h2 := cst_need (SN n m fs []) "hole"
    have h3 := few_le (n := n) (m := m) (fs := fs)
    omega
section
variable {P : Program} {w : World} {K : PySem.W.Frag} {mg : Str → Option Value} {base : Heap} {f C : Addr} {fd' : FuncData}
theorem ok_pairs (F : Fun K "_pairs" "_pairs" s_pairs f fd') (hm : mg "_pairs" = some (.ref f)) (T : Txt K mg) (c_fork : Nm P w K mg base CX0 2 "_fork" s_fork ["known", "stretch"] (spFk)) (c_is_even : Nm P w K mg base CX0 1 "_is_even" s_is_even ["known", "stretch"] (spIE)) (c_are_apart : Nm P w K mg base CX0 1 "_are_apart" s_are_apart ["known", "zero", "one"] (spAA)) (c_begin : Nm P w K mg base CX0 8 "_begin" s_begin ["width", "known", "stretch", "goal"] (spEB false)) (c_end : Nm P w K mg base CX0 8 "_end" s_end ["width", "known", "stretch", "goal"] (spEB true)) : Nm P w K mg base CX0 9 "_pairs" s_pairs ["width", "known", "lets_in"] (spPs) := by
  refine nm_of0 F hm sc_pairs (fun vs H Q E h => ?_) fun cdv A outer s H vs Q E hr h => ?_
  · unfold spPs at h
    obtain ⟨D, n, m, fs, hs, ad, m0, rfl, kn, n0, k⟩ := h
    subst_vars
    rfl
  unfold spPs at h
  obtain ⟨D, n, m, fs, hs, ad, m0, rfl, kn, n0, k⟩ := h
  refine ⟨_, (C8.pss_cut (ps_set (i := 3) sc_pairs.nd rfl (by first | exact Or.inl rfl | exact Or.inr rfl) (pe_lst pa_nil))
      (C8.pss_cut (ps_set (i := 4) sc_pairs.nd rfl (by first | exact Or.inl rfl | exact Or.inr rfl) (pe_lst (pa_cons (pe_tup (pa_cons pe_str (pa_cons (pv 2) pa_nil))) pa_nil)))
      (pss_cons (ps_while PassesOwn.never (pt_truth (pv 4) (by intro _; rfl)) (C8.pss_cut (ps_asg (pe_bm0 PySem.F.plainAttrs_list PySem.F.slot_list_pop PySem.F.type_list_pop mt_pop (pv 4)) (pg_tup (by rfl) (pgs_cons (pg_name (i := 5) sc_pairs.nd rfl (by first | exact Or.inl rfl | exact Or.inr rfl)) (pgs_cons (pg_name (i := 2) sc_pairs.nd rfl (by first | exact Or.inl rfl | exact Or.inr rfl)) pgs_nil))))
      (C8.pss_cut (ps_set (i := 5) sc_pairs.nd rfl (by first | exact Or.inl rfl | exact Or.inr rfl) (pe_g c_fork hr (by decide) L2.pass0 bp_fork (by rfl) (pa_cons (pv 1) (pa_cons (pv 5) pa_nil))))
      (C8.pss_cut (ps_if (pt_val (pe_g c_is_even hr (by decide) L2.pass0 bp_is_even (by rfl) (pa_cons (pv 1) (pa_cons (pv 5) pa_nil)))) (pss_one ps_continue) pss_nil)
      (C8.pss_cut (ps_asg (pe_tup (pa_cons (pe_op op_add_str (pv 5) pe_str) (pa_cons (pe_op op_add_str (pv 5) pe_str) pa_nil))) (pg_tup (by rfl) (pgs_cons (pg_name (i := 6) sc_pairs.nd rfl (by first | exact Or.inl rfl | exact Or.inr rfl)) (pgs_cons (pg_name (i := 7) sc_pairs.nd rfl (by first | exact Or.inl rfl | exact Or.inr rfl)) pgs_nil))))
      (C8.pss_cut (ps_if (pt_cmpR op_eq (pv 2) (pe_g c_are_apart hr (by decide) L2.pass0 bp_are_apart (by rfl) (pa_cons (pv 1) (pa_cons (pv 6) (pa_cons (pv 7) pa_nil)))) (nomark _)) (pss_cons (ps_expr (pe_bm PySem.F.plainAttrs_list PySem.F.slot_list_extend PySem.F.type_list_extend mt_extend (pv 4) (pa_cons (pe_lst (pa_cons (pe_tup (pa_cons (pv 6) (pa_cons (pv 2) pa_nil))) (pa_cons (pe_tup (pa_cons (pv 7) (pa_cons (pv 2) pa_nil))) pa_nil))) pa_nil)))
      (pss_one ps_continue)) pss_nil)
      (C8.pss_cut (ps_expr (pe_bm PySem.F.plainAttrs_list PySem.F.slot_list_extend PySem.F.type_list_extend mt_extend (pv 4) (pa_cons (pe_lst (pa_cons (pe_tup (pa_cons (pv 6) (pa_cons pe_bl pa_nil))) (pa_cons (pe_tup (pa_cons (pv 7) (pa_cons pe_bl pa_nil))) pa_nil))) pa_nil)))
      (C8.pss_cut (ps_setLc (i := 8) (own := [("goal", 9)]) (g := (gName 9)) (by rfl) sc_pairs.nd rfl rfl (sw_true rfl rfl rfl (by decide +kernel)) (pi_listK (K := K) rfl (pe_ix (ix_seqK (K := K) rfl) (pe_dget hr.u1 (pv 1) (pv 6) (fun _ _ => rfl)) pe_int (fun _ _ => rfl))) (blkOk_by (own := [("goal", 9)]) (N := ["width", "known", "lets_in", "pairs", "waiting", "stretch", "zero", "one", "crossing", "goal"]) (sc := defScope s_pairs) (by decide +kernel)) (fun _ _ _ _ _ => (pg_name (i := 9) sc_pairs.nd rfl (by first | exact Or.inl rfl | exact Or.inr rfl))) (fun _ _ _ _ _ => (pts_one (pt_cmpR (op_notInK (K := K) rfl) (pv 9) (pe_ix (ix_seqK (K := K) rfl) (pe_dget hr.u1 (pv 1) (pv 7) (fun _ _ => rfl)) pe_int (fun _ _ => rfl)) rfl))) (fun _ _ _ _ _ => (pv 9)))
      (pss_one (ps_expr (pe_bm PySem.F.plainAttrs_list PySem.F.slot_list_extend PySem.F.type_list_extend mt_extend (pv 3) (pa_cons (pe_lc (own := [("goal", 9)]) (g := (gName 9)) (by rfl) sc_pairs.nd (pi_listK (K := K) rfl (pv 8)) (blkOk_by (own := [("goal", 9)]) (N := ["width", "known", "lets_in", "pairs", "waiting", "stretch", "zero", "one", "crossing", "goal"]) (sc := defScope s_pairs) (by decide +kernel)) (fun _ _ _ _ _ => (pg_name (i := 9) sc_pairs.nd rfl (by first | exact Or.inl rfl | exact Or.inr rfl))) (fun _ _ _ _ _ => pts_nil) (fun _ _ _ _ _ => (pe_tup (pa_cons (pe_g c_begin hr (by decide) L2.pass0 bp_begin (by rfl) (pa_cons (pv 0) (pa_cons (pv 1) (pa_cons (pv 7) (pa_cons (pv 9) pa_nil))))) (pa_cons (pe_g c_end hr (by decide) L2.pass0 bp_end (by rfl) (pa_cons (pv 0) (pa_cons (pv 1) (pa_cons (pv 6) (pa_cons (pv 9) pa_nil))))) pa_nil))))) pa_nil))))))))))))
      (pss_one (ps_ret (pv 3)))))), ?_⟩
  have n1 := kn.n1
  refine ⟨fun σ' H' => ∃ L, σ' = [some (.int n), some (.ref D), some (.bl m0), some (.ref L), none, none, none, none, none, none] ∧ Same H H' ∧ H L = none ∧ H' L = some (.lst []), ?_, ?_⟩
  · refine ⟨szl (Nat.zero_le _), fun L nL => ?_⟩
    exact ⟨L, rfl, (Same.refl H).new nL, nL, upd_same⟩
  rintro σ' H1 ⟨L, rfl, s1, nL, eL⟩
  refine ⟨fun σ' H' => ∃ W t0, σ' = [some (.int n), some (.ref D), some (.bl m0), some (.ref L), some (.ref W), none, none, none, none, none] ∧ Same H H' ∧ H W = none ∧ L ≠ W ∧ H' L = some (.lst []) ∧ H' W = some (.lst [.ref t0]) ∧ H' t0 = some (.tup [sx [], .bl m0]), ?_, ?_⟩
  · refine ⟨_, rfl, ⟨szl (by show 2 ≤ 1000000; decide), fun t0 nt => ?_⟩⟩
    have e1 := updn (o := HO.tup [.str "", .bl m0]) (nonn nt eL) eL
    have s2 := s1.new (o := HO.tup [.str "", .bl m0]) nt
    have et : upd H1 t0 (.tup [.str "", .bl m0]) t0 = some (.tup [sx [], .bl m0]) := by
      rw [upd_same, show sx [] = V.str "" from by show V.str (SX.S []) = _; decide +kernel]
    generalize upd H1 t0 (.tup [.str "", .bl m0]) = H2 at e1 s2 et ⊢
    refine ⟨szl (by show 1 ≤ 1000000; decide), fun W nW => ?_⟩
    exact ⟨W, t0, rfl, s2.new nW, s2.back nW, nonn nW e1, updn (nonn nW e1) e1, upd_same, updn (nonn nW et) et⟩
  clear s1 eL H1
  rintro σ' H1 ⟨W, t0, rfl, s1, nW, nLW, eL, eW, et⟩
  have hnil : [] ∈ kys hs := kys_mem.mpr (.inl rfl)
  refine ⟨fun mm σ' H' => ∃ (zs : List (Addr × (Og × Pr))) (ws : List (Addr × List Nat)) (x2 x5 x6 x7 x8 : Option V), σ' = [some (.int n), some (.ref D), x2, some (.ref L), some (.ref W), x5, x6, x7, x8, none] ∧ Same H H' ∧ H' L = some (.lst (vz zs)) ∧ H' W = some (.lst (vz ws)) ∧ Mz H' n m fs m0 zs ∧ Wz H' (SN n m fs) m0 hs ws ∧ (zs.map (·.2.1) ++ ws.flatMap fun w => pk (SN n m fs) m0 (n - w.2.length) w.2).Perm (pk (SN n m fs) m0 n []) ∧ (∀ out, Run n (SN n m fs) hs m0 (ws.map fun z : Addr × List Nat => z.2) (zs.map fun z : Addr × (Og × Pr) => z.2) out → Run n (SN n m fs) hs m0 [[]] [] out) ∧ mm = wms n ws,
    ⟨_, [], [(t0, [])], _, _, _, _, _, rfl, s1, eL, eW, fun z hz => (by cases hz), ⟨fun z hz => by rw [List.mem_singleton.mp hz]; exact ⟨et, hnil⟩, fun i z hz => by
      cases i with
      | zero => exact Nat.zero_le _
      | succ i => simp at hz⟩, by
        show (([] : List Og) ++ (pk (SN n m fs) m0 (n - 0) [] ++ [])).Perm _
        rw [List.nil_append, List.append_nil, Nat.sub_zero], fun out h => h, rfl⟩, ?_⟩
  clear s1 eL eW et
  rintro mm σ' H3 ⟨zs, ws, x2, x5, x6, x7, x8, rfl, s3, eL3, eW3, mz, wz, pm, hrun, rfl⟩
  refine ⟨_, rfl, ⟨_, .inl ⟨vz ws, SqL.of eW3, rfl⟩, ?_⟩⟩
  rcases List.eq_nil_or_concat ws with rfl | ⟨ws, ⟨a, t⟩, rfl⟩
  · refine iteF ?_
    refine ⟨_, rfl, ?_⟩
    rw [show (([] : List (Addr × List Nat)).flatMap fun w => pk (SN n m fs) m0 (n - w.2.length) w.2) = [] from rfl, List.append_nil] at pm
    exact k L zs H3 s3 nL eL3 mz pm (hrun _ (.done rfl))
  rw [List.concat_eq_append] at *
  have vzs : vz (ws ++ [(a, t)]) = vz ws ++ [V.ref a] := by unfold vz; rw [List.map_append]; rfl
  rw [show (!(vz (ws ++ [(a, t)])).isEmpty) = true by rw [vzs]; simp]
  refine iteT ?_
  have hat := wz.1 (a, t) (by simp)
  have kt : t ∈ kys hs := hat.2
  have ktf : M.BL t ∧ t.length ≤ n := kn.fit hat.2
  have wz' : Wz H3 (SN n m fs) m0 hs ws := ⟨fun z hz => wz.1 z (List.mem_append.mpr (.inl hz)), fun i z hz => wz.2 i z (by rw [List.getElem?_append_left (List.getElem?_eq_some_iff.mp hz).1]; exact hz)⟩
  have dep : ws.length ≤ t.length := wz.2 ws.length (a, t) (by simp)
  have lows : wms n (ws ++ [(a, t)]) = wms n ws + (2 ^ (n + 1 - t.length) - 1) := by
    rw [wms_app]
    show _ + ((_ - 1) + 0) = _
    rw [Nat.add_zero]
  have pos1 : 1 ≤ 2 ^ (n + 1 - t.length) - 1 := by
    obtain ⟨k, hk⟩ : ∃ k, n + 1 - t.length = k + 1 := ⟨n - t.length, by omega⟩
    rw [hk, Nat.pow_succ]
    have := Nat.two_pow_pos k
    omega
  have lz : zs.length ≤ 41 := by
    have := pm.length_eq
    have h2 := pk_few (n := n) (m := m) (fs := fs) (m0 := m0) kn.ok.few
    rw [List.length_append, List.length_map] at this
    omega
  refine ⟨fun σ' H' => ∃ (zs : List (Addr × (Og × Pr))) (ws2 : List (Addr × List Nat)) (x2 x5 x6 x7 x8 : Option V), σ' = [some (.int n), some (.ref D), x2, some (.ref L), some (.ref W), x5, x6, x7, x8, none] ∧ Same H H' ∧ H' L = some (.lst (vz zs)) ∧ H' W = some (.lst (vz ws2)) ∧ Mz H' n m fs m0 zs ∧ Wz H' (SN n m fs) m0 hs ws2 ∧ (zs.map (·.2.1) ++ ws2.flatMap fun w => pk (SN n m fs) m0 (n - w.2.length) w.2).Perm (pk (SN n m fs) m0 n []) ∧ (∀ out, Run n (SN n m fs) hs m0 (ws2.map fun z : Addr × List Nat => z.2) (zs.map fun z : Addr × (Og × Pr) => z.2) out → Run n (SN n m fs) hs m0 [[]] [] out) ∧ wms n ws2 < wms n (ws ++ [(a, t)]),
    fun σ' H' ⟨zs, ws2, a1, a2, a3, a4, a5, b1, b2, b3, b4, b5, b6, b7, br, b8⟩ => ⟨_, b8, zs, ws2, a1, a2, a3, a4, a5, b1, b2, b3, b4, b5, b6, b7, br, rfl⟩, ?_⟩
  refine ⟨fun σ' H' => σ' = [some (.int n), some (.ref D), some (.bl (md (SN n m fs) m0 t)), some (.ref L), some (.ref W), some (sx t), x6, x7, x8, none] ∧ Same H H' ∧ H' L = some (.lst (vz zs)) ∧ H' W = some (.lst (vz ws)) ∧ Mz H' n m fs m0 zs ∧ Wz H' (SN n m fs) m0 hs ws, ?_, ?_⟩
  · refine ⟨_, rfl, ⟨.inl ⟨rfl, _, SqL.of eW3⟩, ⟨W, _, .ref a, rfl, rfl, eW3, by rw [vzs]; simp, ?_⟩⟩⟩
    rw [vzs, List.dropLast_concat]
    have tu : ∀ b l, H3 b = some (.tup l) → upd H3 W (.lst (vz ws)) b = some (.tup l) := fun b l e => updn (fun z => by rw [z, eW3] at e; cases e) e
    refine ⟨a, [sx t, .bl (md (SN n m fs) m0 t)], rfl, SqT.of (tu _ _ hat.1), rfl, ⟨_, _, rfl, ⟨_, _, rfl, ⟨rfl, ?_⟩⟩⟩⟩
    exact ⟨rfl, fun b o e => updn (nonn nW e) (s3 _ _ e), updn nLW eL3, upd_same, mz.to tu, wz'.to tu⟩
  clear s3 eL3 eW3 mz wz wz' hat
  rintro σ' H4 ⟨rfl, s4, eL, eW, mz, wz⟩
  refine ⟨fun σ' H' => ∃ u, σ' = [some (.int n), some (.ref D), some (.bl (md (SN n m fs) m0 t)), some (.ref L), some (.ref W), some (sx u), x6, x7, x8, none] ∧ Same H4 H' ∧ u ∈ kys hs ∧ Fk (SN n m fs) hs t u, ?_, ?_⟩
  · refine ⟨_, rfl, ⟨_, rfl, ?_⟩⟩
    exact fk_go (kn.to s4) kt fun u H5 s5 hu hk => ⟨u, rfl, s5, hu, hk⟩
  rintro σ' H5 ⟨u, rfl, s5, hu, hk⟩
  have s45 := s4.trans s5
  have mz5 := mz.to fun b l e => s5 _ _ e
  have wz5 := wz.to fun b l e => s5 _ _ e
  have kn5 := kn.to s45
  obtain ⟨ep, em⟩ := fk_pk (m0 := m0) kn hk
  have ul := kn.fit hu
  have tu := (fk_pre hk).length_le
  have fm : (ws ++ [(a, t)]).flatMap (fun w => pk (SN n m fs) m0 (n - w.2.length) w.2) = (ws.flatMap fun w => pk (SN n m fs) m0 (n - w.2.length) w.2) ++ pk (SN n m fs) m0 (n - u.length) u := by
    rw [List.flatMap_append, ← ep]
    show _ ++ (_ ++ []) = _
    rw [List.append_nil]
  rw [fm] at pm
  refine ⟨fun σ' H' => σ' = [some (.int n), some (.ref D), some (.bl (md (SN n m fs) m0 t)), some (.ref L), some (.ref W), some (sx u), x6, x7, x8, none] ∧ H' = H5 ∧ u ∈ hs, ?_, ?_⟩
  · refine ⟨_, rfl, ⟨_, rfl, ?_⟩⟩
    refine ie_go kn5 (by omega) ?_
    refine ⟨_, rfl, ?_⟩
    by_cases c : u ∈ hs
    · rw [decide_eq_true c]
      exact iteF ⟨rfl, rfl, c⟩
    · rw [decide_eq_false c]
      refine iteT ?_
      rw [even_pk kn c ul.2, List.append_nil] at pm
      exact ⟨zs, ws, _, _, _, _, _, rfl, s45, s5 _ _ eL, s5 _ _ eW, mz5, wz5, pm, fun out h => hrun out (.even (by rw [List.map_append]; rfl) hk c h), by rw [lows]; omega⟩
  rintro σ' H6 ⟨rfl, rfl, c⟩
  have lt := kn.lt c
  have k0 : u ++ [48] ∈ kys hs := kys_half.mpr c
  have k1 : u ++ [49] ∈ kys hs := kys_one c
  obtain ⟨_, ne0, ne1⟩ := (fk_end hk).resolve_left fun z => z c
  cases e0 : (SN n m fs (u ++ [48])).1 with
  | none => exact absurd e0 ne0
  | some x =>
  cases e1 : (SN n m fs (u ++ [49])).1 with
  | none => exact absurd e1 ne1
  | some y =>
  have md0 : md (SN n m fs) m0 (u ++ [48]) = if md (SN n m fs) m0 t = apB x y then md (SN n m fs) m0 t else true := by
    rw [md_snoc, em]
    unfold nx
    rw [e0, e1]
    rfl
  have md1 : md (SN n m fs) m0 (u ++ [49]) = if md (SN n m fs) m0 t = apB x y then md (SN n m fs) m0 t else false := by
    rw [md_snoc, em]
    unfold nx
    rw [e0, e1]
    rfl
  have pku : pk (SN n m fs) m0 (n - u.length) u = crL (SN n m fs) m0 u ++ (pk (SN n m fs) m0 (n - (u ++ [48]).length) (u ++ [48]) ++ pk (SN n m fs) m0 (n - (u ++ [49]).length) (u ++ [49])) := by
    obtain ⟨k', hk'⟩ : ∃ k', n - u.length = k' + 1 := ⟨n - u.length - 1, by omega⟩
    have l0 : n - (u ++ [48]).length = k' := by rw [List.length_append, List.length_singleton]; omega
    have l1 : n - (u ++ [49]).length = k' := by rw [List.length_append, List.length_singleton]; omega
    rw [hk', l0, l1]
    rfl
  have cru : crL (SN n m fs) m0 u = if md (SN n m fs) m0 t = apB x y then [] else (x.filter fun g => !decide (g ∈ y)).map fun g => (some u, g) := by
    unfold crL
    rw [e0, e1, em]
  rw [pku, cru] at pm
  have lw2 : ∀ a1 a2 : Addr, wms n (ws ++ [(a1, u ++ [48]), (a2, u ++ [49])]) < wms n (ws ++ [(a, t)]) := fun a1 a2 => by
    rw [lows, wms_app]
    show wms n ws + ((2 ^ (n + 1 - (u ++ [48]).length) - 1) + ((2 ^ (n + 1 - (u ++ [49]).length) - 1) + 0)) < _
    rw [List.length_append, List.length_append, List.length_singleton, List.length_singleton]
    have h1 := wms_two (n := n) (l := u.length) lt
    have h2 := wms_le (n := n) tu
    omega
  have wz2 : ∀ {H' : Hp} {a1 a2 : Addr} {b1 b2 : Bool}, (∀ b l, H6 b = some (.tup l) → H' b = some (.tup l)) → H' a1 = some (.tup [sx (u ++ [48]), .bl b1]) → H' a2 = some (.tup [sx (u ++ [49]), .bl b2]) → md (SN n m fs) m0 (u ++ [48]) = b1 → md (SN n m fs) m0 (u ++ [49]) = b2 → Wz H' (SN n m fs) m0 hs (ws ++ [(a1, u ++ [48]), (a2, u ++ [49])]) := fun {H' a1 a2 b1 b2} tu' h1 h2 q1 q2 => by
    refine ⟨fun z hz => ?_, fun i z hz => ?_⟩
    · rcases List.mem_append.mp hz with h | h
      · exact (wz5.to tu').1 z h
      · simp only [List.mem_cons, List.not_mem_nil, or_false] at h
        rcases h with rfl | rfl
        · exact ⟨by rw [q1]; exact h1, k0⟩
        · exact ⟨by rw [q2]; exact h2, k1⟩
    · by_cases hi : i < ws.length
      · rw [List.getElem?_append_left hi] at hz
        exact wz.2 i z hz
      · rw [List.getElem?_append_right (by omega)] at hz
        obtain ⟨j, hj⟩ : ∃ j, i - ws.length = j := ⟨_, rfl⟩
        rw [hj] at hz
        match j, hz with
        | 0, hz =>
          cases hz
          show i ≤ (u ++ [48]).length
          rw [List.length_append]
          omega
        | 1, hz =>
          cases hz
          show i ≤ (u ++ [49]).length
          rw [List.length_append, List.length_singleton]
          omega
        | j + 2, hz => simp at hz
  have vz2 : ∀ a1 a2 : Addr, vz ws ++ [V.ref a1, V.ref a2] = vz (ws ++ [(a1, u ++ [48]), (a2, u ++ [49])]) := fun a1 a2 => by
    unfold vz
    rw [List.map_append]
    rfl
  refine ⟨fun σ' H' => σ' = [some (.int n), some (.ref D), some (.bl (md (SN n m fs) m0 t)), some (.ref L), some (.ref W), some (sx u), some (sx (u ++ [48])), some (sx (u ++ [49])), x8, none] ∧ Same H6 H', ?_, ?_⟩
  · refine ⟨_, rfl, ⟨_, _, rfl, rfl, szl (by rw [sx_len]; show u.length + 1 ≤ 1000000; omega), ?_⟩⟩
    rw [str0]
    refine ⟨_, rfl, ⟨_, _, rfl, rfl, szl (by rw [sx_len]; show u.length + 1 ≤ 1000000; omega), ?_⟩⟩
    rw [str1]
    refine ⟨szl (by show 2 ≤ 1000000; decide), fun T nT => ?_⟩
    refine ⟨T, _, rfl, SqT.of upd_same, rfl, ⟨_, _, rfl, ⟨_, _, rfl, ⟨rfl, ?_⟩⟩⟩⟩
    exact ⟨rfl, (Same.refl H6).new nT⟩
  rintro σ' H7 ⟨rfl, s7⟩
  have s67 := s45.trans s7
  have tup7 : ∀ b l, H6 b = some (.tup l) → H7 b = some (.tup l) := fun b l e => s7 _ _ e
  have eL7 := s7 _ _ (s5 _ _ eL)
  have eW7 := s7 _ _ (s5 _ _ eW)
  have lws : ws.length ≤ 100 := by omega
  -- both halves wait
  have ext : ∀ (b1 b2 : Bool) (H8 : Hp), Same H7 H8 → ∀ a1, H8 a1 = none → ∀ a2, upd H8 a1 (.tup [sx (u ++ [48]), .bl b1]) a2 = none → ∀ l, upd (upd H8 a1 (.tup [sx (u ++ [48]), .bl b1])) a2 (.tup [sx (u ++ [49]), .bl b2]) l = none →
      md (SN n m fs) m0 (u ++ [48]) = b1 → md (SN n m fs) m0 (u ++ [49]) = b2 →
      ∃ H9, upd (upd (upd H8 a1 (.tup [sx (u ++ [48]), .bl b1])) a2 (.tup [sx (u ++ [49]), .bl b2])) l (.lst [.ref a1, .ref a2]) = H9 ∧ Same H7 H9 ∧ H9 l = some (.lst [.ref a1, .ref a2]) ∧ H9 W = some (.lst (vz ws)) ∧ Same H (upd H9 W (.lst (vz (ws ++ [(a1, u ++ [48]), (a2, u ++ [49])])))) ∧ upd H9 W (.lst (vz (ws ++ [(a1, u ++ [48]), (a2, u ++ [49])]))) L = some (.lst (vz zs)) ∧ Mz (upd H9 W (.lst (vz (ws ++ [(a1, u ++ [48]), (a2, u ++ [49])])))) n m fs m0 zs ∧ Wz (upd H9 W (.lst (vz (ws ++ [(a1, u ++ [48]), (a2, u ++ [49])])))) (SN n m fs) m0 hs (ws ++ [(a1, u ++ [48]), (a2, u ++ [49])]) := fun b1 b2 H8 s8 a1 n1' a2 n2' l nl q1 q2 => by
    have t1 : upd H8 a1 (.tup [sx (u ++ [48]), .bl b1]) a1 = some (.tup [sx (u ++ [48]), .bl b1]) := upd_same
    have s9 := s8.new (o := HO.tup [sx (u ++ [48]), .bl b1]) n1'
    generalize upd H8 a1 (.tup [sx (u ++ [48]), .bl b1]) = Ha at t1 s9 n2' nl ⊢
    have t2 := updn (o := HO.tup [sx (u ++ [49]), .bl b2]) (nonn n2' t1) t1
    have t3 : upd Ha a2 (.tup [sx (u ++ [49]), .bl b2]) a2 = some (.tup [sx (u ++ [49]), .bl b2]) := upd_same
    have sa := s9.new (o := HO.tup [sx (u ++ [49]), .bl b2]) n2'
    generalize upd Ha a2 (.tup [sx (u ++ [49]), .bl b2]) = Hb at t2 t3 sa nl ⊢
    have t4 := updn (o := HO.lst [.ref a1, .ref a2]) (nonn nl t2) t2
    have t5 := updn (o := HO.lst [.ref a1, .ref a2]) (nonn nl t3) t3
    have sb := sa.new (o := HO.lst [.ref a1, .ref a2]) nl
    have el : upd Hb l (.lst [.ref a1, .ref a2]) l = some (.lst [.ref a1, .ref a2]) := upd_same
    refine ⟨_, rfl, sb, el, sb _ _ eW7, fun b o e => updn (nonn nW e) (sb _ _ (s67 _ _ e)), updn nLW (sb _ _ eL7), ?_, ?_⟩
    · exact mz5.to fun b l e => updn (fun z => by rw [z, s5 _ _ eW] at e; cases e) (sb _ _ (s7 _ _ e))
    · refine wz2 (b1 := b1) (b2 := b2) (fun b l e => updn (fun z => by rw [z, s5 _ _ eW] at e; cases e) (sb _ _ (s7 _ _ e))) ?_ ?_ q1 q2
      · exact updn (ne_of t4 (sb _ _ eW7) fun z => nomatch z) t4
      · exact updn (ne_of t5 (sb _ _ eW7) fun z => nomatch z) t5
  refine ⟨fun σ' H' => σ' = [some (.int n), some (.ref D), some (.bl (md (SN n m fs) m0 t)), some (.ref L), some (.ref W), some (sx u), some (sx (u ++ [48])), some (sx (u ++ [49])), x8, none] ∧ Same H7 H' ∧ md (SN n m fs) m0 t ≠ apB x y, ?_, ?_⟩
  · refine ⟨_, rfl, ⟨_, rfl, ⟨_, rfl, ⟨_, rfl, ?_⟩⟩⟩⟩
    refine aa_go (kn.to s67) k0 k1 e0 e1 fun H8 s8 => ?_
    refine ⟨rfl, ⟨_, rfl, ?_⟩⟩
    by_cases q : md (SN n m fs) m0 t = apB x y
    case neg =>
      rw [decide_eq_false (show ¬ V.bl (md (SN n m fs) m0 t) = V.bl (apB x y) from fun z => q (V.bl.inj z))]
      exact iteF ⟨rfl, s8, q⟩
    case pos =>
    rw [decide_eq_true (show V.bl (md (SN n m fs) m0 t) = V.bl (apB x y) from congrArg V.bl q)]
    refine iteT ?_
    rw [if_pos q] at md0 md1 pm
    refine ⟨_, rfl, ⟨.inl ⟨rfl, _, SqL.of (s8 _ _ eW7)⟩, ?_⟩⟩
    refine ⟨_, rfl, ⟨_, rfl, ⟨szl (by show 2 ≤ 1000000; decide), fun a1 na1 => ?_⟩⟩⟩
    refine ⟨_, rfl, ⟨_, rfl, ⟨szl (by show 2 ≤ 1000000; decide), fun a2 na2 => ?_⟩⟩⟩
    refine ⟨szl (by show 2 ≤ 1000000; decide), fun l nl => ?_⟩
    obtain ⟨H9, h9, s9, el, eW9, f1, f2, f3, f4⟩ := ext _ _ H8 s8 a1 na1 a2 na2 l nl md0 md1
    have h9' : upd (upd (upd H8 a1 (.tup [sx (u ++ [48]), .bl (md (SN n m fs) m0 t)])) a2 (.tup [sx (u ++ [49]), .bl (md (SN n m fs) m0 t)])) l (.lst [.ref a1, .ref a2]) = H9 := h9
    rw [h9']
    refine ⟨W, l, vz ws, _, rfl, rfl, eW9, el, szl (by rw [vz_len]; show ws.length + 2 ≤ 1000000; omega), ?_⟩
    rw [vz2]
    refine ⟨zs, ws ++ [(a1, u ++ [48]), (a2, u ++ [49])], _, _, _, _, _, rfl, f1, f2, upd_same, f3, f4, ?_, fun out h => hrun out (.pass (by rw [List.map_append]; rfl) hk c e0 e1 q (by rw [List.map_append] at h; exact h)), lw2 a1 a2⟩
    rw [List.flatMap_append]
    show (_ ++ (_ ++ (_ ++ (_ ++ [])))).Perm _
    rw [List.append_nil]
    exact pm
  rintro σ' H8 ⟨rfl, s8, q⟩
  rw [if_neg q] at md0 md1 pm
  have cx : ∀ g, g ∈ x.filter (fun g => !decide (g ∈ y)) → crB (SN n m fs) u (md (SN n m fs) m0 u) g = true ∧ Cn (SN n m fs) m0 (u ++ [48]) g ∧ Cn (SN n m fs) m0 (u ++ [49]) g := fun g hg => by
    obtain ⟨gx, gy⟩ := List.mem_filter.mp hg
    have gy' : ¬ g ∈ y := by simpa using gy
    refine ⟨?_, ⟨x, e0, ?_⟩, ⟨y, e1, ?_⟩⟩
    · unfold crB
      rw [e0, e1, em]
      dsimp only
      rw [decide_eq_false q, decide_eq_true gx, decide_eq_false gy']
      rfl
    · rw [md0]
      exact ⟨fun _ => rfl, fun _ => gx⟩
    · rw [md1]
      exact ⟨fun h => absurd h gy', fun h => by cases h⟩
  have hrun2 : ∀ (a1 a2 : Addr) (us : List (Og × Pr)) (out : List (Og × Pr)), us.map (·.1) = (x.filter fun g => !decide (g ∈ y)).map (fun g => ((some u, g) : Og)) → (∀ z ∈ us, ∃ b, z.2.1 = some b ∧ FtT n (SN n m fs) hs false z.1.2 (u ++ [49]) b ∧ FtT n (SN n m fs) hs true z.1.2 (u ++ [48]) z.2.2) → Run n (SN n m fs) hs m0 ((ws ++ [(a1, u ++ [48]), (a2, u ++ [49])]).map fun z : Addr × List Nat => z.2) ((zs.map fun z : Addr × (Og × Pr) => z.2) ++ us) out → Run n (SN n m fs) hs m0 [[]] [] out := fun a1 a2 us out h1 h2 h => hrun out (.cross (by rw [List.map_append]; rfl) hk c e0 e1 q h1 h2 (by rw [List.map_append] at h; exact h))
  generalize hcr : x.filter (fun g => !decide (g ∈ y)) = cr at pm cx hrun2
  have zx := SN_sz (t := u ++ [48]) (fs := fs) kn.ok x e0
  have lcr : cr.length ≤ 1000 := by
    rw [← hcr]
    exact Nat.le_trans (List.length_filter_le _ _) zx.1
  refine ⟨fun σ' H' => ∃ a1 a2, σ' = [some (.int n), some (.ref D), some (.bl (md (SN n m fs) m0 t)), some (.ref L), some (.ref W), some (sx u), some (sx (u ++ [48])), some (sx (u ++ [49])), x8, none] ∧ Same H H' ∧ H' L = some (.lst (vz zs)) ∧ H' W = some (.lst (vz (ws ++ [(a1, u ++ [48]), (a2, u ++ [49])]))) ∧ Mz H' n m fs m0 zs ∧ Wz H' (SN n m fs) m0 hs (ws ++ [(a1, u ++ [48]), (a2, u ++ [49])]), ?_, ?_⟩
  · refine ⟨_, rfl, ⟨.inl ⟨rfl, _, SqL.of (s8 _ _ eW7)⟩, ?_⟩⟩
    refine ⟨_, rfl, ⟨szl (by show 2 ≤ 1000000; decide), fun a1 na1 => ?_⟩⟩
    refine ⟨_, rfl, ⟨szl (by show 2 ≤ 1000000; decide), fun a2 na2 => ?_⟩⟩
    refine ⟨szl (by show 2 ≤ 1000000; decide), fun l nl => ?_⟩
    obtain ⟨H9, h9, s9, el, eW9, f1, f2, f3, f4⟩ := ext _ _ H8 s8 a1 na1 a2 na2 l nl md0 md1
    have h9' : upd (upd (upd H8 a1 (.tup [sx (u ++ [48]), .bl true])) a2 (.tup [sx (u ++ [49]), .bl false])) l (.lst [.ref a1, .ref a2]) = H9 := h9
    rw [h9']
    refine ⟨W, l, vz ws, _, rfl, rfl, eW9, el, szl (by rw [vz_len]; show ws.length + 2 ≤ 1000000; omega), ?_⟩
    rw [vz2]
    exact ⟨a1, a2, rfl, f1, f2, upd_same, f3, f4⟩
  clear s8 eL7 eW7 ext tup7 s67 s7 H7 H8
  rintro σ' H7 ⟨a1, a2, rfl, s7, eL7, eW7, mz7, wz7⟩
  have kn7 := kn.to s7
  obtain ⟨v0, ec0, hv0⟩ := kn7.ev _ k0
  obtain ⟨v1, ec1, hv1⟩ := kn7.ev _ k1
  rw [e0] at hv0
  rw [e1] at hv1
  obtain ⟨A1, rfl, hA⟩ := hv0
  obtain ⟨A2, rfl, hB⟩ := hv1
  have val0 : some (V.ref (ad (u ++ [48]))) = valV (fd (kys hs) fun t => V.ref (ad t)) (skey (u ++ [48])) := by rw [fd_val, if_pos k0]
  have val1 : some (V.ref (ad (u ++ [49]))) = valV (fd (kys hs) fun t => V.ref (ad t)) (skey (u ++ [49])) := by rw [fd_val, if_pos k1]
  refine ⟨fun σ' H' => ∃ Cr, σ' = [some (.int n), some (.ref D), some (.bl (md (SN n m fs) m0 t)), some (.ref L), some (.ref W), some (sx u), some (sx (u ++ [48])), some (sx (u ++ [49])), some (.ref Cr), none] ∧ Same H7 H' ∧ H' Cr = some (.lst (cr.map V.str)), ?_, ?_⟩
  · refine ⟨_, rfl, ⟨_, rfl, ⟨D, .ref (ad (u ++ [48])), rfl, .inl ⟨_, skey (u ++ [48]), .inl kn7.eD, rfl, val0⟩, .inr (.inl ⟨_, _, 0, .ref A1, rfl, rfl, SqT.of ec0, rfl, ?_⟩)⟩⟩⟩
    refine ⟨A1, rfl, ⟨_, SqL.of hA⟩, fun B nB => ?_⟩
    refine lc_it (walk_list (xs := x.map V.str)) (fun i H' => H' B = some (.lst (((x.take i).filter fun g => !decide (g ∈ y)).map V.str)) ∧ Same H7 H') ⟨upd_same, (Same.refl H7).new nB⟩ (fun i H' _ h => SqL.of (h.2 _ _ hA)) ?_ ?_
    · rintro i w Ha Hb hi ⟨eB, sm⟩ ⟨rfl, hw⟩
      obtain ⟨g, hg, rfl⟩ : ∃ g, x[i]? = some g ∧ w = .str g := by
        rw [List.getElem?_map] at hw
        cases q : x[i]? with
        | none => rw [q] at hw; cases hw
        | some g => rw [q] at hw; exact ⟨g, rfl, (Option.some.inj hw).symm⟩
      refine ⟨rfl, ?_⟩
      refine ⟨_, rfl, ⟨_, rfl, ⟨_, rfl, ⟨D, .ref (ad (u ++ [49])), rfl, .inl ⟨_, skey (u ++ [49]), .inl (sm _ _ kn7.eD), rfl, val1⟩, .inr (.inl ⟨_, _, 0, .ref A2, rfl, rfl, SqT.of (sm _ _ ec1), rfl, ?_⟩)⟩⟩⟩⟩
      refine ⟨A2, _, rfl, .inl (SqL.of (sm _ _ hB)), rfl, flat_strs _, ?_⟩
      refine ⟨_, rfl, ?_⟩
      have ei : (if (true : Bool) = true then !inV (.str g) (y.map V.str) else inV (.str g) (y.map V.str)) = !decide (g ∈ y) := by rw [if_pos rfl, inV_strs]
      rw [ei]
      have more : (x.take (i + 1)).filter (fun g => !decide (g ∈ y)) = (x.take i).filter (fun g => !decide (g ∈ y)) ++ if g ∈ y then [] else [g] := by
        rw [List.take_add_one, hg, List.filter_append]
        by_cases c : g ∈ y <;> simp [c]
      by_cases c : g ∈ y
      · rw [decide_eq_true c]
        refine iteF ?_
        rw [more, if_pos c, List.append_nil]
        exact ⟨eB, sm⟩
      · rw [decide_eq_false c]
        refine iteT ?_
        refine ⟨_, rfl, _, eB, szt (by have := List.length_filter_le (fun g => !decide (g ∈ y)) (x.take i); rw [List.length_take] at this; have := zx.1; rw [List.length_map]; omega), ?_, fun b o e => updn (nonn nB e) (sm _ _ e)⟩
        rw [upd_same, more, if_neg c, List.map_append]
        rfl
    · rintro Ha ⟨eB, sm⟩
      rw [List.length_map, List.take_length, hcr] at eB
      exact ⟨B, rfl, sm, eB⟩
  rintro σ' H8 ⟨Cr, rfl, s8, eC⟩
  have s78 := s7.trans s8
  have eL8 := s8 _ _ eL7
  refine ⟨_, rfl, ⟨.inl ⟨rfl, _, SqL.of eL8⟩, ?_⟩⟩
  refine ⟨_, rfl, ⟨Cr, rfl, ⟨_, SqL.of eC⟩, fun B nB => ?_⟩⟩
  refine lc_it (walk_list (xs := cr.map V.str)) (fun i H' => ∃ us : List (Addr × (Og × Pr)), H' B = some (.lst (vz us)) ∧ Mz H' n m fs m0 us ∧ us.map (·.2.1) = (cr.take i).map (fun g => ((some u, g) : Og)) ∧ (∀ z ∈ us, ∃ b, z.2.2.1 = some b ∧ FtT n (SN n m fs) hs false z.2.1.2 (u ++ [49]) b ∧ FtT n (SN n m fs) hs true z.2.1.2 (u ++ [48]) z.2.2.2) ∧ Same H8 H') ⟨[], upd_same, fun z hz => (by cases hz), rfl, fun z hz => (by cases hz), (Same.refl H8).new nB⟩ (fun i H' _ h => let ⟨_, _, _, _, _, s⟩ := h; SqL.of (s _ _ eC)) ?_ ?_
  · rintro i w Ha Hb hi ⟨us, eB, mu, eu, uft, sm⟩ ⟨rfl, hw⟩
    obtain ⟨g, hg, rfl⟩ : ∃ g, cr[i]? = some g ∧ w = .str g := by
      rw [List.getElem?_map] at hw
      cases q : cr[i]? with
      | none => rw [q] at hw; cases hw
      | some g => rw [q] at hw; exact ⟨g, rfl, (Option.some.inj hw).symm⟩
    obtain ⟨c1, c2, c3⟩ := cx g (List.mem_of_getElem? hg)
    refine ⟨rfl, ?_⟩
    dsimp only [tYes]
    rw [if_pos rfl]
    refine ⟨_, rfl, ⟨_, rfl, ⟨_, rfl, ⟨_, rfl, ?_⟩⟩⟩⟩
    refine eb_go (kn.to (s78.trans sm)) n0 k1 c3 md1 fun zb H9 s9 bb bl wb fb => ?_
    have sm9 := sm.trans s9
    refine ⟨_, rfl, ⟨_, rfl, ⟨_, rfl, ⟨_, rfl, ?_⟩⟩⟩⟩
    refine eb_go (kn.to (s78.trans sm9)) n0 k0 c2 md0 fun ze Hc sc eb' el we fe => ?_
    have smc := sm9.trans sc
    refine ⟨szl (by show 2 ≤ 1000000; decide), fun t1 nt1 => ?_⟩
    have eBc := sc _ _ (s9 _ _ eB)
    have lus : us.length ≤ 1000 := by
      have := congrArg List.length eu
      rw [List.length_map, List.length_map, List.length_take] at this
      omega
    have isp := isP_cross c1 we wb eb' el bb bl
    refine ⟨vz us, updn (nonn nt1 eBc) eBc, szt (by rw [vz_len]; omega), us ++ [(t1, ((some u, g), (some zb, ze)))], ?_, ?_, ?_, fun z hz => (List.mem_append.mp hz).elim (uft z) fun h => by rw [List.mem_singleton.mp h]; exact ⟨zb, rfl, fb, fe⟩, fun b o e => updn (nonn nB e) (updn (nonn nt1 (smc _ _ e)) (smc _ _ e))⟩
    · rw [upd_same]
      unfold vz
      rw [List.map_append]
      rfl
    · intro z hz
      have nBt : ∀ {b l}, upd Hc t1 (.tup [sx zb, sx ze]) b = some (.tup l) → upd (upd Hc t1 (.tup [sx zb, sx ze])) B (.lst (vz us ++ [.ref t1])) b = some (.tup l) := fun {b l} e => updn (fun z => by rw [z, updn (nonn nt1 eBc) eBc] at e; cases e) e
      rcases List.mem_append.mp hz with h | h
      · have := sc _ _ (s9 _ _ (mu z h).1)
        exact ⟨nBt (updn (nonn nt1 this) this), (mu z h).2⟩
      · rw [List.mem_singleton.mp h]
        exact ⟨nBt upd_same, isp⟩
    · rw [List.map_append, eu, List.take_add_one, hg, List.map_append]
      rfl
  · rintro H9 ⟨us, eB, mu, eu, uft, s9⟩
    rw [List.length_map, List.take_length] at eu
    have lus : us.length ≤ 1000 := by
      have := congrArg List.length eu
      rw [List.length_map, List.length_map] at this
      omega
    have eL9 := s9 _ _ eL8
    have nLB : L ≠ B := nonn nB eL8
    refine ⟨L, B, vz zs, vz us, rfl, rfl, eL9, eB, szl (by rw [vz_len, vz_len]; omega), ?_⟩
    have tuL : ∀ b l, H9 b = some (.tup l) → upd H9 L (.lst (vz zs ++ vz us)) b = some (.tup l) := fun b l e => updn (fun z => by rw [z, eL9] at e; cases e) e
    refine ⟨zs ++ us, ws ++ [(a1, u ++ [48]), (a2, u ++ [49])], _, _, _, _, _, rfl, fun b o e => updn (nonn nL e) (s9 _ _ (s78 _ _ e)), ?_, updn (Ne.symm nLW) (s9 _ _ (s8 _ _ eW7)), fun z hz => ?_, (wz7.to fun b l e => s9 _ _ (s8 _ _ e)).to tuL, ?_, fun out h => hrun2 a1 a2 (us.map fun z : Addr × (Og × Pr) => z.2) out (by rw [List.map_map, ← eu]; rfl) (fun z hz => by obtain ⟨y, hy, rfl⟩ := List.mem_map.mp hz; exact uft y hy) (by rw [List.map_append (l₁ := zs)] at h; exact h), lw2 a1 a2⟩
    · rw [upd_same]
      unfold vz
      rw [List.map_append]
    · rcases List.mem_append.mp hz with h | h
      · exact ⟨tuL _ _ (s9 _ _ (s8 _ _ (mz7 z h).1)), (mz7 z h).2⟩
      · exact ⟨tuL _ _ (mu z h).1, (mu z h).2⟩
    · rw [List.map_append, eu, List.flatMap_append]
      refine List.Perm.trans ?_ pm
      show (_ ++ _ ++ (_ ++ (_ ++ (_ ++ [])))).Perm _
      rw [List.append_nil, List.append_assoc]
      refine List.Perm.append_left _ ?_
      exact List.perm_append_comm_assoc _ _ _
end
open PySem PySem.Spec PyProof.Rows LamX
open L2 hiding pass0
abbrev s_pack : Stmt := top 52
theorem sc_pack : FnScope ["table", "free", "known", "goals", "_", "outer", "goal"] ["table", "free"] (defScope s_pack) := ⟨rfl, rfl, rfl, by decide +kernel, rfl, by decide +kernel, by decide +kernel⟩
/-- a row of tuples that are pairs -/
def Ps (H : Hp) (n : Nat) (ys : List (Addr × Pr)) : Prop := ∀ y ∈ ys, H y.1 = some (.tup [oB y.2.1, sx y.2.2]) ∧ PrOk n y.2
theorem Ps.to {H H' : Hp} {n : Nat} {ys : List (Addr × Pr)} (h : Ps H n ys) (s : Same H H') : Ps H' n ys := fun y hy => ⟨s _ _ (h y hy).1, (h y hy).2⟩
/-- which pack it is -/
def PkD (n : Nat) (m : List (Str × Str)) (fs : List (List Nat)) (qs : List Pr) : Prop := ∃ hs, Hold (kz m ++ fs) hs ∧ (((SN n m fs []).1 = none ∧ qs = []) ∨ ∃ z, (SN n m fs []).1 = some z ∧ ((("hole" : Str) ∈ z ∧ ∃ out, Run n (SN n m fs) hs false [[]] [] out ∧ qs = out.map (·.2)) ∨
  (("hole" : Str) ∉ z ∧ ∃ (us out : List (Og × Pr)), us.map (·.1) = z.map (fun g => ((none, g) : Og)) ∧ (∀ y ∈ us, y.2.1 = none ∧ FtT n (SN n m fs) hs true y.1.2 [] y.2.2) ∧ Run n (SN n m fs) hs true [[]] [] out ∧ qs = us.map (·.2) ++ out.map (·.2))))
theorem PkD.uniq {n : Nat} {m : List (Str × Str)} {fs : List (List Nat)} {a b : List Pr} (h : PkD n m fs a) (k : PkD n m fs b) : a = b := by
  obtain ⟨hs, ho, h⟩ := h
  obtain ⟨hs', ho', k⟩ := k
  have e : ∀ s, s ∈ hs ↔ s ∈ hs' := fun s => (ho.mem s).trans (ho'.mem s).symm
  rcases h with ⟨h1, rfl⟩ | ⟨z, h1, h⟩
  · rcases k with ⟨k1, rfl⟩ | ⟨z', k1, k⟩
    · rfl
    · rw [h1] at k1; cases k1
  · rcases k with ⟨k1, rfl⟩ | ⟨z', k1, k⟩
    · rw [h1] at k1; cases k1
    · rw [h1] at k1
      cases k1
      rcases h with ⟨h2, out, h3, rfl⟩ | ⟨h2, us, out, h3, h4, h5, rfl⟩
      · rcases k with ⟨k2, out', k3, rfl⟩ | ⟨k2, us', out', k3, k4, k5, rfl⟩
        · rw [h3.uniq e k3]
        · exact absurd h2 k2
      · rcases k with ⟨k2, out', k3, rfl⟩ | ⟨k2, us', out', k3, k4, k5, rfl⟩
        · exact absurd k2 h2
        · rw [h5.uniq e k5]
          have : us = us' := same_list (R := fun (o : Og) (q : Pr) => ∃ hs'', (∀ s, s ∈ hs'' ↔ s ∈ hs') ∧ q.1 = none ∧ FtT n (SN n m fs) hs'' true o.2 [] q.2) (fun o q q' h k => by
              obtain ⟨j1, e1, p1, g1⟩ := h
              obtain ⟨j2, e2, p2, g2⟩ := k
              have ee : ∀ s, s ∈ j1 ↔ s ∈ j2 := fun s => (e1 s).trans (e2 s).symm
              exact Prod.ext (p1.trans p2.symm) (g1.uniq ee g2)) (h3.trans k3.symm) (fun z hz => ⟨_, e, h4 z hz⟩) fun z hz => ⟨_, fun s => Iff.rfl, k4 z hz⟩
          rw [this]
@[irreducible] def spPk (K : PySem.W.Frag) (C : Addr) : Sp := fun vs H Q _ => ∃ (a F : Addr) (n : Nat) (m : List (Str × Str)) (fs : List (List Nat)), vs = [.ref a, .ref F] ∧ TF K C H a F n m fs ∧ ∀ L ys H', Same H H' → H L = none → H' L = some (.lst (vz ys)) → Ps H' n ys → packB n m fs (ys.map (·.2)) = true → ys.length = cst (SN n m fs []) "hole" → PkD n m fs (ys.map (·.2)) → Q (.ref L) H'
theorem pk_go {K : PySem.W.Frag} {C a F : Addr} {n : Nat} {m : List (Str × Str)} {fs : List (List Nat)} {H : Hp} {Q : VK} {E : XK} (tf : TF K C H a F n m fs) (k : ∀ L ys H', Same H H' → H L = none → H' L = some (.lst (vz ys)) → Ps H' n ys → packB n m fs (ys.map (·.2)) = true → ys.length = cst (SN n m fs []) "hole" → PkD n m fs (ys.map (·.2)) → Q (.ref L) H') : spPk K C [.ref a, .ref F] H Q E := by
  unfold spPk
  exact ⟨a, F, n, m, fs, rfl, tf, k⟩
def ymz (zs : List (Addr × (Og × Pr))) : List (Addr × Pr) := zs.map fun z => (z.1, z.2.2)
theorem ymz_vz (zs : List (Addr × (Og × Pr))) : vz (ymz zs) = vz zs := by
  unfold vz ymz
  rw [List.map_map]
  rfl
theorem ymz_pr (zs : List (Addr × (Og × Pr))) : (ymz zs).map (·.2) = (zs.map (·.2)).map (·.2) := by
  unfold ymz
  rw [List.map_map, List.map_map]
  rfl
theorem ymz_ps {H : Hp} {n : Nat} {m : List (Str × Str)} {fs : List (List Nat)} {m0 : Bool} {zs : List (Addr × (Og × Pr))} (h : Mz H n m fs m0 zs) : Ps H n (ymz zs) := fun y hy => by
  obtain ⟨z, hz, rfl⟩ := List.mem_map.mp hy
  exact ⟨(h z hz).1, (h z hz).2.ok⟩
theorem ymz_pack {H : Hp} {n : Nat} {m : List (Str × Str)} {fs : List (List Nat)} {m0 : Bool} {zs : List (Addr × (Og × Pr))} (h : Mz H n m fs m0 zs) (nd : (zs.map (·.2.1)).Nodup) : packB n m fs ((ymz zs).map (·.2)) = true := by
  rw [ymz_pr]
  refine pack_is (m0 := m0) (by rw [List.map_map]; exact nd) fun z hz => ?_
  obtain ⟨y, hy, rfl⟩ := List.mem_map.mp hz
  exact (h y hy).2
section
variable {P : Program} {w : World} {K : PySem.W.Frag} {mg : Str → Option Value} {base : Heap} {f C : Addr} {fd' : FuncData}
theorem ok_pack {params : Arguments} {dvs : List V} {kws : List (Str × V)} (F : FunD K "pack" "pack" params (defBody s_pack) (defScope s_pack) dvs kws f fd') (T : Txt K mg) (TC : TabC K C) (cA : ∃ u, mg "ALL" = some u ∧ RelV (.str "all") u) (c_sets_and_needs : Nm P w K mg base CX0 6 "sets_and_needs" s_sets_and_needs ["table", "free"] (spSN K C)) (c_end : Nm P w K mg base CX0 8 "_end" s_end ["width", "known", "stretch", "goal"] (spEB true)) (c_pairs : Nm P w K mg base CX0 9 "_pairs" s_pairs ["width", "known", "lets_in"] (spPs))
    (c_Table_width : Prp P w K mg base CX0 1 C "width" "Table.width" s_Table_width ["self"] (spWidth C)) : FnG P w K mg base CX0 10 f fd' ["table", "free"] (spPk K C) := by
  obtain ⟨oc, od, dV, kV, doc, pm, an, cdv, ct, osl, rfl, lk, hcd, _, _⟩ := F.ex
  refine fnG_core0 lk hcd sc_pack (fun vs H Q E h => ?_) fun A outer s H vs Q E hr h => ?_
  · unfold spPk at h
    obtain ⟨a, F, n, m, fs, rfl, _⟩ := h
    rfl
  unfold spPk at h
  obtain ⟨a, F, n, m, fs, rfl, tf, k⟩ := h
  refine ⟨_, (C8.pss_cut (ps_set (i := 2) sc_pack.nd rfl (by first | exact Or.inl rfl | exact Or.inr rfl) (pe_g c_sets_and_needs hr (by decide) L2.pass0 bp_sets_and_needs (by rfl) (pa_cons (pv 0) (pa_cons (pv 1) pa_nil))))
      (C8.pss_cut (ps_asg (pe_dget hr.u1 (pv 2) pe_str (fun _ _ => rfl)) (pg_tup (by rfl) (pgs_cons (pg_name (i := 3) sc_pack.nd rfl (by first | exact Or.inl rfl | exact Or.inr rfl)) (pgs_cons (pg_name (i := 4) sc_pack.nd rfl (by first | exact Or.inl rfl | exact Or.inr rfl)) pgs_nil))))
      (pss_cons (ps_if (pt_cmpR (op_eqDK (K := K) rfl hr.u64) (pv 3) (pe_cst (by rfl) cA) (nomark _)) (pss_one (ps_ret (pe_lst pa_nil))) pss_nil)
      (pss_cons (ps_if (pt_cmpR (op_inK (K := K) rfl) pe_str (pv 3) rfl) (pss_one (ps_ret (pe_g c_pairs hr (by decide) L2.pass0 bp_pairs (by rfl) (pa_cons (pe_p c_Table_width TC.cl hr (by decide) L2.pass0 bm_Table_width (pv 0)) (pa_cons (pv 2) (pa_cons pe_bl pa_nil)))))) pss_nil)
      (C8.pss_cut (ps_setLc (i := 5) (own := [("goal", 6)]) (g := (gName 6)) (by rfl) sc_pack.nd rfl rfl (sw_true rfl rfl rfl (by decide +kernel)) (pi_listK (K := K) rfl (pv 3)) (blkOk_by (own := [("goal", 6)]) (N := ["table", "free", "known", "goals", "_", "outer", "goal"]) (sc := defScope s_pack) (by decide +kernel)) (fun _ _ _ _ _ => (pg_name (i := 6) sc_pack.nd rfl (by first | exact Or.inl rfl | exact Or.inr rfl))) (fun _ _ _ _ _ => pts_nil) (fun _ _ _ _ _ => (pe_tup (pa_cons pe_non (pa_cons (pe_g c_end hr (by decide) L2.pass0 bp_end (by rfl) (pa_cons (pe_p c_Table_width TC.cl hr (by decide) L2.pass0 bm_Table_width (pv 0)) (pa_cons (pv 2) (pa_cons pe_str (pa_cons (pv 6) pa_nil))))) pa_nil)))))
      (pss_one (ps_ret (pe_lst (StX.pa_star (pv 5) (StX.pa_star (pe_g c_pairs hr (by decide) L2.pass0 bp_pairs (by rfl) (pa_cons (pe_p c_Table_width TC.cl hr (by decide) L2.pass0 bm_Table_width (pv 0)) (pa_cons (pv 2) (pa_cons pe_bl pa_nil)))) pa_nil)))))))))), ?_⟩
  have n0 : 1 ≤ n := by have := tf.ok.w0; omega
  have n1 : n ≤ 100 := by have := tf.ok.w1; omega
  obtain ⟨dx, Dm, ha, hDm, hne⟩ := tf.ht
  have nds : ∀ t x, (SN n m fs t).1 = some x → x.Nodup := fun t x e => by
    unfold SN at e
    exact (SNk_sub (GS := ("hole" : Str) :: m.map (·.2)) (fun y g _ _ h => by
      unfold lab at h
      split at h
      · cases h
      · cases h
        exact goal_in m _) x e).1
  refine ⟨fun σ' H' => ∃ D hs ad, σ' = [some (.ref a), some (.ref F), some (.ref D), none, none, none, none] ∧ Same H H' ∧ Kno H' D n m fs hs ad, ?_, ?_⟩
  · refine ⟨_, rfl, ⟨_, rfl, ?_⟩⟩
    exact sn_go tf.ht tf.ok tf.hF tf.ff tf.nd tf.lf fun D H1 s1 nD ⟨hs, ad, ho, eD, ev⟩ => ⟨D, hs, ad, rfl, s1, n1, tf.ok, tf.ff, tf.lf, ho, eD, ev⟩
  rintro σ' H1 ⟨D, hs, ad, rfl, s1, kn⟩
  have hnil : [] ∈ kys hs := kys_mem.mpr (.inl rfl)
  obtain ⟨v, ec, hv⟩ := kn.ev [] hnil
  have zs0 := SN_sz (t := []) (fs := fs) tf.ok
  refine ⟨fun σ' H' => σ' = [some (.ref a), some (.ref F), some (.ref D), some v, some (.int ((SN n m fs []).2 : Nat)), none, none] ∧ H' = H1, ?_, ?_⟩
  · refine ⟨_, rfl, ⟨D, .ref (ad []), rfl, .inl ⟨_, skey [], .inl kn.eD, (by show V.str "" = V.str (SX.S []); decide +kernel), by rw [fd_val, if_pos hnil]⟩, ?_⟩⟩
    refine ⟨ad [], _, rfl, SqT.of ec, rfl, ⟨_, _, rfl, ⟨_, _, rfl, ⟨rfl, ?_⟩⟩⟩⟩
    exact ⟨rfl, rfl⟩
  rintro σ' H2 ⟨rfl, rfl⟩
  refine ⟨_, rfl, ⟨_, _, setv_dp hv, .str _, dS_shp zs0, all_shp, ?_⟩⟩
  refine ⟨_, rfl, ?_⟩
  rw [dS_eqv]
  have l0 : ([] : List Nat).length + n = n := Nat.zero_add n
  cases e : (SN n m fs []).1 with
  | none =>
    refine iteT ?_
    refine ⟨szl (Nat.zero_le _), fun L nL => ?_⟩
    refine k L [] _ (s1.new nL) (s1.back nL) upd_same (fun y hy => by cases hy) (decide_eq_true (show Keep [] from .nil)) ?_ ⟨hs, kn.ho, .inl ⟨e, rfl⟩⟩
    have := (pk_none (m0 := true) l0 e).2
    show 0 = _
    unfold cst inS
    rw [this, e]
    rfl
  | some z =>
    refine iteF ?_
    rw [e] at hv
    obtain ⟨A1, rfl, hA⟩ := hv
    obtain ⟨lz, gz⟩ := zs0 z e
    refine ⟨_, rfl, ⟨A1, _, rfl, .inl (SqL.of hA), rfl, flat_strs _, ?_⟩⟩
    refine ⟨_, rfl, ?_⟩
    have ei : (if (false : Bool) = true then !inV (.str "hole") (z.map V.str) else inV (.str "hole") (z.map V.str)) = decide (("hole" : Str) ∈ z) := by rw [if_neg (by simp), inV_strs]
    rw [ei]
    have ecst : cst (SN n m fs []) "hole" = (SN n m fs []).2 + (if ("hole" : Str) ∈ z then 0 else 1) := by
      have e2 : SN n m fs [] = (some z, (SN n m fs []).2) := Prod.ext e rfl
      exact (congrArg (fun s => cst s "hole") e2).trans (cst_some z _ _)
    by_cases hh : ("hole" : Str) ∈ z
    · rw [decide_eq_true hh]
      refine iteT ?_
      refine ⟨_, rfl, ⟨a, dx, _, rfl, s1 _ _ ha, width_go (tf.ht.to s1) ?_⟩⟩
      refine ⟨_, rfl, ?_⟩
      refine ps_go kn n0 fun L zs H3 s3 nL eL mz pm run => ?_
      have nd : (zs.map (·.2.1)).Nodup := pm.nodup_iff.mpr (pk_nd nds n [])
      refine k L (ymz zs) H3 (s1.trans s3) (s1.back nL) (by rw [ymz_vz]; exact eL) (ymz_ps mz) (ymz_pack mz nd) ?_ ⟨hs, kn.ho, .inr ⟨z, e, .inl ⟨hh, _, run, ymz_pr zs⟩⟩⟩
      have h1 := pk_len (m0 := false) l0 e
      have h2 := pm.length_eq
      rw [List.length_map] at h2
      unfold ymz
      rw [List.length_map, h2]
      have h3 : md (SN n m fs) false [] = false := rfl
      rw [h3, if_neg (by simp)] at h1
      rw [ecst, if_pos hh]
      omega
    · rw [decide_eq_false hh]
      refine iteF ?_
      have k0 : ∀ g ∈ z, Cn (SN n m fs) true [] g := fun g hg => ⟨z, e, fun _ => rfl, fun _ => hg⟩
      refine ⟨fun σ' H' => ∃ O us, σ' = [some (.ref a), some (.ref F), some (.ref D), some (.ref A1), some (.int ((SN n m fs []).2 : Nat)), some (.ref O), none] ∧ Same H2 H' ∧ H' O = some (.lst (vz us)) ∧ Mz H' n m fs true us ∧ us.map (·.2.1) = z.map (fun g => ((none, g) : Og)) ∧ (∀ y ∈ us, y.2.2.1 = none ∧ FtT n (SN n m fs) hs true y.2.1.2 [] y.2.2.2), ?_, ?_⟩
      · refine ⟨_, rfl, ⟨A1, rfl, ⟨_, SqL.of hA⟩, fun B nB => ?_⟩⟩
        refine lc_it (walk_list (xs := z.map V.str)) (fun i H' => ∃ us : List (Addr × (Og × Pr)), H' B = some (.lst (vz us)) ∧ Mz H' n m fs true us ∧ us.map (·.2.1) = (z.take i).map (fun g => ((none, g) : Og)) ∧ (∀ y ∈ us, y.2.2.1 = none ∧ FtT n (SN n m fs) hs true y.2.1.2 [] y.2.2.2) ∧ Same H2 H') ⟨[], upd_same, fun y hy => (by cases hy), rfl, fun y hy => (by cases hy), (Same.refl H2).new nB⟩ (fun i H' _ h => let ⟨_, _, _, _, _, s⟩ := h; SqL.of (s _ _ hA)) ?_ ?_
        · rintro i w Ha Hb hi ⟨us, eB, mu, eu, uft, sm⟩ ⟨rfl, hw⟩
          obtain ⟨g, hg, rfl⟩ : ∃ g, z[i]? = some g ∧ w = .str g := by
            rw [List.getElem?_map] at hw
            cases q : z[i]? with
            | none => rw [q] at hw; cases hw
            | some g => rw [q] at hw; exact ⟨g, rfl, (Option.some.inj hw).symm⟩
          have gm := List.mem_of_getElem? hg
          refine ⟨rfl, ?_⟩
          dsimp only [tYes]
          rw [if_pos rfl]
          have sm1 := s1.trans sm
          refine ⟨_, rfl, ⟨a, dx, _, rfl, sm1 _ _ ha, width_go (tf.ht.to sm1) ?_⟩⟩
          refine ⟨_, rfl, ⟨_, rfl, ?_⟩⟩
          rw [show V.str "" = sx [] by show V.str "" = V.str (SX.S []); decide +kernel]
          refine eb_go (m0 := true) (kn.to sm) n0 hnil (k0 g gm) rfl fun ze Hc sc eb' el we fe => ?_
          have smc := sm.trans sc
          refine ⟨szl (by show 2 ≤ 1000000; decide), fun t1 nt1 => ?_⟩
          have eBc := sc _ _ eB
          have lus : us.length ≤ 1000 := by
            have := congrArg List.length eu
            rw [List.length_map, List.length_map, List.length_take] at this
            omega
          have isp := isP_out we eb' el (fun q => hh (q ▸ gm))
          refine ⟨vz us, updn (nonn nt1 eBc) eBc, szt (by rw [vz_len]; omega), us ++ [(t1, ((none, g), (none, ze)))], ?_, ?_, ?_, fun y hy => (List.mem_append.mp hy).elim (uft y) fun h => by rw [List.mem_singleton.mp h]; exact ⟨rfl, fe⟩, fun b o e => updn (nonn nB e) (updn (nonn nt1 (smc _ _ e)) (smc _ _ e))⟩
          · rw [upd_same]
            unfold vz
            rw [List.map_append]
            rfl
          · intro y hy
            have nBt : ∀ {b l}, upd Hc t1 (.tup [.non, sx ze]) b = some (.tup l) → upd (upd Hc t1 (.tup [.non, sx ze])) B (.lst (vz us ++ [.ref t1])) b = some (.tup l) := fun {b l} e => updn (fun z => by rw [z, updn (nonn nt1 eBc) eBc] at e; cases e) e
            rcases List.mem_append.mp hy with h | h
            · have := sc _ _ (mu y h).1
              exact ⟨nBt (updn (nonn nt1 this) this), (mu y h).2⟩
            · rw [List.mem_singleton.mp h]
              exact ⟨nBt upd_same, isp⟩
          · rw [List.map_append, eu, List.take_add_one, hg, List.map_append]
            rfl
        · rintro H3 ⟨us, eB, mu, eu, uft, sm⟩
          rw [List.length_map, List.take_length] at eu
          exact ⟨B, us, rfl, sm, eB, mu, eu, uft⟩
      rintro σ' H3 ⟨O, us, rfl, s3, eO, mu, eu, uft⟩
      have s13 := s1.trans s3
      refine ⟨_, rfl, ⟨O, vz us, rfl, Or.inr (SqL.of eO), ?_⟩⟩
      refine ⟨_, rfl, ⟨a, dx, _, rfl, s13 _ _ ha, width_go (tf.ht.to s13) ?_⟩⟩
      refine ⟨_, rfl, ?_⟩
      refine ps_go (kn.to s3) n0 fun L zs H4 s4 nL eL mz pm run => ?_
      refine ⟨L, vz zs, rfl, Or.inr (SqL.of eL), ?_⟩
      have eO4 := s4 _ _ eO
      have lus : us.length = z.length := by
        have := congrArg List.length eu
        rw [List.length_map, List.length_map] at this
        exact this
      have h1 := pk_len (m0 := true) l0 e
      have h2 := pm.length_eq
      rw [List.length_map] at h2
      have h3 : md (SN n m fs) true [] = true := rfl
      rw [h3, if_pos rfl] at h1
      have few := pk_few (n := n) (m := m) (fs := fs) (m0 := true) tf.ok.few
      have mu4 := mu.to fun b l e => s4 _ _ e
      have mall : Mz H4 n m fs true (us ++ zs) := fun y hy => (List.mem_append.mp hy).elim (mu4 y) (mz y)
      have nd : ((us ++ zs).map (·.2.1)).Nodup := by
        rw [List.map_append, eu, List.nodup_append]
        refine ⟨nd_map (nds _ _ e) fun a _ b _ h => (Prod.mk.inj h).2, pm.nodup_iff.mpr (pk_nd nds n []), fun x hx y hy q => ?_⟩
        subst q
        obtain ⟨g, _, rfl⟩ := List.mem_map.mp hx
        obtain ⟨u, h, _⟩ := pk_mem (pm.mem_iff.mp hy)
        cases h
      refine ⟨szl (by rw [List.length_append, List.append_nil, vz_len, vz_len]; omega), fun L2 nL2 => ?_⟩
      have s5 := (s13.trans s4).new (o := HO.lst (vz us ++ (vz zs ++ []))) nL2
      refine k L2 (ymz (us ++ zs)) _ s5 ((s13.trans s4).back nL2) ?_ ?_ (ymz_pack mall nd) ?_ ⟨hs, kn.ho, .inr ⟨z, e, .inr ⟨hh, us.map (·.2), zs.map (·.2), by rw [List.map_map, ← eu]; rfl, fun y hy => by obtain ⟨w, hw, rfl⟩ := List.mem_map.mp hy; exact uft w hw, run, by rw [ymz_pr, List.map_append, List.map_append]⟩⟩⟩
      · rw [upd_same, ymz_vz, List.append_nil]
        unfold vz
        rw [List.map_append]
      · exact fun y hy => ⟨updn (nonn nL2 (ymz_ps mall y hy).1) (ymz_ps mall y hy).1, (ymz_ps mall y hy).2⟩
      · unfold ymz
        rw [List.length_map, List.length_append, ecst, if_neg hh]
        omega
end
open PySem PySem.Spec PyProof.Rows LamX
open L2 hiding pass0
abbrev s_law_bent : Stmt := top 80
theorem sc_law_bent : FnScope ["_law_pot_here", "_law_wide", "_law_rows", "_law_idle", "_law_told", "_law_found", "_law_spots", "_law_one", "_law_rest", "_law_mate"] ["_law_pot_here", "_law_wide", "_law_rows", "_law_idle", "_law_told"] (defScope s_law_bent) := ⟨rfl, rfl, rfl, by decide +kernel, rfl, by decide +kernel, by decide +kernel⟩
theorem bp_law_bent : BndP "_law_bent" s_law_bent ["_law_pot_here", "_law_wide", "_law_rows", "_law_idle", "_law_told"] := fun _ _ _ _ _ _ us h => match us, h with | [_, _, _, _, _], _ => rfl
def dq (q : Pr) : PyData := .tuple [match q.1 with | none => .none | some z => .str (SX.S z), .str (SX.S q.2)]
theorem dq_dp {K : PySem.W.Frag} {H : Hp} {n : Nat} : ∀ {ys : List (Addr × Pr)}, Ps H n ys → DpAll K H (vz ys) (ys.map fun y => dq y.2)
  | [], _ => .nil
  | (t, b, e) :: ys, h => by
    have ht : H t = some (.tup [oB b, sx e]) := (h _ List.mem_cons_self).1
    refine .cons ?_ (dq_dp fun y hy => h y (List.mem_cons_of_mem _ hy))
    cases b with
    | none => exact .tup (SqT.of ht) (.cons .non (.cons (.str _) .nil))
    | some z => exact .tup (SqT.of ht) (.cons (.str _) (.cons (.str _) .nil))
theorem dq_fit {n : Nat} {q : Pr} (hq : PrOk n q) (h1 : n ≤ 100) : Fit 202 1 (dq q) := by
  obtain ⟨b, e⟩ := q
  obtain ⟨⟨eb, el⟩, hz⟩ := hq
  have el : e.length = n := el
  have fe : Fit 100 0 (.str (SX.S e)) := Fit.str (sx_bits eb).low (by rw [sx_len]; omega)
  cases b with
  | none =>
    exact Fit.tuple (N := 100) (D := 0) (ds := [.none, .str (SX.S e)]) fun d hd => by
      simp only [List.mem_cons, List.not_mem_nil, or_false] at hd
      rcases hd with rfl | rfl
      · exact Fit.non
      · exact fe
  | some z =>
    obtain ⟨zb, zl⟩ := hz z rfl
    exact Fit.tuple (N := 100) (D := 0) (ds := [.str (SX.S z), .str (SX.S e)]) fun d hd => by
      simp only [List.mem_cons, List.not_mem_nil, or_false] at hd
      rcases hd with rfl | rfl
      · exact Fit.str (sx_bits zb).low (by rw [sx_len]; omega)
      · exact fe
theorem cutS_len (z : Str) (lo hi : Option Int) : (cutS z lo hi).length ≤ z.length := by
  show (SX.S _).length ≤ z.length
  rw [SX.S_len, List.length_take, List.length_drop, Array.length_toList]
  have : z.cps.size = z.length := rfl
  omega
theorem app_list (a b : Str) : (a ++ b).cps.toList = a.cps.toList ++ b.cps.toList := by
  show (a.cps ++ b.cps).toList = _
  simp
theorem app_len (a b : Str) : (a ++ b).length = a.length + b.length := by
  show (a.cps ++ b.cps).size = _
  simp
  rfl
theorem cut_D (t : List Nat) {d : Int} {k : Nat} (h : d = k) : cutS (SX.S t) (some d) none = SX.S (t.drop k) := by
  subst h
  show SX.S _ = SX.S _
  refine congrArg SX.S ?_
  show ((SX.S t).cps.toList.drop (HT.sIx (SX.S t).length 0 (some (k : Int)))).take (HT.sIx (SX.S t).length (SX.S t).length none - HT.sIx (SX.S t).length 0 (some (k : Int))) = t.drop k
  rw [HT.sIx_nat, HT.sIx_none, tl_S, sx_len]
  by_cases c : k ≤ t.length
  · rw [Nat.min_eq_left c, List.take_of_length_le]
    rw [List.length_drop]
    exact Nat.le_refl _
  · rw [Nat.min_eq_right (by omega), List.drop_of_length_le (Nat.le_refl _), List.drop_of_length_le (by omega)]
    simp
theorem cutV_from (xs : List V) {k : Nat} (h : k ≤ xs.length) : cutV xs (some (k : Int)) none = xs.drop k := by
  unfold cutV
  rw [HT.sIx_none, HT.sIx_nat, Nat.min_eq_left h, List.take_of_length_le]
  rw [List.length_drop]
  exact Nat.le_refl _
def sB (p L S t R : Addr) (n : Nat) (d f : V) (x5 x9 : Option V) : L2.St := [some (.ref p), some (.int n), some d, some f, some (.ref L), x5, some (.ref S), some (.ref t), some (.ref R), x9]
/-- what stands -/
structure Bx (p L S t R : Addr) (n : Nat) (ys us : List (Addr × Pr)) (q : Pr) (H : Hp) : Prop where
  pot : PotAt H p
  hL : H L = some (.lst (vz ys))
  nL : L ≠ p
  ps : Ps H n ys
  hS : H S = some (.lst ((bitsL n).map sx))
  nS : S ≠ p
  ht : H t = some (.tup [oB q.1, sx q.2])
  nt : t ≠ p
  hR : H R = some (.lst (vz us))
  nR : R ≠ p
  pu : Ps H n us
  hq : PrOk n q
  h0 : 1 ≤ n
  h1 : n ≤ 6
  np : ∀ y ∈ ys, y.1 ≠ p
  nu : ∀ y ∈ us, y.1 ≠ p
  ly : ys.length ≤ 40
  lu : us.length ≤ 40
theorem Ps.go {p : Addr} {n : Nat} {ys : List (Addr × Pr)} {H H' : Hp} (h : Ps H n ys) (np : ∀ y ∈ ys, y.1 ≠ p) (g : Go p H H') : Ps H' n ys := fun y hy => ⟨g.kp (h y hy).1 (np y hy), (h y hy).2⟩
theorem Go.K {p : Addr} {H H' : Hp} (g : Go p H H') : Kp p H H' := fun b o e n => g.kp e n
section
variable {p L S t R : Addr} {n : Nat} {ys us : List (Addr × Pr)} {q : Pr} {H H' : Hp}
theorem Bx.go (b : Bx p L S t R n ys us q H) (g : Go p H H') : Bx p L S t R n ys us q H' :=
  ⟨g.pot, g.kp b.hL b.nL, b.nL, b.ps.go b.np g, g.kp b.hS b.nS, b.nS, g.kp b.ht b.nt, b.nt, g.kp b.hR b.nR, b.nR, b.pu.go b.nu g, b.hq, b.h0, b.h1, b.np, b.nu, b.ly, b.lu⟩
/-- pairs as things -/
def sv (ys : List (Addr × Pr)) : List (V × Option Pr) := ys.map fun y => (V.ref y.1, some y.2)
theorem sv_fst (ys : List (Addr × Pr)) : (sv ys).map (·.1) = vz ys := by
  unfold sv vz
  rw [List.map_map]
  rfl
theorem sv_snd (ys : List (Addr × Pr)) : (sv ys).map (·.2) = (ys.map (·.2)).map some := by
  unfold sv
  rw [List.map_map, List.map_map]
  rfl
theorem sv_el (h : Ps H n ys) (np : ∀ y ∈ ys, y.1 ≠ p) : ∀ z ∈ sv ys, El p H n z.1 z.2 := fun z hz => by
  obtain ⟨y, hy, rfl⟩ := List.mem_map.mp hz
  exact .pr (np y hy) (h y hy).1 (h y hy).2
/-- a list or a tuple of pairs -/
theorem Th.pairs {v : Addr} (h : LT H v (vz ys)) (nv : v ≠ p) (ps : Ps H n ys) (np : ∀ y ∈ ys, y.1 ≠ p) (l : ys.length ≤ 400) : Th p H n (.ref v) (some ((ys.map (·.2)).map some)) := by
  rw [← sv_snd]
  exact .sq nv (by rw [sv_fst]; exact h) (sv_el ps np) (by unfold sv; rw [List.length_map]; exact l)
/-- one thing more -/
theorem Th.more {v : Addr} {x : V} {o : Option Pr} (h : H v = some (.lst (vz ys ++ [x]))) (nv : v ≠ p) (ps : Ps H n ys) (np : ∀ y ∈ ys, y.1 ≠ p) (l : ys.length ≤ 40) (e : El p H n x o) : Th p H n (.ref v) (some ((ys.map (·.2)).map some ++ [o])) := by
  have e2 : (ys.map (·.2)).map some ++ [o] = (sv ys ++ [(x, o)]).map (·.2) := by rw [List.map_append, sv_snd]; rfl
  rw [e2]
  refine .sq nv (.inl ?_) (fun z hz => ?_) ?_
  · rw [List.map_append, sv_fst]
    exact h
  · rcases List.mem_append.mp hz with h | h
    · exact sv_el ps np z h
    · rw [List.mem_singleton.mp h]
      exact e
  · unfold sv
    rw [List.length_append, List.length_map]
    show ys.length + 1 ≤ 400
    omega
/-- what has been found -/
def Fnd (p : Addr) (n : Nat) (G : Addr) (k : Nat) (H : Hp) : Prop := ∃ xs, H G = some (.lst xs) ∧ G ≠ p ∧ xs.length = k ∧ ∀ x ∈ xs, ∃ o, Th p H n x o
theorem Fnd.go {G : Addr} {k : Nat} (f : Fnd p n G k H) (g : Go p H H') : Fnd p n G k H' := by
  obtain ⟨xs, e, nG, l, h⟩ := f
  exact ⟨xs, g.kp e nG, nG, l, fun x hx => let ⟨o, ho⟩ := h x hx; ⟨o, ho.kp g.K⟩⟩
end
section
variable {K : PySem.W.Frag} {p L S t R : Addr} {n : Nat} {ys us : List (Addr × Pr)} {q : Pr} {d f : V} {x5 x9 : Option V}
/-- it makes a part -/
def CoE (K : PySem.W.Frag) (p L S t R : Addr) (n : Nat) (ys us : List (Addr × Pr)) (q : Pr) (d f : V) (x5 x9 : Option V) (Φ : Hp → V → Prop) (te : TE) : Prop := ∀ (H : Hp) (Q : VK), Bx p L S t R n ys us q H → (∀ x H', Go p H H' → Φ H' x → Q x H') → te (sB p L S t R n d f x5 x9) H Q
/-- a part that may stand first, or last -/
def Bg (p : Addr) (n : Nat) (H : Hp) (x : V) : Prop := (∃ b : Option (List Nat), x = oB b ∧ ∀ z, b = some z → M.BL z ∧ z.length = n) ∨ (∃ s, Od p H x s ∧ s ≠ "NoneType" ∧ adV n x = false)
def Ed (p : Addr) (n : Nat) (H : Hp) (x : V) : Prop := (∃ z, x = sx z ∧ M.BL z ∧ z.length = n) ∨ ∃ s, Od p H x s ∧ adV n x = false
theorem Bg.kp {H H' : Hp} {x : V} (h : Bg p n H x) (k : Kp p H H') : Bg p n H' x := h.imp id fun ⟨s, o, a, b⟩ => ⟨s, o.kp k, a, b⟩
theorem Ed.kp {H H' : Hp} {x : V} (h : Ed p n H x) (k : Kp p H H') : Ed p n H' x := h.imp id fun ⟨s, o, a⟩ => ⟨s, o.kp k, a⟩
def ElP (p : Addr) (n : Nat) (H : Hp) (x : V) : Prop := ∃ o, El p H n x o
def ThP (p : Addr) (n : Nat) (H : Hp) (x : V) : Prop := ∃ o, Th p H n x o
theorem co_pair {A B : TE} (hA : CoE K p L S t R n ys us q d f x5 x9 (Bg p n) A) (hB : CoE K p L S t R n ys us q d f x5 x9 (Ed p n) B) : CoE K p L S t R n ys us q d f x5 x9 (ElP p n) (tTup (tCons A (tCons B tNil))) := by
  intro H Q bx k
  refine hA H _ bx fun x H1 g1 bg => ?_
  refine hB H1 _ (bx.go g1) fun y H2 g2 ed => ?_
  refine ⟨szl (by show 2 ≤ 1000000; decide), fun a na => ?_⟩
  have g12 := g1.trans g2
  have bg2 := bg.kp g2.K
  have nap := g12.pot.ne na
  have g3 : Go p H (upd H2 a (.tup [x, y])) := g12.new na
  have g4 : Go p H2 (upd H2 a (.tup [x, y])) := (Go.refl g12.pot).new na
  have e : upd H2 a (.tup [x, y]) a = some (.tup [x, y]) := upd_same
  refine k _ _ g3 ?_
  rcases ed.kp g4.K with ⟨z, rfl, zb, zl⟩ | ⟨s, o, ao⟩
  · rcases bg2.kp g4.K with ⟨b, rfl, hb⟩ | ⟨s, o, nn, ao⟩
    · exact ⟨some (b, z), .pr nap e ⟨⟨zb, zl⟩, hb⟩⟩
    · exact ⟨none, .be nap e zb zl o nn ao⟩
  · exact ⟨none, .fe nap e o ao⟩
theorem co_c {Φ : Hp → V → Prop} {v : V} (h : ∀ H, Φ H v) : CoE K p L S t R n ys us q d f x5 x9 Φ (tC v) := fun H Q bx k => k v H (Go.refl bx.pot) (h H)
/-- the ends of the one -/
theorem co_one0 {Φ : Hp → V → Prop} (h : PrOk n q → ∀ H, Φ H (oB q.1)) : CoE K p L S t R n ys us q d f x5 x9 Φ (tOp (rIx K) (tVar 7) (tC (V.int 0))) := by
  intro H Q bx k
  exact ⟨_, rfl, .inr (.inl ⟨_, _, _, _, rfl, rfl, SqT.of bx.ht, rfl, k _ H (Go.refl bx.pot) (h bx.hq H)⟩)⟩
theorem co_one1 {Φ : Hp → V → Prop} (h : PrOk n q → ∀ H, Φ H (sx q.2)) : CoE K p L S t R n ys us q d f x5 x9 Φ (tOp (rIx K) (tVar 7) (tC (V.int 1))) := by
  intro H Q bx k
  exact ⟨_, rfl, .inr (.inl ⟨_, _, _, _, rfl, rfl, SqT.of bx.ht, rfl, k _ H (Go.refl bx.pot) (h bx.hq H)⟩)⟩
theorem bg_ofB (hq : PrOk n q) (H : Hp) : Bg p n H (oB q.1) := .inl ⟨q.1, rfl, hq.2⟩
theorem bg_ofE (hq : PrOk n q) (H : Hp) : Bg p n H (sx q.2) := .inl ⟨some q.2, rfl, fun z hz => by cases hz; exact hq.1⟩
theorem ed_ofE (hq : PrOk n q) (H : Hp) : Ed p n H (sx q.2) := .inl ⟨q.2, rfl, hq.1⟩
theorem ed_ofB (hq : PrOk n q) (H : Hp) : Ed p n H (oB q.1) := by
  obtain ⟨b, e⟩ := q
  cases b with
  | none => exact .inr ⟨_, .non, rfl⟩
  | some z => exact .inl ⟨z, rfl, hq.2 z rfl⟩
theorem co_pick {Φ : Hp → V → Prop} (h : ∀ z H, M.BL z → z.length = n → Φ H (sx z)) : CoE K p L S t R n ys us q d f x5 x9 Φ (tG (spAmong K) E0 (tCons (tVar 0) (tCons (tVar 6) tNil))) := by
  intro H Q bx k
  have l0 : 0 < ((bitsL n).map sx).length := by
    rw [List.length_map, bitsL_len]
    exact Nat.two_pow_pos n
  have l1 : ((bitsL n).map sx).length ≤ 1000 := by
    rw [List.length_map, bitsL_len]
    have := pow7 (k := n) (by have := bx.h1; omega)
    omega
  refine ⟨_, rfl, ⟨_, rfl, ?_⟩⟩
  refine among_l bx.pot bx.nS (SqL.of bx.hS) l0 l1 fun v hv H1 g1 => ?_
  obtain ⟨z, hz, rfl⟩ := List.mem_map.mp hv
  obtain ⟨zb, zl⟩ := bitsL_mem.mp hz
  exact k _ H1 g1 (h z H1 zb zl)
theorem bg_z (z : List Nat) (H : Hp) (zb : M.BL z) (zl : z.length = n) : Bg p n H (sx z) := .inl ⟨some z, rfl, fun y hy => by cases hy; exact ⟨zb, zl⟩⟩
theorem ed_z (z : List Nat) (H : Hp) (zb : M.BL z) (zl : z.length = n) : Ed p n H (sx z) := .inl ⟨z, rfl, zb, zl⟩
/-- a text that is no address -/
theorem bad_len {z : Str} (h : z.length ≠ n) : adV n (.str z) = false := by
  show (bitsB z && decide ((z.length : Int) = n)) = false
  rw [decide_eq_false (by omega), Bool.and_false]
theorem bad_sign {z : Str} {c : Nat} (h : c ∈ z.cps.toList) (h2 : c ≠ 48 ∧ c ≠ 49) : adV n (.str z) = false := by
  show (bitsB z && _) = false
  have : bitsB z = false := Bool.eq_false_iff.mpr fun b => by
    have := Bits.of b c h
    omega
  rw [this, Bool.false_and]
theorem rep_str (c : Nat) (k : Nat) : (⟨(List.replicate k [c]).flatten.toArray⟩ : Str) = SX.S (List.replicate k c) := by
  unfold SX.S
  congr 2
  induction k with
  | zero => rfl
  | succ k ih => rw [List.replicate_succ, List.flatten_cons, ih]; rfl
theorem co_mul {Φ : Hp → V → Prop} {a : Str} {c : Nat} (ha : a.cps.toList = [c]) (hc : c ≠ 48 ∧ c ≠ 49) (h : ∀ (z : Str) H, z.length ≤ 1000 → adV n (.str z) = false → Φ H (.str z)) : CoE K p L S t R n ys us q d f x5 x9 Φ (tOp rMulS (tC (V.str a)) (tVar 1)) := by
  intro H Q bx k
  have h0 := bx.h0
  have h1 := bx.h1
  have la : a.length = 1 := by
    have : a.cps.toList.length = a.length := Array.length_toList
    rw [← this, ha]
    rfl
  refine ⟨_, rfl, ⟨a, n, rfl, rfl, by omega, by omega, by omega, ?_⟩⟩
  rw [ha, show ((n : Int)).toNat = n from rfl, rep_str]
  refine k _ H (Go.refl bx.pot) (h _ H (by rw [SX.S_len, List.length_replicate]; omega) (bad_sign (c := c) ?_ hc))
  rw [tl_S, List.mem_replicate]
  exact ⟨by omega, rfl⟩
theorem ed_bad {z : Str} (H : Hp) (l : z.length ≤ 1000) (b : adV n (.str z) = false) : Ed p n H (.str z) := .inr ⟨_, .str l, b⟩
theorem bg_bad {z : Str} (H : Hp) (l : z.length ≤ 1000) (b : adV n (.str z) = false) : Bg p n H (.str z) := .inr ⟨_, .str l, by decide, b⟩
theorem co_blank : CoE K p L S t R n ys us q d f x5 x9 (Ed p n) (tOp (fun x y H Q => ∃ i j, x = V.str i ∧ y = V.str j ∧ i.length + j.length ≤ sizeLine ∧ Q (V.str (i ++ j)) H) (tSl rSlS (tOp (rIx K) (tVar 7) (tC (V.int 1))) tNoPart (tPart (tUn (rU fun i => V.int (-i)) (tC (V.int 1))))) (tC (V.str " "))) := by
  intro H Q bx k
  have h1 := bx.h1
  have el := bx.hq.1.2
  refine ⟨_, rfl, .inr (.inl ⟨_, _, _, _, rfl, rfl, SqT.of bx.ht, rfl, ?_⟩)⟩
  have l1 : (SX.S q.2).length ≤ 1000 := by rw [sx_len]; omega
  have l2 := cutS_len (SX.S q.2) none (some (-1))
  refine ⟨1, rfl, ⟨-1, rfl, ⟨SX.S q.2, rfl, szl (by omega), ?_⟩⟩⟩
  have l3 : (" " : Str).length = 1 := rfl
  refine ⟨_, _, rfl, rfl, szl (by omega), ?_⟩
  refine k _ H (Go.refl bx.pot) (ed_bad H (by have l0 : (SX.S q.2).length = q.2.length := sx_len _; rw [app_len]; omega) (bad_sign (c := 32) ?_ ⟨by decide, by decide⟩))
  rw [app_list]
  exact List.mem_append.mpr (.inr (by decide))
theorem co_long : CoE K p L S t R n ys us q d f x5 x9 (Ed p n) (tOp (fun x y H Q => ∃ i j, x = V.str i ∧ y = V.str j ∧ i.length + j.length ≤ sizeLine ∧ Q (V.str (i ++ j)) H) (tOp (rIx K) (tVar 7) (tC (V.int 1))) (tC (V.str "0"))) := by
  intro H Q bx k
  have h1 := bx.h1
  have el := bx.hq.1.2
  refine ⟨_, rfl, .inr (.inl ⟨_, _, _, _, rfl, rfl, SqT.of bx.ht, rfl, ?_⟩)⟩
  have l1 : (SX.S q.2).length = n := by rw [sx_len]; exact el
  have l3 : ("0" : Str).length = 1 := rfl
  refine ⟨SX.S q.2, _, rfl, rfl, szl (by omega), ?_⟩
  exact k _ H (Go.refl bx.pot) (ed_bad H (by rw [app_len]; omega) (bad_len (by rw [app_len]; omega)))
theorem co_short : CoE K p L S t R n ys us q d f x5 x9 (Ed p n) (tSl rSlS (tOp (rIx K) (tVar 7) (tC (V.int 1))) (tPart (tC (V.int 1))) tNoPart) := by
  intro H Q bx k
  have h0 := bx.h0
  have h1 := bx.h1
  have el := bx.hq.1.2
  refine ⟨_, rfl, .inr (.inl ⟨_, _, _, _, rfl, rfl, SqT.of bx.ht, rfl, ?_⟩)⟩
  refine ⟨1, rfl, ⟨SX.S q.2, rfl, szl (by rw [sx_len]; omega), ?_⟩⟩
  rw [cut_D q.2 (d := 1) (k := 1) rfl]
  have l1 : (SX.S (q.2.drop 1)).length = n - 1 := by rw [sx_len, List.length_drop, el]
  exact k _ H (Go.refl bx.pot) (ed_bad H (by omega) (bad_len (by omega)))
theorem co_lst1 {Φ : Hp → V → Prop} (h : ∀ H a xs, a ≠ p → H a = some (.lst xs) → Φ H (.ref a)) : CoE K p L S t R n ys us q d f x5 x9 Φ (tLst (tCons (tOp (rIx K) (tVar 7) (tC (V.int 1))) tNil)) := by
  intro H Q bx k
  refine ⟨_, rfl, .inr (.inl ⟨_, _, _, _, rfl, rfl, SqT.of bx.ht, rfl, ?_⟩)⟩
  refine ⟨szl (by show 1 ≤ 1000000; decide), fun a na => ?_⟩
  exact k _ _ ((Go.refl bx.pot).new na) (h _ a _ (bx.pot.ne na) upd_same)
theorem bg_lst {H : Hp} {a : Addr} {xs : List V} (na : a ≠ p) (e : H a = some (.lst xs)) : Bg p n H (.ref a) := .inr ⟨_, .lst na e, by decide, rfl⟩
theorem ed_lst {H : Hp} {a : Addr} {xs : List V} (na : a ≠ p) (e : H a = some (.lst xs)) : Ed p n H (.ref a) := .inr ⟨_, .lst na e, rfl⟩
theorem co_unit {Φ : Hp → V → Prop} (h : ∀ H a, a ≠ p → H a = some (.tup []) → Φ H (.ref a)) : CoE K p L S t R n ys us q d f x5 x9 Φ (tTup tNil) := by
  intro H Q bx k
  refine ⟨szl (Nat.zero_le _), fun a na => ?_⟩
  exact k _ _ ((Go.refl bx.pot).new na) (h _ a (bx.pot.ne na) upd_same)
theorem co_dict {Φ : Hp → V → Prop} (h : ∀ H a, a ≠ p → H a = some (.dK []) → Φ H (.ref a)) : CoE K p L S t R n ys us q d f x5 x9 Φ tDNewK := by
  intro H Q bx k a na
  exact k _ _ ((Go.refl bx.pot).new na) (h _ a (bx.pot.ne na) upd_same)
theorem co_empty : CoE K p L S t R n ys us q d f x5 x9 (Bg p n) (tC (V.str "")) := by
  intro H Q bx k
  have h0 := bx.h0
  exact k _ H (Go.refl bx.pot) (bg_bad H (by decide) (bad_len (by show 0 ≠ n; omega)))
theorem co_spot0 : CoE K p L S t R n ys us q d f x5 x9 (Ed p n) (tOp (rIx K) (tVar 6) (tC (V.int 0))) := by
  intro H Q bx k
  have hl : 0 < (bitsL n).length := by
    rw [bitsL_len]
    exact Nat.two_pow_pos n
  obtain ⟨z, hz⟩ : ∃ z, (bitsL n)[0]? = some z := ⟨_, List.getElem?_eq_getElem hl⟩
  obtain ⟨zb, zl⟩ := bitsL_mem.mp (List.mem_of_getElem? hz)
  refine ⟨_, rfl, .inl ⟨S, _, 0, sx z, rfl, rfl, SqL.of bx.hS, ?_, ?_⟩⟩
  · show atI ((bitsL n).map sx) ((0 : Nat) : Int) = _
    exact atI_nat (by rw [List.getElem?_map, hz]; rfl)
  · exact k _ H (Go.refl bx.pot) (ed_z z H zb zl)
theorem co_oneV : CoE K p L S t R n ys us q d f x5 x9 (ElP p n) (tVar 7) := by
  intro H Q bx k
  exact ⟨_, rfl, k _ H (Go.refl bx.pot) ⟨_, .pr bx.nt bx.ht bx.hq⟩⟩
theorem co_list1 : CoE K p L S t R n ys us q d f x5 x9 (ElP p n) (tCB (fun xs H Q => ∃ p ys, xs = [V.ref p] ∧ (SqL K H p ys ∨ SqT K H p ys) ∧ ∀ l, H l = none → Q (.ref l) (upd H l (.lst ys))) (tCons (tVar 7) tNil)) := by
  intro H Q bx k
  refine ⟨_, rfl, ⟨t, _, rfl, .inr (SqT.of bx.ht), fun l nl => ?_⟩⟩
  exact k _ _ ((Go.refl bx.pot).new nl) ⟨none, .kd (.lst (bx.pot.ne nl) upd_same) (by decide)⟩
theorem co_twice : CoE K p L S t R n ys us q d f x5 x9 (ElP p n) (tOp (rCatT K) (tVar 7) (tVar 7)) := by
  intro H Q bx k
  refine ⟨_, rfl, ⟨_, rfl, ⟨t, t, _, _, rfl, rfl, SqT.of bx.ht, SqT.of bx.ht, (fun z => nomatch z), szl (by show 2 + 2 ≤ 1000000; decide), (fun z => nomatch z), fun _ a na => ?_⟩⟩⟩
  exact k _ _ ((Go.refl bx.pot).new na) ⟨none, .ln (bx.pot.ne na) upd_same (by show 4 ≠ 2; decide)⟩
theorem el_ofE (hq : PrOk n q) (h1 : n ≤ 6) (H : Hp) : ElP p n H (sx q.2) := ⟨none, .kd (.sx (by have := hq.1.2; omega)) (by decide)⟩
theorem co_elE : CoE K p L S t R n ys us q d f x5 x9 (ElP p n) (tOp (rIx K) (tVar 7) (tC (V.int 1))) := by
  intro H Q bx k
  exact co_one1 (Φ := ElP p n) (fun hq H => el_ofE hq bx.h1 H) H Q bx k
theorem el_unit {H : Hp} {a : Addr} (na : a ≠ p) (e : H a = some (.tup [])) : ElP p n H (.ref a) := ⟨none, .ln na e (by decide)⟩
theorem el_non (H : Hp) : ElP p n H .non := ⟨none, .kd .non (by decide)⟩
theorem co_rest {te : TE} (h : CoE K p L S t R n ys us q d f x5 x9 (ElP p n) te) : CoE K p L S t R n ys us q d f x5 x9 (ThP p n) (tOp rCat (tVar 8) (tLst (tCons te tNil))) := by
  intro H Q bx k
  refine ⟨_, rfl, ?_⟩
  refine h H _ bx fun x H1 g1 ⟨o, el⟩ => ?_
  refine ⟨szl (by show 1 ≤ 1000000; decide), fun l nl => ?_⟩
  have g2 : Go p H (upd H1 l (.lst [x])) := g1.new nl
  have k2 : Go p H1 (upd H1 l (.lst [x])) := (Go.refl g1.pot).new nl
  have e2 : upd H1 l (.lst [x]) l = some (.lst [x]) := upd_same
  have bx2 := bx.go g2
  have lu := bx.lu
  refine ⟨R, l, vz us, [x], rfl, rfl, bx2.hR, e2, szl (by rw [vz_len]; show us.length + 1 ≤ 1000000; omega), fun r nr => ?_⟩
  have g3 : Go p H _ := g2.new (o := HO.lst (vz us ++ [x])) nr
  have k3 := (Go.refl g2.pot).new (o := HO.lst (vz us ++ [x])) nr
  have bx3 := bx2.go k3
  exact k _ _ g3 ⟨_, Th.more upd_same (g2.pot.ne nr) bx3.pu bx.nu lu (el.kp (k2.trans k3).K)⟩
theorem co_told {te : TE} (h : CoE K p L S t R n ys us q d f x5 x9 (ElP p n) te) : CoE K p L S t R n ys us q d f x5 x9 (ThP p n) (tOp rCat (tVar 4) (tLst (tCons te tNil))) := by
  intro H Q bx k
  refine ⟨_, rfl, ?_⟩
  refine h H _ bx fun x H1 g1 ⟨o, el⟩ => ?_
  refine ⟨szl (by show 1 ≤ 1000000; decide), fun l nl => ?_⟩
  have g2 : Go p H (upd H1 l (.lst [x])) := g1.new nl
  have k2 : Go p H1 (upd H1 l (.lst [x])) := (Go.refl g1.pot).new nl
  have e2 : upd H1 l (.lst [x]) l = some (.lst [x]) := upd_same
  have bx2 := bx.go g2
  have ly := bx.ly
  refine ⟨L, l, vz ys, [x], rfl, rfl, bx2.hL, e2, szl (by rw [vz_len]; show ys.length + 1 ≤ 1000000; omega), fun r nr => ?_⟩
  have g3 : Go p H _ := g2.new (o := HO.lst (vz ys ++ [x])) nr
  have k3 := (Go.refl g2.pot).new (o := HO.lst (vz ys ++ [x])) nr
  have bx3 := bx2.go k3
  exact k _ _ g3 ⟨_, Th.more upd_same (g2.pot.ne nr) bx3.ps bx.np ly (el.kp (k2.trans k3).K)⟩
/-- a row of things -/
def CoL (K : PySem.W.Frag) (p L S t R : Addr) (n : Nat) (ys us : List (Addr × Pr)) (q : Pr) (d f : V) (x5 x9 : Option V) (k : Nat) (ta : TA) : Prop := ∀ (H : Hp) (Q : List V → Hp → Prop), Bx p L S t R n ys us q H → (∀ xs H', Go p H H' → xs.length = k → (∀ x ∈ xs, ∃ o, Th p H' n x o) → Q xs H') → ta (sB p L S t R n d f x5 x9) H Q
theorem cl_nil : CoL K p L S t R n ys us q d f x5 x9 0 tNil := fun H Q bx k => k [] H (Go.refl bx.pot) rfl fun x hx => by cases hx
theorem cl_cons {te : TE} {ta : TA} {j : Nat} (h : CoE K p L S t R n ys us q d f x5 x9 (ThP p n) te) (hs : CoL K p L S t R n ys us q d f x5 x9 j ta) : CoL K p L S t R n ys us q d f x5 x9 (j + 1) (tCons te ta) := by
  intro H Q bx k
  refine h H _ bx fun x H1 g1 ⟨o, th⟩ => ?_
  refine hs H1 _ (bx.go g1) fun xs H2 g2 l hx => ?_
  refine k _ _ (g1.trans g2) (by rw [List.length_cons, l]) fun y hy => ?_
  rcases List.mem_cons.mp hy with rfl | hy
  · exact ⟨o, th.kp g2.K⟩
  · exact hx y hy
theorem cat_go {ta : TA} {j i : Nat} {G : Addr} {H : Hp} {Q : VK} (h : CoL K p L S t R n ys us q d f (some (.ref G)) x9 j ta) (bx : Bx p L S t R n ys us q H) (fn : Fnd p n G i H) (lj : i + j ≤ 40) (k : ∀ G' H', Go p H H' → Fnd p n G' (i + j) H' → Q (.ref G') H') : tOp rCat (tVar 5) (tLst ta) (sB p L S t R n d f (some (.ref G)) x9) H Q := by
  refine ⟨_, rfl, ?_⟩
  refine h H _ bx fun xs H1 g1 lx hx => ?_
  refine ⟨szl (by omega), fun l nl => ?_⟩
  have g2 : Go p H (upd H1 l (.lst xs)) := g1.new nl
  have k2 : Go p H1 (upd H1 l (.lst xs)) := (Go.refl g1.pot).new nl
  have e2 : upd H1 l (.lst xs) l = some (.lst xs) := upd_same
  obtain ⟨zs, eG, nG, lz, hz⟩ := fn.go g2
  refine ⟨G, l, zs, xs, rfl, rfl, eG, e2, szl (by omega), fun r nr => ?_⟩
  have g3 : Go p H _ := g2.new (o := HO.lst (zs ++ xs)) nr
  have k3 := (Go.refl g2.pot).new (o := HO.lst (zs ++ xs)) nr
  refine k r _ g3 ⟨zs ++ xs, upd_same, g2.pot.ne nr, by rw [List.length_append]; omega, fun x hx' => ?_⟩
  rcases List.mem_append.mp hx' with h | h
  · obtain ⟨o, ho⟩ := hz x h
    exact ⟨o, ho.kp k3.K⟩
  · obtain ⟨o, ho⟩ := hx x h
    exact ⟨o, ho.kp (k2.trans k3).K⟩
end
@[irreducible] def spBe : Sp := fun vs H Q _ => ∃ (p L : Addr) (n : Nat) (d f : V) (ys : List (Addr × Pr)), vs = [.ref p, .int n, d, f, .ref L] ∧ PotAt H p ∧ 1 ≤ n ∧ n ≤ 6 ∧ H L = some (.lst (vz ys)) ∧ L ≠ p ∧ Ps H n ys ∧ (∀ y ∈ ys, y.1 ≠ p) ∧ 0 < ys.length ∧ ys.length ≤ 40 ∧ ∀ G H', Go p H H' → Fnd p n G 32 H' → Q (.ref G) H'
theorem be_go {p L : Addr} {n : Nat} {d f : V} {ys : List (Addr × Pr)} {H : Hp} {Q : VK} {E : XK} (hp : PotAt H p) (h0 : 1 ≤ n) (h1 : n ≤ 6) (hL : H L = some (.lst (vz ys))) (nL : L ≠ p) (ps : Ps H n ys) (np : ∀ y ∈ ys, y.1 ≠ p) (l0 : 0 < ys.length) (l1 : ys.length ≤ 40) (k : ∀ G H', Go p H H' → Fnd p n G 32 H' → Q (.ref G) H') : spBe [.ref p, .int n, d, f, .ref L] H Q E := by
  unfold spBe
  exact ⟨p, L, n, d, f, ys, rfl, hp, h0, h1, hL, nL, ps, np, l0, l1, k⟩
section
variable {P : Program} {w : World} {K : PySem.W.Frag} {mg : Str → Option Value} {base : Heap} {f : Addr} {fd : FuncData}
theorem ok_bent (F : Fun K "_law_bent" "_law_bent" s_law_bent f fd) (hm : mg "_law_bent" = some (.ref f)) (T : Txt K mg) (c_law_bits : Nm P w K mg base CX0 1 "_law_bits" s_law_bits ["_law_many"] (spLB2)) (c_law_pick : Nm P w K mg base CX0 2 "_law_pick" s_law_pick ["_law_pot_here", "_law_some"] (spAmong K)) : Nm P w K mg base CX0 3 "_law_bent" s_law_bent ["_law_pot_here", "_law_wide", "_law_rows", "_law_idle", "_law_told"] (spBe) := by
  refine nm_of F hm sc_law_bent (fun vs H Q E h => ?_) fun cdv A outer s H vs Q E hr h => ?_
  · unfold spBe at h
    obtain ⟨p, L, n, d, f2, ys, rfl, hp, h0, h1, hL, nL, ps, np, l0, l1, k⟩ := h
    subst_vars
    rfl
  unfold spBe at h
  obtain ⟨p, L, n, d, f2, ys, rfl, hp, h0, h1, hL, nL, ps, np, l0, l1, k⟩ := h
  refine ⟨_, (C8.pss_cut (ps_set (i := 5) sc_law_bent.nd rfl (by first | exact Or.inl rfl | exact Or.inr rfl) (pe_lst (pa_cons (pe_revL (pv 4)) (pa_cons (pe_callTy call_tuple_of (by rfl) T.b_tuple (by decide +kernel) (pa_cons (pv 4) pa_nil)) (pa_cons (pe_lst pa_nil) (pa_cons (pe_slice sl_list (pv 4) (po_some pe_int) po_none) pa_nil))))))
      (C8.pss_cut (ps_set (i := 6) sc_law_bent.nd rfl (by first | exact Or.inl rfl | exact Or.inr rfl) (pe_g c_law_bits hr (by decide) L2.pass0 bp_law_bits (by rfl) (pa_cons (pv 1) pa_nil)))
      (C8.pss_cut (ps_set (i := 7) sc_law_bent.nd rfl (by first | exact Or.inl rfl | exact Or.inr rfl) (pe_g c_law_pick hr (by decide) L2.pass0 bp_law_pick (by rfl) (pa_cons (pv 0) (pa_cons (pv 4) pa_nil))))
      (C8.pss_cut (ps_setLc (i := 8) (own := [("_law_mate", 9)]) (g := (gName 9)) (by rfl) sc_law_bent.nd rfl rfl (sw_true rfl rfl rfl (by decide +kernel)) (pi_listK (K := K) rfl (pv 4)) (blkOk_by (own := [("_law_mate", 9)]) (N := ["_law_pot_here", "_law_wide", "_law_rows", "_law_idle", "_law_told", "_law_found", "_law_spots", "_law_one", "_law_rest", "_law_mate"]) (sc := defScope s_law_bent) (by decide +kernel)) (fun _ _ _ _ _ => (pg_name (i := 9) sc_law_bent.nd rfl (by first | exact Or.inl rfl | exact Or.inr rfl))) (fun _ _ _ _ _ => (pts_one (pt_cmpR (op_neDK (K := K) rfl hr.u64) (pv 9) (pv 7) (nomark _)))) (fun _ _ _ _ _ => (pv 9)))
      (C8.pss_cut (ps_set (i := 5) sc_law_bent.nd rfl (by first | exact Or.inl rfl | exact Or.inr rfl) (pe_op op_cat (pv 5) (pe_lst (pa_cons (pe_op op_cat (pv 4) (pe_lst (pa_cons (pv 7) pa_nil))) (pa_cons (pe_op op_cat (pv 8) (pe_lst (pa_cons (pe_tup (pa_cons (pe_ix (ix_seqK (K := K) rfl) (pv 7) pe_int (fun _ _ => rfl)) (pa_cons (pe_ix (ix_seqK (K := K) rfl) (pv 7) pe_int (fun _ _ => rfl)) pa_nil))) pa_nil))) (pa_cons (pe_op op_cat (pv 8) (pe_lst (pa_cons (pe_tup (pa_cons (pe_ix (ix_seqK (K := K) rfl) (pv 7) pe_int (fun _ _ => rfl)) (pa_cons (pe_ix (ix_seqK (K := K) rfl) (pv 7) pe_int (fun _ _ => rfl)) pa_nil))) pa_nil))) (pa_cons (pe_op op_cat (pv 8) (pe_lst (pa_cons (pe_tup (pa_cons (pe_ix (ix_seqK (K := K) rfl) (pv 7) pe_int (fun _ _ => rfl)) (pa_cons (pe_ix (ix_seqK (K := K) rfl) (pv 7) pe_int (fun _ _ => rfl)) pa_nil))) pa_nil))) pa_nil)))))))
      (C8.pss_cut (ps_set (i := 5) sc_law_bent.nd rfl (by first | exact Or.inl rfl | exact Or.inr rfl) (pe_op op_cat (pv 5) (pe_lst (pa_cons (pe_op op_cat (pv 8) (pe_lst (pa_cons (pe_tup (pa_cons (pe_ix (ix_seqK (K := K) rfl) (pv 7) pe_int (fun _ _ => rfl)) (pa_cons (pe_g c_law_pick hr (by decide) L2.pass0 bp_law_pick (by rfl) (pa_cons (pv 0) (pa_cons (pv 6) pa_nil))) pa_nil))) pa_nil))) (pa_cons (pe_op op_cat (pv 8) (pe_lst (pa_cons (pe_tup (pa_cons (pe_g c_law_pick hr (by decide) L2.pass0 bp_law_pick (by rfl) (pa_cons (pv 0) (pa_cons (pv 6) pa_nil))) (pa_cons (pe_ix (ix_seqK (K := K) rfl) (pv 7) pe_int (fun _ _ => rfl)) pa_nil))) pa_nil))) pa_nil)))))
      (C8.pss_cut (ps_set (i := 5) sc_law_bent.nd rfl (by first | exact Or.inl rfl | exact Or.inr rfl) (pe_op op_cat (pv 5) (pe_lst (pa_cons (pe_op op_cat (pv 8) (pe_lst (pa_cons (pe_tup (pa_cons pe_non (pa_cons (pe_ix (ix_seqK (K := K) rfl) (pv 7) pe_int (fun _ _ => rfl)) pa_nil))) pa_nil))) (pa_cons (pe_op op_cat (pv 8) (pe_lst (pa_cons (pe_tup (pa_cons pe_non (pa_cons (pe_g c_law_pick hr (by decide) L2.pass0 bp_law_pick (by rfl) (pa_cons (pv 0) (pa_cons (pv 6) pa_nil))) pa_nil))) pa_nil))) (pa_cons (pe_op op_cat (pv 4) (pe_lst (pa_cons (pe_tup (pa_cons pe_non (pa_cons (pe_ix (ix_seqK (K := K) rfl) (pv 6) pe_int (fun _ _ => rfl)) pa_nil))) pa_nil))) pa_nil))))))
      (C8.pss_cut (ps_set (i := 5) sc_law_bent.nd rfl (by first | exact Or.inl rfl | exact Or.inr rfl) (pe_op op_cat (pv 5) (pe_lst (pa_cons (pe_op op_cat (pv 8) (pe_lst (pa_cons (pe_tup (pa_cons (pe_ix (ix_seqK (K := K) rfl) (pv 7) pe_int (fun _ _ => rfl)) (pa_cons (pe_op op_mul_str pe_str (pv 1)) pa_nil))) pa_nil))) (pa_cons (pe_op op_cat (pv 8) (pe_lst (pa_cons (pe_tup (pa_cons (pe_op op_mul_str pe_str (pv 1)) (pa_cons (pe_ix (ix_seqK (K := K) rfl) (pv 7) pe_int (fun _ _ => rfl)) pa_nil))) pa_nil))) (pa_cons (pe_op op_cat (pv 8) (pe_lst (pa_cons (pe_tup (pa_cons (pe_ix (ix_seqK (K := K) rfl) (pv 7) pe_int (fun _ _ => rfl)) (pa_cons (pe_op op_add_str (pe_slice sl_str (pe_ix (ix_seqK (K := K) rfl) (pv 7) pe_int (fun _ _ => rfl)) po_none (po_some (pe_un un_neg pe_int))) pe_str) pa_nil))) pa_nil))) pa_nil))))))
      (C8.pss_cut (ps_set (i := 5) sc_law_bent.nd rfl (by first | exact Or.inl rfl | exact Or.inr rfl) (pe_op op_cat (pv 5) (pe_lst (pa_cons (pe_op op_cat (pv 8) (pe_lst (pa_cons (pe_tup (pa_cons pe_str (pa_cons (pe_ix (ix_seqK (K := K) rfl) (pv 7) pe_int (fun _ _ => rfl)) pa_nil))) pa_nil))) (pa_cons (pe_op op_cat (pv 8) (pe_lst (pa_cons (pe_tup (pa_cons pe_int (pa_cons (pe_ix (ix_seqK (K := K) rfl) (pv 7) pe_int (fun _ _ => rfl)) pa_nil))) pa_nil))) (pa_cons (pe_op op_cat (pv 8) (pe_lst (pa_cons (pe_tup (pa_cons pe_bl (pa_cons (pe_ix (ix_seqK (K := K) rfl) (pv 7) pe_int (fun _ _ => rfl)) pa_nil))) pa_nil))) (pa_cons (pe_op op_cat (pv 8) (pe_lst (pa_cons (pe_tup (pa_cons (pe_tup pa_nil) (pa_cons (pe_ix (ix_seqK (K := K) rfl) (pv 7) pe_int (fun _ _ => rfl)) pa_nil))) pa_nil))) pa_nil)))))))
      (C8.pss_cut (ps_set (i := 5) sc_law_bent.nd rfl (by first | exact Or.inl rfl | exact Or.inr rfl) (pe_op op_cat (pv 5) (pe_lst (pa_cons (pe_op op_cat (pv 8) (pe_lst (pa_cons (pe_tup (pa_cons (pe_ix (ix_seqK (K := K) rfl) (pv 7) pe_int (fun _ _ => rfl)) (pa_cons (pe_lst (pa_cons (pe_ix (ix_seqK (K := K) rfl) (pv 7) pe_int (fun _ _ => rfl)) pa_nil)) pa_nil))) pa_nil))) (pa_cons (pe_op op_cat (pv 8) (pe_lst (pa_cons (pe_tup (pa_cons pe_dnewK (pa_cons (pe_ix (ix_seqK (K := K) rfl) (pv 7) pe_int (fun _ _ => rfl)) pa_nil))) pa_nil))) (pa_cons (pe_op op_cat (pv 8) (pe_lst (pa_cons (pe_tup (pa_cons (pe_lst (pa_cons (pe_ix (ix_seqK (K := K) rfl) (pv 7) pe_int (fun _ _ => rfl)) pa_nil)) (pa_cons (pe_ix (ix_seqK (K := K) rfl) (pv 7) pe_int (fun _ _ => rfl)) pa_nil))) pa_nil))) pa_nil))))))
      (C8.pss_cut (ps_set (i := 5) sc_law_bent.nd rfl (by first | exact Or.inl rfl | exact Or.inr rfl) (pe_op op_cat (pv 5) (pe_lst (pa_cons (pe_op op_cat (pv 8) (pe_lst (pa_cons (pe_callTy call_list_of (by rfl) T.b_list (by decide +kernel) (pa_cons (pv 7) pa_nil)) pa_nil))) (pa_cons (pe_op op_cat (pv 8) (pe_lst (pa_cons (pe_tup (pa_cons (pe_ix (ix_seqK (K := K) rfl) (pv 7) pe_int (fun _ _ => rfl)) (pa_cons (pe_op op_add_str (pe_ix (ix_seqK (K := K) rfl) (pv 7) pe_int (fun _ _ => rfl)) pe_str) pa_nil))) pa_nil))) (pa_cons (pe_op op_cat (pv 8) (pe_lst (pa_cons (pe_tup (pa_cons (pe_ix (ix_seqK (K := K) rfl) (pv 7) pe_int (fun _ _ => rfl)) (pa_cons (pe_slice sl_str (pe_ix (ix_seqK (K := K) rfl) (pv 7) pe_int (fun _ _ => rfl)) (po_some pe_int) po_none) pa_nil))) pa_nil))) (pa_cons (pe_op op_cat (pv 8) (pe_lst (pa_cons (pe_ix (ix_seqK (K := K) rfl) (pv 7) pe_int (fun _ _ => rfl)) pa_nil))) pa_nil)))))))
      (pss_one (ps_ret (pe_op op_cat (pv 5) (pe_lst (pa_cons (pe_op op_cat (pv 8) (pe_lst (pa_cons (pe_tup (pa_cons (pe_ix (ix_seqK (K := K) rfl) (pv 7) pe_int (fun _ _ => rfl)) (pa_cons pe_non pa_nil))) pa_nil))) (pa_cons (pe_op op_cat (pv 8) (pe_lst (pa_cons (pe_op op_catT (pv 7) (pv 7)) pa_nil))) (pa_cons (pe_op op_cat (pv 8) (pe_lst (pa_cons (pe_tup (pa_cons (pe_ix (ix_seqK (K := K) rfl) (pv 7) pe_int (fun _ _ => rfl)) (pa_cons pe_int pa_nil))) pa_nil))) (pa_cons (pe_op op_cat (pv 8) (pe_lst (pa_cons (pe_tup pa_nil) pa_nil))) (pa_cons (pe_op op_cat (pv 8) (pe_lst (pa_cons pe_non pa_nil))) pa_nil)))))))))))))))))))), ?_⟩
  refine ⟨fun σ' H' => ∃ G, σ' = [some (.ref p), some (.int n), some d, some f2, some (.ref L), some (.ref G), none, none, none, none] ∧ Go p H H' ∧ Fnd p n G 4 H', ?_, ?_⟩
  · refine ⟨_, rfl, ?_⟩
    refine ⟨L, vz ys, rfl, SqL.of hL, fun a1 n1 => ?_⟩
    rw [show (vz ys).reverse = vz ys.reverse by unfold vz; rw [List.map_reverse]]
    have g1 : Go p H (upd H a1 (.lst (vz ys.reverse))) := (Go.refl hp).new n1
    have m1 := hp.ne n1
    have psr : ∀ {H'}, Go p H H' → Ps H' n ys.reverse := fun g y hy => ps.go np g y (List.mem_reverse.mp hy)
    have npr : ∀ y ∈ ys.reverse, y.1 ≠ p := fun y hy => np y (List.mem_reverse.mp hy)
    have t1 : Th p (upd H a1 (.lst (vz ys.reverse))) n (.ref a1) _ := Th.pairs (.inl upd_same) m1 (psr g1) npr (by rw [List.length_reverse]; omega)
    generalize upd H a1 (.lst (vz ys.reverse)) = H1 at g1 t1 ⊢
    refine ⟨_, rfl, ⟨L, _, rfl, .inl ⟨SqL.of (g1.kp hL nL), fun a2 n2 => ?_⟩⟩⟩
    have g2 : Go p H1 (upd H1 a2 (.tup (vz ys))) := (Go.refl g1.pot).new n2
    have m2 := g1.pot.ne n2
    have t2 : Th p (upd H1 a2 (.tup (vz ys))) n (.ref a2) _ := Th.pairs (.inr upd_same) m2 (ps.go np (g1.trans g2)) np (by omega)
    have t1 := t1.kp g2.K
    generalize upd H1 a2 (.tup (vz ys)) = H2 at g2 t2 t1 ⊢
    have g12 := g1.trans g2
    refine ⟨szl (Nat.zero_le _), fun a3 n3 => ?_⟩
    have g3 : Go p H2 (upd H2 a3 (.lst [])) := (Go.refl g2.pot).new n3
    have m3 := g2.pot.ne n3
    have t3 : Th p (upd H2 a3 (.lst [])) n (.ref a3) _ := Th.pairs (ys := []) (.inl upd_same) m3 (fun y hy => by cases hy) (fun y hy => by cases hy) (Nat.zero_le _)
    have t1 := t1.kp g3.K
    have t2 := t2.kp g3.K
    generalize upd H2 a3 (.lst []) = H3 at g3 t3 t1 t2 ⊢
    have g13 := g12.trans g3
    refine ⟨_, rfl, ⟨1, rfl, ⟨L, vz ys, rfl, SqL.of (g13.kp hL nL), fun a4 n4 => ?_⟩⟩⟩
    rw [show cutV (vz ys) (some 1) none = vz (ys.drop 1) from (cutV_from (vz ys) (k := 1) (by rw [vz_len]; omega)).trans (by unfold vz; rw [List.map_drop])]
    have g4 : Go p H3 (upd H3 a4 (.lst (vz (ys.drop 1)))) := (Go.refl g3.pot).new n4
    have m4 := g3.pot.ne n4
    have g14 := g13.trans g4
    have t4 : Th p (upd H3 a4 (.lst (vz (ys.drop 1)))) n (.ref a4) _ := Th.pairs (.inl upd_same) m4 (fun y hy => ps.go np g14 y (List.mem_of_mem_drop hy)) (fun y hy => np y (List.mem_of_mem_drop hy)) (by rw [List.length_drop]; omega)
    have t1 := t1.kp g4.K
    have t2 := t2.kp g4.K
    have t3 := t3.kp g4.K
    generalize upd H3 a4 (.lst (vz (ys.drop 1))) = H4 at g4 g14 t4 t1 t2 t3 ⊢
    refine ⟨szl (by show 4 ≤ 1000000; decide), fun G nG => ?_⟩
    have g5 : Go p H4 (upd H4 G (.lst [.ref a1, .ref a2, .ref a3, .ref a4])) := (Go.refl g14.pot).new nG
    refine ⟨G, rfl, g14.trans g5, _, upd_same, g14.pot.ne nG, rfl, fun x hx => ?_⟩
    simp only [List.mem_cons, List.not_mem_nil, or_false] at hx
    rcases hx with rfl | rfl | rfl | rfl
    · exact ⟨_, t1.kp g5.K⟩
    · exact ⟨_, t2.kp g5.K⟩
    · exact ⟨_, t3.kp g5.K⟩
    · exact ⟨_, t4.kp g5.K⟩
  rintro σ' H1 ⟨G, rfl, g1, fn1⟩
  refine ⟨fun σ' H' => ∃ S, σ' = [some (.ref p), some (.int n), some d, some f2, some (.ref L), some (.ref G), some (.ref S), none, none, none] ∧ Go p H H' ∧ Fnd p n G 4 H' ∧ S ≠ p ∧ H' S = some (.lst ((bitsL n).map sx)), ?_, ?_⟩
  · refine ⟨_, rfl, ?_⟩
    refine lb2_go (by omega) fun S H2 s2 nS eS => ?_
    have g2 := Go.of g1.pot s2
    exact ⟨S, rfl, g1.trans g2, fn1.go g2, g1.pot.ne nS, eS⟩
  clear g1 fn1 H1
  rintro σ' H1 ⟨S, rfl, g1, fn1, nS, eS⟩
  refine ⟨fun σ' H' => ∃ t q, σ' = [some (.ref p), some (.int n), some d, some f2, some (.ref L), some (.ref G), some (.ref S), some (.ref t), none, none] ∧ Go p H H' ∧ Fnd p n G 4 H' ∧ H' S = some (.lst ((bitsL n).map sx)) ∧ S ≠ p ∧ (t, q) ∈ ys, ?_, ?_⟩
  · refine ⟨_, rfl, ⟨_, rfl, ?_⟩⟩
    refine among_l g1.pot nL (SqL.of (g1.kp hL nL)) (by rw [vz_len]; exact l0) (by rw [vz_len]; omega) fun v hv H2 g2 => ?_
    obtain ⟨⟨t, q⟩, hq, rfl⟩ := List.mem_map.mp hv
    exact ⟨t, q, rfl, g1.trans g2, fn1.go g2, g2.kp eS nS, nS, hq⟩
  clear g1 fn1 eS H1
  rintro σ' H1 ⟨t, q, rfl, g1, fn1, eS, nS, hq⟩
  have ht0 := ps (t, q) hq
  have nt := np (t, q) hq
  have ht := g1.kp ht0.1 nt
  have psn := ps.go np g1
  refine ⟨fun σ' H' => ∃ R us x9, σ' = sB p L S t R n d f2 (some (.ref G)) x9 ∧ Go p H H' ∧ Fnd p n G 4 H' ∧ Bx p L S t R n ys us q H', ?_, ?_⟩
  · have hL1 := g1.kp hL nL
    refine ⟨_, rfl, ⟨L, rfl, ⟨_, SqL.of hL1⟩, fun B nB => ?_⟩⟩
    refine lc_it (walk_list (xs := vz ys)) (fun i H' => ∃ us : List (Addr × Pr), H' B = some (.lst (vz us)) ∧ us.length ≤ i ∧ (∀ u ∈ us, u ∈ ys) ∧ Same H1 H') ⟨[], upd_same, Nat.le_refl _, fun u hu => (by cases hu), (Same.refl H1).new nB⟩ (fun i H' _ ⟨_, _, _, _, s⟩ => SqL.of (s _ _ hL1)) ?_ ?_
    · rintro i x Hx H2 hi ⟨us, eB, lu, hu, sm⟩ ⟨rfl, hx'⟩
      obtain ⟨y, hy, rfl⟩ := vz_at hx'
      have hy1 := List.mem_of_getElem? hy
      have li : i < ys.length := (List.getElem?_eq_some_iff.mp hy).1
      refine ⟨rfl, ?_⟩
      have dpy : ∀ y ∈ ys, Dp K H2 (.ref y.1) (dq y.2) := fun y hy => by
        have h := dq_dp (K := K) (H := H2) (n := n) (ys := [y]) (fun z hz => by rw [List.mem_singleton.mp hz]; exact ⟨sm _ _ (psn y hy).1, (psn y hy).2⟩)
        cases h with
        | cons a b => exact a
      have shp : ∀ y ∈ ys, SeqAt.shaped (dq y.2) = true := fun y hy => (dq_fit (psn y hy).2 (by omega)).shp (by decide)
      refine ⟨_, rfl, ⟨_, rfl, ⟨_, _, dpy y hy1, dpy _ hq, shp y hy1, shp _ hq, ⟨_, rfl, ?_⟩⟩⟩⟩
      generalize (!PyData.eqv (dq y.2) (dq (t, q).2)) = c
      cases c with
      | false =>
        refine iteF ?_
        exact ⟨us, eB, by omega, hu, sm⟩
      | true =>
        refine iteT ?_
        refine ⟨_, rfl, _, eB, szt (by rw [vz_len]; omega), us ++ [y], ?_, by rw [List.length_append]; show us.length + 1 ≤ i + 1; omega, fun u h => ?_, fun b o e => updn (nonn nB e) (sm _ _ e)⟩
        · rw [upd_same]
          unfold vz
          rw [List.map_append]
          rfl
        · rcases List.mem_append.mp h with h | h
          · exact hu u h
          · rw [List.mem_singleton.mp h]; exact hy1
    · rintro H2 ⟨us, eB, lu, hu, sm⟩
      have g2 := Go.of g1.pot sm
      rw [vz_len] at lu
      exact ⟨B, us, none, rfl, g1.trans g2, fn1.go g2, ⟨g2.pot, g2.kp hL1 nL, nL, psn.to sm, sm _ _ eS, nS, sm _ _ ht, nt, eB, g1.pot.ne nB, fun y hy => ⟨sm _ _ (psn y (hu y hy)).1, (psn y (hu y hy)).2⟩, ht0.2, h0, h1, np, fun y hy => np y (hu y hy), l1, by omega⟩⟩
  clear g1 fn1 eS ht psn H1
  rintro σ' H1 ⟨R, us, x9, rfl, g1, fn1, bx1⟩
  refine ⟨fun σ' H' => ∃ G, σ' = sB p L S t R n d f2 (some (.ref G)) x9 ∧ Go p H H' ∧ Fnd p n G 8 H' ∧ Bx p L S t R n ys us q H', ?_, ?_⟩
  · exact cat_go (cl_cons (co_told co_oneV) (cl_cons (co_rest (co_pair (co_one1 bg_ofE) (co_one0 ed_ofB))) (cl_cons (co_rest (co_pair (co_one0 bg_ofB) (co_one0 ed_ofB))) (cl_cons (co_rest (co_pair (co_one1 bg_ofE) (co_one1 ed_ofE))) cl_nil)))) bx1 fn1 (by decide) fun G' H' g fn => ⟨G', rfl, g1.trans g, fn, bx1.go g⟩
  clear g1 fn1 bx1 H1 G
  rintro σ' H1 ⟨G, rfl, g1, fn1, bx1⟩
  refine ⟨fun σ' H' => ∃ G, σ' = sB p L S t R n d f2 (some (.ref G)) x9 ∧ Go p H H' ∧ Fnd p n G 10 H' ∧ Bx p L S t R n ys us q H', ?_, ?_⟩
  · exact cat_go (cl_cons (co_rest (co_pair (co_one0 bg_ofB) (co_pick ed_z))) (cl_cons (co_rest (co_pair (co_pick bg_z) (co_one1 ed_ofE))) cl_nil)) bx1 fn1 (by decide) fun G' H' g fn => ⟨G', rfl, g1.trans g, fn, bx1.go g⟩
  clear g1 fn1 bx1 H1 G
  rintro σ' H1 ⟨G, rfl, g1, fn1, bx1⟩
  refine ⟨fun σ' H' => ∃ G, σ' = sB p L S t R n d f2 (some (.ref G)) x9 ∧ Go p H H' ∧ Fnd p n G 13 H' ∧ Bx p L S t R n ys us q H', ?_, ?_⟩
  · exact cat_go (cl_cons (co_rest (co_pair (co_c fun H => .inl ⟨none, rfl, fun z hz => nomatch hz⟩) (co_one1 ed_ofE))) (cl_cons (co_rest (co_pair (co_c fun H => .inl ⟨none, rfl, fun z hz => nomatch hz⟩) (co_pick ed_z))) (cl_cons (co_told (co_pair (co_c fun H => .inl ⟨none, rfl, fun z hz => nomatch hz⟩) (co_spot0))) cl_nil))) bx1 fn1 (by decide) fun G' H' g fn => ⟨G', rfl, g1.trans g, fn, bx1.go g⟩
  clear g1 fn1 bx1 H1 G
  rintro σ' H1 ⟨G, rfl, g1, fn1, bx1⟩
  refine ⟨fun σ' H' => ∃ G, σ' = sB p L S t R n d f2 (some (.ref G)) x9 ∧ Go p H H' ∧ Fnd p n G 16 H' ∧ Bx p L S t R n ys us q H', ?_, ?_⟩
  · exact cat_go (cl_cons (co_rest (co_pair (co_one0 bg_ofB) (co_mul (a := "2") (c := 50) (by decide) (by decide) fun z H l b => ed_bad H l b))) (cl_cons (co_rest (co_pair (co_mul (a := "a") (c := 97) (by decide) (by decide) fun z H l b => bg_bad H l b) (co_one1 ed_ofE))) (cl_cons (co_rest (co_pair (co_one0 bg_ofB) (co_blank))) cl_nil))) bx1 fn1 (by decide) fun G' H' g fn => ⟨G', rfl, g1.trans g, fn, bx1.go g⟩
  clear g1 fn1 bx1 H1 G
  rintro σ' H1 ⟨G, rfl, g1, fn1, bx1⟩
  refine ⟨fun σ' H' => ∃ G, σ' = sB p L S t R n d f2 (some (.ref G)) x9 ∧ Go p H H' ∧ Fnd p n G 20 H' ∧ Bx p L S t R n ys us q H', ?_, ?_⟩
  · exact cat_go (cl_cons (co_rest (co_pair (co_empty) (co_one1 ed_ofE))) (cl_cons (co_rest (co_pair (co_c fun H => .inr ⟨_, .int 0, by decide, rfl⟩) (co_one1 ed_ofE))) (cl_cons (co_rest (co_pair (co_c fun H => .inr ⟨_, .bl false, by decide, rfl⟩) (co_one1 ed_ofE))) (cl_cons (co_rest (co_pair (co_unit fun H a na e => .inr ⟨_, .tup na e, by decide, rfl⟩) (co_one1 ed_ofE))) cl_nil)))) bx1 fn1 (by decide) fun G' H' g fn => ⟨G', rfl, g1.trans g, fn, bx1.go g⟩
  clear g1 fn1 bx1 H1 G
  rintro σ' H1 ⟨G, rfl, g1, fn1, bx1⟩
  refine ⟨fun σ' H' => ∃ G, σ' = sB p L S t R n d f2 (some (.ref G)) x9 ∧ Go p H H' ∧ Fnd p n G 23 H' ∧ Bx p L S t R n ys us q H', ?_, ?_⟩
  · exact cat_go (cl_cons (co_rest (co_pair (co_one0 bg_ofB) (co_lst1 fun H a xs na e => ed_lst na e))) (cl_cons (co_rest (co_pair (co_dict fun H a na e => .inr ⟨_, .dK na e, by decide, rfl⟩) (co_one1 ed_ofE))) (cl_cons (co_rest (co_pair (co_lst1 fun H a xs na e => bg_lst na e) (co_one1 ed_ofE))) cl_nil))) bx1 fn1 (by decide) fun G' H' g fn => ⟨G', rfl, g1.trans g, fn, bx1.go g⟩
  clear g1 fn1 bx1 H1 G
  rintro σ' H1 ⟨G, rfl, g1, fn1, bx1⟩
  refine ⟨fun σ' H' => ∃ G, σ' = sB p L S t R n d f2 (some (.ref G)) x9 ∧ Go p H H' ∧ Fnd p n G 27 H' ∧ Bx p L S t R n ys us q H', ?_, ?_⟩
  · exact cat_go (cl_cons (co_rest co_list1) (cl_cons (co_rest (co_pair (co_one0 bg_ofB) (co_long))) (cl_cons (co_rest (co_pair (co_one0 bg_ofB) (co_short))) (cl_cons (co_rest co_elE) cl_nil)))) bx1 fn1 (by decide) fun G' H' g fn => ⟨G', rfl, g1.trans g, fn, bx1.go g⟩
  clear g1 fn1 bx1 H1 G
  rintro σ' H1 ⟨G, rfl, g1, fn1, bx1⟩
  exact cat_go (cl_cons (co_rest (co_pair (co_one0 bg_ofB) (co_c fun H => .inr ⟨_, .non, rfl⟩))) (cl_cons (co_rest co_twice) (cl_cons (co_rest (co_pair (co_one0 bg_ofB) (co_c fun H => .inr ⟨_, .int 0, rfl⟩))) (cl_cons (co_rest (co_unit fun H a na e => el_unit na e)) (cl_cons (co_rest (co_c fun H => el_non H)) cl_nil))))) bx1 fn1 (by decide) fun G' H' g fn => k G' H' (g1.trans g) fn
end
open PySem PySem.Spec PyProof.Rows LamX
open L2 hiding pass0
abbrev s_law_odd : Stmt := top 81
theorem sc_law_odd : FnScope ["_law_told"] ["_law_told"] (defScope s_law_odd) := ⟨rfl, rfl, rfl, by decide +kernel, rfl, by decide +kernel, by decide +kernel⟩
theorem bp_law_odd : BndP "_law_odd" s_law_odd ["_law_told"] := fun _ _ _ _ _ _ us h => match us, h with | [_], _ => rfl
/-- surely none -/
def NoP (o : Option (List (Option Pr))) : Prop := o = none ∨ ∃ os, o = some os ∧ none ∈ os
theorem thB_no {n : Nat} {d : List (Str × Str)} {fs : List (List Nat)} {o : Option (List (Option Pr))} (h : NoP o) : thB n d fs o = false := by
  rcases h with rfl | ⟨os, rfl, h⟩
  · rfl
  · exact thB_none h
def OdP (p : Addr) (n : Nat) (H : Hp) (x : V) : Prop := ∃ o, Th p H n x o ∧ NoP o
theorem OdP.kp {p : Addr} {n : Nat} {H H' : Hp} {x : V} (h : OdP p n H x) (k : Kp p H H') : OdP p n H' x := let ⟨o, t, q⟩ := h; ⟨o, t.kp k, q⟩
theorem odp_od {p : Addr} {n : Nat} {H : Hp} {x : V} {s : String} (o : Od p H x s) (h1 : s ≠ "list") (h2 : s ≠ "tuple") : OdP p n H x := ⟨none, .od o h1 h2, .inl rfl⟩
/-- a list or a tuple with something that is no pair -/
theorem odp_sq {p : Addr} {n : Nat} {H : Hp} {v : Addr} {zs : List (V × Option Pr)} (nv : v ≠ p) (e : LT H v (zs.map (·.1))) (h : ∀ z ∈ zs, El p H n z.1 z.2) (l : zs.length ≤ 400) (hn : ∃ z ∈ zs, z.2 = none) : OdP p n H (.ref v) :=
  ⟨_, .sq nv e h l, .inr ⟨_, rfl, let ⟨z, hz, e⟩ := hn; List.mem_map.mpr ⟨z, hz, e⟩⟩⟩
@[irreducible] def spOd : Sp := fun vs H Q _ => ∃ (p L : Addr) (n : Nat) (ys : List (Addr × Pr)), vs = [.ref L] ∧ PotAt H p ∧ H L = some (.lst (vz ys)) ∧ L ≠ p ∧ Ps H n ys ∧ (∀ y ∈ ys, y.1 ≠ p) ∧ ys.length ≤ 40 ∧ ∀ G xs H', Same H H' → H' G = some (.lst xs) → xs.length = 12 → (∀ x ∈ xs, OdP p n H' x) → Q (.ref G) H'
theorem od_go {p L : Addr} {n : Nat} {ys : List (Addr × Pr)} {H : Hp} {Q : VK} {E : XK} (hp : PotAt H p) (hL : H L = some (.lst (vz ys))) (nL : L ≠ p) (ps : Ps H n ys) (np : ∀ y ∈ ys, y.1 ≠ p) (l1 : ys.length ≤ 40) (k : ∀ G xs H', Same H H' → H' G = some (.lst xs) → xs.length = 12 → (∀ x ∈ xs, OdP p n H' x) → Q (.ref G) H') : spOd [.ref L] H Q E := by
  unfold spOd
  exact ⟨p, L, n, ys, rfl, hp, hL, nL, ps, np, l1, k⟩
section
variable {P : Program} {w : World} {K : PySem.W.Frag} {mg : Str → Option Value} {base : Heap} {f : Addr} {fd : FuncData}
theorem ok_odd (F : Fun K "_law_odd" "_law_odd" s_law_odd f fd) (hm : mg "_law_odd" = some (.ref f)) (T : Txt K mg) : Nm P w K mg base CX0 1 "_law_odd" s_law_odd ["_law_told"] (spOd) := by
  refine nm_of F hm sc_law_odd (fun vs H Q E h => ?_) fun cdv A outer s H vs Q E hr h => ?_
  · unfold spOd at h
    obtain ⟨p, L, n, ys, rfl, hp, hL, nL, ps, np, l1, k⟩ := h
    subst_vars
    rfl
  unfold spOd at h
  obtain ⟨p, L, n, ys, rfl, hp, hL, nL, ps, np, l1, k⟩ := h
  refine ⟨_, (pss_one (ps_ret (pe_lst (pa_cons pe_non (pa_cons pe_int (pa_cons pe_str (pa_cons pe_str (pa_cons pe_dnewK (pa_cons (pe_dictEnum rfl (by rfl) T.b_dict (by rfl) T.b_enumerate (pa_cons (pv 0) pa_nil)) (pa_cons pe_bl (pa_cons pe_str (pa_cons (pe_lst (pa_cons (pe_lst pa_nil) pa_nil)) (pa_cons (pe_op op_cat (pe_lst (pa_cons (pv 0) pa_nil)) (pv 0)) (pa_cons (pe_op op_cat (pv 0) (pe_lst (pa_cons pe_int pa_nil))) (pa_cons (pe_tup (pa_cons pe_non (pa_cons pe_non pa_nil))) pa_nil))))))))))))))), ?_⟩
  refine fun d1 n1 => ?_
  have s1 : Same H (upd H d1 (.dK [])) := (Same.refl H).new n1
  have o1 : OdP p n (upd H d1 (.dK [])) (.ref d1) := odp_od (.dK (hp.ne n1) upd_same) (by decide) (by decide)
  generalize upd H d1 (.dK []) = H1 at s1 o1 ⊢
  have hp1 := (Go.of hp s1).pot
  refine ⟨_, rfl, ⟨L, vz ys, rfl, SqL.of (s1 _ _ hL), fun d2 kvs n2 => ?_⟩⟩
  have k2 : Same H1 (upd H1 d2 (.dK kvs)) := (Same.refl H1).new n2
  have o2 : OdP p n (upd H1 d2 (.dK kvs)) (.ref d2) := odp_od (.dK (hp1.ne n2) upd_same) (by decide) (by decide)
  have o1 := o1.kp (Same.kp k2)
  generalize upd H1 d2 (.dK kvs) = H2 at k2 o1 o2 ⊢
  have s2 := s1.trans k2
  have hp2 := (Go.of hp s2).pot
  refine ⟨szl (Nat.zero_le _), fun a3 n3 => ?_⟩
  have k3 : Same H2 (upd H2 a3 (.lst [])) := (Same.refl H2).new n3
  have e3 : upd H2 a3 (.lst []) a3 = some (.lst []) := upd_same
  have m3 := hp2.ne n3
  have o1 := o1.kp (Same.kp k3)
  have o2 := o2.kp (Same.kp k3)
  generalize upd H2 a3 (.lst []) = H3 at k3 e3 o1 o2 ⊢
  have s3 := s2.trans k3
  have hp3 := (Go.of hp s3).pot
  refine ⟨szl (by show 1 ≤ 1000000; decide), fun a4 n4 => ?_⟩
  have k4 : Same H3 (upd H3 a4 (.lst [.ref a3])) := (Same.refl H3).new n4
  have o4 : OdP p n (upd H3 a4 (.lst [.ref a3])) (.ref a4) := odp_sq (zs := [(.ref a3, none)]) (hp3.ne n4) (.inl upd_same) (fun z hz => by rw [List.mem_singleton.mp hz]; exact .kd (.lst m3 (updn (nonn n4 e3) e3)) (by decide)) (by show 1 ≤ 400; decide) ⟨_, List.mem_singleton.mpr rfl, rfl⟩
  have o1 := o1.kp (Same.kp k4)
  have o2 := o2.kp (Same.kp k4)
  generalize upd H3 a4 (.lst [.ref a3]) = H4 at k4 o4 o1 o2 ⊢
  have s4 := s3.trans k4
  have hp4 := (Go.of hp s4).pot
  -- [told] + told
  refine ⟨_, rfl, ⟨szl (by show 1 ≤ 1000000; decide), fun a5 n5 => ?_⟩⟩
  have k5 : Same H4 (upd H4 a5 (.lst [.ref L])) := (Same.refl H4).new n5
  have e5 : upd H4 a5 (.lst [.ref L]) a5 = some (.lst [.ref L]) := upd_same
  have o1 := o1.kp (Same.kp k5)
  have o2 := o2.kp (Same.kp k5)
  have o4 := o4.kp (Same.kp k5)
  generalize upd H4 a5 (.lst [.ref L]) = H5 at k5 e5 o4 o1 o2 ⊢
  have s5 := s4.trans k5
  have hp5 := (Go.of hp s5).pot
  refine ⟨_, rfl, ⟨a5, L, _, _, rfl, rfl, e5, s5 _ _ hL, szl (by rw [vz_len]; show 1 + ys.length ≤ 1000000; omega), fun a6 n6 => ?_⟩⟩
  have k6 : Same H5 (upd H5 a6 (.lst ([.ref L] ++ vz ys))) := (Same.refl H5).new n6
  have s6 := s5.trans k6
  have o6 : OdP p n (upd H5 a6 (.lst ([.ref L] ++ vz ys))) (.ref a6) := odp_sq (zs := (.ref L, none) :: sv ys) (hp5.ne n6) (.inl (by rw [upd_same, List.map_cons, sv_fst]; rfl)) (fun z hz => by
      rcases List.mem_cons.mp hz with rfl | hz
      · exact .kd (.lst nL (s6 _ _ hL)) (by decide)
      · exact sv_el (ps.to s6) np z hz) (by unfold sv; rw [List.length_cons, List.length_map]; omega) ⟨_, List.mem_cons_self, rfl⟩
  have o1 := o1.kp (Same.kp k6)
  have o2 := o2.kp (Same.kp k6)
  have o4 := o4.kp (Same.kp k6)
  generalize upd H5 a6 (.lst ([.ref L] ++ vz ys)) = H6 at k6 s6 o6 o4 o1 o2 ⊢
  have hp6 := (Go.of hp s6).pot
  -- told + [0]
  refine ⟨_, rfl, ⟨szl (by show 1 ≤ 1000000; decide), fun a7 n7 => ?_⟩⟩
  have k7 : Same H6 (upd H6 a7 (.lst [.int 0])) := (Same.refl H6).new n7
  have e7 : upd H6 a7 (.lst [.int 0]) a7 = some (.lst [.int 0]) := upd_same
  have o1 := o1.kp (Same.kp k7)
  have o2 := o2.kp (Same.kp k7)
  have o4 := o4.kp (Same.kp k7)
  have o6 := o6.kp (Same.kp k7)
  generalize upd H6 a7 (.lst [.int 0]) = H7 at k7 e7 o6 o4 o1 o2 ⊢
  have s7 := s6.trans k7
  have hp7 := (Go.of hp s7).pot
  refine ⟨L, a7, _, _, rfl, rfl, s7 _ _ hL, e7, szl (by rw [vz_len]; show ys.length + 1 ≤ 1000000; omega), fun a8 n8 => ?_⟩
  have k8 : Same H7 (upd H7 a8 (.lst (vz ys ++ [.int 0]))) := (Same.refl H7).new n8
  have s8 := s7.trans k8
  have o8 : OdP p n (upd H7 a8 (.lst (vz ys ++ [.int 0]))) (.ref a8) := odp_sq (zs := sv ys ++ [(.int 0, none)]) (hp7.ne n8) (.inl (by rw [upd_same, List.map_append, sv_fst]; rfl)) (fun z hz => by
      rcases List.mem_append.mp hz with hz | hz
      · exact sv_el (ps.to s8) np z hz
      · rw [List.mem_singleton.mp hz]
        exact .kd (.int 0) (by decide)) (by unfold sv; rw [List.length_append, List.length_map]; show ys.length + 1 ≤ 400; omega) ⟨_, List.mem_append.mpr (.inr (List.mem_singleton.mpr rfl)), rfl⟩
  have o1 := o1.kp (Same.kp k8)
  have o2 := o2.kp (Same.kp k8)
  have o4 := o4.kp (Same.kp k8)
  have o6 := o6.kp (Same.kp k8)
  generalize upd H7 a8 (.lst (vz ys ++ [.int 0])) = H8 at k8 s8 o8 o6 o4 o1 o2 ⊢
  have hp8 := (Go.of hp s8).pot
  refine ⟨szl (by show 2 ≤ 1000000; decide), fun a9 n9 => ?_⟩
  have k9 : Same H8 (upd H8 a9 (.tup [.non, .non])) := (Same.refl H8).new n9
  have o9 : OdP p n (upd H8 a9 (.tup [.non, .non])) (.ref a9) := odp_sq (zs := [(.non, none), (.non, none)]) (hp8.ne n9) (.inr upd_same) (fun z hz => by
      simp only [List.mem_cons, List.not_mem_nil, or_false, or_self] at hz
      rw [hz]
      exact .kd .non (by decide)) (by decide) ⟨_, List.mem_cons_self, rfl⟩
  have o1 := o1.kp (Same.kp k9)
  have o2 := o2.kp (Same.kp k9)
  have o4 := o4.kp (Same.kp k9)
  have o6 := o6.kp (Same.kp k9)
  have o8 := o8.kp (Same.kp k9)
  generalize upd H8 a9 (.tup [.non, .non]) = H9 at k9 o9 o8 o6 o4 o1 o2 ⊢
  have s9 := s8.trans k9
  refine ⟨szl (by show 12 ≤ 1000000; decide), fun G nG => ?_⟩
  have kG := (Same.refl H9).new (o := HO.lst [.non, .int 0, .str "", .str "ab", .ref d1, .ref d2, .bl true, .str "none", .ref a4, .ref a6, .ref a8, .ref a9]) nG
  refine k G _ _ (s9.trans kG) upd_same rfl fun x hx => ?_
  simp only [List.mem_cons, List.not_mem_nil, or_false] at hx
  have st : ∀ {H' : Hp} {z : Str}, z.length ≤ 1000 → OdP p n H' (.str z) := fun l => odp_od (.str l) (by decide) (by decide)
  rcases hx with rfl | rfl | rfl | rfl | rfl | rfl | rfl | rfl | rfl | rfl | rfl | rfl
  · exact odp_od .non (by decide) (by decide)
  · exact odp_od (.int 0) (by decide) (by decide)
  · exact st (by decide)
  · exact st (by decide)
  · exact o1.kp (Same.kp kG)
  · exact o2.kp (Same.kp kG)
  · exact odp_od (.bl true) (by decide) (by decide)
  · exact st (by decide)
  · exact o4.kp (Same.kp kG)
  · exact o6.kp (Same.kp kG)
  · exact o8.kp (Same.kp kG)
  · exact o9.kp (Same.kp kG)
end
open PySem PySem.Spec PyProof.Rows LamX
open L2 hiding pass0
theorem SN_wider {n : Nat} {m : List (Str × Str)} {fs : List (List Nat)} (ok : TabOk (n : Int) m) (ff : Fits n fs) : ∀ {k : Nat} {t : List Nat}, t.length + k = n → SN (n + 1) m fs t = SN n m fs t
  | 0, t, h => by
    have l : t.length = n := by omega
    have hp : ∀ p, t <+: p → p ≠ t → p ∉ kz m ++ fs := fun p hp ne hm => by
      have lp : p.length ≤ n := (List.mem_append.mp hm).elim (fun q => (kz_fits ok.rows p q).2) fun q => (ff p q).2
      have := hp.length_le
      exact ne (hp.eq_of_length (by omega)).symm
    rw [SN_end l]
    unfold SN
    rw [show n + 1 - t.length = 1 by omega]
    refine SNk_even fun y _ yl => ?_
    obtain ⟨f1, f2⟩ := frozen_ext hp 1 y yl
    unfold lab
    rw [f1, f2]
  | k + 1, t, h => by
    rw [SN_in (n := n + 1) (by omega), SN_in (n := n) (by omega), SN_wider ok ff (k := k) (by rw [List.length_append, List.length_singleton]; omega), SN_wider ok ff (k := k) (by rw [List.length_append, List.length_singleton]; omega)]
theorem wider_ok {n : Nat} {m : List (Str × Str)} (ok : TabOk (n : Int) m) (h : n + 1 ≤ 100) : TabOk ((n + 1 : Nat) : Int) m :=
  ⟨by omega, by omega, fun p hp => by obtain ⟨a, b, c⟩ := ok.rows p hp; exact ⟨a, by omega, c⟩, ok.nd, ok.few⟩
theorem wider_fits {n : Nat} {fs : List (List Nat)} (h : Fits n fs) : Fits (n + 1) fs := fun t ht => ⟨(h t ht).1, by have := (h t ht).2; omega⟩
/-- each address with its goal -/
def twn (n : Nat) (m : List (Str × Str)) : List (Str × Str) := ((bitsL n).take 40).map fun z => (SX.S z, gT m z)
theorem twn_fst (n : Nat) (m : List (Str × Str)) : (twn n m).map (·.1) = ((bitsL n).take 40).map SX.S := by
  unfold twn
  rw [List.map_map]
  rfl
theorem twn_nd (n : Nat) (m : List (Str × Str)) : ((twn n m).map (·.1)).Nodup := by
  rw [twn_fst]
  exact nd_map ((List.take_sublist _ _).nodup (bitsL_nd n)) fun a _ b _ h => S_inj h
theorem gT_good {n : Nat} {m : List (Str × Str)} (ok : TabOk (n : Int) m) (z : List Nat) : goalB (gT m z) = true ∧ Low (gT m z) ∧ (gT m z).length ≤ 200 := by
  rcases List.mem_cons.mp (goal_in m (SX.S z)) with h | h
  · have e : gT m z = "hole" := h
    rw [e]
    exact gg_hole
  · obtain ⟨p, hp, e⟩ := List.mem_map.mp h
    have e2 : p.2 = gT m z := e
    have := ok.rows p hp
    rw [← e2]
    exact this.2.2
theorem twn_ok {n : Nat} {m : List (Str × Str)} (ok : TabOk (n : Int) m) : TabOk (n : Int) (twn n m) := by
  refine ⟨ok.w0, ok.w1, fun p hp => ?_, twn_nd n m, ?_⟩
  · unfold twn at hp
    obtain ⟨z, hz, rfl⟩ := List.mem_map.mp hp
    obtain ⟨zb, zl⟩ := bitsL_mem.mp (List.mem_of_mem_take hz)
    exact ⟨sx_bits zb, by show ((SX.S z).length : Int) ≤ n; rw [sx_len]; omega, gT_good ok z⟩
  · unfold twn
    rw [List.length_map, List.length_take]
    omega
theorem goal_exact {d : List (Str × Str)} {z : List Nat} {g : Str} (h : look d (SX.S z) = some g) : goalT (look d) (SX.S z) = g := by
  have e : px (SX.S z) (SX.S z).length = SX.S z := by
    rw [sx_len, px_S, List.take_length]
  unfold goalT lb
  rw [lbP_yes (by rw [e, h]; rfl), e]
  show ((look d) (SX.S z)).getD _ = g
  rw [h]
  rfl
theorem twn_like {n : Nat} {m : List (Str × Str)} {fs : List (List Nat)} (h : n ≤ 5) : Like n m (twn n m) fs := fun z zb zl _ => by
  have hz : z ∈ (bitsL n).take 40 := by
    rw [List.take_of_length_le]
    · exact bitsL_mem.mpr ⟨zb, zl⟩
    · rw [bitsL_len]
      have : 2 ^ n ≤ 2 ^ 5 := Nat.pow_le_pow_right (by decide) h
      omega
  have := look_of (m := twn n m) (q := (SX.S z, gT m z)) (twn_nd n m) (List.mem_map.mpr ⟨z, hz, rfl⟩)
  rw [goal_exact this]
  rfl
theorem frB_rev (fs : List (List Nat)) (z : List Nat) : M.frB fs.reverse z = M.frB fs z := by
  unfold M.frB
  rw [List.any_reverse]
theorem pack_rev (n : Nat) (d : List (Str × Str)) (fs : List (List Nat)) (qs : List Pr) : packB n d fs.reverse qs = packB n d fs qs := by
  have e : okP d fs.reverse = okP d fs := by
    funext q
    unfold okP
    rw [frB_rev]
    cases q.1 with
    | none => rfl
    | some z => dsimp only; rw [frB_rev]
  unfold packB
  rw [e]
theorem gT_srt (m : List (Str × Str)) : gT (srt m) = gT m := by
  unfold gT
  rw [show look (srt m) = look m from funext fun k => look_srt k]
theorem thB_srt (n : Nat) (m : List (Str × Str)) (fs : List (List Nat)) (o : Option (List (Option Pr))) : thB n (srt m) fs o = thB n m fs o := by
  have e : okP (srt m) fs = okP m fs := by
    funext q
    unfold okP
    rw [gT_srt]
  have e2 : okO (srt m) fs = okO m fs := by
    funext o
    cases o with
    | none => rfl
    | some q => show okP _ _ _ = okP _ _ _; rw [e]
  cases o with
  | none => rfl
  | some os => show (os.all (okO (srt m) fs) && decide (Keep (flat n (gT (srt m)) _))) = _; rw [e2, gT_srt]; rfl
theorem lab_none (m : List (Str × Str)) (z : List Nat) : lab m [] z = some (gT m z) := rfl
/-- three in turn -/
def rot3 {α : Type} : List α → List α
  | [a, b, c] => [b, c, a]
  | l => l
theorem vals_rot : ∀ {zs : List V} {ws : List Value}, Vals zs ws → Vals (rot3 zs) (rot3 ws)
  | _, _, .nil => .nil
  | _, _, .cons a .nil => .cons a .nil
  | _, _, .cons a (.cons b .nil) => .cons a (.cons b .nil)
  | _, _, .cons a (.cons b (.cons c .nil)) => .cons b (.cons c (.cons a .nil))
  | _, _, .cons a (.cons b (.cons c (.cons d r))) => .cons a (.cons b (.cons c (.cons d r)))
def kwM : List V → List V → List V := fun _ zs => rot3 zs
open PySem PySem.Spec PyProof.Rows
open L2 hiding pass0
@[irreducible] def spRepr0 (C : Addr) : Sp := fun vs H Q _ => ∃ (a : Addr) (n : Int) (m : List (Str × Str)), vs = [.ref a] ∧ TabAt C H a n m ∧ TabOk n m ∧ ∀ H', Same H H' → Q (.str (tabT n m)) H'
theorem repr0_go {C a : Addr} {n : Int} {m : List (Str × Str)} {H : Hp} {Q : VK} {E : XK} (ht : TabAt C H a n m) (ok : TabOk n m) (k : ∀ H', Same H H' → Q (.str (tabT n m)) H') : spRepr0 C [.ref a] H Q E := by
  unfold spRepr0
  exact ⟨a, n, m, rfl, ht, ok, k⟩
section
variable {P : Program} {w : World} {K : PySem.W.Frag} {mg : Str → Option Value} {base : Heap} {f C : Addr} {fd : FuncData}
theorem ok_trepr0 (F : Fun K "__repr__" "Table.__repr__" s_Table__repr__ f fd) (hm : Meth K C "__repr__" f) (T : Txt K mg) (TC : TabC K C) : Mth P w K mg base CX0 1 C "__repr__" "Table.__repr__" s_Table__repr__ ["self"] (spRepr0 C) := by
  refine mth_of F hm sc_Table__repr__ (fun vs H Q E h => ?_) fun cdv A outer s H vs Q E hr h => ?_
  · unfold spRepr0 at h
    obtain ⟨a, n, m, rfl, _⟩ := h
    rfl
  · unfold spRepr0 at h
    obtain ⟨a, n, m, rfl, ⟨dx, D, ha, hD, hne⟩, ok, k⟩ := h
    have hrc := RoomC.ofG hr a
    have hDL : D ≠ a := hne
    refine ⟨_, (pss_cons (ps_if (pt_cmpR op_eq (pe_callB call_lenD (by rfl) T.b_len PySem.boot_len (pa_cons (pe_fld (pv 0) (by rfl)) pa_nil)) pe_int (nomark _)) (pss_one (ps_ret (pe_joined (PJ.cons pe_str (PJ.cons (pe_fmt (pe_fld (pv 0) (by rfl))) (PJ.cons pe_str PJ.nil)))))) pss_nil)
      (pss_one (ps_ret (pe_joined (PJ.cons pe_str (PJ.cons (pe_fmt (pe_fld (pv 0) (by rfl))) (PJ.cons pe_str (PJ.cons (pe_fmtD hrc (pe_fld (pv 0) (by rfl))) (PJ.cons pe_str PJ.nil))))))))), ?_⟩
    refine ⟨_, rfl, ⟨a, C, dx, _, .ref D, rfl, ha, TC.cl, TC.n2, rfl, ?_⟩⟩
    refine ⟨D, tk m, rfl, hD, ?_⟩
    refine ⟨rfl, ⟨_, rfl, ?_⟩⟩
    have w0 := ok.w0
    have w1 := ok.w1
    obtain ⟨j, rfl⟩ := Int.eq_ofNat_of_zero_le (show 0 ≤ n by omega)
    obtain ⟨nt, nl⟩ := nat_text ⟨j, by omega⟩
    simp only at nt nl
    have l1 : (Str.empty ++ ("Table(" : Str)).length = 6 := by decide +kernel
    have l2 : (Str.empty ++ ("Table(" : Str) ++ ((toString ((j : Nat) : Int) : String) : Str)).length ≤ 9 := by rw [strLen_append, l1]; omega
    have l3 : ((")" : Str)).length = 1 := by decide +kernel
    have l4 : ((", " : Str)).length = 2 := by decide +kernel
    have fits := tab_fits ok
    have ed : decide (V.int (((tk m).length : Nat) : Int) = V.int 0) = decide (m = []) := by
      rw [tk_len]
      refine decide_eq_decide.mpr ⟨fun e => ?_, fun e => by rw [e]; rfl⟩
      have := V.int.inj e
      exact List.eq_nil_of_length_eq_zero (by omega)
    rw [ed]
    by_cases hm0 : m = []
    · rw [decide_eq_true hm0]
      refine iteT ?_
      refine ⟨_, rfl, by rw [l1]; exact szl (by decide), ?_⟩
      refine ⟨_, rfl, ⟨a, C, dx, _, .int j, rfl, ha, TC.cl, TC.n1, rfl, .inr ⟨_, rfl, nl, ?_⟩⟩⟩
      refine ⟨_, rfl, szl (by omega), ?_⟩
      refine ⟨_, rfl, szl (by rw [strLen_append]; omega), ?_⟩
      have := k H (Same.refl _)
      unfold tabT at this
      rw [if_pos hm0] at this
      exact this
    · rw [decide_eq_false hm0]
      refine iteF ?_
      refine ⟨_, rfl, by rw [l1]; exact szl (by decide), ?_⟩
      refine ⟨_, rfl, ⟨a, C, dx, _, .int j, rfl, ha, TC.cl, TC.n1, rfl, .inr ⟨_, rfl, nl, ?_⟩⟩⟩
      refine ⟨_, rfl, szl (by omega), ?_⟩
      refine ⟨_, rfl, szl (by rw [strLen_append]; omega), ?_⟩
      refine ⟨_, rfl, ⟨a, C, dx, _, .ref D, rfl, ha, TC.cl, TC.n2, rfl, ?_⟩⟩
      have pd := piled_le_dictText (m.map kvText)
      refine ⟨D, m, rfl, hD, hDL, fun p hp => ?_, by omega, ?_⟩
      · have hk : kvText p ∈ m.map kvText := List.mem_map_of_mem hp
        have hs : (kvText p).length + 2 ≤ piled (m.map kvText) := by
          unfold piled
          exact one_le_sum (List.mem_map_of_mem (f := fun t : Str => t.length + 2) hk)
        have e : (kvText p).length = (reprText p.1).length + 2 + (reprText p.2).length := by
          unfold kvText
          rw [strLen_append, strLen_append]
          rfl
        omega
      · refine ⟨_, rfl, by rw [strLen_append, strLen_append]; omega, ?_⟩
        refine ⟨_, rfl, by rw [strLen_append, strLen_append, strLen_append]; omega, ?_⟩
        have := k H (Same.refl _)
        unfold tabT at this
        rw [if_neg hm0] at this
        exact this
end
open PySem PySem.Spec PyProof.Rows LamX
open L2 hiding pass0
abbrev s_law_right : Stmt := top 82
theorem sc_law_right : FnScope ["_law_pot_here", "_law_wide", "_law_rows", "_law_idle", "_law_made", "_law_due", "_law_told", "_law_twin", "_law_thing", "_law_wider", "_law_kept", "_law_spot"] ["_law_pot_here"] (defScope s_law_right) := ⟨rfl, rfl, rfl, by decide +kernel, rfl, by decide +kernel, by decide +kernel⟩
theorem bp_law_right : BndP "_law_right" s_law_right ["_law_pot_here"] := fun _ _ _ _ _ _ us h => match us, h with | [_], _ => rfl
theorem TabAt.at {C a : Addr} {n : Int} {m : List (Str × Str)} {H : Hp} (h : TabAt C H a n m) : ∃ dx fs, H a = some (.ins C dx fs) ∧ fs.lookup ("rows" : Str) = none := by
  obtain ⟨dx, D, ha, _, _⟩ := h
  exact ⟨dx, _, ha, rfl⟩
theorem nt_lst {xs : List V} (ps : Array Value) : HO.lst xs ≠ .tbl ps := fun z => nomatch z
theorem extN_new {H H1 : Hp} {L : Addr} {o : HO} (e : ExtN H H1) (n : H1 L = none) : ExtN H (upd H1 L o) := fun b u h q => updn (nonn n (e b u h q)) (e b u h q)
/-- the pot, the tables; all else stands -/
structure GoN (T : List (Addr × Str)) (p : Addr) (H H' : Hp) : Prop where
  pot : PotAt H' p
  tabs : Tabs T H'
  keep : ∀ b o, H b = some o → (∀ ps, o ≠ .tbl ps) → b ≠ p → H' b = some o
theorem pot_ext {p : Addr} {H H' : Hp} (h : PotAt H p) (e : ExtN H H') : PotAt H' p := by
  obtain ⟨a, b, q, r⟩ := h
  exact ⟨a, b, e _ _ q nt_lst, r⟩
theorem GoN.refl {T : List (Addr × Str)} {p : Addr} {H : Hp} (h : PotAt H p) (t : Tabs T H) : GoN T p H H := ⟨h, t, fun _ _ e _ _ => e⟩
theorem tabs_go {T : List (Addr × Str)} {p : Addr} {H H' : Hp} (hp : PotAt H p) (t : Tabs T H) (g : Go p H H') : Tabs T H' := fun q hq => by
  obtain ⟨a, b, ep, _⟩ := hp
  obtain ⟨ps, q1, q2, q3⟩ := t q hq
  refine ⟨ps, g.keep _ _ q1 (fun z => by rw [z, ep] at q1; cases q1), q2, fun pos cv hc => ?_⟩
  obtain ⟨c, c1, c2⟩ := q3 pos cv hc
  exact ⟨c, c1, g.keep _ _ c2 (fun z => by rw [z, ep] at c2; injection c2 with c2; cases c2)⟩
theorem GoN.go {T : List (Addr × Str)} {p : Addr} {H H1 H2 : Hp} (g : GoN T p H H1) (h : Go p H1 H2) : GoN T p H H2 := ⟨h.pot, tabs_go g.pot g.tabs h, fun b o e n m => h.keep b o (g.keep b o e n m) m⟩
theorem GoN.ext {T : List (Addr × Str)} {p : Addr} {H H1 H2 : Hp} (g : GoN T p H H1) (e : ExtN H1 H2) (t : Tabs T H2) : GoN T p H H2 := ⟨pot_ext g.pot e, t, fun b o h n m => e b o (g.keep b o h n m) n⟩
theorem GoN.trans {T : List (Addr × Str)} {p : Addr} {H H1 H2 : Hp} (g : GoN T p H H1) (h : GoN T p H1 H2) : GoN T p H H2 := ⟨h.pot, h.tabs, fun b o e n m => h.keep b o (g.keep b o e n m) n m⟩
theorem TabAt.ext {C a : Addr} {n : Int} {m : List (Str × Str)} {H H' : Hp} (h : TabAt C H a n m) (s : ExtN H H') : TabAt C H' a n m := by
  obtain ⟨dx, D, ha, hD, hne⟩ := h
  exact ⟨dx, D, s _ _ ha (fun _ z => nomatch z), s _ _ hD (fun _ z => nomatch z), hne⟩
theorem TabAt.go {p C a : Addr} {n : Int} {m : List (Str × Str)} {H H' : Hp} (h : TabAt C H a n m) (hp : PotAt H p) (g : Go p H H') : TabAt C H' a n m := by
  obtain ⟨dx, D, ha, hD, hne⟩ := h
  obtain ⟨x, y, e, _⟩ := hp
  exact ⟨dx, D, g.kp ha (fun z => by rw [z, e] at ha; cases ha), g.kp hD (fun z => by rw [z, e] at hD; cases hD), hne⟩
theorem LSet.ext {H H' : Hp} {D : Addr} {n : Nat} {m : List (Str × Str)} {fs : List (List Nat)} (h : LSet H D n m fs) (s : ExtN H H') : LSet H' D n m fs := by
  obtain ⟨ks, ad, h1, h2, h3⟩ := h
  exact ⟨ks, ad, h1, s _ _ h2 (fun _ z => nomatch z), fun t ht => (h3 t ht).ext s⟩
@[irreducible] def spRightT (TT : List (Addr × Str)) : Sp := fun vs H Q _ => ∃ p : Addr, vs = [.ref p] ∧ PotAt H p ∧ Tabs TT H ∧ ∀ H', GoN TT p H H' → Q (.bl true) H'
theorem rightT_go {TT : List (Addr × Str)} {p : Addr} {H : Hp} {Q : VK} {E : XK} (hp : PotAt H p) (ht : Tabs TT H) (q : ∀ H', GoN TT p H H' → Q (.bl true) H') : spRightT TT [.ref p] H Q E := by
  unfold spRightT
  exact ⟨p, rfl, hp, ht, q⟩
theorem SN_srt {n : Nat} {m : List (Str × Str)} {fs : List (List Nat)} {t : List Nat} : SN n (srt m) fs t = SN n m fs t := by
  unfold SN lab
  rw [show look (srt m) = look m from funext fun k => look_srt k]
theorem pack_srt (n : Nat) (m : List (Str × Str)) (fs : List (List Nat)) (qs : List Pr) : packB n (srt m) fs qs = packB n m fs qs := by
  have e : gT (srt m) = gT m := by
    unfold gT
    rw [show look (srt m) = look m from funext fun k => look_srt k]
  unfold packB okP
  rw [e]
section
variable {P : Program} {w : World} {K : PySem.W.Frag} {mg : Str → Option Value} {base : Heap} {f C t0 : Addr} {fd : FuncData}
theorem b_few2 (F : FunD K "fewest" "fewest" (defArgs s_fewest) (defBody s_fewest) (defScope s_fewest) [.ref t0] [] f fd) (kp : PySem.W.keepIn K (.ref f) = true) (hm : mg "fewest" = some (.ref f)) (G : FnG P w K mg base CX0 7 f fd ["table", "free"] (spFe K C)) : BndF P w K mg base CX0 7 "fewest" ["table", "free"] (spFe K C) 2 [] al3 :=
  bndf_of F kp hm G (fun us _ _ => us) (by simp) (fun r _ _ => r) fun T kV doc pm an cdv ct us its ws h1 h2 h3 => by
    match us, its, ws, h1, h2, h3 with
    | [a, b], [d], [], _, _, _ => exact ⟨_, rfl, rfl⟩
theorem b_pk2 (F : FunD K "pack" "pack" (defArgs s_pack) (defBody s_pack) (defScope s_pack) [.ref t0] [] f fd) (kp : PySem.W.keepIn K (.ref f) = true) (hm : mg "pack" = some (.ref f)) (G : FnG P w K mg base CX0 10 f fd ["table", "free"] (spPk K C)) : BndF P w K mg base CX0 10 "pack" ["table", "free"] (spPk K C) 2 [] al3 :=
  bndf_of F kp hm G (fun us _ _ => us) (by simp) (fun r _ _ => r) fun T kV doc pm an cdv ct us its ws h1 h2 h3 => by
    match us, its, ws, h1, h2, h3 with
    | [a, b], [d], [], _, _, _ => exact ⟨_, rfl, rfl⟩
theorem b_ip3 (F : FunD K "is_pack" "is_pack" (defArgs s_is_pack) (defBody s_is_pack) (defScope s_is_pack) [.ref t0] [] f fd) (kp : PySem.W.keepIn K (.ref f) = true) (hm : mg "is_pack" = some (.ref f)) (G : FnG P w K mg base CX0 10 f fd ["table", "value", "free"] (spIPk K C)) : BndF P w K mg base CX0 10 "is_pack" ["table", "value", "free"] (spIPk K C) 3 [] al3 :=
  bndf_of F kp hm G (fun us _ _ => us) (by simp) (fun r _ _ => r) fun T kV doc pm an cdv ct us its ws h1 h2 h3 => by
    match us, its, ws, h1, h2, h3 with
    | [a, b, c], [d], [], _, _, _ => exact ⟨_, rfl, rfl⟩
theorem b_pkK (F : FunD K "pack" "pack" (defArgs s_pack) (defBody s_pack) (defScope s_pack) [.ref t0] [] f fd) (kp : PySem.W.keepIn K (.ref f) = true) (hm : mg "pack" = some (.ref f)) (G : FnG P w K mg base CX0 10 f fd ["table", "free"] (spPk K C)) : BndF P w K mg base CX0 10 "pack" ["table", "free"] (spPk K C) 0 ["free", "table"] kwR :=
  bndf_of F kp hm G (fun _ _ ws => ws.reverse) (by simp) (fun _ _ r => vals_rev r) fun T kV doc pm an cdv ct us its ws h1 h2 h3 => by
    match us, its, ws, h1, h2, h3 with
    | [], [d], [a, b], _, _, _ => exact ⟨_, rfl, rfl⟩
theorem b_ipM (F : FunD K "is_pack" "is_pack" (defArgs s_is_pack) (defBody s_is_pack) (defScope s_is_pack) [.ref t0] [] f fd) (kp : PySem.W.keepIn K (.ref f) = true) (hm : mg "is_pack" = some (.ref f)) (G : FnG P w K mg base CX0 10 f fd ["table", "value", "free"] (spIPk K C)) : BndF P w K mg base CX0 10 "is_pack" ["table", "value", "free"] (spIPk K C) 0 ["free", "table", "value"] kwM :=
  bndf_of F kp hm G (fun _ _ ws => rot3 ws) (by simp) (fun _ _ r => vals_rot r) fun T kV doc pm an cdv ct us its ws h1 h2 h3 => by
    match us, its, ws, h1, h2, h3 with
    | [], [d], [a, b, c], _, _, _ => exact ⟨_, rfl, rfl⟩
end
theorem dq_refl (q : Pr) : PyData.eqv (dq q) (dq q) = true := by
  obtain ⟨b, e⟩ := q
  cases b <;> simp [dq, PyData.eqv, PyData.eqvAll]
theorem dqs_refl : ∀ qs : List Pr, PyData.eqv (.list (qs.map dq)) (.list (qs.map dq)) = true
  | [] => by simp [PyData.eqv, PyData.eqvAll]
  | q :: qs => by
    have h := dqs_refl qs
    simp only [PyData.eqv, List.map_cons, PyData.eqvAll, dq_refl, Bool.true_and] at h ⊢
    exact h
theorem dqs_map (ys : List (Addr × Pr)) : (ys.map fun y => dq y.2) = (ys.map (·.2)).map dq := by rw [List.map_map]; rfl
theorem dqs_shp {H : Hp} {n : Nat} {ys : List (Addr × Pr)} (ps : Ps H n ys) (h1 : n ≤ 100) : SeqAt.shaped (.list (ys.map fun y => dq y.2)) = true := (Fit.list (N := 202) (D := 1) fun d hd => by
  obtain ⟨y, hy, rfl⟩ := List.mem_map.mp hd
  exact dq_fit (ps y hy).2 h1).shp (by decide)
theorem one_rp {K : PySem.W.Frag} {H : Hp} {x : V} {d : PyData} {p : Addr} {N D : Nat} (hx : Dp K H x d) (hp : H p = some (.lst [x])) (f : Fit N D d) (hN : (N + 1) * 1 ≤ 1048576) (hD : D + 1 ≤ 50) :
    Rp K H (.ref p) (.list [d]) ∧ PyData.showable (.list [d]) = true ∧ PyData.depth (.list [d]) ≤ 50 ∧ (PyData.list [d]).shown.length ≤ sizeLine :=
  (Fit.list (N := N) (D := D) (ds := [d]) fun e he => by
    rw [List.mem_singleton] at he
    subst he
    exact f).rp (.lst (SqL.of hp) (.cons hx .nil)) hN hD
theorem Ps.np {p : Addr} {n : Nat} {ys : List (Addr × Pr)} {H : Hp} (ps : Ps H n ys) (hp : PotAt H p) : ∀ y ∈ ys, y.1 ≠ p := fun y hy z => by
  obtain ⟨a, b, e, _⟩ := hp
  have := (ps y hy).1
  rw [z, e] at this
  cases this
theorem few_pk {n : Nat} {m : List (Str × Str)} {fs : List (List Nat)} (h : m.length ≤ 40) : cst (SN n m fs []) "hole" ≤ 40 := Nat.le_trans few_le h
section
variable {P : Program} {w : World} {K : PySem.W.Frag} {mg : Str → Option Value} {base : Heap} {f C : Addr} {fd' : FuncData} {TT : List (Addr × Str)}
theorem ok_right (F : Fun K "_law_right" "_law_right" s_law_right f fd') (hm : mg "_law_right" = some (.ref f)) (T : Txt K mg) (TC : TabC K C)
    (c_law_bits : Nm P w K mg base CX0 1 "_law_bits" s_law_bits ["_law_many"] (spLB2)) (c_law_goal : Nm P w K mg base CX0 1 "_law_goal" s_law_goal ["_law_rows", "_law_idle", "_law_spot"] (spLG)) (c_law_world : Nm P w K mg base CX0 3 "_law_world" s_law_world ["_law_pot_here", "_law_most"] (spWo)) (c_law_sets : Nm P w K mg base CX0 5 "_law_sets" s_law_sets ["_law_wide", "_law_rows", "_law_idle"] (spSe TT)) (c_law_fewest : Nm P w K mg base CX0 1 "_law_fewest" s_law_fewest ["_law_sets_here"] (spFw TT)) (c_law_is_pack : Nm P w K mg base CX0 3 "_law_is_pack" s_law_is_pack ["_law_wide", "_law_rows", "_law_idle", "_law_thing"] (spLP)) (c_law_bent : Nm P w K mg base CX0 3 "_law_bent" s_law_bent ["_law_pot_here", "_law_wide", "_law_rows", "_law_idle", "_law_told"] (spBe)) (c_law_odd : Nm P w K mg base CX0 1 "_law_odd" s_law_odd ["_law_told"] (spOd))
    (c_Table__repr__ : Mth P w K mg base CX0 1 C "__repr__" "Table.__repr__" s_Table__repr__ ["self"] (spRepr0 C))
    (b_Table : BndI P w K mg base CX0 6 "Table" C ["self", "width", "rows"] (spInit C) 2 [] (fun us _ => us)) (b_few2 : BndF P w K mg base CX0 7 "fewest" ["table", "free"] (spFe K C) 2 [] al3) (b_pk2 : BndF P w K mg base CX0 10 "pack" ["table", "free"] (spPk K C) 2 [] al3) (b_pkK : BndF P w K mg base CX0 10 "pack" ["table", "free"] (spPk K C) 0 ["free", "table"] kwR) (b_ip3 : BndF P w K mg base CX0 10 "is_pack" ["table", "value", "free"] (spIPk K C) 3 [] al3) (b_ipM : BndF P w K mg base CX0 10 "is_pack" ["table", "value", "free"] (spIPk K C) 0 ["free", "table", "value"] kwM) : Nm P w K mg base CX0 11 "_law_right" s_law_right ["_law_pot_here"] (spRightT TT) := by
  refine nm_of0 F hm sc_law_right (fun vs H Q E h => ?_) fun cdv A outer s H vs Q E hr h => ?_
  · unfold spRightT at h
    obtain ⟨p, rfl, hp, hT, k⟩ := h
    subst_vars
    rfl
  unfold spRightT at h
  obtain ⟨p, rfl, hp, hT, k⟩ := h
  refine ⟨_, (C8.pss_cut (ps_asg (pe_g c_law_world hr (by decide) L2.pass0 bp_law_world (by rfl) (pa_cons (pv 0) (pa_cons pe_int pa_nil))) (pg_tup (by rfl) (pgs_cons (pg_name (i := 1) sc_law_right.nd rfl (by first | exact Or.inl rfl | exact Or.inr rfl)) (pgs_cons (pg_name (i := 2) sc_law_right.nd rfl (by first | exact Or.inl rfl | exact Or.inr rfl)) (pgs_cons (pg_name (i := 3) sc_law_right.nd rfl (by first | exact Or.inl rfl | exact Or.inr rfl)) pgs_nil)))))
      (C8.pss_cut (ps_par (i := 4) (j := 5) (by rfl) sc_law_right.nd rfl rfl (by decide) rfl rfl (pa_cons (pe_mk b_Table hr (by decide) L2.pass0 (by rfl) (pa_cons (pv 1) (pa_cons (pv 2) pa_nil)) pk_nil) (pa_cons (pe_g c_law_fewest hr (by decide) L2.pass0 bp_law_fewest (by rfl) (pa_cons (pe_g c_law_sets hr (by decide) L2.pass0 bp_law_sets (by rfl) (pa_cons (pv 1) (pa_cons (pv 2) (pa_cons (pv 3) pa_nil)))) pa_nil)) pa_nil)) (by rfl))
      (C8.pss_cut (ps_set (i := 6) sc_law_right.nd rfl (by first | exact Or.inl rfl | exact Or.inr rfl) (pe_f b_pk2 hr (by decide) L2.pass0 (by rfl) (pa_cons (pv 4) (pa_cons (pv 3) pa_nil)) pk_nil))
      (C8.pss_cut (ps_if (PW.pt (pw_or (pt_not (pt_val (pe_callB (call_isiK' (K := K) rfl) (by rfl) T.b_isinstance (by decide +kernel) (pa_cons (pv 6) (pa_cons (pe_ty "list" (by rfl) T.b_list (by decide +kernel)) pa_nil))))) (pw_or (pt_cmpR op_ne (pe_callB (call_lenK (K := K) rfl) (by rfl) T.b_len PySem.boot_len (pa_cons (pv 6) pa_nil)) (pv 5) (nomark _)) (pw_or1 (pt_cmpR op_ne (pe_f b_few2 hr (by decide) L2.pass0 (by rfl) (pa_cons (pv 4) (pa_cons (pv 3) pa_nil)) pk_nil) (pv 5) (nomark _)))))) (pss_one (ps_ret pe_bl)) pss_nil)
      (C8.pss_cut (ps_if (PW.pt (pw_or (pt_not (pt_val (pe_g c_law_is_pack hr (by decide) L2.pass0 bp_law_is_pack (by rfl) (pa_cons (pv 1) (pa_cons (pv 2) (pa_cons (pv 3) (pa_cons (pv 6) pa_nil))))))) (pw_or1 (pt_not (pt_val (pe_f b_ip3 hr (by decide) L2.pass0 (by rfl) (pa_cons (pv 4) (pa_cons (pv 6) (pa_cons (pv 3) pa_nil))) pk_nil)))))) (pss_one (ps_ret pe_bl)) pss_nil)
      (C8.pss_cut (ps_if (PW.pt (pw_or (pt_cmpR (op_neDK (K := K) rfl hr.u64) (pe_f0 b_pkK hr (by decide) L2.pass0 (by rfl) (pk_cons (pv 3) (pk_cons (pv 4) pk_nil))) (pv 6) (nomark _)) (pw_or1 (pt_not (pt_val (pe_f0 b_ipM hr (by decide) L2.pass0 (by rfl) (pk_cons (pe_callTy call_tuple_of (by rfl) T.b_tuple (by decide +kernel) (pa_cons (pv 3) pa_nil)) (pk_cons (pv 4) (pk_cons (pe_callTy call_tuple_of (by rfl) T.b_tuple (by decide +kernel) (pa_cons (pv 6) pa_nil)) pk_nil))))))))) (pss_one (ps_ret pe_bl)) pss_nil)
      (C8.pss_cut (ps_set (i := 7) sc_law_right.nd rfl (by first | exact Or.inl rfl | exact Or.inr rfl) (pe_mk b_Table hr (by decide) L2.pass0 (by rfl) (pa_cons (pv 1) (pa_cons (pe_callTy (call_dictP rfl) (by rfl) T.b_dict (by decide +kernel) (pa_cons (pe_lc (own := [("_law_spot", 11)]) (g := (gName 11)) (by rfl) sc_law_right.nd (pi_listK (K := K) rfl (pe_slice sl_list (pe_g c_law_bits hr (by decide) L2.pass0 bp_law_bits (by rfl) (pa_cons (pv 1) pa_nil)) po_none (po_some pe_int))) (blkOk_by (own := [("_law_spot", 11)]) (N := ["_law_pot_here", "_law_wide", "_law_rows", "_law_idle", "_law_made", "_law_due", "_law_told", "_law_twin", "_law_thing", "_law_wider", "_law_kept", "_law_spot"]) (sc := defScope s_law_right) (by decide +kernel)) (fun _ _ _ _ _ => (pg_name (i := 11) sc_law_right.nd rfl (by first | exact Or.inl rfl | exact Or.inr rfl))) (fun _ _ _ _ _ => pts_nil) (fun _ _ _ _ _ => (pe_tup (pa_cons (pv 11) (pa_cons (pe_g c_law_goal hr (by decide) L2.pass0 bp_law_goal (by rfl) (pa_cons (pv 2) (pa_cons (pe_lst pa_nil) (pa_cons (pv 11) pa_nil)))) pa_nil))))) pa_nil)) pa_nil)) pk_nil))
      (C8.pss_cut (ps_if (PW.pt (pw_and (pt_cmpR op_lt (pv 1) pe_int (nomark _)) (pw_and1 (pt_not (pt_val (pe_f b_ip3 hr (by decide) L2.pass0 (by rfl) (pa_cons (pv 7) (pa_cons (pv 6) (pa_cons (pv 3) pa_nil))) pk_nil)))))) (pss_one (ps_ret pe_bl)) pss_nil)
      (C8.pss_cut (ps_if (PW.pt (pw_and (pt_cmpR op_lt (pv 1) pe_int (nomark _)) (pw_and1 (pt_not (pt_val (pe_f b_ip3 hr (by decide) L2.pass0 (by rfl) (pa_cons (pv 4) (pa_cons (pe_f b_pk2 hr (by decide) L2.pass0 (by rfl) (pa_cons (pv 7) (pa_cons (pv 3) pa_nil)) pk_nil) (pa_cons (pv 3) pa_nil))) pk_nil)))))) (pss_one (ps_ret pe_bl)) pss_nil)
      (C8.pss_cut (ps_if (pt_cmpR op_gt (pv 5) pe_int (nomark _)) (pss_one (ps_for PassesOwn.never rfl (pi_listK (K := K) rfl (pe_g c_law_bent hr (by decide) L2.pass0 bp_law_bent (by rfl) (pa_cons (pv 0) (pa_cons (pv 1) (pa_cons (pv 2) (pa_cons (pv 3) (pa_cons (pv 6) pa_nil))))))) (pg_name (i := 8) sc_law_right.nd rfl (by first | exact Or.inl rfl | exact Or.inr rfl)) (pss_one (ps_if (pt_cmpR op_ne (pe_callB (call_reprK (K := K) rfl hr.g hr.u) (by rfl) T.b_repr (by decide +kernel) (pa_cons (pe_lst (pa_cons (pe_f b_ip3 hr (by decide) L2.pass0 (by rfl) (pa_cons (pv 4) (pa_cons (pv 8) (pa_cons (pv 3) pa_nil))) pk_nil) pa_nil)) pa_nil)) (pe_callB (call_reprK (K := K) rfl hr.g hr.u) (by rfl) T.b_repr (by decide +kernel) (pa_cons (pe_lst (pa_cons (pe_g c_law_is_pack hr (by decide) L2.pass0 bp_law_is_pack (by rfl) (pa_cons (pv 1) (pa_cons (pv 2) (pa_cons (pv 3) (pa_cons (pv 8) pa_nil))))) pa_nil)) pa_nil)) (nomark _)) (pss_one (ps_ret pe_bl)) pss_nil)))) pss_nil)
      (C8.pss_cut (ps_for PassesOwn.never rfl (pi_listK (K := K) rfl (pe_g c_law_odd hr (by decide) L2.pass0 bp_law_odd (by rfl) (pa_cons (pv 6) pa_nil))) (pg_name (i := 8) sc_law_right.nd rfl (by first | exact Or.inl rfl | exact Or.inr rfl)) (pss_one (ps_if (PW.pt (pw_or (pt_cmpR op_ne (pe_callB (call_reprK (K := K) rfl hr.g hr.u) (by rfl) T.b_repr (by decide +kernel) (pa_cons (pe_lst (pa_cons (pe_f b_ip3 hr (by decide) L2.pass0 (by rfl) (pa_cons (pv 4) (pa_cons (pv 8) (pa_cons (pv 3) pa_nil))) pk_nil) pa_nil)) pa_nil)) pe_str (nomark _)) (pw_or1 (pt_val (pe_g c_law_is_pack hr (by decide) L2.pass0 bp_law_is_pack (by rfl) (pa_cons (pv 1) (pa_cons (pv 2) (pa_cons (pv 3) (pa_cons (pv 8) pa_nil))))))))) (pss_one (ps_ret pe_bl)) pss_nil)))
      (C8.pss_cut (ps_set (i := 9) sc_law_right.nd rfl (by first | exact Or.inl rfl | exact Or.inr rfl) (pe_f b_pk2 hr (by decide) L2.pass0 (by rfl) (pa_cons (pe_mk b_Table hr (by decide) L2.pass0 (by rfl) (pa_cons (pe_op op_add (pv 1) pe_int) (pa_cons (pv 2) pa_nil)) pk_nil) (pa_cons (pv 3) pa_nil)) pk_nil))
      (C8.pss_cut (ps_if (PW.pt (pw_or (pt_cmpR op_ne (pe_callB (call_lenK (K := K) rfl) (by rfl) T.b_len PySem.boot_len (pa_cons (pv 9) pa_nil)) (pv 5) (nomark _)) (pw_or1 (pt_not (pt_val (pe_g c_law_is_pack hr (by decide) L2.pass0 bp_law_is_pack (by rfl) (pa_cons (pe_op op_add (pv 1) pe_int) (pa_cons (pv 2) (pa_cons (pv 3) (pa_cons (pv 9) pa_nil)))))))))) (pss_one (ps_ret pe_bl)) pss_nil)
      (C8.pss_cut (ps_set (i := 10) sc_law_right.nd rfl (by first | exact Or.inl rfl | exact Or.inr rfl) (pe_callTy call_list_of (by rfl) T.b_list (by decide +kernel) (pa_cons (pv 6) pa_nil)))
      (C8.pss_cut (ps_expr (pe_bm0 PySem.F.plainAttrs_list PySem.F.slot_list_clear PySem.F.type_list_clear mt_clear (pv 6)))
      (pss_one (ps_ret (pe_and (pe_cmpR (op_eqDK (K := K) rfl hr.u64) (pe_f b_pk2 hr (by decide) L2.pass0 (by rfl) (pa_cons (pv 4) (pa_cons (pv 3) pa_nil)) pk_nil) (pv 10) (nomark _)) (pe_and (pe_f b_ip3 hr (by decide) L2.pass0 (by rfl) (pa_cons (pv 4) (pa_cons (pv 10) (pa_cons (pe_revL (pv 3)) pa_nil))) pk_nil) (pe_one (pe_cmpR op_eq (pe_callB (call_reprO c_Table__repr__ hr (by decide) L2.pass0 bm_Table__repr__ hr.u) (by rfl) T.b_repr (by decide +kernel) (pa_cons (pv 4) pa_nil)) (pe_callB (call_reprO c_Table__repr__ hr (by decide) L2.pass0 bm_Table__repr__ hr.u) (by rfl) T.b_repr (by decide +kernel) (pa_cons (pe_mk b_Table hr (by decide) L2.pass0 (by rfl) (pa_cons (pv 1) (pa_cons (pv 2) pa_nil)) pk_nil) pa_nil)) (nomark _)))))))))))))))))))))), ?_⟩
  refine ⟨fun σ' H' => ∃ (D F : Addr) (n : Nat) (m : List (Str × Str)) (fs : List (List Nat)), σ' = [some (.ref p), some (.int n), some (.ref D), some (.ref F), none, none, none, none, none, none, none, none] ∧ Go p H H' ∧ 1 ≤ n ∧ n ≤ 6 ∧ H' D = some (.dK (tk m)) ∧ D ≠ p ∧ TabOk (n : Int) m ∧ H' F = some (.lst (fs.map sx)) ∧ F ≠ p ∧ Fits n fs ∧ fs.Nodup ∧ fs.length ≤ 4, ?_, ?_⟩
  · refine ⟨_, rfl, ?_⟩
    refine wo_go hp fun t D F n m fs H1 g1 et h0 h1 eD nD ok eF nF ff nd lf => ?_
    refine ⟨t, _, rfl, SqT.of et, rfl, ⟨_, _, rfl, ⟨_, _, rfl, ⟨_, _, rfl, ⟨rfl, ?_⟩⟩⟩⟩⟩
    exact ⟨D, F, n, m, fs, rfl, g1, h0, h1, eD, nD, ok, eF, nF, ff, nd, lf⟩
  rintro σ' H1 ⟨D, F, n, m, fs, rfl, g1, h0, h1, eD1, nD, ok, eF1, nF, ff, nd, lf4⟩
  have lf : fs.length ≤ 20 := by omega
  have gN1 : GoN TT p H H1 := (GoN.refl hp hT).go g1
  have few1 := ok.few
  have okX := srt_ok ok
  generalize hc : cst (SN n m fs []) "hole" = c
  have hx : cst (SN n (srt m) fs []) "hole" = c := by rw [SN_srt, hc]
  have c40 : c ≤ 40 := by rw [← hc]; exact few_pk few1
  refine ⟨fun σ' H' => ∃ X, σ' = [some (.ref p), some (.int n), some (.ref D), some (.ref F), some (.ref X), some (.int (c : Nat)), none, none, none, none, none, none] ∧ GoN TT p H H' ∧ H' D = some (.dK (tk m)) ∧ H' F = some (.lst (fs.map sx)) ∧ TabAt C H' X n (srt m), ?_, ?_⟩
  · refine ⟨_, rfl, ⟨_, rfl, ⟨rfl, rfl, fun X dX hX hdX hXX => ?_⟩⟩⟩
    have mx : D ≠ X := nonn hX eD1
    have md : D ≠ dX := nonn hdX eD1
    refine init_go upd_same (updn mx (updn md eD1)) ok fun H5 kp tb => ⟨rfl, ?_⟩
    have s5 : Same H1 H5 := fun c o q => kp c o (nonn hX q) (updn (nonn hX q) (updn (nonn hdX q) q))
    have gN5 := gN1.go (Go.of g1.pot s5)
    refine ⟨_, rfl, ⟨_, rfl, ⟨_, rfl, ?_⟩⟩⟩
    refine se_go gN5.tabs h0 h1 (s5 _ _ eD1) ok (s5 _ _ eF1) lf fun L H4 x4 t4 ls => ?_
    refine fw_go ls ?_
    rw [hc]
    refine ⟨_, _, rfl, ?_⟩
    exact ⟨X, rfl, gN5.ext x4 t4, x4 _ _ (s5 _ _ eD1) (fun _ z => nomatch z), x4 _ _ (s5 _ _ eF1) (fun _ z => nomatch z), tb.ext x4⟩
  clear eD1 eF1
  rintro σ' H2 ⟨X, rfl, gN, eD, eF, tX⟩
  have hp2 := gN.pot
  refine ⟨fun σ' H' => ∃ (L : Addr) (ys : List (Addr × Pr)), σ' = [some (.ref p), some (.int n), some (.ref D), some (.ref F), some (.ref X), some (.int (c : Nat)), some (.ref L), none, none, none, none, none] ∧ Same H2 H' ∧ H2 L = none ∧ H' L = some (.lst (vz ys)) ∧ Ps H' n ys ∧ packB n m fs (ys.map (·.2)) = true ∧ ys.length = c ∧ PkD n (srt m) fs (ys.map (·.2)), ?_, ?_⟩
  · refine ⟨_, rfl, ⟨_, rfl, ⟨rfl, rfl, ?_⟩⟩⟩
    show spPk K C [.ref X, .ref F] _ _ _
    refine pk_go ⟨tX, okX, .inl eF, ff, nd, lf⟩ fun L ys H3 s3 nL eL ps pk ly pd => ?_
    rw [pack_srt] at pk
    rw [hx] at ly
    exact ⟨L, ys, rfl, s3, nL, eL, ps, pk, ly, pd⟩
  rintro σ' H3 ⟨L, ys, rfl, s3, nL2, eL, ps, pk, ly, pd⟩
  have nL : L ≠ p := hp2.ne nL2
  have eD3 := s3 _ _ eD
  have eF3 := s3 _ _ eF
  have tX3 := tX.to s3
  have gN3 := gN.go (Go.of hp2 s3)
  have hp3 := gN3.pot
  have np := ps.np hp3
  have nFL : F ≠ L := nonn nL2 eF
  have nDL : D ≠ L := nonn nL2 eD
  clear gN1 g1 s3 eD eF tX
  -- what stands behind
  have tfX : ∀ {H' : Hp}, Go p H3 H' → TF K C H' X F n (srt m) fs := fun g => ⟨tX3.go hp3 g, okX, .inl (g.kp eF3 nF), ff, nd, lf⟩
  have thT : ∀ {H' : Hp}, Go p H3 H' → Th p H' n (.ref L) (some ((ys.map (·.2)).map some)) := fun g => Th.pairs (.inl (g.kp eL nL)) nL (ps.go np g) np (by omega)
  have pkX : thB n (srt m) fs (some ((ys.map (·.2)).map some)) = true := by rw [thB_srt, thB_some]; exact pk
  have pkM : thB n m fs (some ((ys.map (·.2)).map some)) = true := by rw [thB_some]; exact pk
  refine ⟨fun σ' H' => σ' = [some (.ref p), some (.int n), some (.ref D), some (.ref F), some (.ref X), some (.int (c : Nat)), some (.ref L), none, none, none, none, none] ∧ Same H3 H', ?_, ?_⟩
  · refine ⟨_, rfl, ?_⟩
    refine ⟨_, _, _, _, _, rfl, .ty _, .base (.lst eL), kit_ty (show kitB "list" "list" = some true by decide +kernel), ?_⟩
    refine ⟨_, rfl, ?_⟩
    refine iteF ?_
    refine ⟨_, rfl, ⟨_, _, rfl, .inl ⟨_, SqL.of eL, rfl⟩, ⟨_, rfl, ⟨rfl, ⟨_, rfl, ?_⟩⟩⟩⟩⟩
    rw [vz_len, ly, decide_eq_true rfl]
    refine iteF ?_
    refine ⟨_, rfl, ⟨_, rfl, ⟨rfl, rfl, ?_⟩⟩⟩
    show spFe K C [.ref X, .ref F] _ _ _
    refine fe_go (tfX (Go.refl hp3)) fun H4 s4 => ?_
    rw [hx]
    refine ⟨_, rfl, ⟨rfl, ⟨_, rfl, ?_⟩⟩⟩
    rw [decide_eq_true rfl]
    refine iteF ?_
    exact ⟨rfl, s4⟩
  rintro σ' H4 ⟨rfl, s4⟩
  have g4 := Go.of hp3 s4
  clear s4
  refine ⟨fun σ' H' => σ' = [some (.ref p), some (.int n), some (.ref D), some (.ref F), some (.ref X), some (.int (c : Nat)), some (.ref L), none, none, none, none, none] ∧ Same H4 H', ?_, ?_⟩
  · refine ⟨_, rfl, ⟨_, rfl, ⟨_, rfl, ⟨_, rfl, ?_⟩⟩⟩⟩
    refine lp_go h0 (by omega) (g4.kp eD3 nD) (g4.kp eF3 nF) lf (thT g4) fun H6 s6 => ?_
    rw [pkM]
    refine ⟨_, rfl, iteF ?_⟩
    refine ⟨_, rfl, ⟨_, rfl, ⟨_, rfl, ⟨rfl, rfl, ?_⟩⟩⟩⟩
    show spIPk K C [.ref X, .ref L, .ref F] _ _ _
    have g6 := g4.trans (Go.of g4.pot s6)
    refine ipk_go (tfX g6) (thT g6) fun H7 s7 => ?_
    rw [pkX]
    refine ⟨_, rfl, iteF ?_⟩
    exact ⟨rfl, s6.trans s7⟩
  rintro σ' H5 ⟨rfl, s5⟩
  have g5 := g4.trans (Go.of g4.pot s5)
  clear s5 g4 H4
  refine ⟨fun σ' H' => σ' = [some (.ref p), some (.int n), some (.ref D), some (.ref F), some (.ref X), some (.int (c : Nat)), some (.ref L), none, none, none, none, none] ∧ Same H5 H', ?_, ?_⟩
  · refine ⟨_, rfl, ⟨_, rfl, ⟨rfl, rfl, ?_⟩⟩⟩
    show spPk K C [.ref X, .ref F] _ _ _
    refine pk_go (tfX g5) fun L4 ys4 H6 s6 nL4 eL4 ps4 pk4 ly4 pd4 => ?_
    have g6 := g5.trans (Go.of g5.pot s6)
    have ps6 := ps.go np g6
    refine ⟨_, rfl, ⟨_, _, .lst (SqL.of eL4) (dq_dp ps4), .lst (SqL.of (g6.kp eL nL)) (dq_dp ps6), dqs_shp ps4 (by omega), dqs_shp ps6 (by omega), ?_⟩⟩
    refine ⟨_, rfl, ?_⟩
    rw [dqs_map, dqs_map, pd4.uniq pd, dqs_refl]
    refine iteF ?_
    refine ⟨_, rfl, ⟨F, _, rfl, .inl ⟨SqL.of (g6.kp eF3 nF), fun T2 nT => ?_⟩⟩⟩
    have s7 := s6.new (o := HO.tup (fs.map sx)) nT
    have g7 : Go p H3 (upd H6 T2 (.tup (fs.map sx))) := g6.new nT
    have eT2 : upd H6 T2 (.tup (fs.map sx)) T2 = some (.tup (fs.map sx)) := upd_same
    generalize upd H6 T2 (.tup (fs.map sx)) = H7 at s7 g7 eT2 ⊢
    refine ⟨_, rfl, ?_⟩
    refine ⟨_, rfl, ⟨L, _, rfl, .inl ⟨SqL.of (g7.kp eL nL), fun T3 nT3 => ?_⟩⟩⟩
    have s8 := s7.new (o := HO.tup (vz ys)) nT3
    have g8 : Go p H3 (upd H7 T3 (.tup (vz ys))) := g7.new nT3
    have eT3 : upd H7 T3 (.tup (vz ys)) T3 = some (.tup (vz ys)) := upd_same
    have eT2 := updn (o := HO.tup (vz ys)) (nonn nT3 eT2) eT2
    have nT3p := g7.pot.ne nT3
    generalize upd H7 T3 (.tup (vz ys)) = H8 at s8 g8 eT3 eT2 ⊢
    refine ⟨rfl, rfl, ?_⟩
    show spIPk K C [.ref X, .ref T3, .ref T2] _ _ _
    refine ipk_go ⟨tX3.go hp3 g8, okX, .inr (.inl eT2), ff, nd, lf⟩ (Th.pairs (.inr eT3) nT3p (ps.go np g8) np (by omega)) fun H9 s9 => ?_
    rw [pkX]
    refine ⟨_, rfl, iteF ?_⟩
    exact ⟨rfl, s8.trans s9⟩
  rintro σ' H6 ⟨rfl, s6⟩
  have g6 := g5.trans (Go.of g5.pot s6)
  clear s6 g5 H5
  have okT := twn_ok ok
  have okY := srt_ok okT
  refine ⟨fun σ' H' => ∃ Y x11, σ' = [some (.ref p), some (.int n), some (.ref D), some (.ref F), some (.ref X), some (.int (c : Nat)), some (.ref L), some (.ref Y), none, none, none, x11] ∧ Go p H3 H' ∧ TabAt C H' Y n (srt (twn n m)), ?_, ?_⟩
  · refine ⟨_, rfl, ?_⟩
    refine ⟨_, rfl, ?_⟩
    refine lb2_go (by omega) fun S H7 s7 nS eS => ?_
    have g7 := g6.trans (Go.of g6.pot s7)
    refine ⟨40, rfl, ⟨S, _, rfl, SqL.of eS, fun G nG => ?_⟩⟩
    rw [show cutV ((bitsL n).map sx) none (some 40) = ((bitsL n).take 40).map sx by rw [show (40 : Int) = ((40 : Nat) : Int) from rfl, cutV_to, List.map_take]]
    have g8 : Go p H3 (upd H7 G (.lst (((bitsL n).take 40).map sx))) := g7.new nG
    have eG : upd H7 G (.lst (((bitsL n).take 40).map sx)) G = some (.lst (((bitsL n).take 40).map sx)) := upd_same
    have nGp := g7.pot.ne nG
    generalize upd H7 G (.lst (((bitsL n).take 40).map sx)) = H8 at g8 eG ⊢
    have twd : twn n m = ((bitsL n).take 40).map fun z => (SX.S z, gT m z) := rfl
    have usm : ∀ u ∈ (bitsL n).take 40, M.BL u ∧ u.length = n := fun u hu => bitsL_mem.mp (List.mem_of_mem_take hu)
    have lus : ((bitsL n).take 40).length ≤ 40 := by rw [List.length_take]; omega
    generalize (bitsL n).take 40 = us at eG twd usm lus
    refine ⟨G, rfl, ⟨_, SqL.of eG⟩, fun B nB => ?_⟩
    refine lc_it (walk_list (xs := us.map sx)) (fun j H' => LQ p H8 B ((us.take j).map fun z => (SX.S z, gT m z)) H') (.nil g8.pot nB) (fun j H' _ h => SqL.of (h.2.kp eG nGp)) ?_ ?_
    · rintro j y Hw H9 hj hq ⟨rfl, hy⟩
      obtain ⟨u, hu, rfl⟩ := sx_at hy
      obtain ⟨ub, ul⟩ := usm u (List.mem_of_getElem? hu)
      have g9 := g8.trans hq.2
      refine ⟨rfl, ?_⟩
      dsimp only [tYes]
      rw [if_pos rfl]
      refine ⟨_, rfl, ⟨_, rfl, ?_⟩⟩
      refine ⟨szl (Nat.zero_le _), fun l nl => ?_⟩
      have ga : Go p H9 (upd H9 l (.lst [])) := (Go.refl g9.pot).new nl
      have el : upd H9 l (.lst []) l = some (.lst (([] : List (List Nat)).map sx)) := upd_same
      generalize upd H9 l (.lst []) = Ha at ga el ⊢
      refine ⟨_, rfl, ?_⟩
      refine lg_go (ga.kp (g9.kp eD3 nD) nD) el (by decide) (by omega) fun Hb sb => ?_
      rw [lab_none]
      refine ⟨szl (by show 2 ≤ 1000000; decide), fun t nt => ?_⟩
      obtain ⟨acc, e1, e2, e3⟩ := LQ.turn (x := SX.S u) (y := gT m u) g8.pot hq nB (ga.trans (Go.of ga.pot sb)) nt (by rw [List.length_map, List.length_take]; omega)
      refine ⟨acc, e1, e2, ?_⟩
      rw [List.take_add_one, hu, List.map_append]
      exact e3
    · rintro H9 ⟨⟨tt, hB, tq⟩, g9⟩
      rw [List.length_map, List.take_length, ← twd] at tq
      refine ⟨B, tt, _, rfl, SqL.of hB, tq.pair, fun M nM => ?_⟩
      rw [mrg_nil okT.nd]
      have ga := (g8.trans g9).new (o := HO.dK (tk (twn n m))) nM
      have eM : upd H9 M (.dK (tk (twn n m))) M = some (.dK (tk (twn n m))) := upd_same
      generalize upd H9 M (.dK (tk (twn n m))) = Ha at ga eM ⊢
      refine ⟨rfl, rfl, fun Y dY hY hdY hYY => ?_⟩
      have mx : M ≠ Y := nonn hY eM
      have md : M ≠ dY := nonn hdY eM
      refine init_go upd_same (updn mx (updn md eM)) okT fun Hb kp tb => ⟨rfl, ?_⟩
      have sb : Same Ha Hb := fun c o q => kp c o (nonn hY q) (updn (nonn hY q) (updn (nonn hdY q) q))
      exact ⟨Y, _, rfl, ga.trans (Go.of ga.pot sb), tb⟩
  clear g6 H6
  rintro σ' H6 ⟨Y, x11, rfl, g6, tY⟩
  have hp6 := g6.pot
  have tfY : ∀ {H' : Hp}, Go p H6 H' → TF K C H' Y F n (srt (twn n m)) fs := fun g => ⟨tY.go hp6 g, okY, .inl ((g6.trans g).kp eF3 nF), ff, nd, lf⟩
  have qok : ∀ q ∈ ys.map (·.2), PrOk n q := fun q hq => by
    obtain ⟨y, hy, rfl⟩ := List.mem_map.mp hq
    exact (ps y hy).2
  refine ⟨fun σ' H' => σ' = [some (.ref p), some (.int n), some (.ref D), some (.ref F), some (.ref X), some (.int (c : Nat)), some (.ref L), some (.ref Y), none, none, none, x11] ∧ Same H6 H', ?_, ?_⟩
  · refine ⟨_, rfl, ⟨_, _, rfl, rfl, ⟨_, rfl, ?_⟩⟩⟩
    by_cases lt : (n : Int) < 6
    · rw [decide_eq_true lt]
      refine iteT ?_
      refine ⟨_, rfl, ⟨_, rfl, ⟨_, rfl, ⟨rfl, rfl, ?_⟩⟩⟩⟩
      show spIPk K C [.ref Y, .ref L, .ref F] _ _ _
      refine ipk_go (tfY (Go.refl hp6)) (thT g6) fun H7 s7 => ?_
      have e : thB n (srt (twn n m)) fs (some ((ys.map (·.2)).map some)) = true := by
        rw [thB_srt, thB_some, pack_like (twn_like (by omega)) qok]
        exact pk
      rw [e]
      refine ⟨_, rfl, iteF ?_⟩
      exact ⟨rfl, s7⟩
    · rw [decide_eq_false lt]
      exact iteF ⟨rfl, Same.refl _⟩
  rintro σ' H7 ⟨rfl, s7⟩
  have k7 := Go.of hp6 s7
  clear s7
  refine ⟨fun σ' H' => σ' = [some (.ref p), some (.int n), some (.ref D), some (.ref F), some (.ref X), some (.int (c : Nat)), some (.ref L), some (.ref Y), none, none, none, x11] ∧ Same H7 H', ?_, ?_⟩
  · refine ⟨_, rfl, ⟨_, _, rfl, rfl, ⟨_, rfl, ?_⟩⟩⟩
    by_cases lt : (n : Int) < 6
    · rw [decide_eq_true lt]
      refine iteT ?_
      refine ⟨_, rfl, ?_⟩
      refine ⟨_, rfl, ⟨_, rfl, ⟨rfl, rfl, ?_⟩⟩⟩
      show spPk K C [.ref Y, .ref F] _ _ _
      refine pk_go (tfY k7) fun L4 ys4 H8 s8 nL4 eL4 ps4 pk4 ly4 pd4 => ?_
      have k8 := k7.trans (Go.of k7.pot s8)
      have g8 := g6.trans k8
      refine ⟨_, rfl, ⟨rfl, rfl, ?_⟩⟩
      show spIPk K C [.ref X, .ref L4, .ref F] _ _ _
      have l4 := few_pk (n := n) (fs := fs) okY.few
      refine ipk_go (tfX g8) (Th.pairs (.inl eL4) (k7.pot.ne nL4) ps4 (ps4.np g8.pot) (by omega)) fun H9 s9 => ?_
      have e : thB n (srt m) fs (some ((ys4.map (·.2)).map some)) = true := by
        rw [thB_srt, thB_some, ← pack_like (d := twn n m) (twn_like (by omega)) (fun q hq => by
          obtain ⟨y, hy, rfl⟩ := List.mem_map.mp hq
          exact (ps4 y hy).2), ← pack_srt]
        exact pk4
      rw [e]
      refine ⟨_, rfl, iteF ?_⟩
      exact ⟨rfl, s8.trans s9⟩
    · rw [decide_eq_false lt]
      exact iteF ⟨rfl, Same.refl _⟩
  rintro σ' H8 ⟨rfl, s8⟩
  have g8 := g6.trans (k7.trans (Go.of k7.pot s8))
  clear s8 k7 H7 g6 tfY tY hp6 H6
  have shB : ∀ b : Bool, Fit 13 0 (PyData.bool b) := fun b => Fit.bool _
  refine ⟨fun σ' H' => ∃ x8, σ' = [some (.ref p), some (.int n), some (.ref D), some (.ref F), some (.ref X), some (.int (c : Nat)), some (.ref L), some (.ref Y), x8, none, none, x11] ∧ Go p H3 H', ?_, ?_⟩
  · refine ⟨_, rfl, ⟨_, _, rfl, rfl, ⟨_, rfl, ?_⟩⟩⟩
    by_cases lt : (0 : Int) < (c : Int)
    case neg =>
      rw [decide_eq_false lt]
      exact iteF ⟨_, rfl, g8⟩
    rw [decide_eq_true lt]
    refine iteT ?_
    refine ⟨_, rfl, ⟨_, rfl, ⟨_, rfl, ⟨_, rfl, ⟨_, rfl, ?_⟩⟩⟩⟩⟩
    refine be_go g8.pot h0 h1 (g8.kp eL nL) nL (ps.go np g8) np (by omega) (by omega) fun G H9 k9 fn => ?_
    have g9 := g8.trans k9
    obtain ⟨xs, eG, nG, lx, hxs⟩ := fn
    refine ⟨G, rfl, ⟨_, SqL.of eG⟩, ?_⟩
    refine for_it (walk_list (xs := xs)) (fun i σ' H' => ∃ x8, σ' = [some (.ref p), some (.int n), some (.ref D), some (.ref F), some (.ref X), some (.int (c : Nat)), some (.ref L), some (.ref Y), x8, none, none, x11] ∧ Same H9 H') ⟨_, rfl, Same.refl _⟩ (fun i σ' H' _ ⟨_, _, s⟩ => SqL.of (s _ _ eG)) ?_ ?_
    · rintro i x σ' Hx Ha hi ⟨x8, rfl, sa⟩ ⟨rfl, hx'⟩
      obtain ⟨o, th⟩ := hxs x (List.mem_of_getElem? hx')
      have ga := g9.trans (Go.of g9.pot sa)
      refine ⟨_, rfl, ⟨_, rfl, ⟨_, rfl, ⟨rfl, rfl, ?_⟩⟩⟩⟩
      show spIPk K C [.ref X, x, .ref F] _ _ _
      refine ipk_go (tfX ga) (th.kp (Same.kp sa)) fun Hb sb => ?_
      rw [thB_srt]
      refine ⟨szl (by show 1 ≤ 1000000; decide), fun q1 nq1 => ?_⟩
      have sc := (sa.trans sb).new (o := HO.lst [.bl (thB n m fs o)]) nq1
      have e1 : upd Hb q1 (.lst [.bl (thB n m fs o)]) q1 = some (.lst [.bl (thB n m fs o)]) := upd_same
      generalize upd Hb q1 (.lst [.bl (thB n m fs o)]) = Hc at sc e1 ⊢
      refine repr_go (one_rp (K := K) (.bl _) e1 (shB _) (by decide) (by decide)) ?_
      have gc := g9.trans (Go.of g9.pot sc)
      refine ⟨_, rfl, ⟨_, rfl, ⟨_, rfl, ⟨_, rfl, ?_⟩⟩⟩⟩
      refine lp_go h0 (by omega) (gc.kp eD3 nD) (gc.kp eF3 nF) lf (th.kp (Same.kp sc)) fun Hd sd => ?_
      refine ⟨szl (by show 1 ≤ 1000000; decide), fun q2 nq2 => ?_⟩
      have se := (sc.trans sd).new (o := HO.lst [.bl (thB n m fs o)]) nq2
      have e2 : upd Hd q2 (.lst [.bl (thB n m fs o)]) q2 = some (.lst [.bl (thB n m fs o)]) := upd_same
      generalize upd Hd q2 (.lst [.bl (thB n m fs o)]) = He at se e2 ⊢
      refine repr_go (one_rp (K := K) (.bl _) e2 (shB _) (by decide) (by decide)) ?_
      refine ⟨rfl, ⟨_, rfl, ?_⟩⟩
      rw [decide_eq_true rfl]
      refine iteF ?_
      exact ⟨_, rfl, se⟩
    · rintro σ' Ha ⟨x8, rfl, sa⟩
      exact ⟨_, rfl, g9.trans (Go.of g9.pot sa)⟩
  clear g8 H8
  rintro σ' H8 ⟨x8, rfl, g8⟩
  refine ⟨fun σ' H' => ∃ x8, σ' = [some (.ref p), some (.int n), some (.ref D), some (.ref F), some (.ref X), some (.int (c : Nat)), some (.ref L), some (.ref Y), x8, none, none, x11] ∧ Go p H3 H', ?_, ?_⟩
  · refine ⟨_, rfl, ?_⟩
    refine od_go g8.pot (g8.kp eL nL) nL (ps.go np g8) np (by omega) fun G xs H9 k9 eG lx hxs => ?_
    have g9 := g8.trans (Go.of g8.pot k9)
    refine ⟨G, rfl, ⟨_, SqL.of eG⟩, ?_⟩
    refine for_it (walk_list (xs := xs)) (fun i σ' H' => ∃ x8, σ' = [some (.ref p), some (.int n), some (.ref D), some (.ref F), some (.ref X), some (.int (c : Nat)), some (.ref L), some (.ref Y), x8, none, none, x11] ∧ Same H9 H') ⟨_, rfl, Same.refl _⟩ (fun i σ' H' _ ⟨_, _, s⟩ => SqL.of (s _ _ eG)) ?_ ?_
    · rintro i x σ' Hx Ha hi ⟨x8, rfl, sa⟩ ⟨rfl, hx'⟩
      obtain ⟨o, th, no⟩ := hxs x (List.mem_of_getElem? hx')
      have ga := g9.trans (Go.of g9.pot sa)
      refine ⟨_, rfl, ⟨_, rfl, ⟨_, rfl, ⟨rfl, rfl, ?_⟩⟩⟩⟩
      show spIPk K C [.ref X, x, .ref F] _ _ _
      refine ipk_go (tfX ga) (th.kp (Same.kp sa)) fun Hb sb => ?_
      rw [thB_no no]
      refine ⟨szl (by show 1 ≤ 1000000; decide), fun q1 nq1 => ?_⟩
      have sc := (sa.trans sb).new (o := HO.lst [.bl false]) nq1
      have e1 : upd Hb q1 (.lst [.bl false]) q1 = some (.lst [.bl false]) := upd_same
      generalize upd Hb q1 (.lst [.bl false]) = Hc at sc e1 ⊢
      refine repr_go (one_rp (K := K) (.bl _) e1 (shB _) (by decide) (by decide)) ?_
      have gc := g9.trans (Go.of g9.pot sc)
      refine ⟨rfl, ⟨_, rfl, ?_⟩⟩
      rw [decide_eq_true (show V.str (PyData.list [.bool false]).shown = V.str "[False]" from by decide +kernel)]
      refine iteF ?_
      refine ⟨_, rfl, ⟨_, rfl, ⟨_, rfl, ⟨_, rfl, ?_⟩⟩⟩⟩
      refine lp_go h0 (by omega) (gc.kp eD3 nD) (gc.kp eF3 nF) lf (th.kp (Same.kp sc)) fun Hd sd => ?_
      rw [thB_no no]
      refine ⟨_, rfl, iteF ?_⟩
      exact ⟨_, rfl, sc.trans sd⟩
    · rintro σ' Ha ⟨x8, rfl, sa⟩
      exact ⟨_, rfl, g9.trans (Go.of g9.pot sa)⟩
  clear g8 H8 x8
  rintro σ' H8 ⟨x8, rfl, g8⟩
  have okW := wider_ok ok (by omega)
  have e1 : ((n + 1 : Nat) : Int) = (n : Int) + 1 := rfl
  have okW1 : TabOk ((n : Int) + 1) m := e1 ▸ okW
  refine ⟨fun σ' H' => ∃ (W : Addr) (zs : List (Addr × Pr)), σ' = [some (.ref p), some (.int n), some (.ref D), some (.ref F), some (.ref X), some (.int (c : Nat)), some (.ref L), some (.ref Y), x8, some (.ref W), none, x11] ∧ Go p H3 H' ∧ H' W = some (.lst (vz zs)) ∧ W ≠ p ∧ Ps H' (n + 1) zs ∧ packB (n + 1) m fs (zs.map (·.2)) = true ∧ zs.length = c, ?_, ?_⟩
  · refine ⟨_, rfl, ⟨_, _, rfl, rfl, ?_⟩⟩
    have eD8 := g8.kp eD3 nD
    refine ⟨_, rfl, ⟨rfl, rfl, fun Z dZ hZ hdZ hZZ => ?_⟩⟩
    have mx : D ≠ Z := nonn hZ eD8
    have md : D ≠ dZ := nonn hdZ eD8
    refine init_go upd_same (updn mx (updn md eD8)) okW1 fun H9 kp tb => ⟨rfl, ?_⟩
    rw [← e1] at tb
    have s9 : Same H8 H9 := fun c o q => kp c o (nonn hZ q) (updn (nonn hZ q) (updn (nonn hdZ q) q))
    have g9 := g8.trans (Go.of g8.pot s9)
    refine ⟨_, rfl, ⟨rfl, rfl, ?_⟩⟩
    show spPk K C [.ref Z, .ref F] _ _ _
    refine pk_go ⟨tb, srt_ok okW, .inl (g9.kp eF3 nF), wider_fits ff, nd, lf⟩ fun W zs Ha sa nW eW psW pkW lyW pdW => ?_
    rw [pack_srt] at pkW
    rw [SN_wider okX ff (k := n) (t := []) (by show 0 + n = n; omega), hx] at lyW
    exact ⟨W, zs, rfl, g9.trans (Go.of g9.pot sa), eW, g9.pot.ne nW, psW, pkW, lyW⟩
  clear g8 H8
  rintro σ' H8 ⟨W, zs, rfl, g8, eW, nW, psW, pkW, lyW⟩
  refine ⟨fun σ' H' => σ' = [some (.ref p), some (.int n), some (.ref D), some (.ref F), some (.ref X), some (.int (c : Nat)), some (.ref L), some (.ref Y), x8, some (.ref W), none, x11] ∧ Same H8 H', ?_, ?_⟩
  · refine ⟨_, rfl, ⟨_, _, rfl, .inl ⟨_, SqL.of eW, rfl⟩, ⟨_, rfl, ⟨rfl, ⟨_, rfl, ?_⟩⟩⟩⟩⟩
    rw [vz_len, lyW, decide_eq_true rfl]
    refine iteF ?_
    refine ⟨_, rfl, ⟨_, _, rfl, rfl, ?_⟩⟩
    refine ⟨_, rfl, ⟨_, rfl, ⟨_, rfl, ?_⟩⟩⟩
    show spLP [V.int ((n + 1 : Nat) : Int), .ref D, .ref F, .ref W] _ _ _
    refine lp_go (by omega) (by omega) (g8.kp eD3 nD) (g8.kp eF3 nF) lf (Th.pairs (.inl eW) nW psW (psW.np g8.pot) (by omega)) fun H9 s9 => ?_
    rw [thB_some, pkW]
    refine ⟨_, rfl, iteF ?_⟩
    exact ⟨rfl, s9⟩
  clear eW psW
  rintro σ' H9 ⟨rfl, s9⟩
  have g9 := g8.trans (Go.of g8.pot s9)
  clear s9 g8 H8
  refine ⟨fun σ' H' => ∃ B, σ' = [some (.ref p), some (.int n), some (.ref D), some (.ref F), some (.ref X), some (.int (c : Nat)), some (.ref L), some (.ref Y), x8, some (.ref W), some (.ref B), x11] ∧ Go p H3 H' ∧ H' B = some (.lst (vz ys)) ∧ B ≠ p ∧ B ≠ L, ?_, ?_⟩
  · refine ⟨_, rfl, ⟨L, _, rfl, .inl (SqL.of (g9.kp eL nL)), fun B nB => ?_⟩⟩
    exact ⟨B, rfl, g9.new nB, upd_same, g9.pot.ne nB, fun z => by rw [z, g9.kp eL nL] at nB; cases nB⟩
  clear g9 H9
  rintro σ' H9 ⟨B, rfl, g9, eB, nBp, nBL⟩
  -- what was told is cleared
  have eL9 := g9.kp eL nL
  have tX9 := tX3.go hp3 g9
  have ps9 := ps.go np g9
  have eD9 := g9.kp eD3 nD
  have eF9 := g9.kp eF3 nF
  have gN9 := gN3.go g9
  refine ⟨fun σ' H' => σ' = [some (.ref p), some (.int n), some (.ref D), some (.ref F), some (.ref X), some (.int (c : Nat)), some (.ref L), some (.ref Y), x8, some (.ref W), some (.ref B), x11] ∧ H' B = some (.lst (vz ys)) ∧ Ps H' n ys ∧ H' D = some (.dK (tk m)) ∧ H' F = some (.lst (fs.map sx)) ∧ TabAt C H' X n (srt m) ∧ GoN TT p H H', ?_, ?_⟩
  · refine ⟨_, rfl, ⟨.inl ⟨rfl, _, SqL.of eL9⟩, ⟨L, _, rfl, rfl, eL9, ?_⟩⟩⟩
    refine ⟨rfl, updn nBL eB, fun y hy => ⟨updn (fun z => by have := (ps9 y hy).1; rw [z, eL9] at this; cases this) (ps9 y hy).1, (ps9 y hy).2⟩, updn nDL eD9, updn nFL eF9, ?_, ?_, ?_, ?_⟩
    · obtain ⟨dx, Dm, ha, hDm, hne⟩ := tX9
      exact ⟨dx, Dm, updn (fun z => by rw [z, eL9] at ha; cases ha) ha, updn (fun z => by rw [z, eL9] at hDm; cases hDm) hDm, hne⟩
    · obtain ⟨a, b, e, r⟩ := gN9.pot
      exact ⟨a, b, updn (Ne.symm nL) e, r⟩
    · intro q hq
      obtain ⟨ps, q1, q2, q3⟩ := gN9.tabs q hq
      refine ⟨ps, updn (fun z => by rw [z, eL9] at q1; cases q1) q1, q2, fun pos cv hc => ?_⟩
      obtain ⟨c, c1, c2⟩ := q3 pos cv hc
      exact ⟨c, c1, updn (fun z => by rw [z, eL9] at c2; injection c2 with c2; cases c2) c2⟩
    · intro b o e nt nb
      refine updn (fun z => ?_) (gN9.keep b o e nt nb)
      have := gN.keep b o e nt nb
      rw [z, nL2] at this
      cases this
  clear eL9 tX9 ps9 eD9 eF9 gN9 g9 eB thT tfX eD3 eF3 tX3 gN3 hp3 eL
  rintro σ' Hc ⟨rfl, eB, ps, eD, eF, tX, gN⟩
  have hpc := gN.pot
  refine ⟨_, rfl, ⟨_, rfl, ⟨rfl, rfl, ?_⟩⟩⟩
  show spPk K C [.ref X, .ref F] _ _ _
  refine pk_go ⟨tX, okX, .inl eF, ff, nd, lf⟩ fun L4 ys4 H6 s6 nL4 eL4 ps4 pk4 ly4 pd4 => ?_
  refine ⟨_, rfl, ⟨_, _, .lst (SqL.of eL4) (dq_dp ps4), .lst (SqL.of (s6 _ _ eB)) (dq_dp (ps.to s6)), dqs_shp ps4 (by omega), dqs_shp ps (by omega), ?_⟩⟩
  rw [dqs_map, dqs_map, pd4.uniq pd, dqs_refl]
  refine ⟨_, rfl, iteT ?_⟩
  refine ⟨_, rfl, ⟨_, rfl, ⟨_, rfl, ⟨F, _, rfl, SqL.of (s6 _ _ eF), fun F2 nF2 => ?_⟩⟩⟩⟩
  rw [show (fs.map sx).reverse = fs.reverse.map sx from List.map_reverse.symm]
  have s7 := s6.new (o := HO.lst (fs.reverse.map sx)) nF2
  have eF2 : upd H6 F2 (.lst (fs.reverse.map sx)) F2 = some (.lst (fs.reverse.map sx)) := upd_same
  generalize upd H6 F2 (.lst (fs.reverse.map sx)) = H7 at s7 eF2 ⊢
  refine ⟨rfl, rfl, ?_⟩
  show spIPk K C [.ref X, .ref B, .ref F2] _ _ _
  refine ipk_go ⟨tX.to s7, okX, .inl eF2, fun t ht => ff t (List.mem_reverse.mp ht), (List.reverse_perm fs).nodup_iff.mpr nd, by rw [List.length_reverse]; exact lf⟩ (Th.pairs (.inl (s7 _ _ eB)) nBp (ps.to s7) np (by omega)) fun H8 s8 => ?_
  rw [thB_srt, thB_some, pack_rev, pk]
  refine ⟨_, rfl, iteT ?_⟩
  have s78 := s7.trans s8
  have tX8 := tX.to s78
  obtain ⟨dx, fx, hX, _⟩ := tX8.at
  refine ⟨_, rfl, ⟨X, dx, fx, rfl, hX, ?_⟩⟩
  refine repr0_go tX8 okX fun H9 s9 => ⟨_, rfl, ?_⟩
  have s79 := s78.trans s9
  have eD9 := s79 _ _ eD
  refine ⟨_, rfl, ⟨_, rfl, ?_⟩⟩
  refine ⟨rfl, rfl, fun Z dZ hZ hdZ hZZ => ?_⟩
  have mx : D ≠ Z := nonn hZ eD9
  have md : D ≠ dZ := nonn hdZ eD9
  refine init_go upd_same (updn mx (updn md eD9)) ok fun Ha kp tb => ⟨rfl, ?_⟩
  have sa : Same H9 Ha := fun c o q => kp c o (nonn hZ q) (updn (nonn hZ q) (updn (nonn hdZ q) q))
  obtain ⟨d3, f3, hZ3, _⟩ := tb.at
  refine ⟨Z, d3, f3, rfl, hZ3, ?_⟩
  refine repr0_go tb okX fun Hb sb => ⟨_, rfl, ?_⟩
  refine ⟨rfl, ?_⟩
  rw [decide_eq_true rfl]
  exact k Hb (gN.go (Go.of hpc (s79.trans (sa.trans sb))))
end
open PySem PySem.Spec PyProof.Rows LamX
open L2 hiding pass0
abbrev s_law : Stmt := top 83
theorem sc_law : FnScope ["_law_script", "_law_k"] ["_law_script"] (defScope s_law) := ⟨rfl, rfl, rfl, by decide +kernel, rfl, by decide +kernel, by decide +kernel⟩
def spLawT (K : PySem.W.Frag) (TT : List (Addr × Str)) : Sp := fun vs H Q _ => ∃ (a : Addr) (ns : List Int), vs = [.ref a] ∧ SqL K H a (ns.map V.int) ∧ ns.length ≤ 63 ∧ Tabs TT H ∧ ∀ H', Q (.bl true) H'
theorem seq_extN {K : PySem.W.Frag} {H H' : Hp} {a : Addr} {xs : List V} (e : ExtN H H') (h : SqL K H a xs) : SqL K H' a xs := by
  rcases h with (h | ⟨o, h⟩) | h
  · exact .inl (.inl (e _ _ h nt_lst))
  · exact .inl (.inr ⟨o, e _ _ h fun ps z => nomatch z⟩)
  · exact .inr h
section
variable {P : Program} {w : World} {K : PySem.W.Frag} {mg : Str → Option Value} {base : Heap} {f : Addr} {fd : FuncData}
theorem ok_law {TT : List (Addr × Str)} (F : Fun K "law" "law" s_law f fd) (hm : mg "law" = some (.ref f)) (T : Txt K mg) (c_law_pot : Nm P w K mg base CX0 1 "_law_pot" s_law_pot ["_law_script", "_law_k"] (spPot K)) (c_law_right : Nm P w K mg base CX0 11 "_law_right" s_law_right ["_law_pot_here"] (spRightT TT)) : Nm P w K mg base CX0 12 "law" s_law ["_law_script"] (spLawT K TT) := by
  refine nm_of F hm sc_law (fun vs H Q E h => ?_) fun cdv A outer s H vs Q E hr h => ?_
  · obtain ⟨p, ns, rfl, _⟩ := h
    rfl
  obtain ⟨a, ns, rfl, hS, hl, hT, k⟩ := h
  refine ⟨_, (pss_one (ps_ret (pe_callB (call_allK (K := K) rfl rfl) (by rfl) T.b_all (by decide +kernel) (pa_cons (pe_lc (own := [("_law_k", 1)]) (g := (gName 1)) (by rfl) sc_law.nd (pi_range1 (by rfl) T.b_range (pa_cons (pe_callB (call_max2 rfl) (by rfl) T.b_max (by decide +kernel) (pa_cons pe_int (pa_cons (pe_callB (call_min2 rfl) (by rfl) T.b_min (by decide +kernel) (pa_cons pe_int (pa_cons (pe_callB (call_lenK (K := K) rfl) (by rfl) T.b_len PySem.boot_len (pa_cons (pv 0) pa_nil)) pa_nil))) pa_nil))) pa_nil)) (blkOk_by (own := [("_law_k", 1)]) (N := ["_law_script", "_law_k"]) (sc := defScope s_law) (by decide +kernel)) (fun _ _ _ _ _ => (pg_name (i := 1) sc_law.nd rfl (by first | exact Or.inl rfl | exact Or.inr rfl))) (fun _ _ _ _ _ => pts_nil) (fun _ _ _ _ _ => (pe_g c_law_right hr (by decide) L2.pass0 bp_law_right (by rfl) (pa_cons (pe_g c_law_pot hr (by decide) L2.pass0 bp_law_pot (by rfl) (pa_cons (pv 0) (pa_cons (pv 1) pa_nil))) pa_nil)))) pa_nil)))), ?_⟩
  have hlen : ((ns.map V.int).length : Int) = (ns.length : Int) := by rw [List.length_map]
  repeat walk_at "s1"
  rename_i D nD
  refine lc_it walk_range (fun i H1 => H1 D = some (.lst ((List.replicate i true).map V.bl)) ∧ i ≤ 5 ∧ ExtN H H1 ∧ Tabs TT H1) ⟨upd_same, by decide, extN_new (ExtN.refl H) nD, hT.ext fun b o e => updn (nonn nD e) e⟩ (fun _ _ _ _ => trivial) ?_ ?_
  · rintro i x H1 H2 hi ⟨hD, h5, sm, ht⟩ ⟨rfl, rfl⟩
    have hi4 : i < 5 := by
      have q : i < Int.toNat (if (if ((ns.map V.int).length : Int) < 4 then ((ns.map V.int).length : Int) else 4) > 1 then (if ((ns.map V.int).length : Int) < 4 then ((ns.map V.int).length : Int) else 4) else 1) := hi
      split at q <;> (try split at q) <;> omega
    refine ⟨rfl, ?_⟩
    dsimp only [tYes]
    rw [if_pos rfl]
    repeat walk_at "s1"
    refine pot_go (seq_extN sm hS) hl (by omega) (by omega) fun p H3 np hp s3 => ?_
    repeat walk_at "s1"
    refine rightT_go hp (ht.ext s3) fun H4 g4 => ?_
    have s4 : ExtN H2 H4 := fun b o e n => g4.keep b o (s3 b o e) n (nonn np e)
    have nDo : D ≠ p := nonn np hD
    have eD := s4 _ _ hD nt_lst
    refine ⟨_, eD, szt (by rw [List.length_map, List.length_replicate]; omega), ?_, by omega, fun b o e n => ?_, fun q hq => ?_⟩
    · rw [upd_same, List.replicate_succ', List.map_append]
      rfl
    · exact updn (nonn nD e) (s4 _ _ (sm _ _ e n) n)
    · obtain ⟨ps, q1, q2, q3⟩ := g4.tabs q hq
      refine ⟨ps, updn (fun z => by rw [z, eD] at q1; cases q1) q1, q2, fun pos cv hc => ?_⟩
      obtain ⟨c, c1, c2⟩ := q3 pos cv hc
      exact ⟨c, c1, updn (fun z => by rw [z, eD] at c2; injection c2 with c2; cases c2) c2⟩
  · rintro H1 ⟨hD, h5, sm, ht⟩
    refine ⟨_, _, rfl, SqL.of hD, ?_⟩
    rw [all_rep]
    exact k H1
end
open PySem PySem.Spec PyProof.Rows LamX
open L2 hiding pass0
theorem Nm.fn {P : Program} {w : World} {K : PySem.W.Frag} {mg : Str → Option Value} {base : Heap} {CX : CXT} {k : Nat} {x : Str} {st : Stmt} {ps : List Str} {sp : Sp} {f : Addr} {fd : FuncData} (c : Nm P w K mg base CX k x st ps sp) (F : Fun K x x st f fd) (hm : mg x = some (.ref f)) : FnG P w K mg base CX k f fd ps sp := by
  obtain ⟨f', fd', F', hm', G⟩ := c.ex
  obtain rfl : f' = f := by
    have e := hm'.symm.trans hm
    injection e with e
    injection e
  obtain ⟨_, _, _, _, _, _, _, _, _, _, l1, _⟩ := F.ex
  obtain ⟨_, _, _, _, _, _, _, _, _, _, l2, _⟩ := F'.ex
  have e := l2.symm.trans l1
  injection e with e
  injection e with _ _ e _
  injection e with e
  subst e
  exact G
theorem all_mk {l : PySem.W.OpenLaw} {w : World} {K : PySem.W.Frag} {h : Heap} {mg : Str → Option Value} {fa f0 f1 f2 f3 f4 f5 f6 f7 f8 f9 f10 f11 f12 f13 f14 f15 f16 f17 f18 f19 f20 f21 f22 f23 f24 f25 f26 f27 f28 f29 f30 f31 f32 f33 f34 f35 f36 f37 f38 f39 f40 f41 f42 f43 f44 f45 f46 f47 f48 f49 f50 f51 f52 f53 f54 cc1 P1 : Addr} (X : K.In h) (G : h.Ns mainGlobals mg) (hfa : mg "law" = some (.ref fa))
    {od0 an0 od1 an1 od2 an2 od3 an3 od4 an4 od5 an5 od6 an6 od7 an7 od8 an8 od9 an9 od10 an10 od11 an11 od12 an12 od13 an13 od14 an14 od15 an15 od16 an16 od17 an17 od18 an18 od19 an19 od20 an20 od21 an21 od22 an22 od23 an23 od24 an24 od25 an25 od26 an26 od27 an27 od28 an28 od29 an29 od30 an30 od31 an31 od32 an32 od33 an33 od34 an34 od35 an35 od36 an36 od37 an37 od38 an38 od39 an39 od40 an40 od41 an41 od42 an42 od43 an43 od44 an44 od45 an45 od46 an46 od47 an47 od48 an48 od49 an49 od50 an50 od51 an51 od52 an52 od53 an53 od54 an54 : Option Addr} {sl0 sl1 sl2 sl3 sl4 sl5 sl6 sl7 sl8 sl9 sl10 sl11 sl12 sl13 sl14 sl15 sl16 sl17 sl18 sl19 sl20 sl21 sl22 sl23 sl24 sl25 sl26 sl27 sl28 sl29 sl30 sl31 sl32 sl33 sl34 sl35 sl36 sl37 sl38 sl39 sl40 sl41 sl42 sl43 sl44 sl45 sl46 sl47 sl48 sl49 sl50 sl51 sl52 sl53 sl54 : Array (Option Value)} {oc0 kV0 dc0 pm0 cd0 ct0 oc1 kV1 dc1 pm1 cd1 ct1 oc2 kV2 dc2 pm2 cd2 ct2 oc3 kV3 dc3 pm3 cd3 ct3 oc4 kV4 dc4 pm4 cd4 ct4 oc5 kV5 dc5 pm5 cd5 ct5 oc6 kV6 dc6 pm6 cd6 ct6 oc7 kV7 dc7 pm7 cd7 ct7 oc8 kV8 dc8 pm8 cd8 ct8 oc9 kV9 dc9 pm9 cd9 ct9 oc10 kV10 dc10 pm10 cd10 ct10 oc11 kV11 dc11 pm11 cd11 ct11 oc12 kV12 dc12 pm12 cd12 ct12 oc13 kV13 dc13 pm13 cd13 ct13 oc14 kV14 dc14 pm14 cd14 ct14 oc15 kV15 dc15 pm15 cd15 ct15 oc16 kV16 dc16 pm16 cd16 ct16 oc17 kV17 dc17 pm17 cd17 ct17 oc18 kV18 dc18 pm18 cd18 ct18 oc19 kV19 dc19 pm19 cd19 ct19 oc20 kV20 dc20 pm20 cd20 ct20 oc21 kV21 dc21 pm21 cd21 ct21 oc22 kV22 dc22 pm22 cd22 ct22 oc23 kV23 dc23 pm23 cd23 ct23 oc24 kV24 dc24 pm24 cd24 ct24 oc25 kV25 dc25 pm25 cd25 ct25 oc26 kV26 dc26 pm26 cd26 ct26 oc27 kV27 dc27 pm27 cd27 ct27 oc28 kV28 dc28 pm28 cd28 ct28 oc29 kV29 dc29 pm29 cd29 ct29 oc30 kV30 dc30 pm30 cd30 ct30 oc31 kV31 dc31 pm31 cd31 ct31 oc32 kV32 dc32 pm32 cd32 ct32 oc33 kV33 dc33 pm33 cd33 ct33 oc34 kV34 dc34 pm34 cd34 ct34 oc35 kV35 dc35 pm35 cd35 ct35 oc36 kV36 dc36 pm36 cd36 ct36 oc37 kV37 dc37 pm37 cd37 ct37 oc38 kV38 dc38 pm38 cd38 ct38 oc39 kV39 dc39 pm39 cd39 ct39 oc40 kV40 dc40 pm40 cd40 ct40 oc41 kV41 dc41 pm41 cd41 ct41 oc42 kV42 dc42 pm42 ct42 oc43 kV43 dc43 pm43 cd43 ct43 oc44 kV44 dc44 pm44 cd44 ct44 oc45 kV45 dc45 pm45 cd45 ct45 oc46 kV46 dc46 pm46 cd46 ct46 oc47 kV47 dc47 pm47 cd47 ct47 oc48 kV48 dc48 pm48 cd48 ct48 oc49 kV49 dc49 pm49 cd49 ct49 oc50 kV50 dc50 pm50 cd50 ct50 oc51 kV51 dc51 pm51 cd51 ct51 oc52 kV52 dc52 pm52 cd52 ct52 oc53 kV53 dc53 pm53 cd53 ct53 oc54 kV54 dc54 pm54 cd54 ct54 : Value}
    (a0 : PySem.W.nsIn K mainGlobals "_law_draw" = some (some (.ref f0))) (l0 : K.lookup f0 = some ⟨oc0, od0, .func (PySem.W.fnOf "_law_draw" "_law_draw" (defArgs s_law_draw) (defBody s_law_draw) (defScope s_law_draw) .none kV0 dc0 pm0 an0 cd0 ct0), sl0⟩) (c0 : PySem.W.codeIn K cd0 "_law_draw" = true) (k0 : PySem.W.keepIn K (.ref f0) = true)
    (a1 : PySem.W.nsIn K mainGlobals "_law_pot" = some (some (.ref f1))) (l1 : K.lookup f1 = some ⟨oc1, od1, .func (PySem.W.fnOf "_law_pot" "_law_pot" (defArgs s_law_pot) (defBody s_law_pot) (defScope s_law_pot) .none kV1 dc1 pm1 an1 cd1 ct1), sl1⟩) (c1 : PySem.W.codeIn K cd1 "_law_pot" = true) (k1 : PySem.W.keepIn K (.ref f1) = true)
    (a2 : PySem.W.nsIn K mainGlobals "_law_pick" = some (some (.ref f2))) (l2 : K.lookup f2 = some ⟨oc2, od2, .func (PySem.W.fnOf "_law_pick" "_law_pick" (defArgs s_law_pick) (defBody s_law_pick) (defScope s_law_pick) .none kV2 dc2 pm2 an2 cd2 ct2), sl2⟩) (c2 : PySem.W.codeIn K cd2 "_law_pick" = true) (k2 : PySem.W.keepIn K (.ref f2) = true)
    (a3 : PySem.W.nsIn K mainGlobals "is_count" = some (some (.ref f3))) (l3 : K.lookup f3 = some ⟨oc3, od3, .func (PySem.W.fnOf "is_count" "is_count" (defArgs s_is_count) (defBody s_is_count) (defScope s_is_count) .none kV3 dc3 pm3 an3 cd3 ct3), sl3⟩) (c3 : PySem.W.codeIn K cd3 "is_count" = true) (k3 : PySem.W.keepIn K (.ref f3) = true)
    (a4 : PySem.W.nsIn K mainGlobals "is_width" = some (some (.ref f4))) (l4 : K.lookup f4 = some ⟨oc4, od4, .func (PySem.W.fnOf "is_width" "is_width" (defArgs s_is_width) (defBody s_is_width) (defScope s_is_width) .none kV4 dc4 pm4 an4 cd4 ct4), sl4⟩) (c4 : PySem.W.codeIn K cd4 "is_width" = true) (k4 : PySem.W.keepIn K (.ref f4) = true)
    (a5 : PySem.W.nsIn K mainGlobals "is_bits" = some (some (.ref f5))) (l5 : K.lookup f5 = some ⟨oc5, od5, .func (PySem.W.fnOf "is_bits" "is_bits" (defArgs s_is_bits) (defBody s_is_bits) (defScope s_is_bits) .none kV5 dc5 pm5 an5 cd5 ct5), sl5⟩) (c5 : PySem.W.codeIn K cd5 "is_bits" = true) (k5 : PySem.W.keepIn K (.ref f5) = true)
    (a6 : PySem.W.nsIn K mainGlobals "is_name" = some (some (.ref f6))) (l6 : K.lookup f6 = some ⟨oc6, od6, .func (PySem.W.fnOf "is_name" "is_name" (defArgs s_is_name) (defBody s_is_name) (defScope s_is_name) .none kV6 dc6 pm6 an6 cd6 ct6), sl6⟩) (c6 : PySem.W.codeIn K cd6 "is_name" = true) (k6 : PySem.W.keepIn K (.ref f6) = true)
    (a7 : PySem.W.nsIn K mainGlobals "is_goal" = some (some (.ref f7))) (l7 : K.lookup f7 = some ⟨oc7, od7, .func (PySem.W.fnOf "is_goal" "is_goal" (defArgs s_is_goal) (defBody s_is_goal) (defScope s_is_goal) .none kV7 dc7 pm7 an7 cd7 ct7), sl7⟩) (c7 : PySem.W.codeIn K cd7 "is_goal" = true) (k7 : PySem.W.keepIn K (.ref f7) = true)
    (a8 : PySem.W.nsIn K mainGlobals "check_width" = some (some (.ref f8))) (l8 : K.lookup f8 = some ⟨oc8, od8, .func (PySem.W.fnOf "check_width" "check_width" (defArgs s_check_width) (defBody s_check_width) (defScope s_check_width) .none kV8 dc8 pm8 an8 cd8 ct8), sl8⟩) (c8 : PySem.W.codeIn K cd8 "check_width" = true) (k8 : PySem.W.keepIn K (.ref f8) = true)
    (a9 : PySem.W.nsIn K mainGlobals "is_stretch" = some (some (.ref f9))) (l9 : K.lookup f9 = some ⟨oc9, od9, .func (PySem.W.fnOf "is_stretch" "is_stretch" (defArgs s_is_stretch) (defBody s_is_stretch) (defScope s_is_stretch) .none kV9 dc9 pm9 an9 cd9 ct9), sl9⟩) (c9 : PySem.W.codeIn K cd9 "is_stretch" = true) (k9 : PySem.W.keepIn K (.ref f9) = true)
    (a10 : PySem.W.nsIn K mainGlobals "is_address" = some (some (.ref f10))) (l10 : K.lookup f10 = some ⟨oc10, od10, .func (PySem.W.fnOf "is_address" "is_address" (defArgs s_is_address) (defBody s_is_address) (defScope s_is_address) .none kV10 dc10 pm10 an10 cd10 ct10), sl10⟩) (c10 : PySem.W.codeIn K cd10 "is_address" = true) (k10 : PySem.W.keepIn K (.ref f10) = true)
    (a11 : PySem.W.nsIn K mainGlobals "check_stretch" = some (some (.ref f11))) (l11 : K.lookup f11 = some ⟨oc11, od11, .func (PySem.W.fnOf "check_stretch" "check_stretch" (defArgs s_check_stretch) (defBody s_check_stretch) (defScope s_check_stretch) .none kV11 dc11 pm11 an11 cd11 ct11), sl11⟩) (c11 : PySem.W.codeIn K cd11 "check_stretch" = true) (k11 : PySem.W.keepIn K (.ref f11) = true)
    (a12 : PySem.W.nsIn K mainGlobals "check_address" = some (some (.ref f12))) (l12 : K.lookup f12 = some ⟨oc12, od12, .func (PySem.W.fnOf "check_address" "check_address" (defArgs s_check_address) (defBody s_check_address) (defScope s_check_address) .none kV12 dc12 pm12 an12 cd12 ct12), sl12⟩) (c12 : PySem.W.codeIn K cd12 "check_address" = true) (k12 : PySem.W.keepIn K (.ref f12) = true)
    (a13 : PySem.W.nsIn K mainGlobals "first" = some (some (.ref f13))) (l13 : K.lookup f13 = some ⟨oc13, od13, .func (PySem.W.fnOf "first" "first" (defArgs s_first) (defBody s_first) (defScope s_first) .none kV13 dc13 pm13 an13 cd13 ct13), sl13⟩) (c13 : PySem.W.codeIn K cd13 "first" = true) (k13 : PySem.W.keepIn K (.ref f13) = true)
    (a14 : PySem.W.nsIn K mainGlobals "longest_beginning" = some (some (.ref f14))) (l14 : K.lookup f14 = some ⟨oc14, od14, .func (PySem.W.fnOf "longest_beginning" "longest_beginning" (defArgs s_longest_beginning) (defBody s_longest_beginning) (defScope s_longest_beginning) .none kV14 dc14 pm14 an14 cd14 ct14), sl14⟩) (c14 : PySem.W.codeIn K cd14 "longest_beginning" = true) (k14 : PySem.W.keepIn K (.ref f14) = true)
    (a15 : PySem.W.nsIn K mainGlobals "is_row" = some (some (.ref f15))) (l15 : K.lookup f15 = some ⟨oc15, od15, .func (PySem.W.fnOf "is_row" "is_row" (defArgs s_is_row) (defBody s_is_row) (defScope s_is_row) .none kV15 dc15 pm15 an15 cd15 ct15), sl15⟩) (c15 : PySem.W.codeIn K cd15 "is_row" = true) (k15 : PySem.W.keepIn K (.ref f15) = true)
    (a16 : PySem.W.nsIn K mainGlobals "is_rows" = some (some (.ref f16))) (l16 : K.lookup f16 = some ⟨oc16, od16, .func (PySem.W.fnOf "is_rows" "is_rows" (defArgs s_is_rows) (defBody s_is_rows) (defScope s_is_rows) .none kV16 dc16 pm16 an16 cd16 ct16), sl16⟩) (c16 : PySem.W.codeIn K cd16 "is_rows" = true) (k16 : PySem.W.keepIn K (.ref f16) = true)
    (a17 : PySem.W.nsIn K mainGlobals "check_free" = some (some (.ref f17))) (l17 : K.lookup f17 = some ⟨oc17, od17, .func (PySem.W.fnOf "check_free" "check_free" (defArgs s_check_free) (defBody s_check_free) (defScope s_check_free) .none kV17 dc17 pm17 an17 cd17 ct17), sl17⟩) (c17 : PySem.W.codeIn K cd17 "check_free" = true) (k17 : PySem.W.keepIn K (.ref f17) = true)
    (a18 : PySem.W.nsIn K mainGlobals "is_free" = some (some (.ref f18))) (l18 : K.lookup f18 = some ⟨oc18, od18, .func (PySem.W.fnOf "is_free" "is_free" (defArgs s_is_free) (defBody s_is_free) (defScope s_is_free) .none kV18 dc18 pm18 an18 cd18 ct18), sl18⟩) (c18 : PySem.W.codeIn K cd18 "is_free" = true) (k18 : PySem.W.keepIn K (.ref f18) = true)
    (a19 : PySem.W.nsIn K mainGlobals "common" = some (some (.ref f19))) (l19 : K.lookup f19 = some ⟨oc19, od19, .func (PySem.W.fnOf "common" "common" (defArgs s_common) (defBody s_common) (defScope s_common) .none kV19 dc19 pm19 an19 cd19 ct19), sl19⟩) (c19 : PySem.W.codeIn K cd19 "common" = true) (k19 : PySem.W.keepIn K (.ref f19) = true)
    (a20 : PySem.W.nsIn K mainGlobals "path" = some (some (.ref f20))) (l20 : K.lookup f20 = some ⟨oc20, od20, .func (PySem.W.fnOf "path" "path" (defArgs s_path) (defBody s_path) (defScope s_path) .none kV20 dc20 pm20 an20 cd20 ct20), sl20⟩) (c20 : PySem.W.codeIn K cd20 "path" = true) (k20 : PySem.W.keepIn K (.ref f20) = true)
    (a21 : PySem.W.nsIn K mainGlobals "_even_set" = some (some (.ref f21))) (l21 : K.lookup f21 = some ⟨oc21, od21, .func (PySem.W.fnOf "_even_set" "_even_set" (defArgs s_even_set) (defBody s_even_set) (defScope s_even_set) .none kV21 dc21 pm21 an21 cd21 ct21), sl21⟩) (c21 : PySem.W.codeIn K cd21 "_even_set" = true) (k21 : PySem.W.keepIn K (.ref f21) = true)
    (a22 : PySem.W.nsIn K mainGlobals "_of_halves" = some (some (.ref f22))) (l22 : K.lookup f22 = some ⟨oc22, od22, .func (PySem.W.fnOf "_of_halves" "_of_halves" (defArgs s_of_halves) (defBody s_of_halves) (defScope s_of_halves) .none kV22 dc22 pm22 an22 cd22 ct22), sl22⟩) (c22 : PySem.W.codeIn K cd22 "_of_halves" = true) (k22 : PySem.W.keepIn K (.ref f22) = true)
    (a23 : PySem.W.nsIn K mainGlobals "_holders" = some (some (.ref f23))) (l23 : K.lookup f23 = some ⟨oc23, od23, .func (PySem.W.fnOf "_holders" "_holders" (defArgs s_holders) (defBody s_holders) (defScope s_holders) .none kV23 dc23 pm23 an23 cd23 ct23), sl23⟩) (c23 : PySem.W.codeIn K cd23 "_holders" = true) (k23 : PySem.W.keepIn K (.ref f23) = true)
    (a24 : PySem.W.nsIn K mainGlobals "_is_even" = some (some (.ref f24))) (l24 : K.lookup f24 = some ⟨oc24, od24, .func (PySem.W.fnOf "_is_even" "_is_even" (defArgs s_is_even) (defBody s_is_even) (defScope s_is_even) .none kV24 dc24 pm24 an24 cd24 ct24), sl24⟩) (c24 : PySem.W.codeIn K cd24 "_is_even" = true) (k24 : PySem.W.keepIn K (.ref f24) = true)
    (a25 : PySem.W.nsIn K mainGlobals "_are_apart" = some (some (.ref f25))) (l25 : K.lookup f25 = some ⟨oc25, od25, .func (PySem.W.fnOf "_are_apart" "_are_apart" (defArgs s_are_apart) (defBody s_are_apart) (defScope s_are_apart) .none kV25 dc25 pm25 an25 cd25 ct25), sl25⟩) (c25 : PySem.W.codeIn K cd25 "_are_apart" = true) (k25 : PySem.W.keepIn K (.ref f25) = true)
    (a26 : PySem.W.nsIn K mainGlobals "_fork" = some (some (.ref f26))) (l26 : K.lookup f26 = some ⟨oc26, od26, .func (PySem.W.fnOf "_fork" "_fork" (defArgs s_fork) (defBody s_fork) (defScope s_fork) .none kV26 dc26 pm26 an26 cd26 ct26), sl26⟩) (c26 : PySem.W.codeIn K cd26 "_fork" = true) (k26 : PySem.W.keepIn K (.ref f26) = true)
    (a27 : PySem.W.nsIn K mainGlobals "_foot" = some (some (.ref f27))) (l27 : K.lookup f27 = some ⟨oc27, od27, .func (PySem.W.fnOf "_foot" "_foot" (defArgs s_foot) (defBody s_foot) (defScope s_foot) .none kV27 dc27 pm27 an27 cd27 ct27), sl27⟩) (c27 : PySem.W.codeIn K cd27 "_foot" = true) (k27 : PySem.W.keepIn K (.ref f27) = true)
    (a28 : PySem.W.nsIn K mainGlobals "_end" = some (some (.ref f28))) (l28 : K.lookup f28 = some ⟨oc28, od28, .func (PySem.W.fnOf "_end" "_end" (defArgs s_end) (defBody s_end) (defScope s_end) .none kV28 dc28 pm28 an28 cd28 ct28), sl28⟩) (c28 : PySem.W.codeIn K cd28 "_end" = true) (k28 : PySem.W.keepIn K (.ref f28) = true)
    (a29 : PySem.W.nsIn K mainGlobals "_begin" = some (some (.ref f29))) (l29 : K.lookup f29 = some ⟨oc29, od29, .func (PySem.W.fnOf "_begin" "_begin" (defArgs s_begin) (defBody s_begin) (defScope s_begin) .none kV29 dc29 pm29 an29 cd29 ct29), sl29⟩) (c29 : PySem.W.codeIn K cd29 "_begin" = true) (k29 : PySem.W.keepIn K (.ref f29) = true)
    (a30 : PySem.W.nsIn K mainGlobals "_pairs" = some (some (.ref f30))) (l30 : K.lookup f30 = some ⟨oc30, od30, .func (PySem.W.fnOf "_pairs" "_pairs" (defArgs s_pairs) (defBody s_pairs) (defScope s_pairs) .none kV30 dc30 pm30 an30 cd30 ct30), sl30⟩) (c30 : PySem.W.codeIn K cd30 "_pairs" = true) (k30 : PySem.W.keepIn K (.ref f30) = true)
    (a31 : PySem.W.nsIn K mainGlobals "_even_goals" = some (some (.ref f31))) (l31 : K.lookup f31 = some ⟨oc31, od31, .func (PySem.W.fnOf "_even_goals" "_even_goals" (defArgs s_even_goals) (defBody s_even_goals) (defScope s_even_goals) .none kV31 dc31 pm31 an31 cd31 ct31), sl31⟩) (c31 : PySem.W.codeIn K cd31 "_even_goals" = true) (k31 : PySem.W.keepIn K (.ref f31) = true)
    (a32 : PySem.W.nsIn K mainGlobals "sets_and_needs" = some (some (.ref f32))) (l32 : K.lookup f32 = some ⟨oc32, od32, .func (PySem.W.fnOf "sets_and_needs" "sets_and_needs" (defArgs s_sets_and_needs) (defBody s_sets_and_needs) (defScope s_sets_and_needs) .none kV32 dc32 pm32 an32 cd32 ct32), sl32⟩) (c32 : PySem.W.codeIn K cd32 "sets_and_needs" = true) (k32 : PySem.W.keepIn K (.ref f32) = true)
    {adD33 tD33 : Addr} {odD33 odE33 : Option Addr} {nnD33 nnE33 : Nat} {slD33 slE33 : Array (Option Value)} (a33 : PySem.W.nsIn K mainGlobals "fewest" = some (some (.ref f33))) (l33 : K.lookup f33 = some ⟨oc33, od33, .func (PySem.W.fnOf "fewest" "fewest" (defArgs s_fewest) (defBody s_fewest) (defScope s_fewest) (.ref adD33) kV33 dc33 pm33 an33 cd33 ct33), sl33⟩) (tDa33 : K.lookup adD33 = some ⟨.type "tuple", odD33, .seq #[.ref tD33] nnD33, slD33⟩) (tDb33 : K.lookup tD33 = some ⟨.type "tuple", odE33, .seq #[] nnE33, slE33⟩) (c33 : PySem.W.codeIn K cd33 "fewest" = true) (k33 : PySem.W.keepIn K (.ref f33) = true)
    {adD34 tD34 : Addr} {odD34 odE34 : Option Addr} {nnD34 nnE34 : Nat} {slD34 slE34 : Array (Option Value)} (a34 : PySem.W.nsIn K mainGlobals "pack" = some (some (.ref f34))) (l34 : K.lookup f34 = some ⟨oc34, od34, .func (PySem.W.fnOf "pack" "pack" (defArgs s_pack) (defBody s_pack) (defScope s_pack) (.ref adD34) kV34 dc34 pm34 an34 cd34 ct34), sl34⟩) (tDa34 : K.lookup adD34 = some ⟨.type "tuple", odD34, .seq #[.ref tD34] nnD34, slD34⟩) (tDb34 : K.lookup tD34 = some ⟨.type "tuple", odE34, .seq #[] nnE34, slE34⟩) (c34 : PySem.W.codeIn K cd34 "pack" = true) (k34 : PySem.W.keepIn K (.ref f34) = true)
    (a35 : PySem.W.nsIn K mainGlobals "_is_used_address" = some (some (.ref f35))) (l35 : K.lookup f35 = some ⟨oc35, od35, .func (PySem.W.fnOf "_is_used_address" "_is_used_address" (defArgs s_is_used_address) (defBody s_is_used_address) (defScope s_is_used_address) .none kV35 dc35 pm35 an35 cd35 ct35), sl35⟩) (c35 : PySem.W.codeIn K cd35 "_is_used_address" = true) (k35 : PySem.W.keepIn K (.ref f35) = true)
    (a36 : PySem.W.nsIn K mainGlobals "_is_pair" = some (some (.ref f36))) (l36 : K.lookup f36 = some ⟨oc36, od36, .func (PySem.W.fnOf "_is_pair" "_is_pair" (defArgs s_is_pair) (defBody s_is_pair) (defScope s_is_pair) .none kV36 dc36 pm36 an36 cd36 ct36), sl36⟩) (c36 : PySem.W.codeIn K cd36 "_is_pair" = true) (k36 : PySem.W.keepIn K (.ref f36) = true)
    (a37 : PySem.W.nsIn K mainGlobals "_keep_clear" = some (some (.ref f37))) (l37 : K.lookup f37 = some ⟨oc37, od37, .func (PySem.W.fnOf "_keep_clear" "_keep_clear" (defArgs s_keep_clear) (defBody s_keep_clear) (defScope s_keep_clear) .none kV37 dc37 pm37 an37 cd37 ct37), sl37⟩) (c37 : PySem.W.codeIn K cd37 "_keep_clear" = true) (k37 : PySem.W.keepIn K (.ref f37) = true)
    {adD38 tD38 : Addr} {odD38 odE38 : Option Addr} {nnD38 nnE38 : Nat} {slD38 slE38 : Array (Option Value)} (a38 : PySem.W.nsIn K mainGlobals "is_pack" = some (some (.ref f38))) (l38 : K.lookup f38 = some ⟨oc38, od38, .func (PySem.W.fnOf "is_pack" "is_pack" (defArgs s_is_pack) (defBody s_is_pack) (defScope s_is_pack) (.ref adD38) kV38 dc38 pm38 an38 cd38 ct38), sl38⟩) (tDa38 : K.lookup adD38 = some ⟨.type "tuple", odD38, .seq #[.ref tD38] nnD38, slD38⟩) (tDb38 : K.lookup tD38 = some ⟨.type "tuple", odE38, .seq #[] nnE38, slE38⟩) (c38 : PySem.W.codeIn K cd38 "is_pack" = true) (k38 : PySem.W.keepIn K (.ref f38) = true)
    (a39 : PySem.W.nsIn K mainGlobals "_law_bits" = some (some (.ref f39))) (l39 : K.lookup f39 = some ⟨oc39, od39, .func (PySem.W.fnOf "_law_bits" "_law_bits" (defArgs s_law_bits) (defBody s_law_bits) (defScope s_law_bits) .none kV39 dc39 pm39 an39 cd39 ct39), sl39⟩) (c39 : PySem.W.codeIn K cd39 "_law_bits" = true) (k39 : PySem.W.keepIn K (.ref f39) = true)
    (a40 : PySem.W.nsIn K mainGlobals "_law_stretches" = some (some (.ref f40))) (l40 : K.lookup f40 = some ⟨oc40, od40, .func (PySem.W.fnOf "_law_stretches" "_law_stretches" (defArgs s_law_stretches) (defBody s_law_stretches) (defScope s_law_stretches) .none kV40 dc40 pm40 an40 cd40 ct40), sl40⟩) (c40 : PySem.W.codeIn K cd40 "_law_stretches" = true) (k40 : PySem.W.keepIn K (.ref f40) = true)
    (a41 : PySem.W.nsIn K mainGlobals "_law_goal" = some (some (.ref f41))) (l41 : K.lookup f41 = some ⟨oc41, od41, .func (PySem.W.fnOf "_law_goal" "_law_goal" (defArgs s_law_goal) (defBody s_law_goal) (defScope s_law_goal) .none kV41 dc41 pm41 an41 cd41 ct41), sl41⟩) (c41 : PySem.W.codeIn K cd41 "_law_goal" = true) (k41 : PySem.W.keepIn K (.ref f41) = true)
    (a42 : PySem.W.nsIn K mainGlobals "_law_both" = some (some (.ref f42))) (l42 : K.lookup f42 = some ⟨oc42, od42, .func (PySem.W.fnOf "_law_both" "_law_both" (defArgs s_law_both) (defBody s_law_both) (defScope s_law_both) .none kV42 dc42 pm42 an42 (.ref cc1) ct42), sl42⟩) (c42 : PySem.W.codeIn K (.ref cc1) "_law_both" = true) (k42 : PySem.W.keepIn K (.ref f42) = true)
    (a43 : PySem.W.nsIn K mainGlobals "_law_sets" = some (some (.ref f43))) (l43 : K.lookup f43 = some ⟨oc43, od43, .func (PySem.W.fnOf "_law_sets" "_law_sets" (defArgs s_law_sets) (defBody s_law_sets) (defScope s_law_sets) .none kV43 dc43 pm43 an43 cd43 ct43), sl43⟩) (c43 : PySem.W.codeIn K cd43 "_law_sets" = true) (k43 : PySem.W.keepIn K (.ref f43) = true)
    (a44 : PySem.W.nsIn K mainGlobals "_law_fewest" = some (some (.ref f44))) (l44 : K.lookup f44 = some ⟨oc44, od44, .func (PySem.W.fnOf "_law_fewest" "_law_fewest" (defArgs s_law_fewest) (defBody s_law_fewest) (defScope s_law_fewest) .none kV44 dc44 pm44 an44 cd44 ct44), sl44⟩) (c44 : PySem.W.codeIn K cd44 "_law_fewest" = true) (k44 : PySem.W.keepIn K (.ref f44) = true)
    (a45 : PySem.W.nsIn K mainGlobals "_law_world" = some (some (.ref f45))) (l45 : K.lookup f45 = some ⟨oc45, od45, .func (PySem.W.fnOf "_law_world" "_law_world" (defArgs s_law_world) (defBody s_law_world) (defScope s_law_world) .none kV45 dc45 pm45 an45 cd45 ct45), sl45⟩) (c45 : PySem.W.codeIn K cd45 "_law_world" = true) (k45 : PySem.W.keepIn K (.ref f45) = true)
    (a46 : PySem.W.nsIn K mainGlobals "_law_path" = some (some (.ref f46))) (l46 : K.lookup f46 = some ⟨oc46, od46, .func (PySem.W.fnOf "_law_path" "_law_path" (defArgs s_law_path) (defBody s_law_path) (defScope s_law_path) .none kV46 dc46 pm46 an46 cd46 ct46), sl46⟩) (c46 : PySem.W.codeIn K cd46 "_law_path" = true) (k46 : PySem.W.keepIn K (.ref f46) = true)
    (a47 : PySem.W.nsIn K mainGlobals "_law_is_spot" = some (some (.ref f47))) (l47 : K.lookup f47 = some ⟨oc47, od47, .func (PySem.W.fnOf "_law_is_spot" "_law_is_spot" (defArgs s_law_is_spot) (defBody s_law_is_spot) (defScope s_law_is_spot) .none kV47 dc47 pm47 an47 cd47 ct47), sl47⟩) (c47 : PySem.W.codeIn K cd47 "_law_is_spot" = true) (k47 : PySem.W.keepIn K (.ref f47) = true)
    (a48 : PySem.W.nsIn K mainGlobals "_law_goes" = some (some (.ref f48))) (l48 : K.lookup f48 = some ⟨oc48, od48, .func (PySem.W.fnOf "_law_goes" "_law_goes" (defArgs s_law_goes) (defBody s_law_goes) (defScope s_law_goes) .none kV48 dc48 pm48 an48 cd48 ct48), sl48⟩) (c48 : PySem.W.codeIn K cd48 "_law_goes" = true) (k48 : PySem.W.keepIn K (.ref f48) = true)
    (a49 : PySem.W.nsIn K mainGlobals "_law_noted" = some (some (.ref f49))) (l49 : K.lookup f49 = some ⟨oc49, od49, .func (PySem.W.fnOf "_law_noted" "_law_noted" (defArgs s_law_noted) (defBody s_law_noted) (defScope s_law_noted) .none kV49 dc49 pm49 an49 cd49 ct49), sl49⟩) (c49 : PySem.W.codeIn K cd49 "_law_noted" = true) (k49 : PySem.W.keepIn K (.ref f49) = true)
    (a50 : PySem.W.nsIn K mainGlobals "_law_is_pack" = some (some (.ref f50))) (l50 : K.lookup f50 = some ⟨oc50, od50, .func (PySem.W.fnOf "_law_is_pack" "_law_is_pack" (defArgs s_law_is_pack) (defBody s_law_is_pack) (defScope s_law_is_pack) .none kV50 dc50 pm50 an50 cd50 ct50), sl50⟩) (c50 : PySem.W.codeIn K cd50 "_law_is_pack" = true) (k50 : PySem.W.keepIn K (.ref f50) = true)
    (a51 : PySem.W.nsIn K mainGlobals "_law_bent" = some (some (.ref f51))) (l51 : K.lookup f51 = some ⟨oc51, od51, .func (PySem.W.fnOf "_law_bent" "_law_bent" (defArgs s_law_bent) (defBody s_law_bent) (defScope s_law_bent) .none kV51 dc51 pm51 an51 cd51 ct51), sl51⟩) (c51 : PySem.W.codeIn K cd51 "_law_bent" = true) (k51 : PySem.W.keepIn K (.ref f51) = true)
    (a52 : PySem.W.nsIn K mainGlobals "_law_odd" = some (some (.ref f52))) (l52 : K.lookup f52 = some ⟨oc52, od52, .func (PySem.W.fnOf "_law_odd" "_law_odd" (defArgs s_law_odd) (defBody s_law_odd) (defScope s_law_odd) .none kV52 dc52 pm52 an52 cd52 ct52), sl52⟩) (c52 : PySem.W.codeIn K cd52 "_law_odd" = true) (k52 : PySem.W.keepIn K (.ref f52) = true)
    (a53 : PySem.W.nsIn K mainGlobals "_law_right" = some (some (.ref f53))) (l53 : K.lookup f53 = some ⟨oc53, od53, .func (PySem.W.fnOf "_law_right" "_law_right" (defArgs s_law_right) (defBody s_law_right) (defScope s_law_right) .none kV53 dc53 pm53 an53 cd53 ct53), sl53⟩) (c53 : PySem.W.codeIn K cd53 "_law_right" = true) (k53 : PySem.W.keepIn K (.ref f53) = true)
    (a54 : PySem.W.nsIn K mainGlobals "law" = some (some (.ref f54))) (l54 : K.lookup f54 = some ⟨oc54, od54, .func (PySem.W.fnOf "law" "law" (defArgs s_law) (defBody s_law) (defScope s_law) .none kV54 dc54 pm54 an54 cd54 ct54), sl54⟩) (c54 : PySem.W.codeIn K cd54 "law" = true) (k54 : PySem.W.keepIn K (.ref f54) = true)
    (z0 : PySem.W.nsIn K mainGlobals "len" = some none)
    (z1 : PySem.W.nsIn K mainGlobals "abs" = some none)
    (z2 : PySem.W.nsIn K mainGlobals "max" = some none)
    (z3 : PySem.W.nsIn K mainGlobals "min" = some none)
    (z4 : PySem.W.nsIn K mainGlobals "int" = some none)
    (z5 : PySem.W.nsIn K mainGlobals "divmod" = some none)
    (z6 : PySem.W.nsIn K mainGlobals "range" = some none)
    (z7 : PySem.W.nsIn K mainGlobals "repr" = some none)
    (z8 : PySem.W.nsIn K mainGlobals "all" = some none)
    (z9 : PySem.W.nsIn K mainGlobals "str" = some none)
    (z10 : PySem.W.nsIn K mainGlobals "bool" = some none)
    (z11 : PySem.W.nsIn K mainGlobals "isinstance" = some none)
    (z12 : PySem.W.nsIn K mainGlobals "tuple" = some none)
    (z13 : PySem.W.nsIn K mainGlobals "dict" = some none)
    (z14 : PySem.W.nsIn K mainGlobals "list" = some none)
    (z15 : PySem.W.nsIn K mainGlobals "sorted" = some none)
    (z16 : PySem.W.nsIn K mainGlobals "zip" = some none)
    (z17 : PySem.W.nsIn K mainGlobals "enumerate" = some none)
    (z18 : PySem.W.nsIn K mainGlobals "sum" = some none)
    (z19 : PySem.W.nsIn K mainGlobals "any" = some none)
    (z20 : PySem.W.nsIn K mainGlobals "reversed" = some none)
    {tk_MOST_WIDTH : Tok} (m_MOST_WIDTH : PySem.W.nsIn K mainGlobals "MOST_WIDTH" = some (some (.int 100 tk_MOST_WIDTH)))
    {tk_MOST_LETTERS : Tok} (m_MOST_LETTERS : PySem.W.nsIn K mainGlobals "MOST_LETTERS" = some (some (.int 6 tk_MOST_LETTERS)))
    {tk_LETTERS : Tok} (m_LETTERS : PySem.W.nsIn K mainGlobals "LETTERS" = some (some (.str "abcdefghijklmnopqrstuvwxyz" tk_LETTERS)))
    {ad_NO_NAMES : Addr} {od_NO_NAMES : Option Addr} {nn_NO_NAMES : Nat} {sl_NO_NAMES : Array (Option Value)} {tk_NO_NAMES0 tk_NO_NAMES1 tk_NO_NAMES2 tk_NO_NAMES3 tk_NO_NAMES4 : Tok} (m_NO_NAMES : PySem.W.nsIn K mainGlobals "NO_NAMES" = some (some (.ref ad_NO_NAMES))) (t_NO_NAMES : K.lookup ad_NO_NAMES = some ⟨.type "tuple", od_NO_NAMES, .seq #[.str "home" tk_NO_NAMES0, .str "hole" tk_NO_NAMES1, .str "ring" tk_NO_NAMES2, .str "all" tk_NO_NAMES3, .str "none" tk_NO_NAMES4] nn_NO_NAMES, sl_NO_NAMES⟩)
    {ad_ENDS : Addr} {od_ENDS : Option Addr} {nn_ENDS : Nat} {sl_ENDS : Array (Option Value)} {tk_ENDS0 tk_ENDS1 : Tok} (m_ENDS : PySem.W.nsIn K mainGlobals "ENDS" = some (some (.ref ad_ENDS))) (t_ENDS : K.lookup ad_ENDS = some ⟨.type "tuple", od_ENDS, .seq #[.str "home" tk_ENDS0, .str "hole" tk_ENDS1] nn_ENDS, sl_ENDS⟩)
    {tk_MOST_FREE : Tok} (m_MOST_FREE : PySem.W.nsIn K mainGlobals "MOST_FREE" = some (some (.int 20 tk_MOST_FREE)))
    {tk_ALL : Tok} (m_ALL : PySem.W.nsIn K mainGlobals "ALL" = some (some (.str "all" tk_ALL)))
    {C : Addr} (aC : PySem.W.nsIn K mainGlobals "Table" = some (some (.ref C)))
    (pg : PySem.W.plainGet K C Str.empty = true) (hd : PySem.W.hasDictIn K C = true) (po : PySem.W.plainOver K C = true) (sa : PySem.W.findIn K (.ref C) "__setattr__" = some (some (.builtin "object.__setattr__"))) (mk : PySem.W.makesIn K C = true) (kc : PySem.W.keepIn K (.ref C) = true) (sf : PySem.W.selfFirst K C = true)
    (nf0 : PySem.W.findIn K (.ref C) "_width" = some none)
    (nf1 : PySem.W.findIn K (.ref C) "_rows" = some none)
    {tkc0 : Tok} (cn0 : PySem.W.findIn K (.ref C) "MOST_ROWS" = some (some (.int 40 tkc0))) (cg0 : PySem.W.specialIn K (.int 40 tkc0) "__get__" = some none)
    {fm0 : Addr} {odm0 anm0 : Option Addr} {slm0 : Array (Option Value)} {ocm0 kVm0 dcm0 pmm0 cdm0 ctm0 : Value} {adI : Addr} {odI : Option Addr} {nnI : Nat} {slI : Array (Option Value)}
    (am0 : PySem.W.findIn K (.ref C) "__init__" = some (some (.ref fm0))) (im0 : PySem.W.isFn K (.ref fm0) = true) (lm0 : K.lookup fm0 = some ⟨ocm0, odm0, .func (PySem.W.fnOf "__init__" "Table.__init__" (defArgs s_Tableinit) (defBody s_Tableinit) (defScope s_Tableinit) (.ref adI) kVm0 dcm0 pmm0 anm0 cdm0 ctm0), slm0⟩) (cm0 : PySem.W.codeIn K cdm0 "Table.__init__" = true) (km0 : PySem.W.keepIn K (.ref fm0) = true)
    (tI : K.lookup adI = some ⟨.type "tuple", odI, .seq #[.none] nnI, slI⟩)
    {fm1 : Addr} {odm1 anm1 : Option Addr} {slm1 : Array (Option Value)} {ocm1 kVm1 dcm1 pmm1 cdm1 ctm1 : Value}
    (am1 : PySem.W.findIn K (.ref C) "row" = some (some (.ref fm1))) (im1 : PySem.W.isFn K (.ref fm1) = true) (lm1 : K.lookup fm1 = some ⟨ocm1, odm1, .func (PySem.W.fnOf "row" "Table.row" (defArgs s_Table_row) (defBody s_Table_row) (defScope s_Table_row) .none kVm1 dcm1 pmm1 anm1 cdm1 ctm1), slm1⟩) (cm1 : PySem.W.codeIn K cdm1 "Table.row" = true) (km1 : PySem.W.keepIn K (.ref fm1) = true)
    {fm2 : Addr} {odm2 anm2 : Option Addr} {slm2 : Array (Option Value)} {ocm2 kVm2 dcm2 pmm2 cdm2 ctm2 : Value}
    (am2 : PySem.W.findIn K (.ref C) "__call__" = some (some (.ref fm2))) (im2 : PySem.W.isFn K (.ref fm2) = true) (lm2 : K.lookup fm2 = some ⟨ocm2, odm2, .func (PySem.W.fnOf "__call__" "Table.__call__" (defArgs s_Table__call__) (defBody s_Table__call__) (defScope s_Table__call__) .none kVm2 dcm2 pmm2 anm2 cdm2 ctm2), slm2⟩) (cm2 : PySem.W.codeIn K cdm2 "Table.__call__" = true) (km2 : PySem.W.keepIn K (.ref fm2) = true)
    {fm3 : Addr} {odm3 anm3 : Option Addr} {slm3 : Array (Option Value)} {ocm3 kVm3 dcm3 pmm3 cdm3 ctm3 : Value}
    (am3 : PySem.W.findIn K (.ref C) "rows" = some (some (.ref fm3))) (im3 : PySem.W.isFn K (.ref fm3) = true) (lm3 : K.lookup fm3 = some ⟨ocm3, odm3, .func (PySem.W.fnOf "rows" "Table.rows" (defArgs s_Table_rows) (defBody s_Table_rows) (defScope s_Table_rows) .none kVm3 dcm3 pmm3 anm3 cdm3 ctm3), slm3⟩) (cm3 : PySem.W.codeIn K cdm3 "Table.rows" = true) (km3 : PySem.W.keepIn K (.ref fm3) = true)
    {fm4 : Addr} {odm4 anm4 : Option Addr} {slm4 : Array (Option Value)} {ocm4 kVm4 dcm4 pmm4 cdm4 ctm4 : Value}
    (am4 : PySem.W.findIn K (.ref C) "__repr__" = some (some (.ref fm4))) (im4 : PySem.W.isFn K (.ref fm4) = true) (lm4 : K.lookup fm4 = some ⟨ocm4, odm4, .func (PySem.W.fnOf "__repr__" "Table.__repr__" (defArgs s_Table__repr__) (defBody s_Table__repr__) (defScope s_Table__repr__) .none kVm4 dcm4 pmm4 anm4 cdm4 ctm4), slm4⟩) (cm4 : PySem.W.codeIn K cdm4 "Table.__repr__" = true) (km4 : PySem.W.keepIn K (.ref fm4) = true)
    {pW fmW : Addr} {rsW : List Value} {odmW anmW : Option Addr} {slmW : Array (Option Value)} {ocmW kVmW dcmW pmmW cdmW ctmW : Value} (apW : PySem.W.findIn K (.ref C) "width" = some (some (.ref pW))) (gpW : PySem.W.specialIn K (.ref pW) "__get__" = some (some (.builtin "property.__get__"))) (tpW : PySem.W.takesIn K (.ref pW) = some true) (rpW : PySem.W.recIn K pW "property" = some (.ref fmW :: rsW)) (lmW : K.lookup fmW = some ⟨ocmW, odmW, .func (PySem.W.fnOf "width" "Table.width" (defArgs s_Table_width) (defBody s_Table_width) (defScope s_Table_width) .none kVmW dcmW pmmW anmW cdmW ctmW), slmW⟩) (cmW : PySem.W.codeIn K cdmW "Table.width" = true) (kmW : PySem.W.keepIn K (.ref fmW) = true)
    : ∃ (fd : FuncData) (sp : Sp), (∀ (s : Shared) (v : Value), BindsTo s fd ⟨[v], []⟩ [("_law_script", v)]) ∧ (∀ (H : Hp) (a : Addr) (ns : List Int), ns.length ≤ 63 → SqL K H a (ns.map V.int) → (∀ p ∈ [(cc1, P1)], H p.2 = some (.tbl #[])) → sp [.ref a] H (fun v _ => v = .bl true) fun _ _ _ => False) ∧
      ∀ base : Heap, K.In base → base.Ns mainGlobals mg → (∀ p ∈ [(cc1, P1)], TabB base mg p.1 p.2) → FnG l.prog w K mg base CX0 12 fa fd ["_law_script"] sp := by
  have e := hfa.symm.trans (PySem.W.mg_of X G a54)
  cases e
  have T : Txt K mg := ⟨PySem.W.mg_none_of X G z0, PySem.W.mg_none_of X G z1, PySem.W.mg_none_of X G z2, PySem.W.mg_none_of X G z3, PySem.W.mg_none_of X G z4, PySem.W.mg_none_of X G z5, PySem.W.mg_none_of X G z6, PySem.W.mg_none_of X G z7, PySem.W.mg_none_of X G z8, PySem.W.mg_none_of X G z9, PySem.W.mg_none_of X G z10, PySem.W.mg_none_of X G z11, PySem.W.mg_none_of X G z12, PySem.W.mg_none_of X G z13, PySem.W.mg_none_of X G z14, PySem.W.mg_none_of X G z15, PySem.W.mg_none_of X G z16, PySem.W.mg_none_of X G z17, PySem.W.mg_none_of X G z18, PySem.W.mg_none_of X G z19, PySem.W.mg_none_of X G z20⟩
  have CC : Cst K mg := ⟨⟨_, PySem.W.mg_of X G m_MOST_WIDTH, ⟨_, rfl⟩⟩, ⟨_, PySem.W.mg_of X G m_MOST_LETTERS, ⟨_, rfl⟩⟩, ⟨_, PySem.W.mg_of X G m_LETTERS, ⟨_, rfl⟩⟩, ad_NO_NAMES, ⟨_, PySem.W.mg_of X G m_NO_NAMES, rfl⟩, fun _ => .inr ⟨_, _, _, t_NO_NAMES, rfl, rfl, szl (Nat.le_of_ble_eq_true rfl), .cons ⟨_, rfl⟩ (.cons ⟨_, rfl⟩ (.cons ⟨_, rfl⟩ (.cons ⟨_, rfl⟩ (.cons ⟨_, rfl⟩ .nil))))⟩, ad_ENDS, ⟨_, PySem.W.mg_of X G m_ENDS, rfl⟩, fun _ => .inr ⟨_, _, _, t_ENDS, rfl, rfl, szl (Nat.le_of_ble_eq_true rfl), .cons ⟨_, rfl⟩ (.cons ⟨_, rfl⟩ .nil)⟩⟩
  have cF : ∃ u, mg "MOST_FREE" = some u ∧ RelV (.int 20) u := ⟨_, PySem.W.mg_of X G m_MOST_FREE, ⟨_, rfl⟩⟩
  have cA : ∃ u, mg "ALL" = some u ∧ RelV (.str "all") u := ⟨_, PySem.W.mg_of X G m_ALL, ⟨_, rfl⟩⟩
  have F0 := fun_mk (st := s_law_draw) l0 c0 k0
  have F1 := fun_mk (st := s_law_pot) l1 c1 k1
  have F2 := fun_mk (st := s_law_pick) l2 c2 k2
  have F3 := fun_mk (st := s_is_count) l3 c3 k3
  have F4 := fun_mk (st := s_is_width) l4 c4 k4
  have F5 := fun_mk (st := s_is_bits) l5 c5 k5
  have F6 := fun_mk (st := s_is_name) l6 c6 k6
  have F7 := fun_mk (st := s_is_goal) l7 c7 k7
  have F8 := fun_mk (st := s_check_width) l8 c8 k8
  have F9 := fun_mk (st := s_is_stretch) l9 c9 k9
  have F10 := fun_mk (st := s_is_address) l10 c10 k10
  have F11 := fun_mk (st := s_check_stretch) l11 c11 k11
  have F12 := fun_mk (st := s_check_address) l12 c12 k12
  have F13 := fun_mk (st := s_first) l13 c13 k13
  have F14 := fun_mk (st := s_longest_beginning) l14 c14 k14
  have F15 := fun_mk (st := s_is_row) l15 c15 k15
  have F16 := fun_mk (st := s_is_rows) l16 c16 k16
  have F17 := fun_mk (st := s_check_free) l17 c17 k17
  have F18 := fun_mk (st := s_is_free) l18 c18 k18
  have F19 := fun_mk (st := s_common) l19 c19 k19
  have F20 := fun_mk (st := s_path) l20 c20 k20
  have F21 := fun_mk (st := s_even_set) l21 c21 k21
  have F22 := fun_mk (st := s_of_halves) l22 c22 k22
  have F23 := fun_mk (st := s_holders) l23 c23 k23
  have F24 := fun_mk (st := s_is_even) l24 c24 k24
  have F25 := fun_mk (st := s_are_apart) l25 c25 k25
  have F26 := fun_mk (st := s_fork) l26 c26 k26
  have F27 := fun_mk (st := s_foot) l27 c27 k27
  have F28 := fun_mk (st := s_end) l28 c28 k28
  have F29 := fun_mk (st := s_begin) l29 c29 k29
  have F30 := fun_mk (st := s_pairs) l30 c30 k30
  have F31 := fun_mk (st := s_even_goals) l31 c31 k31
  have F32 := fun_mk (st := s_sets_and_needs) l32 c32 k32
  have F33 : FunD K "fewest" "fewest" (defArgs s_fewest) (defBody s_fewest) (defScope s_fewest) [.ref tD33] [] f33 _ := ⟨⟨_, _, _, _, _, _, _, _, _, _, rfl, l33, c33, .inr ⟨by simp, adD33, _, [.ref tD33], nnD33, rfl, tDa33, rfl, .cons rfl .nil⟩, .inl rfl⟩, k33⟩
  have F34 : FunD K "pack" "pack" (defArgs s_pack) (defBody s_pack) (defScope s_pack) [.ref tD34] [] f34 _ := ⟨⟨_, _, _, _, _, _, _, _, _, _, rfl, l34, c34, .inr ⟨by simp, adD34, _, [.ref tD34], nnD34, rfl, tDa34, rfl, .cons rfl .nil⟩, .inl rfl⟩, k34⟩
  have F35 := fun_mk (st := s_is_used_address) l35 c35 k35
  have F36 := fun_mk (st := s_is_pair) l36 c36 k36
  have F37 := fun_mk (st := s_keep_clear) l37 c37 k37
  have F38 : FunD K "is_pack" "is_pack" (defArgs s_is_pack) (defBody s_is_pack) (defScope s_is_pack) [.ref tD38] [] f38 _ := ⟨⟨_, _, _, _, _, _, _, _, _, _, rfl, l38, c38, .inr ⟨by simp, adD38, _, [.ref tD38], nnD38, rfl, tDa38, rfl, .cons rfl .nil⟩, .inl rfl⟩, k38⟩
  have F39 := fun_mk (st := s_law_bits) l39 c39 k39
  have F40 := fun_mk (st := s_law_stretches) l40 c40 k40
  have F41 := fun_mk (st := s_law_goal) l41 c41 k41
  have F42 := fun_mk (st := s_law_both) l42 c42 k42
  have F43 := fun_mk (st := s_law_sets) l43 c43 k43
  have F44 := fun_mk (st := s_law_fewest) l44 c44 k44
  have F45 := fun_mk (st := s_law_world) l45 c45 k45
  have F46 := fun_mk (st := s_law_path) l46 c46 k46
  have F47 := fun_mk (st := s_law_is_spot) l47 c47 k47
  have F48 := fun_mk (st := s_law_goes) l48 c48 k48
  have F49 := fun_mk (st := s_law_noted) l49 c49 k49
  have F50 := fun_mk (st := s_law_is_pack) l50 c50 k50
  have F51 := fun_mk (st := s_law_bent) l51 c51 k51
  have F52 := fun_mk (st := s_law_odd) l52 c52 k52
  have F53 := fun_mk (st := s_law_right) l53 c53 k53
  have F54 := fun_mk (st := s_law) l54 c54 k54
  have FM0 : FunD K "__init__" "Table.__init__" (defArgs s_Tableinit) (defBody s_Tableinit) (defScope s_Tableinit) [.non] [] fm0 _ := ⟨⟨_, _, _, _, _, _, _, _, _, _, rfl, lm0, cm0, .inr ⟨by simp, adI, _, [.none], nnI, rfl, tI, rfl, .cons rfl .nil⟩, .inl rfl⟩, km0⟩
  have FM1 := fun_mk (st := s_Table_row) lm1 cm1 km1
  have FM2 := fun_mk (st := s_Table__call__) lm2 cm2 km2
  have FM3 := fun_mk (st := s_Table_rows) lm3 cm3 km3
  have FM4 := fun_mk (st := s_Table__repr__) lm4 cm4 km4
  refine ⟨PySem.W.fnOf "law" "law" (defArgs s_law) (defBody s_law) (defScope s_law) .none kV54 dc54 pm54 an54 cd54 ct54, spLawT K [(P1, (("_law_both" : Str) ++ ".<locals>.") ++ "<lambda>")], fun s v => .of_eq rfl, fun H a ns hl hs hp => ⟨a, ns, rfl, hs, hl, ?_, fun _ => rfl⟩, fun base _ _ TB => ?_⟩
  · intro p hp'
    simp only [List.mem_cons, List.not_mem_nil, or_false] at hp'
    rcases hp' with rfl
    · exact TabS.nil (hp _ (.head _))
  have hu1 : ∀ p ∈ ([(P1, (("_law_both" : Str) ++ ".<locals>.") ++ "<lambda>")] : List (Addr × Str)), p.1 = P1 → p.2 = (("_law_both" : Str) ++ ".<locals>.") ++ "<lambda>" := fun p hp e => by
    simp only [List.mem_cons, List.not_mem_nil, or_false] at hp
    rcases hp with rfl
    · rfl
  have n_law_draw := ok_draw (P := l.prog) (w := w) (base := base) F0 (PySem.W.mg_of X G a0) T
  have n_law_pot := ok_pot (P := l.prog) (w := w) (base := base) F1 (PySem.W.mg_of X G a1) T
  have n_law_pick := ok_among (P := l.prog) (w := w) (base := base) F2 (PySem.W.mg_of X G a2) T n_law_draw
  have n_is_count := ok_is_count (P := l.prog) (w := w) (base := base) F3 (PySem.W.mg_of X G a3) T
  have n_is_width := ok_is_width (P := l.prog) (w := w) (base := base) F4 (PySem.W.mg_of X G a4) T CC n_is_count
  have n_is_bits := ok_is_bits (P := l.prog) (w := w) (base := base) F5 (PySem.W.mg_of X G a5) T
  have n_is_name := ok_is_name (P := l.prog) (w := w) (base := base) F6 (PySem.W.mg_of X G a6) T CC
  have n_is_goal := ok_is_goal (P := l.prog) (w := w) (base := base) F7 (PySem.W.mg_of X G a7) T CC n_is_name
  have n_check_width := ok_check_width (P := l.prog) (w := w) (base := base) F8 (PySem.W.mg_of X G a8) T n_is_width
  have n_is_stretch := ok_is_stretch (P := l.prog) (w := w) (base := base) F9 (PySem.W.mg_of X G a9) T n_check_width n_is_bits
  have n_is_address := ok_is_address (P := l.prog) (w := w) (base := base) F10 (PySem.W.mg_of X G a10) T n_is_stretch
  have n_check_stretch := ok_check_stretch (P := l.prog) (w := w) (base := base) F11 (PySem.W.mg_of X G a11) T n_is_stretch
  have n_check_address := ok_check_address (P := l.prog) (w := w) (base := base) F12 (PySem.W.mg_of X G a12) T n_is_address
  have n_first := ok_first (P := l.prog) (w := w) (base := base) F13 (PySem.W.mg_of X G a13) T n_check_stretch
  have n_longest_beginning := ok_longest (P := l.prog) (w := w) (base := base) F14 (PySem.W.mg_of X G a14) T
  have n_is_row := ok_is_row (P := l.prog) (w := w) (base := base) F15 (PySem.W.mg_of X G a15) T n_is_stretch n_is_goal
  have n_is_rows := ok_is_rows (P := l.prog) (w := w) (base := base) F16 (PySem.W.mg_of X G a16) T n_is_stretch n_is_goal
  have n_check_free := ok_check_free (P := l.prog) (w := w) (base := base) F17 (PySem.W.mg_of X G a17) T cF n_check_width n_is_stretch
  have n_is_free := ok_is_free (P := l.prog) (w := w) (base := base) F18 (PySem.W.mg_of X G a18) T
  have n_common := ok_common (P := l.prog) (w := w) (base := base) F19 (PySem.W.mg_of X G a19) T n_is_bits
  have n_path := ok_path (P := l.prog) (w := w) (base := base) F20 (PySem.W.mg_of X G a20) T n_check_width n_is_address n_check_address n_common
  have n_even_set := ok_even_set (P := l.prog) (w := w) (base := base) F21 (PySem.W.mg_of X G a21) T cA
  have n_of_halves := ok_halves (P := l.prog) (w := w) (base := base) F22 (PySem.W.mg_of X G a22) T cA
  have n_holders := ok_holders (P := l.prog) (w := w) (base := base) F23 (PySem.W.mg_of X G a23) T
  have n_is_even := ok_is_even (P := l.prog) (w := w) (base := base) F24 (PySem.W.mg_of X G a24) T
  have n_are_apart := ok_are_apart (P := l.prog) (w := w) (base := base) F25 (PySem.W.mg_of X G a25) T
  have n_fork := ok_fork (P := l.prog) (w := w) (base := base) F26 (PySem.W.mg_of X G a26) T cA n_is_even
  have n_foot := ok_foot (P := l.prog) (w := w) (base := base) F27 (PySem.W.mg_of X G a27) T n_is_even n_fork n_first
  have n_end := ok_end (P := l.prog) (w := w) (base := base) F28 (PySem.W.mg_of X G a28) T n_foot
  have n_begin := ok_begin (P := l.prog) (w := w) (base := base) F29 (PySem.W.mg_of X G a29) T n_foot
  have n_pairs := ok_pairs (P := l.prog) (w := w) (base := base) F30 (PySem.W.mg_of X G a30) T n_fork n_is_even n_are_apart n_begin n_end
  have n_long2 := ok_long (P := l.prog) (w := w) (base := base) F14 (PySem.W.mg_of X G a14) T
  have TC : TabC K C := ⟨⟨pg, hd, po, sa⟩, nf0, nf1, ⟨_, ⟨cn0, ⟨_, rfl⟩, cg0, by decide +kernel⟩⟩, sf⟩
  have okI := ok_init (P := l.prog) (w := w) (base := base) FM0 T TC n_check_width n_is_rows
  have b_Tab := b_table FM0 ⟨mk, am0, im0, kc⟩ (PySem.W.mg_of X G aC) okI
  have c_row := ok_rowof (P := l.prog) (w := w) (base := base) FM1 ⟨am1, im1, km1⟩ T TC n_check_address n_long2
  have c_call := ok_call (P := l.prog) (w := w) (base := base) FM2 ⟨am2, im2, km2⟩ T TC c_row
  have c_rows := ok_trows (P := l.prog) (w := w) (base := base) FM3 ⟨am3, im3, km3⟩ T TC
  have c_repr := ok_trepr0 (P := l.prog) (w := w) (base := base) FM4 ⟨am4, im4, km4⟩ T TC
  have FMW := fun_mk (st := s_Table_width) lmW cmW kmW
  have c_width := ok_width (P := l.prog) (w := w) (base := base) FMW ⟨apW, gpW, tpW, ⟨_, rpW⟩⟩ T TC
  have n_even_goals := ok_even_goals (P := l.prog) (w := w) (base := base) F31 (PySem.W.mg_of X G a31) T TC cA c_rows
  have n_sets_and_needs := ok_sets (P := l.prog) (w := w) (base := base) F32 (PySem.W.mg_of X G a32) T TC n_check_free n_holders n_even_goals n_even_set n_of_halves c_width c_rows
  have n_fewest := ok_fewest (P := l.prog) (w := w) (base := base) F33 T cA n_sets_and_needs
  have b_few2 := b_few2 F33 k33 (PySem.W.mg_of X G a33) n_fewest
  have n_pack := ok_pack (P := l.prog) (w := w) (base := base) F34 T TC cA n_sets_and_needs n_end n_pairs c_width
  have b_pk2 := b_pk2 F34 k34 (PySem.W.mg_of X G a34) n_pack
  have b_pkK := b_pkK F34 k34 (PySem.W.mg_of X G a34) n_pack
  have n_is_used_address := ok_used_address (P := l.prog) (w := w) (base := base) F35 (PySem.W.mg_of X G a35) T n_is_address n_is_free
  have n_is_pair := ok_is_pair (P := l.prog) (w := w) (base := base) F36 (PySem.W.mg_of X G a36) T TC n_is_used_address c_width c_call
  have n_keep_clear := ok_keep_clear (P := l.prog) (w := w) (base := base) F37 (PySem.W.mg_of X G a37) T TC n_path c_width c_call
  have n_is_pack := ok_is_pack (P := l.prog) (w := w) (base := base) F38 T TC n_check_free n_is_pair n_keep_clear c_width
  have b_ip3 := b_ip3 F38 k38 (PySem.W.mg_of X G a38) n_is_pack
  have b_ipM := b_ipM F38 k38 (PySem.W.mg_of X G a38) n_is_pack
  have n_law_bits := ok_lbits (P := l.prog) (w := w) (base := base) F39 (PySem.W.mg_of X G a39) T
  have n_law_stretches := ok_lstr (P := l.prog) (w := w) (base := base) F40 (PySem.W.mg_of X G a40) T n_law_bits
  have n_law_goal := ok_lgoal (P := l.prog) (w := w) (base := base) F41 (PySem.W.mg_of X G a41) T
  have n_law_both := ok_both (P := l.prog) (w := w) (base := base) (TT := [(P1, (("_law_both" : Str) ++ ".<locals>.") ++ "<lambda>")]) l42 c42 k42 (PySem.W.mg_of X G a42) T (TB _ (.head _)) (.head _) hu1
  have n_law_sets := ok_lsets (P := l.prog) (w := w) (base := base) (TT := [(P1, (("_law_both" : Str) ++ ".<locals>.") ++ "<lambda>")]) F43 (PySem.W.mg_of X G a43) T n_law_bits n_law_goal n_law_both
  have n_law_fewest := ok_lfewest (P := l.prog) (w := w) (base := base) (TT := [(P1, (("_law_both" : Str) ++ ".<locals>.") ++ "<lambda>")]) F44 (PySem.W.mg_of X G a44) T
  have n_law_world := ok_world (P := l.prog) (w := w) (base := base) F45 (PySem.W.mg_of X G a45) T n_law_draw n_law_pick n_law_bits n_law_stretches
  have n_law_path := ok_law_path (P := l.prog) (w := w) (base := base) F46 (PySem.W.mg_of X G a46) T
  have n_law_is_spot := ok_is_spot (P := l.prog) (w := w) (base := base) F47 (PySem.W.mg_of X G a47) T
  have n_law_goes := ok_goes (P := l.prog) (w := w) (base := base) F48 (PySem.W.mg_of X G a48) T n_law_is_spot n_law_goal n_law_path
  have n_law_noted := ok_noted (P := l.prog) (w := w) (base := base) F49 (PySem.W.mg_of X G a49) T n_law_goal n_law_path
  have n_law_is_pack := ok_lpack (P := l.prog) (w := w) (base := base) F50 (PySem.W.mg_of X G a50) T n_law_goes n_law_noted
  have n_law_bent := ok_bent (P := l.prog) (w := w) (base := base) F51 (PySem.W.mg_of X G a51) T n_law_bits n_law_pick
  have n_law_odd := ok_odd (P := l.prog) (w := w) (base := base) F52 (PySem.W.mg_of X G a52) T
  have n_law_right := ok_right (P := l.prog) (w := w) (base := base) (TT := [(P1, (("_law_both" : Str) ++ ".<locals>.") ++ "<lambda>")]) F53 (PySem.W.mg_of X G a53) T TC n_law_bits n_law_goal n_law_world n_law_sets n_law_fewest n_law_is_pack n_law_bent n_law_odd c_repr b_Tab b_few2 b_pk2 b_pkK b_ip3 b_ipM
  have n_law := ok_law (P := l.prog) (w := w) (base := base) (TT := [(P1, (("_law_both" : Str) ++ ".<locals>.") ++ "<lambda>")]) F54 (PySem.W.mg_of X G a54) T n_law_pot n_law_right
  exact n_law.fn F54 (PySem.W.mg_of X G a54)
end Cov
open PySem PySem.W PyProof.Rows
set_option maxRecDepth 100000 in
set_option maxHeartbeats 0 in
theorem PySem.Challenge.cw_coverways_k35_whole_packs_told_holds : PySem.Challenge.rw_coverways_k35_whole_packs_told.Holds := by
  w_on; o_law; k_head; (case hw => w_witness2)
  k_fill
  refine' Cov.walk_gT (l := PySem.Challenge.rw_coverways_k35_whole_packs_told) (n := 63) (k := 12) (x := "_law_script") (CX := fun _ => L2.CX0) (cs := [(_, 677)]) rfl (by decide) rfl Cov.roomTop (fun w h Y => PySem.W.km_in_of Y) (fun w h Y p hp => ?hT) (fun w p hp => ?nT) (fun w p hp => ?hC) ?F (fun _ _ _ _ _ z => z)
  case hT =>
    refine PySem.W.km_tabs_of Y p.2 ?_
    simp only [List.mem_cons, List.not_mem_nil, or_false] at hp ⊢
    rcases hp with rfl <;> simp
  case nT =>
    simp only [List.mem_cons, List.not_mem_nil, or_false] at hp
    rcases hp with rfl <;> kernel_rfl
  case F =>
    intro w mg fa h KX G hmg
    refine' Cov.all_mk KX G hmg ?a0 ?l0 ?c0 ?k0 ?a1 ?l1 ?c1 ?k1 ?a2 ?l2 ?c2 ?k2 ?a3 ?l3 ?c3 ?k3 ?a4 ?l4 ?c4 ?k4 ?a5 ?l5 ?c5 ?k5 ?a6 ?l6 ?c6 ?k6 ?a7 ?l7 ?c7 ?k7 ?a8 ?l8 ?c8 ?k8 ?a9 ?l9 ?c9 ?k9 ?a10 ?l10 ?c10 ?k10 ?a11 ?l11 ?c11 ?k11 ?a12 ?l12 ?c12 ?k12 ?a13 ?l13 ?c13 ?k13 ?a14 ?l14 ?c14 ?k14 ?a15 ?l15 ?c15 ?k15 ?a16 ?l16 ?c16 ?k16 ?a17 ?l17 ?c17 ?k17 ?a18 ?l18 ?c18 ?k18 ?a19 ?l19 ?c19 ?k19 ?a20 ?l20 ?c20 ?k20 ?a21 ?l21 ?c21 ?k21 ?a22 ?l22 ?c22 ?k22 ?a23 ?l23 ?c23 ?k23 ?a24 ?l24 ?c24 ?k24 ?a25 ?l25 ?c25 ?k25 ?a26 ?l26 ?c26 ?k26 ?a27 ?l27 ?c27 ?k27 ?a28 ?l28 ?c28 ?k28 ?a29 ?l29 ?c29 ?k29 ?a30 ?l30 ?c30 ?k30 ?a31 ?l31 ?c31 ?k31 ?a32 ?l32 ?c32 ?k32 ?a33 ?l33 ?tDa33 ?tDb33 ?c33 ?k33 ?a34 ?l34 ?tDa34 ?tDb34 ?c34 ?k34 ?a35 ?l35 ?c35 ?k35 ?a36 ?l36 ?c36 ?k36 ?a37 ?l37 ?c37 ?k37 ?a38 ?l38 ?tDa38 ?tDb38 ?c38 ?k38 ?a39 ?l39 ?c39 ?k39 ?a40 ?l40 ?c40 ?k40 ?a41 ?l41 ?c41 ?k41 ?a42 ?l42 ?c42 ?k42 ?a43 ?l43 ?c43 ?k43 ?a44 ?l44 ?c44 ?k44 ?a45 ?l45 ?c45 ?k45 ?a46 ?l46 ?c46 ?k46 ?a47 ?l47 ?c47 ?k47 ?a48 ?l48 ?c48 ?k48 ?a49 ?l49 ?c49 ?k49 ?a50 ?l50 ?c50 ?k50 ?a51 ?l51 ?c51 ?k51 ?a52 ?l52 ?c52 ?k52 ?a53 ?l53 ?c53 ?k53 ?a54 ?l54 ?c54 ?k54 ?z0 ?z1 ?z2 ?z3 ?z4 ?z5 ?z6 ?z7 ?z8 ?z9 ?z10 ?z11 ?z12 ?z13 ?z14 ?z15 ?z16 ?z17 ?z18 ?z19 ?z20 ?m_MOST_WIDTH ?m_MOST_LETTERS ?m_LETTERS ?m_NO_NAMES ?t_NO_NAMES ?m_ENDS ?t_ENDS ?m_MOST_FREE ?m_ALL ?aC ?pg ?hd ?po ?sa ?mk ?kc ?sf ?nf0 ?nf1 ?cn0 ?cg0 ?am0 ?im0 ?lm0 ?cm0 ?km0 ?tI ?am1 ?im1 ?lm1 ?cm1 ?km1 ?am2 ?im2 ?lm2 ?cm2 ?km2 ?am3 ?im3 ?lm3 ?cm3 ?km3 ?am4 ?im4 ?lm4 ?cm4 ?km4 ?apW ?gpW ?tpW ?rpW ?lmW ?cmW ?kmW
    (case a0 => first | k_is | kernel_rfl)
    (case l0 => first | k_is | kernel_rfl)
    (case c0 => first | k_is | kernel_rfl)
    (case k0 => first | k_is | kernel_rfl)
    (case a1 => first | k_is | kernel_rfl)
    (case l1 => first | k_is | kernel_rfl)
    (case c1 => first | k_is | kernel_rfl)
    (case k1 => first | k_is | kernel_rfl)
    (case a2 => first | k_is | kernel_rfl)
    (case l2 => first | k_is | kernel_rfl)
    (case c2 => first | k_is | kernel_rfl)
    (case k2 => first | k_is | kernel_rfl)
    (case a3 => first | k_is | kernel_rfl)
    (case l3 => first | k_is | kernel_rfl)
    (case c3 => first | k_is | kernel_rfl)
    (case k3 => first | k_is | kernel_rfl)
    (case a4 => first | k_is | kernel_rfl)
    (case l4 => first | k_is | kernel_rfl)
    (case c4 => first | k_is | kernel_rfl)
    (case k4 => first | k_is | kernel_rfl)
    (case a5 => first | k_is | kernel_rfl)
    (case l5 => first | k_is | kernel_rfl)
    (case c5 => first | k_is | kernel_rfl)
    (case k5 => first | k_is | kernel_rfl)
    (case a6 => first | k_is | kernel_rfl)
    (case l6 => first | k_is | kernel_rfl)
    (case c6 => first | k_is | kernel_rfl)
    (case k6 => first | k_is | kernel_rfl)
    (case a7 => first | k_is | kernel_rfl)
    (case l7 => first | k_is | kernel_rfl)
    (case c7 => first | k_is | kernel_rfl)
    (case k7 => first | k_is | kernel_rfl)
    (case a8 => first | k_is | kernel_rfl)
    (case l8 => first | k_is | kernel_rfl)
    (case c8 => first | k_is | kernel_rfl)
    (case k8 => first | k_is | kernel_rfl)
    (case a9 => first | k_is | kernel_rfl)
    (case l9 => first | k_is | kernel_rfl)
    (case c9 => first | k_is | kernel_rfl)
    (case k9 => first | k_is | kernel_rfl)
    (case a10 => first | k_is | kernel_rfl)
    (case l10 => first | k_is | kernel_rfl)
    (case c10 => first | k_is | kernel_rfl)
    (case k10 => first | k_is | kernel_rfl)
    (case a11 => first | k_is | kernel_rfl)
    (case l11 => first | k_is | kernel_rfl)
    (case c11 => first | k_is | kernel_rfl)
    (case k11 => first | k_is | kernel_rfl)
    (case a12 => first | k_is | kernel_rfl)
    (case l12 => first | k_is | kernel_rfl)
    (case c12 => first | k_is | kernel_rfl)
    (case k12 => first | k_is | kernel_rfl)
    (case a13 => first | k_is | kernel_rfl)
    (case l13 => first | k_is | kernel_rfl)
    (case c13 => first | k_is | kernel_rfl)
    (case k13 => first | k_is | kernel_rfl)
    (case a14 => first | k_is | kernel_rfl)
    (case l14 => first | k_is | kernel_rfl)
    (case c14 => first | k_is | kernel_rfl)
    (case k14 => first | k_is | kernel_rfl)
    (case a15 => first | k_is | kernel_rfl)
    (case l15 => first | k_is | kernel_rfl)
    (case c15 => first | k_is | kernel_rfl)
    (case k15 => first | k_is | kernel_rfl)
    (case a16 => first | k_is | kernel_rfl)
    (case l16 => first | k_is | kernel_rfl)
    (case c16 => first | k_is | kernel_rfl)
    (case k16 => first | k_is | kernel_rfl)
    (case a17 => first | k_is | kernel_rfl)
    (case l17 => first | k_is | kernel_rfl)
    (case c17 => first | k_is | kernel_rfl)
    (case k17 => first | k_is | kernel_rfl)
    (case a18 => first | k_is | kernel_rfl)
    (case l18 => first | k_is | kernel_rfl)
    (case c18 => first | k_is | kernel_rfl)
    (case k18 => first | k_is | kernel_rfl)
    (case a19 => first | k_is | kernel_rfl)
    (case l19 => first | k_is | kernel_rfl)
    (case c19 => first | k_is | kernel_rfl)
    (case k19 => first | k_is | kernel_rfl)
    (case a20 => first | k_is | kernel_rfl)
    (case l20 => first | k_is | kernel_rfl)
    (case c20 => first | k_is | kernel_rfl)
    (case k20 => first | k_is | kernel_rfl)
    (case a21 => first | k_is | kernel_rfl)
    (case l21 => first | k_is | kernel_rfl)
    (case c21 => first | k_is | kernel_rfl)
    (case k21 => first | k_is | kernel_rfl)
    (case a22 => first | k_is | kernel_rfl)
    (case l22 => first | k_is | kernel_rfl)
    (case c22 => first | k_is | kernel_rfl)
    (case k22 => first | k_is | kernel_rfl)
    (case a23 => first | k_is | kernel_rfl)
    (case l23 => first | k_is | kernel_rfl)
    (case c23 => first | k_is | kernel_rfl)
    (case k23 => first | k_is | kernel_rfl)
    (case a24 => first | k_is | kernel_rfl)
    (case l24 => first | k_is | kernel_rfl)
    (case c24 => first | k_is | kernel_rfl)
    (case k24 => first | k_is | kernel_rfl)
    (case a25 => first | k_is | kernel_rfl)
    (case l25 => first | k_is | kernel_rfl)
    (case c25 => first | k_is | kernel_rfl)
    (case k25 => first | k_is | kernel_rfl)
    (case a26 => first | k_is | kernel_rfl)
    (case l26 => first | k_is | kernel_rfl)
    (case c26 => first | k_is | kernel_rfl)
    (case k26 => first | k_is | kernel_rfl)
    (case a27 => first | k_is | kernel_rfl)
    (case l27 => first | k_is | kernel_rfl)
    (case c27 => first | k_is | kernel_rfl)
    (case k27 => first | k_is | kernel_rfl)
    (case a28 => first | k_is | kernel_rfl)
    (case l28 => first | k_is | kernel_rfl)
    (case c28 => first | k_is | kernel_rfl)
    (case k28 => first | k_is | kernel_rfl)
    (case a29 => first | k_is | kernel_rfl)
    (case l29 => first | k_is | kernel_rfl)
    (case c29 => first | k_is | kernel_rfl)
    (case k29 => first | k_is | kernel_rfl)
    (case a30 => first | k_is | kernel_rfl)
    (case l30 => first | k_is | kernel_rfl)
    (case c30 => first | k_is | kernel_rfl)
    (case k30 => first | k_is | kernel_rfl)
    (case a31 => first | k_is | kernel_rfl)
    (case l31 => first | k_is | kernel_rfl)
    (case c31 => first | k_is | kernel_rfl)
    (case k31 => first | k_is | kernel_rfl)
    (case a32 => first | k_is | kernel_rfl)
    (case l32 => first | k_is | kernel_rfl)
    (case c32 => first | k_is | kernel_rfl)
    (case k32 => first | k_is | kernel_rfl)
    (case a33 => first | k_is | kernel_rfl)
    (case l33 => first | k_is | kernel_rfl)
    (case tDa33 => first | k_is | kernel_rfl)
    (case tDb33 => first | k_is | kernel_rfl)
    (case c33 => first | k_is | kernel_rfl)
    (case k33 => first | k_is | kernel_rfl)
    (case a34 => first | k_is | kernel_rfl)
    (case l34 => first | k_is | kernel_rfl)
    (case tDa34 => first | k_is | kernel_rfl)
    (case tDb34 => first | k_is | kernel_rfl)
    (case c34 => first | k_is | kernel_rfl)
    (case k34 => first | k_is | kernel_rfl)
    (case a35 => first | k_is | kernel_rfl)
    (case l35 => first | k_is | kernel_rfl)
    (case c35 => first | k_is | kernel_rfl)
    (case k35 => first | k_is | kernel_rfl)
    (case a36 => first | k_is | kernel_rfl)
    (case l36 => first | k_is | kernel_rfl)
    (case c36 => first | k_is | kernel_rfl)
    (case k36 => first | k_is | kernel_rfl)
    (case a37 => first | k_is | kernel_rfl)
    (case l37 => first | k_is | kernel_rfl)
    (case c37 => first | k_is | kernel_rfl)
    (case k37 => first | k_is | kernel_rfl)
    (case a38 => first | k_is | kernel_rfl)
    (case l38 => first | k_is | kernel_rfl)
    (case tDa38 => first | k_is | kernel_rfl)
    (case tDb38 => first | k_is | kernel_rfl)
    (case c38 => first | k_is | kernel_rfl)
    (case k38 => first | k_is | kernel_rfl)
    (case a39 => first | k_is | kernel_rfl)
    (case l39 => first | k_is | kernel_rfl)
    (case c39 => first | k_is | kernel_rfl)
    (case k39 => first | k_is | kernel_rfl)
    (case a40 => first | k_is | kernel_rfl)
    (case l40 => first | k_is | kernel_rfl)
    (case c40 => first | k_is | kernel_rfl)
    (case k40 => first | k_is | kernel_rfl)
    (case a41 => first | k_is | kernel_rfl)
    (case l41 => first | k_is | kernel_rfl)
    (case c41 => first | k_is | kernel_rfl)
    (case k41 => first | k_is | kernel_rfl)
    (case a42 => first | k_is | kernel_rfl)
    (case l42 => first | k_is | kernel_rfl)
    (case c42 => first | k_is | kernel_rfl)
    (case k42 => first | k_is | kernel_rfl)
    (case a43 => first | k_is | kernel_rfl)
    (case l43 => first | k_is | kernel_rfl)
    (case c43 => first | k_is | kernel_rfl)
    (case k43 => first | k_is | kernel_rfl)
    (case a44 => first | k_is | kernel_rfl)
    (case l44 => first | k_is | kernel_rfl)
    (case c44 => first | k_is | kernel_rfl)
    (case k44 => first | k_is | kernel_rfl)
    (case a45 => first | k_is | kernel_rfl)
    (case l45 => first | k_is | kernel_rfl)
    (case c45 => first | k_is | kernel_rfl)
    (case k45 => first | k_is | kernel_rfl)
    (case a46 => first | k_is | kernel_rfl)
    (case l46 => first | k_is | kernel_rfl)
    (case c46 => first | k_is | kernel_rfl)
    (case k46 => first | k_is | kernel_rfl)
    (case a47 => first | k_is | kernel_rfl)
    (case l47 => first | k_is | kernel_rfl)
    (case c47 => first | k_is | kernel_rfl)
    (case k47 => first | k_is | kernel_rfl)
    (case a48 => first | k_is | kernel_rfl)
    (case l48 => first | k_is | kernel_rfl)
    (case c48 => first | k_is | kernel_rfl)
    (case k48 => first | k_is | kernel_rfl)
    (case a49 => first | k_is | kernel_rfl)
    (case l49 => first | k_is | kernel_rfl)
    (case c49 => first | k_is | kernel_rfl)
    (case k49 => first | k_is | kernel_rfl)
    (case a50 => first | k_is | kernel_rfl)
    (case l50 => first | k_is | kernel_rfl)
    (case c50 => first | k_is | kernel_rfl)
    (case k50 => first | k_is | kernel_rfl)
    (case a51 => first | k_is | kernel_rfl)
    (case l51 => first | k_is | kernel_rfl)
    (case c51 => first | k_is | kernel_rfl)
    (case k51 => first | k_is | kernel_rfl)
    (case a52 => first | k_is | kernel_rfl)
    (case l52 => first | k_is | kernel_rfl)
    (case c52 => first | k_is | kernel_rfl)
    (case k52 => first | k_is | kernel_rfl)
    (case a53 => first | k_is | kernel_rfl)
    (case l53 => first | k_is | kernel_rfl)
    (case c53 => first | k_is | kernel_rfl)
    (case k53 => first | k_is | kernel_rfl)
    (case a54 => first | k_is | kernel_rfl)
    (case l54 => first | k_is | kernel_rfl)
    (case c54 => first | k_is | kernel_rfl)
    (case k54 => first | k_is | kernel_rfl)
    (case z0 => first | k_is | kernel_rfl)
    (case z1 => first | k_is | kernel_rfl)
    (case z2 => first | k_is | kernel_rfl)
    (case z3 => first | k_is | kernel_rfl)
    (case z4 => first | k_is | kernel_rfl)
    (case z5 => first | k_is | kernel_rfl)
    (case z6 => first | k_is | kernel_rfl)
    (case z7 => first | k_is | kernel_rfl)
    (case z8 => first | k_is | kernel_rfl)
    (case z9 => first | k_is | kernel_rfl)
    (case z10 => first | k_is | kernel_rfl)
    (case z11 => first | k_is | kernel_rfl)
    (case z12 => first | k_is | kernel_rfl)
    (case z13 => first | k_is | kernel_rfl)
    (case z14 => first | k_is | kernel_rfl)
    (case z15 => first | k_is | kernel_rfl)
    (case z16 => first | k_is | kernel_rfl)
    (case z17 => first | k_is | kernel_rfl)
    (case z18 => first | k_is | kernel_rfl)
    (case z19 => first | k_is | kernel_rfl)
    (case z20 => first | k_is | kernel_rfl)
    (case m_MOST_WIDTH => first | k_is | kernel_rfl)
    (case m_MOST_LETTERS => first | k_is | kernel_rfl)
    (case m_LETTERS => first | k_is | kernel_rfl)
    (case m_NO_NAMES => first | k_is | kernel_rfl)
    (case t_NO_NAMES => first | k_is | kernel_rfl)
    (case m_ENDS => first | k_is | kernel_rfl)
    (case t_ENDS => first | k_is | kernel_rfl)
    (case m_MOST_FREE => first | k_is | kernel_rfl)
    (case m_ALL => first | k_is | kernel_rfl)
    (case aC => first | k_is | kernel_rfl)
    (case pg => first | k_is | kernel_rfl)
    (case hd => first | k_is | kernel_rfl)
    (case po => first | k_is | kernel_rfl)
    (case sa => first | k_is | kernel_rfl)
    (case mk => first | k_is | kernel_rfl)
    (case kc => first | k_is | kernel_rfl)
    (case sf => first | k_is | kernel_rfl)
    (case nf0 => first | k_is | kernel_rfl)
    (case nf1 => first | k_is | kernel_rfl)
    (case cn0 => first | k_is | kernel_rfl)
    (case cg0 => first | k_is | kernel_rfl)
    (case am0 => first | k_is | kernel_rfl)
    (case im0 => first | k_is | kernel_rfl)
    (case lm0 => first | k_is | kernel_rfl)
    (case cm0 => first | k_is | kernel_rfl)
    (case km0 => first | k_is | kernel_rfl)
    (case tI => first | k_is | kernel_rfl)
    (case am1 => first | k_is | kernel_rfl)
    (case im1 => first | k_is | kernel_rfl)
    (case lm1 => first | k_is | kernel_rfl)
    (case cm1 => first | k_is | kernel_rfl)
    (case km1 => first | k_is | kernel_rfl)
    (case am2 => first | k_is | kernel_rfl)
    (case im2 => first | k_is | kernel_rfl)
    (case lm2 => first | k_is | kernel_rfl)
    (case cm2 => first | k_is | kernel_rfl)
    (case km2 => first | k_is | kernel_rfl)
    (case am3 => first | k_is | kernel_rfl)
    (case im3 => first | k_is | kernel_rfl)
    (case lm3 => first | k_is | kernel_rfl)
    (case cm3 => first | k_is | kernel_rfl)
    (case km3 => first | k_is | kernel_rfl)
    (case am4 => first | k_is | kernel_rfl)
    (case im4 => first | k_is | kernel_rfl)
    (case lm4 => first | k_is | kernel_rfl)
    (case cm4 => first | k_is | kernel_rfl)
    (case km4 => first | k_is | kernel_rfl)
    (case apW => first | k_is | kernel_rfl)
    (case gpW => first | k_is | kernel_rfl)
    (case tpW => first | k_is | kernel_rfl)
    (case rpW => first | k_is | kernel_rfl)
    (case lmW => first | k_is | kernel_rfl)
    (case cmW => first | k_is | kernel_rfl)
    (case kmW => first | k_is | kernel_rfl)
  case hC =>
    simp only [List.mem_cons, List.not_mem_nil, or_false] at hp
    rcases hp with rfl <;> kernel_rfl

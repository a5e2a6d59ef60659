import PyProof.Rows.All
import Wide.All
import OpenK.AllK
import Wide.FinOn
import HandS.IntHex
import HandS.FStr
import HandS.StrMore
import KE.KxField
import PyProof.Rows.StrPadFill
import HandS.Iter
import HandS.Walk
import PyProof.Draws
import PyProof.EnumMake
import PyProof.TupleIter
import HandS.Comp
import HandS.DictComp
import KE.KDictList
import HandS.Base
import HandS.Call
import HandS.List
import HandS.Dict
import HandS.More
import HandS.ForMost
import HandS.IsInst
import HandS.WideBits
import HandS.Codes
import KE.SortKeyHeap
import HandS.SortKw
import HandS.Star
import HandS.Property
import HandS.MakeKw
import PyProof.DictUpdate
import PyProof.DictDisplay
import KE.DataMinKey
import PyProof.ZipIter
import HandS.Zip0
import KE.KEqDict
import PyProof.P3Eq
import PyProof.ReprBulk
import PyProof.InstNe
import HandS.DictTup
import KE.SortData
import HandS.ListItems
import HandS.WordsDict
import HandS.Style
import HandS.Small
import HandS.Text
import PySem.Challenge.RW_coverways_k23_whole_great_widths_counted
set_option Elab.async false
set_option linter.all false
set_option maxRecDepth 100000
set_option maxHeartbeats 2000000
namespace L2
open PySem PySem.Spec PyProof.Rows
/-! ## texts of 0 and 1 as numbers: int(t, 2), f"{n:b}", ljust with a sign -/
namespace B2
open PySem.NumText PySem.Calls L2.Hx
abbrev IsB (c : Nat) : Prop := c = 48 ∨ c = 49
theorem IsB.hex {c : Nat} (h : IsB c) : IsHex c := by
  unfold IsHex
  rcases h with h | h <;> omega
def num (l : List Nat) : Nat := l.foldl (fun a c => a * 2 + (c - 48)) 0
theorem dig_b {c : Nat} (h : IsB c) : digit? c = some (c - 48) := by
  rcases h with h | h <;> (subst h; rfl)
theorem go_b {ds : Array Nat} {b : Bool} {c : Nat} (h : IsB c) : PySem.NumText.step 2 (ds, b) c = some (ds.push (c - 48), true) := by
  unfold PySem.NumText.step
  have hn : ¬ (c == 95) = true := by rw [beq_iff_eq]; rcases h with h | h <;> omega
  rw [if_neg hn, dig_b h]
  exact if_pos (show c - 48 < 2 by rcases h with h | h <;> omega)
theorem all_b : ∀ (l : List Nat) (ds : Array Nat), (∀ c ∈ l, IsB c) → l.foldlM (PySem.NumText.step 2) (ds, true) = some (l.foldl (fun t c => t.push (c - 48)) ds, true)
  | [], _, _ => rfl
  | c :: l, ds, h => by
    rw [List.foldlM_cons, go_b (h c (List.mem_cons_self ..))]
    exact all_b l (ds.push (c - 48)) fun d hd => h d (List.mem_cons_of_mem _ hd)
theorem digs_b {l : List Nat} (h : ∀ c ∈ l, IsB c) (hne : l ≠ []) : digits? 2 l = some (l.foldl (fun t c => t.push (c - 48)) #[]) := by
  match l, hne with
  | c :: l, _ =>
    unfold digits?
    rw [List.foldlM_cons, go_b (h c (List.mem_cons_self ..))]
    show (l.foldlM (PySem.NumText.step 2) ((#[] : Array Nat).push (c - 48), true)).bind _ = _
    rw [all_b l _ fun d hd => h d (List.mem_cons_of_mem _ hd)]
    rfl
theorem push_b : ∀ (l : List Nat) (ds : Array Nat), (l.foldl (fun t c => t.push (c - 48)) ds).foldl (fun a d => a * 2 + d) 0 = l.foldl (fun a c => a * 2 + (c - 48)) (ds.foldl (fun a d => a * 2 + d) 0)
  | [], _ => rfl
  | c :: l, ds => by
    rw [List.foldl_cons, push_b l (ds.push (c - 48)), List.foldl_cons]
    congr 1
    simp
theorem base_b {l : List Nat} (h : ∀ c ∈ l, IsB c) : based 2 l = (2, false, l) := by
  match l, h with
  | [], _ => rfl
  | [a], h => rcases h a (List.mem_cons_self ..) with q | q <;> (subst q; rfl)
  | a :: c :: r, h => rcases h a (List.mem_cons_self ..) with q | q <;> rcases h c (List.mem_cons_of_mem _ (List.mem_cons_self ..)) with z | z <;> (subst q; subst z; rfl)
theorem read_b {l : List Nat} (h : ∀ c ∈ l, IsB c) (hne : l ≠ []) : (int_private% "readNumeral") 0 2 l = (int_private% "Numeral.value") ((num l : Nat) : Int) := by
  have hx : ∀ c ∈ l, IsHex c := fun c hc => (h c hc).hex
  have hr : ∀ c ∈ l.reverse, IsHex c := fun c hc => hx c (List.mem_reverse.mp hc)
  refine (readNumeral_eq 0 2 l).trans ?_
  rw [dropB hx, signH hx]
  show judge 0 false (based 2 l).1 (based 2 l).2.1 (digits? (based 2 l).1 (((based 2 l).2.2.reverse.dropWhile blank).reverse)) = _
  rw [base_b h]
  show judge 0 false 2 false (digits? 2 ((l.reverse.dropWhile blank).reverse)) = _
  rw [dropB hr, List.reverse_reverse, digs_b h hne]
  show (int_private% "Numeral.value") (((l.foldl (fun t c => t.push (c - 48)) (#[] : Array Nat)).foldl (fun a d => a * 2 + d) 0 : Nat) : Int) = _
  rw [push_b]
  have z : (#[] : Array Nat).foldl (fun a d => a * 2 + d) 0 = 0 := by first | rfl | simp
  rw [z]
  rfl
theorem gives_b {x : PySem.Str} {u t : Tok} (hl : x.length ≤ 640) (h : ∀ c ∈ x.cps.toList, IsB c) (hne : x.cps.toList ≠ []) :
    Gives (Builtin.«int.__new__» ⟨[.type "int", .str x u, .int 2 t], []⟩) (.int ((num x.cps.toList : Nat) : Int)) :=
  .of_wp fun M A E s Q hQ => by
    obtain ⟨hp, g, d, tk, os⟩ := s
    have f1 := F.conv_sub_int
    have f2 := F.madeHere_int
    have f6 : typeOf (.str x u) = pure (.type "str") := rfl
    obtain ⟨e1, e2⟩ := seen_hex fun c hc => (h c hc).hex
    have hk : Hid ((numSeenOf x).length ≤ 640 ∧ (int_private% "readNumeral") 0 2 (numSeenOf x) = (int_private% "Numeral.value") ((num x.cps.toList : Nat) : Int) ∧ ((numSeenOf x).length == (numTextOf x).length) = true) :=
      ⟨by rw [e2, Array.length_toList]; exact hl, by rw [e2]; exact read_b h hne, by rw [e1, e2]; exact beq_self_eq_true _⟩
    clear e1 e2 hl hne h
    repeat (any_goals (first
      | assumption
      | ((with_reducible show wpAny _ _ ((int_private% "intFromText") _ _ _) _ _ _); refine wp_textB hk.out.1 hk.out.2.1 hk.out.2.2 ?_)
      | wp_step))
    all_goals first | exact ⟨_, rfl, hQ⟩ | skip
theorem call_b {prog : Program} {w : World} {A : Around} {E : Value → Shared → Prop} {s : Shared} {Q : Value → Shared → Prop} {x : PySem.Str} {u t : Tok} (hl : x.length ≤ 640) (h : ∀ c ∈ x.cps.toList, IsB c) (hne : x.cps.toList ≠ [])
    (hQ : Q (.int ((num x.cps.toList : Nat) : Int) s.toks) { s with toks := s.toks + 1 }) : wpAny (model prog w) A (call (.type "int") [.str x u, .int 2 t]) Q E s :=
  callType_new F.called_int F.newNe_int (typeCall_int_2 _ _) (newCall_int_2 _ _)
    (fun obj => F.initArgs_range_2 obj _ _) F.entry_int_new (gives_b hl h hne).meets
    (show (Made.int ((num x.cps.toList : Nat) : Int)).post _ s from ⟨rfl, hQ⟩)
end B2
/-- int(t, 2) -/
def rIntB : List V → Hp → VK → Prop := fun xs H Q => ∃ z : Str, xs = [.str z, .int 2] ∧ z.cps.toList ≠ [] ∧ z.length ≤ 640 ∧ (∀ c ∈ z.cps.toList, c = 48 ∨ c = 49) ∧ Q (.int ((B2.num z.cps.toList : Nat) : Int)) H
theorem call_intB {X : Cx} : CallR X (.type "int") rIntB := by
  intro pins s σ H xs us Q I r h
  obtain ⟨z, rfl, hne, hl, hx, q⟩ := h
  obtain ⟨u, w', rfl, r1, r2⟩ := vals2 r
  obtain ⟨t1, rfl⟩ := r1
  obtain ⟨t2, rfl⟩ := r2
  exact B2.call_b hl hx hne ⟨.int ((B2.num z.cps.toList : Nat) : Int), H, I.tok _, ⟨_, rfl⟩, q⟩
/-- s.ljust(n, c), a sign c -/
def rLj2 : V → List V → Hp → VK → Prop := fun x xs H Q => ∃ (a : Str) (i : Int) (f : Str), x = .str a ∧ xs = [.int i, .str f] ∧ PadOk i = true ∧ f.length = 1 ∧ Q (.str (Txt.ljustF a i (f.cps.getD 0 0))) H
theorem mt_ljust2 {X : Cx} : MtR X "str.ljust" rLj2 := by
  intro pins s σ H x xs v us Q I rx rs h
  obtain ⟨a, i, f, rfl, rfl, hp, hf, h⟩ := h
  obtain ⟨t, rfl⟩ := rx
  obtain ⟨u1, u2, rfl, r1, r2⟩ := vals2 rs
  obtain ⟨t1, rfl⟩ := r1
  obtain ⟨t2, rfl⟩ := r2
  exact ljust_fill hp hf fun t' k => ⟨.str (Txt.ljustF a i (f.cps.getD 0 0)), H, I.tok k, ⟨t', rfl⟩, h⟩
end L2
namespace PySem
open Sem (wp)
open AutoSeq1 (wpAny_loadPart')
namespace E1
theorem made_t (l : Addr) (xs : Array Value) (n : Nat) (dd : Option Addr) (sl : Array (Option Value)) :
    Meets (Builtin.«enumerate.__new__» ⟨[.type "enumerate", .ref l], []⟩) (fun _ R s => s.heap.get? l = some { cls := .type "tuple", dict := dd, data := .seq xs n, slots := sl } ∧
      R (.ok (.ret (.ref (s.heap.push { cls := .type "tuple_iterator", data := .fields #[.ref l, .int 0 0] }).objs.size)))
        { s with heap := (s.heap.push { cls := .type "tuple_iterator", data := .fields #[.ref l, .int 0 0] }).push { cls := .type "enumerate", data := .fields #[.none, .bool false, .ref s.heap.objs.size, rawInt 0, .none, .none] } }) :=
  .of_wp fun prog w A R s h => by
    obtain ⟨hp, g, d, tk, os⟩ := s
    obtain ⟨h1, h⟩ := h
    have hsub := sub_enumerate
    have hT : Heap.IsTuple (Shared.heap ⟨hp, g, d, tk, os⟩) l xs := ⟨_, h1, rfl, n, rfl⟩
    wp_walk using wpAny_loadPart' h1
    refine wpAny_stack_any fun st => wpAny_pure ?_
    split
    · rename_i c _ _ _ _ _
      cases (c == Value.type "enumerate")
      · wp_walk using wpAny_loadPart' h1, wpAny_pyIter_tuple hT
        exact ⟨_, rfl, h⟩
      · wp_walk using wpAny_loadPart' h1, wpAny_pyIter_tuple hT
        exact ⟨_, rfl, h⟩
    · wp_walk using wpAny_loadPart' h1, wpAny_pyIter_tuple hT
      exact ⟨_, rfl, h⟩
section
variable {prog : Program} {w : World} {A : Around} {E : Value → Shared → Prop} {s : Shared}
theorem next_t {it t : Addr} {i : Nat} {xs : Array Value} {x : Value} {Q : Value → Shared → Prop} (g : s.heap.IsTupleIter it t i) (k : s.heap.IsTuple t xs) (hx : xs[i]? = some x)
    (q : ∀ h', h'.IsTupleIter it t (i + 1) → Heap.SameBut it s.heap h' → Q x { s with heap := h' }) : wpAny (model prog w) A (Builtin.SmallTypes.nextOf (.ref it)) Q E s := by
  obtain ⟨o, e1, e2, e3⟩ := id g
  obtain ⟨u, k1, _, m, k2⟩ := k
  unfold Builtin.SmallTypes.nextOf
  refine wpAny_bind (wpAny_callSpecial?_slot (name := Str.ofString "__next__") g.typeIs F.slot_tuple_iterator_next (wpAny_call_entry F.slot_tuple_iterator_next g.typeIs
    F.entry_tuple_iterator_next ?_ (F.args_tuple_iterator_next_1 _)))
  show wpAny _ _ (field (.ref it) 0 >>= _) _ _ s; refine wpAny_bind (wpAny_field e1 e3 (x := .ref t) rfl ?_)
  show wpAny _ _ (ite ((Value.ref t == Value.none) = true) _ _) _ _ s
  rw [show (Value.ref t == Value.none) = false from rfl, if_neg Bool.false_ne_true]
  show wpAny _ _ (field (.ref it) 1 >>= _) _ _ s; refine wpAny_bind (wpAny_field e1 e3 (x := .int i 0) rfl ?_)
  show wpAny _ _ (seqItems? (.ref t) >>= _) _ _ s; refine wpAny_bind (wpAny_seqItems k1 k2 ?_)
  simp only [Int.toNat_natCast, hx]
  refine wpAny_bind (wpAny_setField e1 e3 (by simp) (wpAny_pure ⟨x, rfl, wpAny_pure (q _ ?_ (Heap.SameBut.update ..))⟩))
  exact ⟨_, Heap.get?_update_self _ e1 (Obj.isFreed_of_fields (Obj.data_mapFields e3 _)), (Obj.cls_mapFields ..).trans e2, by rw [Obj.data_mapFields e3]; simp [rawInt]⟩
theorem stop_t {it t : Addr} {i : Nat} {xs : Array Value} {Q : Value → Shared → Prop} (hh : A.handled = none) (g : s.heap.IsTupleIter it t i) (k : s.heap.IsTuple t xs) (hx : xs[i]? = none)
    (q : ∀ h' e, Heap.ExtBut it s.heap h' → (∃ o, h'.get? e = some o ∧ o.cls = .type "StopIteration") → E (.ref e) { s with heap := h' }) : wpAny (model prog w) A (Builtin.SmallTypes.nextOf (.ref it)) Q E s := by
  obtain ⟨o, e1, e2, e3⟩ := id g
  obtain ⟨u, k1, _, m, k2⟩ := k
  unfold Builtin.SmallTypes.nextOf
  refine wpAny_bind (wpAny_callSpecial?_slot (name := Str.ofString "__next__") g.typeIs F.slot_tuple_iterator_next (wpAny_call_entry F.slot_tuple_iterator_next g.typeIs
    F.entry_tuple_iterator_next ?_ (F.args_tuple_iterator_next_1 _)))
  show wpAny _ _ (field (.ref it) 0 >>= _) _ _ s; refine wpAny_bind (wpAny_field e1 e3 (x := .ref t) rfl ?_)
  show wpAny _ _ (ite ((Value.ref t == Value.none) = true) _ _) _ _ s
  rw [show (Value.ref t == Value.none) = false from rfl, if_neg Bool.false_ne_true]
  show wpAny _ _ (field (.ref it) 1 >>= _) _ _ s; refine wpAny_bind (wpAny_field e1 e3 (x := .int i 0) rfl ?_)
  show wpAny _ _ (seqItems? (.ref t) >>= _) _ _ s; refine wpAny_bind (wpAny_seqItems k1 k2 ?_)
  simp only [Int.toNat_natCast, hx]
  refine wpAny_bind (wpAny_rule (wpAny_bind (wpAny_setField e1 e3 (by simp) ?_)))
  show wpAny _ _ (newExc (.type "StopIteration") [] >>= _) _ _ _; refine wpAny_bind ?_
  simp only [newExc, newTuple]
  refine wpAny_bind (wpAny_newObj_type ?_ (by size_fits)); refine wpAny_bind (m := firstArgMember _ _) (wpAny_of_eq (a := Value.none) (by first | rfl | (simp only [firstArgMember]; rfl)) ?_)
  refine wpAny_newObj_type ?_ (by size_fits); simp only [raiseNew]; refine wpAny_bind (wpAny_handled ?_)
  first | rw [show A.in1.handled = none from hh] | rw [hh]
  refine wpAny_bind (wpAny_pure (wpAny_throw ?_)); exact q _ _ (((Heap.SameBut.update ..).extBut.push _).push _) ⟨_, Heap.get?_push_size _ rfl, rfl⟩
theorem tup_at {h h' : Heap} {t : Addr} {xs : Array Value} (k : h.IsTuple t xs) (e : ∀ o, h.get? t = some o → h'.get? t = some o) : h'.IsTuple t xs :=
  let ⟨o, a, r⟩ := k; ⟨o, e o a, r⟩
theorem draws_t (hh : A.handled = none) (it t : Addr) (hne : t ≠ it) (xs : Array Value) :
    Draws prog w A it [it, t] xs.size (fun i v => xs[i]? = some v) (fun i h => h.IsTupleIter it t i ∧ h.IsTuple t xs) where
  live := fun _ _ st => let ⟨o, ho, _⟩ := st.1; ⟨o, ho⟩
  frame := fun _ _ _ st hk => ⟨st.1.at fun o e => hk it (by simp) o e, tup_at st.2 fun o e => hk t (by simp) o e⟩
  item := fun i s Q E hi st hQ => by
    refine next_t st.1 st.2 (x := xs[i]) (by simp [hi]) fun h' a b => ?_
    exact hQ _ h' s.toks (by simp [hi]) ⟨a, st.2.extBut b.extBut hne⟩ b
  done := fun s Q E st hE => stop_t hh st.1 st.2 (by simp) hE
theorem call_t {t : Addr} {xs : Array Value} {Q : Value → Shared → Prop} (k : s.heap.IsTuple t xs)
    (h : ∀ h', IsEnum h' (s.heap.objs.size + 1) s.heap.objs.size 0 .none → h'.IsTupleIter s.heap.objs.size t 0 → h'.objs.size = s.heap.objs.size + 2 →
      (∀ b o, s.heap.get? b = some o → h'.get? b = some o) → Q (.ref (s.heap.objs.size + 1)) { s with heap := h' }) : wpAny (model prog w) A (call (.type "enumerate") [.ref t]) Q E s := by
  obtain ⟨⟨c, dd, dt, sl⟩, e1, e2, n, e3⟩ := k
  obtain rfl : c = .type "tuple" := e2
  obtain rfl : dt = .seq xs n := e3
  refine callType_new F.called_enumerate (by decide) (F.typeCall_enumerate_1 _) (F.newCall_enumerate_1 _) (fun obj => F.args_object_init_2 obj _)
    F.entry_enumerate_new (made_t t xs n dd sl) ⟨e1, ?_⟩
  have z1 : (s.heap.push { cls := .type "tuple_iterator", data := .fields #[.ref t, .int 0 0] }).objs.size = s.heap.objs.size + 1 := Heap.size_push ..
  show _ ∧ _
  rw [z1]
  have z2 := Heap.get?_push_size (s.heap.push { cls := .type "tuple_iterator", data := .fields #[.ref t, .int 0 0] }) (o := { cls := .type "enumerate", data := .fields #[.none, .bool false, .ref s.heap.objs.size, rawInt 0, .none, .none] }) rfl
  rw [z1] at z2
  exact ⟨⟨_, z2, rfl⟩, h _ z2 ⟨_, Heap.get?_push_of_some _ (Heap.get?_push_size _ rfl), rfl, rfl⟩ (by rw [Heap.size_push, z1]) fun b o y => Heap.get?_push_of_some _ (Heap.get?_push_of_some _ y)⟩
end
end E1
end PySem
namespace L2
open PySem PySem.Spec PyProof.Rows
/-- the tuple at a, its items in new pairs behind their numbers -/
def IteT (K : PySem.W.Frag) (a : Addr) : It :=
  ⟨fun i H => ∃ (xs : List V) (x : V), SqT K H a xs ∧ xs[i]? = some x, fun i H v H' => ∃ T x, v = .ref T ∧ H T = none ∧ H' = upd H T (.tup [.int (i : Nat), x]) ∧ ∀ xs, SqT K H a xs → xs[i]? = some x,
    fun i H => ∃ xs : List V, SqT K H a xs ∧ xs.length ≤ i⟩
theorem turn_enumT {P : Program} {w : World} {K : PySem.W.Frag} {elts : List Expr} {kk : Nat} {tpos : Pos} (a e it : Addr) (hai : a ≠ it) (hae : a ≠ e) :
    Turn P w K (.Tuple elts kk tpos) (IteT K a) [e, it] e (fun i h => (∃ old, IsEnum h e it ((i : Nat) : Int) old) ∧ h.IsTupleIter it a i ∧ e ≠ it) where
  mem := by simp
  obj := fun i h st b hb => by
    obtain ⟨⟨old, q1⟩, ⟨o, q2, _, q3⟩, _⟩ := st
    rcases (show b = e ∨ b = it by simpa using hb) with z | z
    · rw [z]; exact ⟨_, q1, fun v q => nomatch q⟩
    · rw [z]; exact ⟨o, q2, fun v q => by rw [q3] at q; cases q⟩
  keep := fun i h h' st k => let ⟨⟨old, q1⟩, q2, q3⟩ := st; ⟨⟨old, k e (by simp) _ q1⟩, q2.at fun o q => k it (by simp) o q, q3⟩
  item := by
    intro X hP hw hK hc i pins s σ H E I hf st hg
    subst hP hw hK
    obtain ⟨⟨old, q1⟩, q2, q3⟩ := st
    obtain ⟨xs, x, hq, hx⟩ := hg
    obtain ⟨its, rv, p, hz⟩ := I.tuple hq
    obtain ⟨u, hu, ru⟩ := rv.get hx
    have p' : s.heap.IsTuple a its.toArray := p
    have l1 : e < s.heap.objs.size := Heap.lt_size q1
    have l2 : it < s.heap.objs.size := by obtain ⟨_, q, _⟩ := q2; exact Heap.lt_size q
    have hlt : i < its.toArray.size := by
      have := (List.getElem?_eq_some_iff.mp hu).1
      simpa using this
    refine wpAny_pyNext_enum_itemD (E1.draws_t (A := X.A.in1) (I.ok.hd hc) it a hai its.toArray) q1 ⟨q2, p'⟩ hlt q3 (by simp [q3, Ne.symm hae]) fun y h' tk hy ho st' hT hsz hk => ?_
    obtain rfl : y = u := by
      have e1 : its.toArray[i]? = some u := by simpa using hu
      exact Option.some.inj (hy.symm.trans e1)
    refine ⟨_, rfl, wpAny_letOwnedTupleGo_enum (s := { s with heap := h', toks := tk + 1 }) ho fun h'' he' sb => ?_⟩
    have hT2 : h''.get? s.heap.objs.size = some { cls := .type "tuple", data := .seq #[.int i tk, y] } := (sb.2 _ (Nat.ne_of_gt l1)).trans hT
    have new : ObjOk X.prog X.w (upd H s.heap.objs.size (.tup [.int (i : Nat), x])) h'' s.heap.objs.size (.tup [.int (i : Nat), x]) :=
      ⟨by show 2 ≤ sizeLine; decide, [.int i tk, y], .cons ⟨_, rfl⟩ (.cons ru .nil), ⟨_, hT2, rfl, _, rfl⟩⟩
    have I1 : Inv X pins σ (upd H s.heap.objs.size (.tup [.int (i : Nat), x])) { s with heap := h'', toks := tk + 1 } :=
      I.turnedNew (ch := [e, it]) (fun b ob hb q => (sb.2 b (fun z => hb (by simp [z]))).trans (hk b ob (fun z => hb (by simp [z])) (fun z => hb (by simp [z])) q)) hf (Nat.le_refl _) new
    refine ⟨.ref s.heap.objs.size, _, I1, rfl, ⟨_, x, rfl, I.hok.fresh (Nat.le_refl _), rfl, fun ys hy => by rw [I.tuple_inj hy hq]; exact hx⟩, ⟨⟨y, ?_⟩, st'.1.at fun o q => (sb.2 it (Ne.symm q3)).trans q, q3⟩, fun b hb => ?_⟩
    · rw [show ((i + 1 : Nat) : Int) = (i : Int) + 1 by omega]
      exact he'
    · have hb' : b < s.heap.objs.size := by
        rcases (show b = e ∨ b = it by simpa using hb) with z | z
        · rw [z]; exact l1
        · rw [z]; exact l2
      rw [upd_ne (Nat.ne_of_lt hb')]
      exact (hf b hb).1
  done := by
    intro X hP hw hK hc i pins s σ H E I hf st hg
    subst hP hw hK
    obtain ⟨⟨old, q1⟩, q2, q3⟩ := st
    obtain ⟨xs, hq, hx⟩ := hg
    obtain ⟨its, rv, p, hz⟩ := I.tuple hq
    have p' : s.heap.IsTuple a its.toArray := p
    obtain ⟨f0, f1, f2, f3, f4, f5⟩ := hf it (by simp)
    have hl := rv.length
    have hT : s.TypeIs (.ref e) "enumerate" := ⟨_, q1, rfl⟩
    unfold pyNext; refine wpAny_bind (wpAny_attempt (wpAny_callSpecial?_slot (name := Str.ofString "__next__") hT F.slot_enumerate_next (wpAny_call_entry F.slot_enumerate_next hT F.entry_enumerate_next ?_ (F.args_enumerate_next_1 _))))
    show wpAny _ _ (field (.ref e) 2 >>= _) _ _ _; refine wpAny_bind (wpAny_field q1 rfl (x := .ref it) rfl ?_)
    refine wpAny_bind (E1.stop_t (A := X.A.in1) (I.ok.hd hc) q2 p' (by simp; omega) fun h' y eb hy => ?_)
    obtain ⟨o, o1, o2⟩ := hy
    refine wpAny_bind (wpAny_isInstance (T := "StopIteration") (b := true) ⟨o, o1, o2⟩ isSubtype_stop ?_)
    exact wpAny_pure ⟨rfl, I.turned (t' := s.toks) (fun b o hb q => eb b o hb q) f0 f1 f3 f4 f5⟩
  self := fun A i s Q E st h => let ⟨⟨_, he⟩, _⟩ := st; wpAny_pyIter_enum he h
def iEnumA (K : PySem.W.Frag) (ta : TA) : TI := fun σ H R => ta σ H fun vs H1 => ∃ a xs, vs = [.ref a] ∧ ((SqL K H1 a xs ∧ R (Ite K a) H1) ∨ (SqT K H1 a xs ∧ R (IteT K a) H1))
theorem pi_enumA {X : Cx} {e : Expr} {ta : TA} {p pos tpos : Pos} {elts : List Expr} {kk : Nat} (hg : Gl X "enumerate") (hm : X.mg "enumerate" = none) (ha : PA X [e] ta) (hs : starEach [e] X.env = [(false, eval e X.env)] := by rfl) :
    PI X (.Tuple elts kk tpos) (.Call (.Name "enumerate" p) [e] [] pos) (iEnumA X.K ta) := by
  refine ⟨fun pins s σ H R I h => ?_⟩
  refine Call_ (ld_blt I hg hm boot_enumerate (PyProof.Rows.callWith_type1 (thn (ha.run pos pins s σ H _ I h) fun us s1 ⟨vs, H1, I1, r1, q1⟩ => ?_) hs rfl))
  obtain ⟨a, xs, rfl, q1⟩ := q1
  cases r1 with
  | cons r rr =>
    cases rr
    cases r
    rcases q1 with ⟨hq, q⟩ | ⟨hq, q⟩
    · obtain ⟨its, rv, p', hz⟩ := I1.list hq
      refine call_enumerate_list p'.isList fun h' q1 q2 hsz hk => wpAny_pyIter_enum q1 ?_
      have I2 : Inv X pins σ H1 { s1 with heap := h' } := I1.kept (t' := s1.toks) hk
      refine ⟨s1.heap.objs.size + 1, [s1.heap.objs.size + 1, s1.heap.objs.size], _, _, H1, rfl, I2, turn_enum a (s1.heap.objs.size + 1) s1.heap.objs.size, ⟨⟨.none, q1⟩, q2, Nat.succ_ne_self _⟩, fun b hb => ?_, q⟩
      have hle : s1.heap.objs.size ≤ b := by
        rcases (show b = s1.heap.objs.size + 1 ∨ b = s1.heap.objs.size by simpa using hb) with z | z <;> (rw [z]; first | exact Nat.le_add_right _ _ | exact Nat.le_refl _)
      exact I1.fpOk hle (I1.hok.fresh hle)
    · obtain ⟨its, rv, p', hz⟩ := I1.tuple hq
      have p2 : s1.heap.IsTuple a its.toArray := p'
      have l0 : a < s1.heap.objs.size := by obtain ⟨o, e1, _⟩ := p2; exact Heap.lt_size e1
      refine E1.call_t p2 fun h' q1 q2 hsz hk => wpAny_pyIter_enum q1 ?_
      have I2 : Inv X pins σ H1 { s1 with heap := h' } := I1.kept (t' := s1.toks) hk
      refine ⟨s1.heap.objs.size + 1, [s1.heap.objs.size + 1, s1.heap.objs.size], _, _, H1, rfl, I2, turn_enumT a (s1.heap.objs.size + 1) s1.heap.objs.size (Nat.ne_of_lt l0) (Nat.ne_of_lt (Nat.lt_succ_of_lt l0)), ⟨⟨.none, q1⟩, q2, Nat.succ_ne_self _⟩, fun b hb => ?_, q⟩
      have hle : s1.heap.objs.size ≤ b := by
        rcases (show b = s1.heap.objs.size + 1 ∨ b = s1.heap.objs.size by simpa using hb) with z | z <;> (rw [z]; first | exact Nat.le_add_right _ _ | exact Nat.le_refl _)
      exact I1.fpOk hle (I1.hok.fresh hle)
theorem walk_enumT {K : PySem.W.Frag} {a : Addr} {xs : List V} : L2.Walk (IteT K a) xs.length (fun H => SqT K H a xs) (YPair (fun i => some (.int (i : Nat))) (fun i => xs[i]?)) := by
  refine ⟨fun i _ hi q => ⟨xs, xs[i], q, by simp [hi]⟩, fun _ q => ⟨xs, q, Nat.le_refl _⟩, fun i H v H' _ q y => ?_⟩
  obtain ⟨T, x, h1, h2, h3, h4⟩ := y
  exact ⟨T, .int (i : Nat), x, h1, h2, h3, rfl, h4 xs q⟩
end L2
namespace L2
open PySem PySem.Spec PyProof.Rows
namespace FB
open PySem.W PySem.Calls Builtin Builtin.Int Builtin.Float
def dg (n : Nat) : List Nat := (Nat.toDigits 2 n).map Char.toNat
def fb : FormatSpec := { align := 62, type := some 98 }
theorem digs_eq (n : Nat) : ((Nat.toDigits 2 n).map fun c => (if ((98 : Nat) == 88) = true then c.toUpper else c).toNat) = dg n := rfl
theorem field_fb {ds : List Nat} (h : ds ≠ []) : intField' fb false [] ds [] 4 = ⟨ds.toArray⟩ := by
  unfold intField' fb
  have e : ds.isEmpty = false := by cases ds with | nil => exact absurd rfl h | cons a r => rfl
  simp [e]
theorem dg_ne (n : Nat) : dg n ≠ [] := by
  intro e
  have := tDigits_len_ge 2 n
  have l : (dg n).length = (Nat.toDigits 2 n).length := List.length_map ..
  rw [e] at l
  rw [← l] at this
  exact absurd this (by decide)
theorem text_fb {a : Int} (h0 : 0 ≤ a) : intField' fb (decide (a < 0)) [] ((Nat.toDigits 2 a.natAbs).map fun c => (if ((98 : Nat) == 88) = true then c.toUpper else c).toNat) [] 4 = ⟨(dg a.natAbs).toArray⟩ := by
  rw [digs_eq, decide_eq_false (by omega), field_fb (dg_ne _)]
theorem step_ite {M : Model} {A : Around} {E : Value → Shared → Prop} {s : Shared} {Q : Fin → Shared → Prop} {x t e : Sem Fin} {c : Prop} [Decidable c] (hx : x = ite c t e) (hc : ¬ c) (h : wpAny M A e Q E s) : wpAny M A x Q E s := by
  rw [hx, if_neg hc]
  exact h
theorem ret2 {M : Model} {A : Around} {E : Value → Shared → Prop} {s : Shared} {X T : PySem.Str} {Q : Fin → Shared → Prop} (e : X = T) (hL : T.length ≤ sizeLine) (h : ∀ t k, Q (.done (.ret (.str T t))) { s with toks := k }) : wpAny M A (retStr X) Q E s :=
  KXf.ret_text e (e ▸ hL) h
theorem meets_fb {a : Int} {t u : Tok} (h0 : 0 ≤ a) (hl : (dg a.natAbs).length ≤ 1000) :
    Meets («int.__format__» ⟨[.int a t, .str (⟨#[98]⟩ : Str) u], []⟩) (fun _ R s => ∀ t' k, R (.ok (.ret (.str ⟨(dg a.natAbs).toArray⟩ t'))) { s with toks := k }) := by
  apply KPc.meets_of
  intro prog w A s Q E h
  unfold Builtin.«int.__format__»
  refine wpAny_bind (wpAny_of_eq (a := (_, _)) rfl ?_)
  refine wpAny_bind (wpAny_of_eq (a := _) rfl ?_)
  kxf_if
  refine wpAny_bind (wpAny_typeNameOf (T := "str") (typeIs_str _ _ _) (by decide) fun _ => ?_)
  refine wpAny_bind (wpAny_of_eq (a := some _) rfl ?_)
  kxf_if
  kxf_if
  refine wpAny_bind (wpAny_typeNameOfCut_int ?_)
  repeat kxf_if
  have hneg : decide (a < 0) = false := decide_eq_false (by omega)
  refine ret2 (T := ⟨(dg a.natAbs).toArray⟩) ?_ ?_ h
  · conv => lhs; whnf
    rw [hneg]
    simp
    rfl
  · show (dg a.natAbs).toArray.size ≤ _
    rw [List.size_toArray]
    exact Nat.le_trans hl (by decide)
theorem field_b {prog : Program} {w : World} {A : Around} {E : Value → Shared → Prop} {s : Shared} {a : Int} {t : Tok} {Q : Value → Shared → Prop} (h0 : 0 ≤ a) (hl : (dg a.natAbs).length ≤ 1000)
    (h : ∀ t' k, Q (.str ⟨(dg a.natAbs).toArray⟩ t') { s with toks := k }) : wpAny (model prog w) A (formatField (.int a t) (⟨#[98]⟩ : Str)) Q E s :=
  KXf.field_int rfl (by decide) (by decide) (fun u => meets_fb h0 hl) h
end FB
/-- f"{e:b}" -/
def tFmtB (te : TE) : TE := fun σ H Q => te σ H fun x H1 => ∃ n : Nat, x = .int (n : Int) ∧ (FB.dg n).length ≤ 1000 ∧ Q (.str ⟨(FB.dg n).toArray⟩) H1
theorem pe_fmtB {X : Cx} {e : Expr} {te : TE} {p1 p2 pos : Pos} {kd : Nat} (he : PE X e te) : PE X (.FormattedValue e (-1) (some (.JoinedStr [.Constant (.str "b") kd p1] p2)) pos) (tFmtB te) := by
  refine ⟨fun pins s σ H Q I h => ?_⟩
  refine wpAny_FormattedValue_spec (thn (he.run pins s σ H _ I h) fun v s1 hv => ?_)
  obtain ⟨x, H1, I1, r1, n, rfl, hl, q⟩ := hv
  obtain ⟨t, rfl⟩ := r1
  refine wpAny_JoinedStr_one (thn ((pe_str (X := X)).run pins s1 σ H1 (fun x H' => x = .str "b" ∧ H' = H1) I1 ⟨rfl, rfl⟩) fun v s2 hv => ?_)
  obtain ⟨x, H2, I2, r2, rfl, rfl⟩ := hv
  obtain ⟨t2, rfl⟩ := r2
  exact ⟨_, _, rfl, FB.field_b (Int.natCast_nonneg n) hl fun t' k => ⟨.str ⟨(FB.dg n).toArray⟩, H2, I2.tok k, ⟨t', rfl⟩, q⟩⟩
end L2
namespace L2
open PySem PySem.Spec PyProof.Rows
section
variable {X : Cx}
/-- name = {..} on one line, the name a local -/
theorem ps_setDc {i : Nat} {y : Str} {py : Pos} {kx vx tg iter : Expr} {ifs : List Expr} {scope : Scope} {own : List (Str × Nat)} {pos spos : Pos} {wi : TI} {g : TG} {tt : TT} {tk tv : TE} (hc : X.calm = true) (hN : X.N.Nodup) (hy : X.N[i]? = some y) (hyl : X.env.scope.names.lookup y = some .local)
    (hsw : swapsWith (.DictComp kx vx [⟨tg, iter, ifs, 0⟩] scope pos) (some (.Name y py)) spos.line X.env = pure true) (hi : PI X tg iter wi) (ok : BlkOk X.N X.env.scope scope own)
    (hg : ∀ (s : Shared) (H : Hp) (C : Addr) (cl : List (Str × Addr)) (fp : List Addr), PG (X.blk s H scope (compEnvC scope cl C X.env) fp) tg g) (ht : ∀ (s : Shared) (H : Hp) (C : Addr) (cl : List (Str × Addr)) (fp : List Addr), PTs (X.blk s H scope (compEnvC scope cl C X.env) fp) ifs tt)
    (hk : ∀ (s : Shared) (H : Hp) (C : Addr) (cl : List (Str × Addr)) (fp : List Addr), PE (X.blk s H scope (compEnvC scope cl C X.env) fp) kx tk) (he : ∀ (s : Shared) (H : Hp) (C : Addr) (cl : List (Str × Addr)) (fp : List Addr), PE (X.blk s H scope (compEnvC scope cl C X.env) fp) vx tv)
    (hs : ∀ x, foldedSetIterable iter X.env x = pure x := by intro _; rfl) : PS X (.Assign [.Name y py] (.DictComp kx vx [⟨tg, iter, ifs, 0⟩] scope pos) spos) (tAsg (tDc wi g tt tk tv (own.map (·.2))) (gName i)) := by
  refine ⟨fun pins s σ H D I h => ?_⟩
  rw [exec_Assign_Name_used _ _ _ _ hsw]; refine wpAny_bind (wpAny_standAt (wpAny_bind ?_))
  show wpAny _ X.A (do let _ ← comprehension (.DictComp kx vx [⟨tg, iter, ifs, 0⟩] scope pos) scope X.env (firstIterPos [⟨tg, iter, ifs, 0⟩] pos) newDict false (eval iter X.env) (some (assign (.Name y py) X.env))) _ _ s
  have h : tDc wi g tt tk tv (own.map (·.2)) σ H (fun x H1 => gName i x σ H1 D.nx) := h
  refine wpAny_bind (thn (dc_core (Qf := fun _ s' => SP X pins D .next s') hc hN I hi ok hg ht hk he hs h fun L C s' m H' I' q hn f => ?_) fun _ s' hq => wpAny_pure (wpAny_pure hq))
  show wpAny _ _ (assign (.Name y py) X.env (.ref L)) _ _ _
  refine wpAny_assign_Name (store_ok2 (v := V.ref L) I' hN hy (.inl hyl) rfl (fun s2 I2 ⟨a, sb, ha⟩ => ?_) (.inr hyl))
  obtain ⟨f0, f1, f2, f3, f4, f5⟩ := f
  have haC : C ≠ a := ha.elim (fun z => z ▸ f1) fun z e => f4 y a z e.symm
  exact ⟨m, hn.sameBut sb haC, fun h3 sb3 => ⟨_, H', I2.turned (t' := s2.toks) (fun b o hb e => (sb3.2 b hb).trans e) f0 f1 f3 f4 f5, q⟩⟩
theorem sw_trueD {kx vx : Expr} {gs : List Comprehension} {scope : Scope} {pos py : Pos} {y : Str} {l : Nat} {env : Env} (hk : env.scope.kind = .function) (hy : env.scope.names.lookup y = some .local) (hl : (py.line == pos.line) = true)
    (ha : (scope.names.any fun (n, k) => n == y && (k == .local || k == .cell)) = false) : swapsWith (.DictComp kx vx gs scope pos) (some (.Name y py)) l env = pure true := by
  have k1 : env.kindOf y = some .local := hy
  have k2 : env.blockKind = .function := by unfold Env.blockKind; rw [hk]; rfl
  unfold swapsWith
  simp only [k1, k2, ha, Expr.pos, hl]
  rfl
end
end L2
/-! ## list(d.values()) -/
namespace LiV
open PySem PySem.Spec PyProof.Rows L2
def tListVals (te : TE) : TE := fun σ H Q => te σ H fun x H1 => ∃ (d : Addr) (kvs : List (Key × V)), x = .ref d ∧ H1 d = some (.dK kvs) ∧ ∀ p, H1 p = none → Q (.ref p) (upd H1 p (.lst (kvs.map (·.2))))
theorem vals_each : ∀ {kvs : List (Key × V)} {vs : List (Key × Value)} {us : List Value}, KV kvs vs → us.length = vs.length → (∀ (j : Nat) (v : Value), us[j]? = some v → ∃ k, vs[j]? = some (k, v)) → Vals (kvs.map (·.2)) us := by
  intro kvs vs us r
  induction r generalizing us with
  | nil =>
    intro hl _
    have e : us = [] := List.eq_nil_of_length_eq_zero hl
    subst e
    exact .nil
  | cons r0 rt ih =>
    intro hl h
    cases us with
    | nil => cases hl
    | cons u us =>
      obtain ⟨k, e⟩ := h 0 u rfl
      have e' := Option.some.inj e
      subst e'
      exact .cons r0.2 (ih (Nat.succ.inj hl) fun j v q => h (j + 1) v q)
section
variable {X : Cx} {e : Expr} {te : TE} {p apos cpos pos : Pos}
theorem pe_listVals (hc : X.calm = true) (he : PE X e te) (hg : Gl X "list") (hm : X.mg "list" = none) (hv : bootBuiltins "list" = some (.type "list")) (hbase : attributeBase e "values" X.env (eval e X.env) = eval e X.env := by rfl) (hline : (apos.endLine == cpos.line) = true := by rfl)
    (hs : starEach [.Call (.Attribute e "values" apos) [] [] cpos] X.env = (false, eval (.Call (.Attribute e "values" apos) [] [] cpos) X.env) :: starEach [] X.env := by rfl) :
    PE X (.Call (.Name "list" p) [.Call (.Attribute e "values" apos) [] [] cpos] [] pos) (tListVals te) := by
  refine ⟨fun pins s σ H Q I hq => ?_⟩
  refine wpAny_Call_Name_kw (ld_blt I hg hm hv ?_)
  refine PyProof.Rows.callWith_type1 ?_ hs rfl
  rw [hs]
  show wpAny _ _ (spliced ((false, eval (.Call (.Attribute e "values" apos) [] [] cpos) X.env) :: backTo pos (starEach [] X.env))) _ _ s
  refine Calls.spliced_cons ?_
  refine wpAny_Call_method (T := "dict") (id := "dict.values") hbase rfl hline F.plainAttrs_dict F.slot_dict_values F.type_dict_values (thn (he.run pins s σ H _ I hq) fun u s1 ⟨x, H1, I1, rx, d, kvs, ex, hd, q⟩ => ?_)
  subst ex
  obtain rfl : u = Value.ref d := rx
  obtain ⟨hz, hs0, vs, kv, hdo⟩ := I1.hok d _ hd
  obtain ⟨ep, hat⟩ := hdo.dictAt
  have lk : kvs.length = vs.length := Paired.length kv
  have I2 : Inv X pins σ H1 { s1 with heap := s1.heap.push { cls := .type "dict_values", data := .fields #[.ref d] } } := I1.kept (t' := s1.toks) fun b ob q => Heap.get?_push_of_some _ q
  refine ⟨hdo.typeIs, hdo.mapOf.noDict, ?_⟩
  show wpAny _ _ (callWith cpos (.builtin "dict.values") [.ref d] [] []) _ X.xe s1
  refine method_meetsIn F.slot_dict_values F.entry_dict_values rfl (PySem.evalArgs_none ⟨rfl, hdo.typeIs, F.args_dict_values_1 _, _, meets_dict_values (mixKind X.prog X.w) d hs0, ⟨vs, hdo⟩, ?_⟩)
  refine Calls.spliced_nil ?_
  refine PySem.W.kdl_call (PySem.W.kdl_values (knd := mixKind X.prog X.w) (kvs := vs) (ep := ep)) (I1.ok.hd hc) ⟨⟨_, Heap.get?_push_size _ rfl, rfl, rfl⟩, hat.push _⟩ (by omega) fun h' tk acc c' hk hD hacc => ?_
  have hv' : Vals (kvs.map (·.2)) acc.toList := vals_each kv (by rw [Array.length_toList]; exact hacc.1) fun j v e => hacc.2 j v (by rw [← Array.getElem?_toList]; exact e)
  refine ⟨.ref _, upd H1 _ (.lst (kvs.map (·.2))), I2.laid (t' := tk) hk (Nat.le_refl _)
    (show ObjOk X.prog X.w _ _ _ (.lst (kvs.map (·.2))) from ⟨by rw [List.length_map]; exact hz, acc.toList, c', hv', by rw [Array.toArray_toList]; exact hD⟩), rfl, q _ (I2.hok.fresh (Nat.le_refl _))⟩
end
end LiV
namespace Cov
open PySem PySem.Spec PyProof.Rows L2
/-! ## texts of data: repr -/
def kD : Key → PyData
  | .inl i => .int i
  | .inr x => .str x
def vD : V → Option PyData
  | .non => some .none
  | .bl b => some (.bool b)
  | .int i => some (.int i)
  | .str x => some (.str x)
  | _ => none
inductive Flat : List (Key × V) → List (PyData × PyData) → Prop
  | nil : Flat [] []
  | cons {k : Key} {v : V} {d : PyData} {r : List (Key × V)} {ds : List (PyData × PyData)} : vD v = some d → Flat r ds → Flat ((k, v) :: r) ((kD k, d) :: ds)
/-- what a value's text is made of -/
inductive Rp (K : PySem.W.Frag) (H : Hp) : V → PyData → Prop
  | dat {x : V} {d : PyData} : Dp K H x d → PyData.hasDict d = false → Rp K H x d
  | dct {a : Addr} {kvs : List (Key × V)} {ds : List (PyData × PyData)} : H a = some (.dK kvs) → Flat kvs ds → Rp K H (.ref a) (.dict ds)
section
variable {X : Cx} {pins : List (Addr × Obj)} {σ : L2.St} {H : Hp} {s : Shared}
theorem vD_reads {h : Heap} {v : V} {d : PyData} {u : Value} (e : vD v = some d) (r : RelV v u) : Reads h u d [] := by
  cases v with
  | non => cases e; cases (show u = Value.none from r); exact .none
  | bl b => cases e; cases (show u = Value.bool b from r); exact .bool b
  | int i => cases e; obtain ⟨t, rfl⟩ := (show ∃ t, u = Value.int i t from r); exact .int i t
  | str x => cases e; obtain ⟨t, rfl⟩ := (show ∃ t, u = Value.str x t from r); exact .str x t
  | byt b => cases e
  | flt b => cases e
  | ref a => cases e
  | ty n => cases e
theorem flat_reads {P : Program} {w : World} {h : Heap} : ∀ {kvs : List (Key × V)} {ds : List (PyData × PyData)} {es : List DictEntry} {vs : List (Key × Value)}, Flat kvs ds → KV kvs vs → PySem.Pairs (mixKind P w) es vs →
    ReadsAll h (es.map (·.key)) (ds.map (·.1)) [] ∧ ReadsAll h (es.map (·.val)) (ds.map (·.2)) []
  | _, _, _, _, .nil, .nil, .nil => ⟨.nil, .nil⟩
  | _, _, _, _, .cons hv hr, .cons hk hkr, .cons he1 he2 her => by
    obtain ⟨i1, i2⟩ := flat_reads hr hkr her
    obtain ⟨q1, q2⟩ := hk
    refine ⟨ReadsAll.cons (as := []) (bs := []) ?_ i1, ReadsAll.cons (as := []) (bs := []) ?_ i2⟩
    · have he1' := he1
      rw [mixKind_is, ← q1] at he1'
      rcases keyIs_shape he1' with ⟨i, t, e1, e2⟩ | ⟨x, t, e1, e2⟩
      · simp only at e1; subst e1; show Reads h _ (PyData.int i) []; simp only [e2]; exact Reads.int i t
      · simp only at e1; subst e1; show Reads h _ (PyData.str x) []; simp only [e2]; exact Reads.str x t
    · simp only [he2]; exact vD_reads hv q2
theorem Rp.reads (I : Inv X pins σ H s) {x : V} {d : PyData} {u : Value} (h : Rp X.K H x d) (r : RelV x u) : ∃ as, Reads s.heap u d as ∧ (PyData.hasDict d = true → sysModules ∉ as) := by
  cases h with
  | dat h0 h1 =>
    obtain ⟨as, q⟩ := Dp.reads I d x u h0 r
    exact ⟨as, q, fun z => by rw [h1] at z; cases z⟩
  | @dct a kvs ds ha hf =>
    obtain ⟨z, ns, vs, rel, o, es, ep, e1, e2, e3, e4, e5, e6⟩ := dk_of I.hok ha
    cases (show u = Value.ref a from r)
    obtain ⟨r1, r2⟩ := flat_reads (h := s.heap) hf rel e5
    refine ⟨_, Reads.dict e1 e2.1 e3 r1 r2, fun _ hm => ?_⟩
    rw [List.append_nil, List.mem_singleton] at hm
    exact (beq_eq_false_iff_ne.mp ns) hm.symm
/-- repr(x), where nothing around is being shown -/
@[irreducible] def rRepr (K : PySem.W.Frag) : List V → Hp → VK → Prop := fun xs H Q => ∃ (x : V) (d : PyData), xs = [x] ∧ Rp K H x d ∧ PyData.showable d = true ∧ PyData.depth d ≤ 50 ∧ d.shown.length ≤ sizeLine ∧ Q (.str d.shown) H
theorem call_repr (hg : X.A.guards = some []) (hu : X.A.units + 60 < cLine) : CallR X (.builtin "repr") (rRepr X.K) := by
  intro pins s σ H xs us Q I r h
  unfold rRepr at h
  obtain ⟨x, d, rfl, hx, hs, hd, hz, q⟩ := h
  obtain ⟨u, rfl, ru⟩ := vals1 r
  obtain ⟨as, rd, hm⟩ := hx.reads I ru
  cases rd with
  | none => exact PySem.P.repr_of_none ⟨.str _, H, I.tok _, ⟨_, rfl⟩, by simpa only [PyData.shown] using q⟩
  | bool b => exact PySem.P.repr_of_bool ⟨.str _, H, I.tok _, ⟨_, rfl⟩, by simpa only [PyData.shown] using q⟩
  | int i t => exact PySem.P.repr_of_int (by simpa [PyData.showable] using hs) ⟨.str _, H, I.tok _, ⟨_, rfl⟩, by simpa only [PyData.shown] using q⟩
  | str y t => exact PySem.P.repr_of_str (hsz := by simpa only [PyData.shown] using hz) ⟨.str _, H, I.tok _, ⟨_, rfl⟩, by simpa only [PyData.shown] using q⟩
  | list h1 h2 h3 h4 => exact repr_of_reads' (.list h1 h2 h3 h4) hs hm hg (by omega) (fun _ _ e => e) (fun h' u tk hk => ⟨.str _, H, I.kept hk, ⟨_, rfl⟩, q⟩) hz
  | tuple h1 h2 h3 h4 => exact repr_of_reads' (.tuple h1 h2 h3 h4) hs hm hg (by omega) (fun _ _ e => e) (fun h' u tk hk => ⟨.str _, H, I.kept hk, ⟨_, rfl⟩, q⟩) hz
  | dict h1 h2 h3 h4 h5 => exact repr_of_reads' (.dict h1 h2 h3 h4 h5) hs hm hg (by omega) (fun _ _ e => e) (fun h' u tk hk => ⟨.str _, H, I.kept hk, ⟨_, rfl⟩, q⟩) hz
end
theorem repr_go {K : PySem.W.Frag} {H : Hp} {Q : VK} {x : V} {d : PyData} (h : Rp K H x d ∧ PyData.showable d = true ∧ PyData.depth d ≤ 50 ∧ d.shown.length ≤ sizeLine) (q : Q (.str d.shown) H) : rRepr K [x] H Q := by
  unfold rRepr
  exact ⟨x, d, rfl, h.1, h.2.1, h.2.2.1, h.2.2.2, q⟩
open PySem PySem.Spec PyProof.Rows L2
/-! ## room in which nothing is being shown -/
structure RoomG (k : Nat) (A : Around) : Prop where
  r : Room k A
  g : A.guards = some []
theorem RoomG.mono {j k : Nat} {A : Around} (x : RoomG k A) (h : j ≤ k) : RoomG j A := ⟨x.r.mono h, x.g⟩
theorem RoomG.deeper {k : Nat} {A : Around} (x : RoomG (k + 1) A) (e : Env) : RoomG k (A.deeper e) := ⟨x.r.deeper e, x.g⟩
theorem RoomG.u {k : Nat} {A : Around} (x : RoomG k A) : A.units + 60 < cLine := Nat.lt_trans (by omega) x.r.units
theorem RoomG.u1 {k : Nat} {A : Around} (x : RoomG k A) : A.units + 1 < cLine := by have := x.u; omega
theorem RoomG.u64 {k : Nat} {A : Around} (x : RoomG k A) : A.units + 64 < cLine := x.r.units
/-! ## promises that hold where nothing is being shown -/
structure FnG (P : Program) (w : World) (K : PySem.W.Frag) (mg : Str → Option Value) (base : Heap) (CX : CXT) (k : Nat) (f : Addr) (fd : FuncData) (ps : List Str) (sp : Sp) : Prop where
  len : ∀ vs H Q E, sp vs H Q E → vs.length = ps.length
  run : ∀ (A : Around) (outer : List Env) (s : Shared) (H : Hp) (args : Args) (us : List Value) (vs : List V) (Q : VK) (E : XK),
    RoomG k A → Env0 P w K mg base A outer s H → BindsTo s fd args (ps.zip us) → Vals vs us → sp vs H Q E → codeAny (model P w) A (.call (.ref f) args) (CR CX outer P w H s Q E) s
theorem FnG.of {P : Program} {w : World} {K : PySem.W.Frag} {mg : Str → Option Value} {base : Heap} {CX : CXT} {k : Nat} {f : Addr} {fd : FuncData} {ps : List Str} {sp : Sp} (F : FnOk P w K mg base CX k f fd ps sp) : FnG P w K mg base CX k f fd ps sp :=
  ⟨F.len, fun A outer s H args us vs Q E hr => F.run A outer s H args us vs Q E hr.r⟩
/-- a def by its name: st its statement, ps its parameters -/
structure Nm (P : Program) (w : World) (K : PySem.W.Frag) (mg : Str → Option Value) (base : Heap) (CX : CXT) (k : Nat) (x : Str) (st : Stmt) (ps : List Str) (sp : Sp) : Prop where
  ex : ∃ (f : Addr) (fd : FuncData), Fun K x x st f fd ∧ mg x = some (.ref f) ∧ FnG P w K mg base CX k f fd ps sp
section
variable {P : Program} {w : World} {K : PySem.W.Frag} {mg : Str → Option Value} {base : Heap} {CX : CXT}
/-- THE RULE for a def -/
theorem nm_of {x : Str} {st : Stmt} {f : Addr} {fd : FuncData} {N ps : List Str} {k : Nat} {sp : Sp} (F : Fun K x x st f fd) (hm : mg x = some (.ref f)) (S : FnScope N ps (defScope st)) (len : ∀ vs H Q E, sp vs H Q E → vs.length = ps.length)
    (hb : ∀ (cdv : Value) (A : Around) (outer : List Env) (s : Shared) (H : Hp) (vs : List V) (Q : VK) (E : XK), RoomG k (A.deeper (envOfC x (defScope st) s.heap.objs.size f cdv)) → sp vs H Q E →
      ∃ t, PSs (cxOf CX P w K mg base N x (defScope st) f cdv A outer s H E) (defBody st) t ∧ t { nx := fun _ H' => Q .non H', rt := Q } (start N vs) H) : Nm P w K mg base CX (k + 1) x st ps sp := by
  refine ⟨f, fd, F, hm, len, ?_⟩
  obtain ⟨oc, od, kV, doc, pm, an, cdv, ct, osl, rfl, lk, hcd⟩ := F.ex
  intro A outer s H args us vs Q E hr e0 bt rv hs
  have hl := len _ _ _ _ hs
  have kin : K.In s.heap := e0.mod.kin.keeps fun b o e => (e0.bs b o e).1
  have nol : s.heap.NoLimit := e0.mod.nolimit.keeps fun b o e => (e0.bs b o e).1
  refine codeAny_call_function hr.r.depth (kin _ _ lk) rfl S.co S.gen rfl (PySem.W.codeRec_of kin hcd) (bt _ _ _ _ ?_)
  refine wpAny_newFunctionEnv_cells S.kind (fun ⟨n, v⟩ hy => ?_) fun env he s1 x1 => ?_
  · cases S.par n (List.of_mem_zip hy).1 with
    | inl q => exact .inl q
    | inr q => exact .inr ⟨q, PySem.W.cellsFrom_some _ _ _ (.inl q)⟩
  · subst he
    refine ⟨nol.keeps x1.toInCall.keep, codeAny_func ?_⟩
    obtain ⟨t, ht, hq⟩ := hb cdv A outer s H vs Q E (hr.deeper _) hs
    have I : Inv (cxOf CX P w K mg base N x (defScope st) f cdv A outer s H E) [] (start N vs) H s1 := inv_start S hr.r.hd e0 hl rv x1
    refine wpAny_mono (ht.run [] s1 (start N vs) H _ I hq) (fun fl s' z => ?_) fun e s' z => z
    cases fl with
    | ret u => obtain ⟨v, σ', H', J, r2, q⟩ := z; exact ⟨v, H', J.os, J.bare, J.base, J.hok, r2, q⟩
    | next => obtain ⟨σ', H', J, q⟩ := z; exact ⟨.non, H', J.os, J.bare, J.base, J.hok, rfl, q⟩
    | brk => obtain ⟨_, _, _, q⟩ := z; exact q.elim
    | cont => obtain ⟨_, _, _, q⟩ := z; exact q.elim
end
section
variable {X : Cx} {CX : CXT} {k j : Nat} {f : Addr} {fd : FuncData} {st : Stmt} {ps ks : List Str} {sp : Sp} {E : XK} {x : Str} {p pos : Pos} {e : Expr} {es : List Expr} {kws : List Keyword} {t tk : TA}
theorem run_g {pins : List (Addr × Obj)} {σ : L2.St} {H : Hp} {s : Shared} {Q : VK} {us ws : List Value} {kw : List (Str × Value)} {vs : List V} (F : FnG X.prog X.w X.K X.mg X.base CX k f fd ps sp) (hr : RoomG k X.A)
    (hb : BindsTo s fd ⟨us, kw⟩ (ps.zip ws)) (hx : Passes CX X E) (I : Inv X pins σ H s) (r : Vals vs ws) (h : sp vs H Q E) : wpAny (model X.prog X.w) X.A (call (.ref f) us kw) (EP X pins σ Q) X.xe s := by
  refine wpAny_call (codeAny_mono (F.run X.A X.stack s H ⟨us, kw⟩ ws vs Q E hr I.env0 hb r h) fun y s' z => ?_)
  match y, z with
  | .error e, z => exact hx pins σ H s e s' I z
  | .ok (.ret u), z => exact I.after z
  | .ok .next, z => exact z.elim
  | .ok .brk, z => exact z.elim
  | .ok .cont, z => exact z.elim
/-- a selection of places -/
def sel {α : Type} (ix : List Nat) (l : List α) : List α := ix.filterMap fun i => l[i]?
theorem sel_vals {xs : List V} {us : List Value} (r : Vals xs us) : ∀ ix : List Nat, Vals (sel ix xs) (sel ix us)
  | [] => .nil
  | i :: ix => by
    unfold sel
    rw [List.filterMap_cons, List.filterMap_cons]
    cases e : xs[i]? with
    | none => rw [r.none_of e]; exact sel_vals r ix
    | some v =>
      obtain ⟨u, h1, h2⟩ := r.get e
      rw [h1]
      exact .cons h2 (sel_vals r ix)
/-- how arguments written by place (n of them) and by name (ks) come to the parameters -/
def Bnd (x : Str) (st : Stmt) (ps : List Str) (n : Nat) (ks : List Str) (ix : List Nat) : Prop :=
  ∀ (kV doc pm cdv ct : Value) (an : Option Addr) (us ws : List Value), us.length = n → ws.length = ks.length →
    bindArgs (PySem.W.fnOf x x (defArgs st) (defBody st) (defScope st) .none kV doc pm an cdv ct) ⟨us, ks.zip ws⟩ = pure (ps.zip (sel ix (us ++ ws)))
def tG (sp : Sp) (E : XK) (t : TA) : TE := fun σ H Q => t σ H fun vs H1 => sp vs H1 Q E
def tGK (sp : Sp) (n m : Nat) (ix : List Nat) (E : XK) (t tk : TA) : TE := fun σ H Q => t σ H fun vs H1 => tk σ H1 fun zs H2 => vs.length = n ∧ zs.length = m ∧ sp (sel ix (vs ++ zs)) H2 Q E
/-- plain positional binding -/
def BndP (x : Str) (st : Stmt) (ps : List Str) : Prop :=
  ∀ (kV doc pm cdv ct : Value) (an : Option Addr) (us : List Value), us.length = ps.length → bindArgs (PySem.W.fnOf x x (defArgs st) (defBody st) (defScope st) .none kV doc pm an cdv ct) ⟨us, []⟩ = pure (ps.zip us)
/-- x(e, ..) -/
theorem pe_g (c : Nm X.prog X.w X.K X.mg X.base CX k x st ps sp) (hr : RoomG j X.A) (hk : k ≤ j) (hx : Passes CX X E) (b : BndP x st ps) (hg : Gl X x) (ha : PA X (e :: es) t)
    (hdb : (x == ("__debug__" : Str)) = false := by decide) (he : starEach (e :: es) X.env = (false, eval e X.env) :: starEach es X.env := by rfl) (hpl : (backTo pos (starEach es X.env)).any (·.1) = false := by rfl) :
    PE X (.Call (.Name x p) (e :: es) [] pos) (tG sp E t) := by
  obtain ⟨f, fd, F, hm, G⟩ := c.ex
  have kp := F.kp
  obtain ⟨oc, od, kV, doc, pm, an, cdv, ct, osl, rfl, lk, hcd⟩ := F.ex
  refine ⟨fun pins s σ H Q I h => wpAny_Call_Name_kw (ld_glob I hg hm (PySem.W.callWith_K (h₀ := X.base) I.ok.mod.kin kp (thn (ha.run pos pins s σ H _ I h) fun us s1 ⟨vs, H1, I1, r, q⟩ => ⟨I1.kIn, ?_⟩) he hpl) hdb)⟩
  have q' : sp vs H1 Q E := q
  have h0 := r.length
  have h1 := G.len _ _ _ _ q'
  exact run_g (kw := []) G (hr.mono hk) (.of_eq (b kV doc pm cdv ct an us (by omega))) hx I1 r q'
/-- x(e, .., k = e, ..) -/
theorem pe_gK {ix : List Nat} (c : Nm X.prog X.w X.K X.mg X.base CX k x st ps sp) (hr : RoomG j X.A) (hk : k ≤ j) (hx : Passes CX X E) (b : Bnd x st ps (e :: es).length ks ix) (hg : Gl X x) (ha : PA X (e :: es) t) (hkw : PK X kws tk)
    (hall : (backToKw pos (keywordEach kws X.env)).all (·.1.isSome) = true := by rfl) (hks : (backToKw pos (keywordEach kws X.env)).filterMap (·.1) = ks := by rfl)
    (hdb : (x == ("__debug__" : Str)) = false := by decide) (he : starEach (e :: es) X.env = (false, eval e X.env) :: starEach es X.env := by rfl)
    (hpl : ((backTo pos (starEach (e :: es) X.env)).any (·.1) || (backToKw pos (keywordEach kws X.env)).any (·.1.isNone)) = false := by rfl) :
    PE X (.Call (.Name x p) (e :: es) kws pos) (tGK sp (e :: es).length ks.length ix E t tk) := by
  obtain ⟨f, fd, F, hm, G⟩ := c.ex
  have kp := F.kp
  obtain ⟨oc, od, kV, doc, pm, an, cdv, ct, osl, rfl, lk, hcd⟩ := F.ex
  refine ⟨fun pins s σ H Q I h => wpAny_Call_Name_kw (ld_glob I hg hm (PySem.W.callWith_KW (h₀ := X.base) I.ok.mod.kin kp hall (thn (ha.run pos pins s σ H _ I h) fun us s1 ⟨vs, H1, I1, r, q⟩ => ?_) hpl he) hdb)⟩
  refine thn (hkw.run pos pins s1 σ H1 _ I1 q) fun ws s2 ⟨zs, H2, I2, rz, l1, l2, q2⟩ => ⟨I2.kIn, ?_⟩
  rw [hks]
  exact run_g G (hr.mono hk) (.of_eq (b kV doc pm cdv ct an us ws (r.length.symm.trans l1) (rz.length.symm.trans l2))) hx I2 (sel_vals (r.append rz) ix) q2
/-- x(k = e, ..) -/
theorem pe_gK0 {ix : List Nat} (c : Nm X.prog X.w X.K X.mg X.base CX k x st ps sp) (hr : RoomG j X.A) (hk : k ≤ j) (hx : Passes CX X E) (b : Bnd x st ps 0 ks ix) (hg : Gl X x) (hkw : PK X kws tk)
    (hall : (backToKw pos (keywordEach kws X.env)).all (·.1.isSome) = true := by rfl) (hks : (backToKw pos (keywordEach kws X.env)).filterMap (·.1) = ks := by rfl)
    (hdb : (x == ("__debug__" : Str)) = false := by decide)
    (hpl : ((backTo pos (starEach [] X.env)).any (·.1) || (backToKw pos (keywordEach kws X.env)).any (·.1.isNone)) = false := by rfl) :
    PE X (.Call (.Name x p) [] kws pos) (tGK sp 0 ks.length ix E tNil tk) := by
  obtain ⟨f, fd, F, hm, G⟩ := c.ex
  have kp := F.kp
  obtain ⟨oc, od, kV, doc, pm, an, cdv, ct, osl, rfl, lk, hcd⟩ := F.ex
  refine ⟨fun pins s σ H Q I h => wpAny_Call_Name_kw (ld_glob I hg hm (PySem.W.callWith_KW0 (h₀ := X.base) I.ok.mod.kin kp hall ?_ hpl) hdb)⟩
  refine thn (hkw.run pos pins s σ H _ I h) fun ws s2 ⟨zs, H2, I2, rz, l1, l2, q2⟩ => ⟨I2.kIn, ?_⟩
  rw [hks]
  exact run_g G (hr.mono hk) (.of_eq (b kV doc pm cdv ct an [] ws rfl (rz.length.symm.trans l2))) hx I2 (sel_vals (xs := [] ++ zs) (us := [] ++ ws) rz ix) q2
end
/-! ## the law's own call -/
theorem law_g {P : Program} {w : World} {K : PySem.W.Frag} {mg mb : Str → Option Value} {CX : CXT} {k : Nat} {a fa : Addr} {fd : FuncData} {x : Str} {sp : Sp} {s₁ : Shared} {vs : List Value} {ns : List Int}
    (KX : K.In s₁.heap) (hG : s₁.heap.Ns mainGlobals mg) (hB : s₁.heap.Ns builtinsNs mb) (hBB : ∀ x : Str, x ≠ "__name__" → mb x = bootBuiltins x) (hL : s₁.heap.NoLimit) (hgen : s₁.gens = #[])
    (ha : s₁.heap.get? a = some { cls := .type "list", data := .seq vs.toArray }) (hi : IntsAre vs ns) (hl : ns.length ≤ sizeLine) (hr : RoomG k callerA)
    (F : ∀ base : Heap, K.In base → base.Ns mainGlobals mg → FnG P w K mg base CX k fa fd [x] sp) (hbind : ∀ (s : Shared) (u : Value), BindsTo s fd ⟨[u], []⟩ [(x, u)])
    (hsp : ∀ H : Hp, SqL K H a (ns.map V.int) → (∀ b, H b = none ∨ b = a) → sp [.ref a] H (fun v _ => v = .bl true) fun _ _ _ => False)
    (hCX : ∀ H e s', CX [] H s₁ (fun _ _ _ => False) e s' → False) :
    codeAny (model P w) callerA (.call (.ref fa) ⟨[.ref a], []⟩) (fun r s' => r = .ok (.ret (.bool true)) ∧ OldK s₁.heap s'.heap ∧ s'.os = s₁.os ∧ AllBare s'.gens) s₁ := by
  -- the script is tracked, locked, where it is no object of the text's own
  let so : Obj := { cls := .type "list", data := .seq vs.toArray }
  have main : ∀ H : Hp, (∀ b, H b = none ∨ (b = a ∧ K.lookup a = none ∧ H b = some (.frz so (.lst (ns.map V.int))))) → SqL K H a (ns.map V.int) → HOk P w H s₁.heap →
      codeAny (model P w) callerA (.call (.ref fa) ⟨[.ref a], []⟩) (fun r s' => r = .ok (.ret (.bool true)) ∧ OldK s₁.heap s'.heap ∧ s'.os = s₁.os ∧ AllBare s'.gens) s₁ := by
    intro H only hS hok
    have isNone : ∀ {b : Addr} {o : Obj}, s₁.heap.get? b = some o → (∀ (y : H b = some (.frz so (.lst (ns.map V.int)))), b = a → K.lookup a = none → o = so → False) → H b = none := fun {b o} e n => by
      rcases only b with q | ⟨q1, q2, q3⟩
      · exact q
      · refine (n q3 q1 q2 ?_).elim
        subst q1
        exact Option.some.inj (e.symm.trans ha)
    have nsOf : ∀ {b : Addr} {m : Str → Option Value}, s₁.heap.Ns b m → (hidT s₁.heap H).Ns b m := fun {b m} ⟨o, es, ep, e, d, r⟩ =>
      ⟨o, es, ep, hidT_get e (isNone e fun _ _ _ z => by subst z; cases d), d, r⟩
    have hK : K.In (hidT s₁.heap H) := fun b o e => hidT_get (KX b o e) (isNone (KX b o e) fun _ y z _ => by subst y; rw [z] at e; cases e)
    have hM : Mod K mg (hidT s₁.heap H) := ⟨hK, nsOf hG, ⟨mb, nsOf hB, hBB⟩, hL.elim fun mc z => ⟨mc, nsOf z.1, z.2⟩⟩
    have nofr : ∀ b : Addr, b ∉ frs ([] : List Env) := fun b z => by cases z
    have e0 : Env0 P w K mg (hidT s₁.heap H) callerA [] s₁ H := ⟨rfl, hM, fun b o e => of_hidT e, by rw [hidT_size] <;> exact Nat.le_refl _, trivial, fun b z => (nofr b z).elim, hok, .of_eq hgen⟩
    have hs : sp [.ref a] H (fun v _ => v = .bl true) fun _ _ _ => False := hsp H hS fun b => (only b).elim Or.inl fun z => Or.inr z.1
    refine codeAny_mono ((F _ hK (nsOf hG)).run callerA [] s₁ H ⟨[.ref a], []⟩ [.ref a] [.ref a] _ _ hr e0 (hbind s₁ (.ref a)) (.cons rfl .nil) hs) fun r s' z => ?_
    match r, z with
    | .error e, z => exact (hCX H e s' z).elim
    | .ok .next, z => exact z.elim
    | .ok .brk, z => exact z.elim
    | .ok .cont, z => exact z.elim
    | .ok (.ret u), ⟨v, H', os, bare, un, hok', rv, q⟩ =>
      obtain rfl : v = .bl true := q
      obtain rfl : u = Value.bool true := rv
      refine ⟨rfl, OldK.of_keep fun b o e => ?_, os, bare⟩
      rcases only b with y | ⟨_, _, y⟩
      · exact un.keep b o e y (nofr b) (by intro c; cases c)
      · obtain ⟨e1, _⟩ := hok b _ y
        obtain ⟨e2, _⟩ := hok' b _ (un.frzs b _ _ y)
        exact e2.trans (e1.symm.trans e)
  cases hk : K.lookup a with
  | some o =>
    have e : o = so := Option.some.inj ((KX a o hk).symm.trans ha)
    subst e
    exact main (fun _ => none) (fun _ => .inl rfl) (.inr ⟨so, vs.toArray, _, hk, rfl, rfl, rfl, by rw [List.size_toArray, hi.length]; exact hl, by simpa using vals_ints hi⟩) fun b u z => by cases z
  | none =>
    have at_a : (fun b : Addr => if b = a then some (HO.frz so (.lst (ns.map V.int))) else none) a = some (HO.frz so (.lst (ns.map V.int))) := if_pos rfl
    refine main (fun b => if b = a then some (.frz so (.lst (ns.map V.int))) else none) (fun b => ?_) (.inl (.inr ⟨so, at_a⟩)) fun b u z => ?_
    · by_cases y : b = a
      · exact .inr ⟨y, hk, if_pos y⟩
      · exact .inl (if_neg y)
    · by_cases y : b = a
      · subst y
        obtain rfl : HO.frz so (.lst (ns.map V.int)) = u := Option.some.inj (at_a.symm.trans z)
        exact ⟨ha, by rw [List.length_map] <;> exact hl, vs, _, vals_ints hi, ha⟩
      · have z' : (none : Option HO) = some u := (if_neg y).symm.trans z
        cases z'
theorem walk_g {l : PySem.W.OpenLaw} {n k : Nat} {q : Program} {loose : List Str} {XP : (Str → Option Value) → Heap → Prop} {YP : World → Heap → Prop} {d : DefRec} {K : Params → PySem.W.Frag} {CX : World → CXT} {sp : World → Sp} {x : Str}
    (hn : l.most = some n) (hn2 : n ≤ sizeLine) (hdf : d.params.defaults = []) (hr : RoomG k callerA) (hY : ∀ (w : World) (h : Heap), YP w h → (K w.params).In h)
    (F : ∀ (w : World) (mg : Str → Option Value) (fa : Addr) (h : Heap), (K w.params).In h → h.Ns mainGlobals mg → mg d.name = some (.ref fa) →
      ∃ fd : FuncData, (∀ (s : Shared) (u : Value), BindsTo s fd ⟨[u], []⟩ [(x, u)]) ∧ ∀ base : Heap, (K w.params).In base → base.Ns mainGlobals mg → FnG l.prog w (K w.params) mg base (CX w) k fa fd [x] (sp w))
    (hsp : ∀ (w : World) (H : Hp) (a : Addr) (ns : List Int), ns.length ≤ n → SqL (K w.params) H a (ns.map V.int) → (∀ b, H b = none ∨ b = a) → sp w [.ref a] H (fun v _ => v = .bl true) fun _ _ _ => False)
    (hCX : ∀ (w : World) (H : Hp) (s : Shared) (e : Value) (s' : Shared), CX w [] H s (fun _ _ _ => False) e s' → False) : PySem.W.WalkO q loose XP YP l.row.toRowW d [] (fun f vs => PySem.call f vs) := by
  refine Att.attach_call hn hdf fun w s₀ s₁ mg mb fa o pm cd doc a vs ns G Y ho hd hcd hmg hobj hints hlen hg => ?_
  obtain ⟨fd, hb, hF⟩ := F w mg fa _ (hY w _ Y) G.T.g hmg
  exact law_g (hY w _ Y) G.T.g G.T.b G.T.builtins G.T.nolimit hg hobj hints (Nat.le_trans hlen hn2) hr hF hb (fun H hS hO => hsp w H a ns hlen hS hO) fun H e s' => hCX w H s₁ e s'
theorem roomTop {k : Nat} (h : k ≤ 60 := by decide) : RoomG k callerA := ⟨⟨rfl, by show 1 + claimMargin + 3 * k + 5 < recursionLimit; have : claimMargin + 200 < recursionLimit := (by decide); omega, by show 4 + 16 * k + 200 < cLine; have : 2000 < cLine := (by decide); omega⟩, rfl⟩
open PySem PySem.Spec PyProof.Rows L2
/-! ## rules told over a given written part -/
section
variable {X : Cx} {K : PySem.W.Frag}
theorem ix_seqK (e : X.K = K) : IxR X (rIx K) := by subst e; exact ix_seq
theorem ix_listK (e : X.K = K) : IxR X (rIxL K) := by subst e; exact ix_list
theorem ix_tupK (e : X.K = K) : IxR X (rIxT K) := by subst e; exact ix_tup
theorem call_lenK (e : X.K = K) : CallR X (.builtin "len") (fun xs H Q => ∃ x n, xs = [x] ∧ LenV K x H n ∧ Q (.int n) H) := by subst e; exact call_len
theorem call_isiK' (e : X.K = K) : CallR X (.builtin "isinstance") (rIsi K) := by subst e; exact call_isi
theorem op_inK (e : X.K = K) : OpR X (compareOp .In) (rIn K false) := by subst e; exact op_in_seq
theorem op_notInK (e : X.K = K) : OpR X (compareOp .NotIn) (rIn K true) := by subst e; exact op_notIn_seq
theorem call_reprK (e : X.K = K) (hg : X.A.guards = some []) (hu : X.A.units + 60 < cLine) : CallR X (.builtin "repr") (rRepr K) := by subst e; exact call_repr hg hu
theorem call_allK (e : X.K = K) (hc : X.calm = true) : CallR X (.builtin "all") (rAll K) := by subst e; exact cr_all hc
theorem op_eqDK (e : X.K = K) (hu : X.A.units + 64 < cLine) : OpR X (compareOp .Eq) (rEqD K) := by subst e; exact op_eqD hu
theorem op_neDK (e : X.K = K) (hu : X.A.units + 64 < cLine) : OpR X (compareOp .NotEq) (rNeD K) := by subst e; exact op_neD hu
theorem pi_listK {tg l : Expr} {tl : TE} (e : X.K = K) (hl : PE X l tl) : PI X tg l (iList K tl) := by subst e; exact pi_list hl
/-- a built-in class by its name, a constant of the text -/
theorem pe_ty {x : Str} {pos : Pos} (n : String) (hg : Gl X x) (hm : X.mg x = none) (hv : bootBuiltins x = some (.type n)) (hn : x ≠ "__name__" := by decide) (hd : (x == ("__debug__" : Str)) = false := by decide) : PE X (.Name x pos) (tC (.ty n)) :=
  pe_bltn hg hm hv rfl hn hd
theorem pe_cst {x : Str} {pos : Pos} {v : V} (hg : Gl X x) (h : ∃ u, X.mg x = some u ∧ RelV v u) (hd : (x == ("__debug__" : Str)) = false := by decide) : PE X (.Name x pos) (tC v) :=
  let ⟨_, hm, r⟩ := h
  pe_glob hg hm r hd
/-- a text times a number -/
def rMulS : R2 := fun x y H Q => ∃ (z : Str) (n : Int), x = .str z ∧ y = .int n ∧ z.length ≤ 1000 ∧ -1000 ≤ n ∧ n ≤ 10000 ∧ Q (.str ⟨(List.replicate n.toNat z.cps.toList).flatten.toArray⟩) H
theorem fold_app : ∀ (l : List (Array Nat)) (acc : Array Nat), l.foldl (· ++ ·) acc = acc ++ (l.map Array.toList).flatten.toArray
  | [], acc => by simp
  | x :: l, acc => by
    rw [List.foldl_cons, fold_app l (acc ++ x)]
    apply Array.ext'
    simp
theorem op_mul_str : OpR X (binaryOp .Mult) rMulS := by
  intro pins s σ H x y v u Q I rx ry h
  obtain ⟨z, n, rfl, rfl, hz, h1, h2, q⟩ := h
  obtain ⟨t, rfl⟩ := rx
  obtain ⟨t', rfl⟩ := ry
  have big : 1000 * 10000 ≤ sizeLine := by decide
  have e : ∀ k : Nat, ((List.replicate k z.cps).foldl (· ++ ·) #[] : Array Nat) = (List.replicate k z.cps.toList).flatten.toArray := fun k => by
    rw [fold_app, List.map_replicate]; simp
  have hzn : z.length * n.toNat ≤ 1000 * 10000 := Nat.mul_le_mul hz (by omega)
  refine PySem.P.mul_str (by rw [decide_eq_false (by omega), decide_eq_false (by omega)]; rfl) (fun a _ => ?_) (fun a _ => ?_) ?_
  · have : (1001 : Int) ≤ (2 ^ 63 - 1) / n := Int.le_ediv_of_mul_le (by omega) (by omega)
    omega
  · exact decide_eq_false (by omega)
  · by_cases c1 : n < 1
    · rw [if_pos c1]
      have e0 : n.toNat = 0 := by omega
      rw [e0] at q
      exact ⟨Nat.zero_le _, .str _, H, I.tok _, ⟨_, rfl⟩, q⟩
    · rw [if_neg c1]
      by_cases c2 : (n == 1 || z.length == 0) = true
      · rw [if_pos c2]
        refine ⟨.str z, H, I, ⟨t, rfl⟩, ?_⟩
        have ez : (⟨(List.replicate n.toNat z.cps.toList).flatten.toArray⟩ : Str) = z := by
          rw [Bool.or_eq_true, beq_iff_eq, beq_iff_eq] at c2
          rcases c2 with c2 | c2
          · subst c2
            show (⟨(List.replicate 1 z.cps.toList).flatten.toArray⟩ : Str) = z
            simp
          · have hz0 : z.cps.toList = [] := by
              have : z.cps.toList.length = 0 := by rw [Array.length_toList]; exact c2
              exact List.length_eq_zero_iff.mp this
            obtain ⟨cps⟩ := z
            have hz1 : cps.toList = [] := hz0
            have : cps = #[] := by apply Array.ext'; rw [hz1]
            subst this
            simp
        rw [ez] at q
        exact q
      · rw [if_neg c2, e]
        refine ⟨?_, .str _, H, I.tok _, ⟨_, rfl⟩, q⟩
        show (List.replicate n.toNat z.cps.toList).flatten.toArray.size ≤ sizeLine
        rw [List.size_toArray, List.length_flatten, List.map_replicate, List.sum_replicate_nat, Array.length_toList]
        have : n.toNat * z.cps.size = z.length * n.toNat := Nat.mul_comm _ _
        omega
end
open PySem PySem.Spec PyProof.Rows L2
/-! ## texts in order -/
def tLt (a b : Str) : Bool := decide (a.cps.toList < b.cps.toList)
theorem tLt_irr (a : Str) : tLt a a = false := PyProof.Rows.strKind.irrefl _
theorem tLt_tr {a b c : Str} (h1 : tLt a b = true) (h2 : tLt b c = true) : tLt a c = true := PyProof.Rows.strKind.trans _ _ _ h1 h2
theorem tLt_tot {a b : Str} (h1 : tLt a b = false) (h2 : tLt b a = false) : a = b := by
  have e : a.cps.toList = b.cps.toList := PyProof.Rows.strKind.total _ _ h1 h2
  obtain ⟨⟨a⟩⟩ := a
  obtain ⟨⟨b⟩⟩ := b
  cases e
  rfl
/-- rising -/
abbrev TS (ys : List Str) : Prop := ys.Pairwise fun a b => tLt b a = false
theorem tLe_tr {a b c : Str} (h1 : tLt b a = false) (h2 : tLt c b = false) : tLt c a = false := by
  cases e : tLt c a with
  | false => rfl
  | true => rcases PyProof.Rows.strKind.negTrans _ b.cps.toList _ e with z | z
            · exact absurd (show tLt c b = true from z) (by rw [h2]; decide)
            · exact absurd (show tLt b a = true from z) (by rw [h1]; decide)
theorem ts_of_rising : ∀ {ys : List Str} {p : Str}, risingS p ys = true → (∀ y ∈ ys, tLt y p = false) ∧ TS ys
  | [], _, _ => ⟨(fun _ h => by cases h), List.Pairwise.nil⟩
  | y :: ys, p, h => by
    obtain ⟨h1, h2⟩ := Bool.and_eq_true_iff.mp (show (!ltCps y.cps.toList p.cps.toList && risingS y ys) = true from h)
    have h1' : tLt y p = false := by
      have e : ltCps y.cps.toList p.cps.toList = tLt y p := by
        first | rfl | (unfold tLt; exact ltCps_eq _ _)
      rw [← e]
      simpa using h1
    obtain ⟨a, b⟩ := ts_of_rising h2
    refine ⟨fun z hz => ?_, .cons a b⟩
    rcases List.mem_cons.mp hz with rfl | hz
    · exact h1'
    · exact tLe_tr h1' (a z hz)
theorem ts_of_sortedS {ys : List Str} (h : sortedS ys = true) : TS ys := by
  cases ys with
  | nil => exact List.Pairwise.nil
  | cons y ys =>
    obtain ⟨a, b⟩ := ts_of_rising (show risingS y ys = true from h)
    exact .cons a b
theorem ts_uniq {xs ys : List Str} (h : xs.Perm ys) (h1 : TS xs) (h2 : TS ys) : xs = ys :=
  h.eq_of_pairwise (le := fun a b => tLt b a = false) (fun a b _ _ h1 h2 => tLt_tot h2 h1) h1 h2
theorem dle_str (a b : Str) : PySem.W.dataLe false (fun x : Str => PyData.str x) a b = !tLt b a := by
  show (!(PyProof.Rows.lexLt PyProof.Rows.itemOrd [.inr b.cps.toList] [.inr a.cps.toList])) = _
  have e : PyProof.Rows.lexLt PyProof.Rows.itemOrd [.inr b.cps.toList] [.inr a.cps.toList] = tLt b a := by
    rw [PyProof.Rows.lex_cons]
    show (tLt b a || (!tLt a b && false)) = _
    rw [Bool.and_false, Bool.or_false]
  rw [e]
/-- the texts in order -/
def tsort (xs : List Str) : List Str := xs.mergeSort (PySem.W.dataLe false fun x : Str => PyData.str x)
theorem tsort_perm (xs : List Str) : (tsort xs).Perm xs := List.mergeSort_perm _ _
theorem tsort_ts (xs : List Str) : TS (tsort xs) := by
  have h := List.pairwise_mergeSort (le := PySem.W.dataLe false fun x : Str => PyData.str x) (fun a b c h1 h2 => by
    rw [dle_str] at *
    have h1' : tLt b a = false := by simpa using h1
    have h2' : tLt c b = false := by simpa using h2
    rw [tLe_tr h1' h2']
    rfl) (fun a b => by
    rw [dle_str, dle_str]
    cases e : tLt b a with
    | false => rfl
    | true =>
      cases e2 : tLt a b with
      | false => rfl
      | true => exact absurd (tLt_tr e e2) (by rw [tLt_irr]; decide)) xs
  refine h.imp fun {a b} z => ?_
  rw [dle_str] at z
  simpa using z
theorem tsort_uniq {xs ys : List Str} (h : ys.Perm xs) (h1 : TS ys) : ys = tsort xs := ts_uniq (h.trans (tsort_perm xs).symm) h1 (tsort_ts xs)
/-! ## sorted(.., key=str) -/
theorem t_key (a : Addr) : Builtin.«list.sort» ⟨[.ref a], [(Str.ofString "key", .type "str")]⟩ = ksk_tree a (.type "str") false := rfl
theorem ea_strs : ∀ {vs : List Value} {xs : List Str}, StrsAre vs xs → PySem.W.EachIs (fun v x => ∃ t, v = Value.str x t) vs xs
  | _, _, .nil => .nil
  | _, _, .cons x t h => .cons ⟨t, rfl⟩ (ea_strs h)
theorem strs_ea : ∀ {vs : List Value} {xs : List Str}, PySem.W.EachIs (fun v x => ∃ t, v = Value.str x t) vs xs → StrsAre vs xs
  | _, _, .nil => .nil
  | _, _, .cons ⟨t, e⟩ h => by cases e; exact .cons _ t (strs_ea h)
theorem strs_alike (xs : List Str) : PySem.W.AllAlike (xs.map fun x => PyData.str x) := fun d hd d' hd' => by
  obtain ⟨_, _, rfl⟩ := List.mem_map.mp hd
  obtain ⟨_, _, rfl⟩ := List.mem_map.mp hd'
  first | rfl | (unfold PySem.W.alike; rfl)
theorem strs_sortable (xs : List Str) : PySem.W.Sortable (xs.map fun x => PyData.str x) := .inr fun d hd => by
  obtain ⟨_, _, rfl⟩ := List.mem_map.mp hd
  exact ⟨(fun z => by cases z), (fun _ z => by cases z)⟩
theorem str_depth (x : Str) : (PyData.str x).depth ≤ 1 := by first | decide | (unfold PyData.depth; decide) | simp [PyData.depth]
theorem str_turn {prog : Program} {w : World} {A : Around} {s : Shared} (v : Value) (x : Str) (e : ∃ t, v = Value.str x t) (h : Heap) (tk : Nat) :
    wpAny (model prog w) A (call (.type "str") [v]) (PySem.W.KeyPure (.str x) { s with heap := h, toks := tk }) (fun _ _ => False) { s with heap := h, toks := tk } := by
  obtain ⟨t, rfl⟩ := e
  exact PySem.P.str_of_str ⟨h, tk, rfl, fun _ _ z => z, .str x t⟩
section
variable {X : Cx}
def rSortK (K : PySem.W.Frag) : List V → List V → Hp → VK → Prop := fun vs zs H Q => ∃ (a : Addr) (xs : List Str), vs = [V.ref a] ∧ zs = [.ty "str"] ∧ SqL K H a (xs.map V.str) ∧ ∀ p, H p = none → Q (.ref p) (upd H p (.lst ((tsort xs).map V.str)))
theorem sortK_out {pins : List (Addr × Obj)} {s : Shared} {σ : L2.St} {H : Hp} {Q : VK} {xs : List Str} {p : Addr} {out : List Value} {c : Nat} {h' : Heap} {tk : Nat} (I : L2.Inv X pins σ H s) (hz : xs.length ≤ sizeLine) (hp : s.heap.objs.size ≤ p)
    (q : ∀ (p : Addr), H p = none → Q (V.ref p) (upd H p (HO.lst ((tsort xs).map V.str)))) (k : ∀ (b : Addr) (o : Obj), s.heap.get? b = some o → h'.get? b = some o) (e : h'.get? p = some (seqObj "list" out.toArray c))
    (ea : PySem.W.EachIs (fun v x => ∃ t, v = Value.str x t) out (tsort xs)) : EP X pins σ Q (Value.ref p) { s with heap := h', toks := tk } := by
  have hlen : ((tsort xs).map V.str).length ≤ sizeLine := by rw [List.length_map, (tsort_perm xs).length_eq]; exact hz
  exact ⟨.ref p, upd H p (.lst ((tsort xs).map V.str)), I.laid (t' := tk) k hp ⟨hlen, out, c, vals_of_strs (strs_ea ea), e⟩, rfl, q _ (I.hok.fresh hp)⟩
theorem cr_sortK (hu : X.A.units + 60 < cLine) : CallRK X (.builtin "sorted") [Str.ofString "key"] (rSortK X.K) := by
  intro pins s σ H vs zs us ws Q I r rz h
  obtain ⟨a, xs, rfl, rfl, hs, q⟩ := h
  obtain rfl := Vals.ref1 r
  obtain ⟨w1, rfl, e1⟩ := vals1 rz
  obtain rfl : w1 = Value.type "str" := e1
  obtain ⟨its, rv, hl, hz⟩ := I.list hs
  rw [List.length_map] at hz
  exact PySem.W.sorted_key_data (fun x : Str => PyData.str x) hl.isList (ea_strs rv.strs) (strs_alike xs) (strs_sortable xs) hz (fun x _ => by have := str_depth x; omega) (PyProof.Rows.ksk_s1 _ _) (fun _ => PyProof.Rows.ksk_l1 _ _) t_key
    (fun v x e _ h tk _ => str_turn v x e h tk) fun out c h' tk k _ e _ ea => sortK_out I hz (Nat.le_succ _) q k e ea
/-- .. of a dict whose keys are texts -/
def rSortKD : List V → List V → Hp → VK → Prop := fun vs zs H Q => ∃ (a : Addr) (kvs : List (Key × V)) (xs : List Str), vs = [V.ref a] ∧ zs = [.ty "str"] ∧ Rd H a (.dK kvs) ∧ kvs.map (·.1) = xs.map Sum.inr ∧ ∀ p, H p = none → Q (.ref p) (upd H p (.lst ((tsort xs).map V.str)))
theorem cr_sortKD (hu : X.A.units + 60 < cLine) (hcalm : X.calm = true) : CallRK X (.builtin "sorted") [Str.ofString "key"] rSortKD := by
  intro pins s σ H vs zs us ws Q I r rz h
  obtain ⟨a, kvs, ks, rfl, rfl, hd, hks, q⟩ := h
  obtain rfl := Vals.ref1 r
  obtain ⟨w1, rfl, e1⟩ := vals1 rz
  obtain rfl : w1 = Value.type "str" := e1
  obtain ⟨z, lo, vs, rel, dd⟩ := dk_rd I.hok hd
  obtain ⟨ep, hat⟩ := dd.dictAt
  have hkeys : vs.map (·.1) = ks.map Sum.inr := rel.keys.symm.trans hks
  have hl : vs.length = ks.length := by
    have e := congrArg List.length hkeys
    rw [List.length_map, List.length_map] at e
    exact e
  have hl2 : kvs.length = ks.length := by
    have e := congrArg List.length hks
    rw [List.length_map, List.length_map] at e
    exact e
  have h16 : vs.length ≤ sizeLine := by rw [hl, ← hl2]; exact z
  refine PyProof.Rows.call_function_entry_kw PyProof.Rows.kind_sorted PyProof.Rows.plain_sorted PyProof.Rows.entry_sorted (PyProof.Rows.ksk_s1 _ _) ?_
  unfold Builtin.«sorted»
  refine wpAny_bind (m := checkCount "sorted" 1 1 _) (wpAny_pure ?_)
  refine wpAny_bind (PySem.W.kdu_collect (A := X.A.in1) (PySem.W.kdl_dict (knd := mixKind X.prog X.w) (kvs := vs) (ep := ep) lo) (I.ok.hd hcalm) hat h16 fun h' tk acc hk hacc => ?_)
  have hal : acc.toList.length = ks.length := by rw [Array.length_toList, hacc.1, hl]
  have hS : StrsAre acc.toList ks := strs_at hal fun j v e => by
    obtain ⟨k, x, e1, e2⟩ := hacc.2 j v (by rw [← Array.getElem?_toList]; exact e)
    have e3 : (vs.map (·.1))[j]? = some k := by rw [List.getElem?_map, e1]; all_goals rfl
    rw [hkeys, List.getElem?_map] at e3
    cases e4 : ks[j]? with
    | none => rw [e4] at e3; cases e3
    | some y =>
      rw [e4] at e3
      have e5 : Sum.inr y = k := Option.some.inj e3
      subst e5
      obtain ⟨t, ev⟩ := Value.isStrOf_shape (x := y) (v := v) e2
      exact ⟨y, t, rfl, ev⟩
  have I1 : Inv X pins σ H { s with heap := h', toks := tk } := I.kept hk
  have hzk : ks.length ≤ sizeLine := by rw [← hl]; exact h16
  refine wpAny_bind (wpAny_newList ?_ (by rw [hal]; exact hzk))
  have hoL : (h'.push (seqObj "list" acc.toList.toArray 0)).get? h'.objs.size = some (seqObj "list" acc.toList.toArray 0) := Heap.get?_push_size _ rfl
  show wpAny _ _ _ _ _ { s with heap := h'.push (seqObj "list" acc.toList.toArray 0), toks := tk }
  have ea := ea_strs hS
  have up : ∀ {g : Heap}, PySem.W.KeepsBut h'.objs.size (h'.push (seqObj "list" acc.toList.toArray 0)) g → ∀ b o, h'.get? b = some o → g.get? b = some o := fun {g} kp b o e =>
    kp b o (Nat.ne_of_lt (Heap.lt_size e)) (Heap.get?_push_of_some _ e)
  refine wpAny_bind (wpAny_holding (wpAny_call_entry_kw PyProof.Rows.slot_list_sort ⟨_, hoL, rfl⟩ PyProof.Rows.entry_list_sort ?_ (PyProof.Rows.ksk_l1 _ _)))
  show wpAny _ _ (Builtin.«list.sort» ⟨[.ref h'.objs.size], [(Str.ofString "key", .type "str")]⟩) _ _ _
  rw [t_key]
  refine PySem.W.keyH_tree (s := { s with heap := h'.push (seqObj "list" acc.toList.toArray 0), toks := tk }) (kz := ks.map fun x => PyData.str x) hoL (by rw [List.length_map, hal]) (by rw [hal]; exact hzk) (strs_alike ks) (strs_sortable ks) (fun d hd => ?_)
    (PySem.W.keyH_turns (k := fun x : Str => PyData.str x) ea fun v x e _ h tk _ => str_turn v x e h tk) fun h2 tk2 out c kp e ko => ⟨_, rfl, wpAny_pure ⟨_, rfl, ?_⟩⟩
  · obtain ⟨x, _, rfl⟩ := List.mem_map.mp hd
    have := str_depth x
    show X.A.units + 1 + 1 + _ < _
    omega
  · have h3 : EP X pins σ Q (Value.ref h'.objs.size) { ({ s with heap := h', toks := tk } : Shared) with heap := h2, toks := tk2 } := sortK_out I1 hzk (Nat.le_refl _) q (up kp) e (PySem.W.keyedOut_each (fun x : Str => PyData.str x) ko ea)
    exact h3
end
open PySem PySem.Spec PyProof.Rows L2
theorem RoomG.in1 {k : Nat} {A : Around} (x : RoomG (k + 1) A) : RoomG k A.in1 := ⟨x.r.in1, x.g⟩
theorem RoomG.make {k : Nat} {A : Around} (x : RoomG (k + 1) A) (C : Addr) (us : List Value) (kw : List (Str × Value)) : RoomG k (A.under (.builtin "type.__call__" ⟨.ref C :: us, kw⟩)) :=
  ⟨x.r.make C us kw, by
    show pushGuards (Code.guards (.builtin "type.__call__" ⟨.ref C :: us, kw⟩)) A.guards = _
    rw [x.g]
    have e : Code.isGuard (.builtin "type.__call__" ⟨.ref C :: us, kw⟩) = false := by first | rfl | decide | (unfold Code.isGuard; decide)
    unfold Code.guards
    rw [e]
    rfl⟩
section
variable {P : Program} {w : World} {K : PySem.W.Frag} {mg : Str → Option Value} {base : Heap} {CX : CXT}
theorem fnG_core {f : Addr} {x q : Str} {args : Arguments} {body : List Stmt} {scope : Scope} {oc : Value} {od : Option Addr} {dV kV doc pm cdv ct : Value} {an : Option Addr} {osl : Array (Option Value)} {N ps : List Str} {k : Nat} {sp : Sp}
    (lk : K.lookup f = some ⟨oc, od, .func (PySem.W.fnOf x q args body scope dV kV doc pm an cdv ct), osl⟩) (hcd : PySem.W.codeIn K cdv q = true) (S : FnScope N ps scope) (len : ∀ vs H Q E, sp vs H Q E → vs.length = ps.length)
    (hb : ∀ (A : Around) (outer : List Env) (s : Shared) (H : Hp) (vs : List V) (Q : VK) (E : XK), RoomG k (A.deeper (envOfC q scope s.heap.objs.size f cdv)) → sp vs H Q E →
      ∃ t, PSs (cxOf CX P w K mg base N q scope f cdv A outer s H E) body t ∧ t { nx := fun _ H' => Q .non H', rt := Q } (start N vs) H) : FnG P w K mg base CX (k + 1) f (PySem.W.fnOf x q args body scope dV kV doc pm an cdv ct) ps sp := by
  refine ⟨len, ?_⟩
  intro A outer s H args us vs Q E hr e0 bt rv hs
  have hl := len _ _ _ _ hs
  have kin : K.In s.heap := e0.mod.kin.keeps fun b o e => (e0.bs b o e).1
  have nol : s.heap.NoLimit := e0.mod.nolimit.keeps fun b o e => (e0.bs b o e).1
  refine codeAny_call_function hr.r.depth (kin _ _ lk) rfl S.co S.gen rfl (PySem.W.codeRec_of kin hcd) (bt _ _ _ _ ?_)
  refine wpAny_newFunctionEnv_cells S.kind (fun ⟨n, v⟩ hy => ?_) fun env he s1 x1 => ?_
  · cases S.par n (List.of_mem_zip hy).1 with
    | inl q => exact .inl q
    | inr q => exact .inr ⟨q, PySem.W.cellsFrom_some _ _ _ (.inl q)⟩
  · subst he
    refine ⟨nol.keeps x1.toInCall.keep, codeAny_func ?_⟩
    obtain ⟨t, ht, hq⟩ := hb A outer s H vs Q E (hr.deeper _) hs
    have I : Inv (cxOf CX P w K mg base N q scope f cdv A outer s H E) [] (start N vs) H s1 := inv_start S hr.r.hd e0 hl rv x1
    refine wpAny_mono (ht.run [] s1 (start N vs) H _ I hq) (fun fl s' z => ?_) fun e s' z => z
    cases fl with
    | ret u => obtain ⟨v, σ', H', J, r2, q⟩ := z; exact ⟨v, H', J.os, J.bare, J.base, J.hok, r2, q⟩
    | next => obtain ⟨σ', H', J, q⟩ := z; exact ⟨.non, H', J.os, J.bare, J.base, J.hok, rfl, q⟩
    | brk => obtain ⟨_, _, _, q⟩ := z; exact q.elim
    | cont => obtain ⟨_, _, _, q⟩ := z; exact q.elim
/-- a method m of the class at C, of the class's own body: q its qualified name, st its statement -/
structure Mth (P : Program) (w : World) (K : PySem.W.Frag) (mg : Str → Option Value) (base : Heap) (CX : CXT) (k : Nat) (C : Addr) (m q : Str) (st : Stmt) (ps : List Str) (sp : Sp) : Prop where
  ex : ∃ (f : Addr) (fd : FuncData), Fun K m q st f fd ∧ Meth K C m f ∧ PySem.W.fnIn K f = true ∧ FnG P w K mg base CX k f fd ps sp
/-- THE RULE for a method -/
theorem mth_of {m q : Str} {st : Stmt} {C f : Addr} {fd : FuncData} {N ps : List Str} {k : Nat} {sp : Sp} (F : Fun K m q st f fd) (hm : Meth K C m f) (S : FnScope N ps (defScope st)) (len : ∀ vs H Q E, sp vs H Q E → vs.length = ps.length)
    (hb : ∀ (cdv : Value) (A : Around) (outer : List Env) (s : Shared) (H : Hp) (vs : List V) (Q : VK) (E : XK), RoomG k (A.deeper (envOfC q (defScope st) s.heap.objs.size f cdv)) → sp vs H Q E →
      ∃ t, PSs (cxOf CX P w K mg base N q (defScope st) f cdv A outer s H E) (defBody st) t ∧ t { nx := fun _ H' => Q .non H', rt := Q } (start N vs) H) : Mth P w K mg base CX (k + 1) C m q st ps sp := by
  refine ⟨f, fd, F, hm, ?_, ?_⟩
  · obtain ⟨oc, od, kV, doc, pm, an, cdv, ct, osl, rfl, lk, hcd⟩ := F.ex
    unfold PySem.W.fnIn
    rw [lk]
  · obtain ⟨oc, od, kV, doc, pm, an, cdv, ct, osl, rfl, lk, hcd⟩ := F.ex
    exact fnG_core lk hcd S len fun A outer s H vs Q E hr h => hb cdv A outer s H vs Q E hr h
theorem mth_of0 {m q : Str} {st : Stmt} {C f : Addr} {fd : FuncData} {N ps : List Str} {k : Nat} {sp : Sp} (F : Fun K m q st f fd) (hm : Meth K C m f) (S : FnScope N ps (defScope st)) (len : ∀ vs H Q E, sp vs H Q E → vs.length = ps.length)
    (hb : ∀ (cdv : Value) (A : Around) (outer : List Env) (s : Shared) (H : Hp) (vs : List V) (Q : VK) (E : XK), RoomG k (A.deeper (envOfC q (defScope st) s.heap.objs.size f cdv)) → sp vs H Q E →
      ∃ t, PSs (cxOf CX P w K mg base N q (defScope st) f cdv A outer s H E).nox (defBody st) t ∧ t { nx := fun _ H' => Q .non H', rt := Q } (start N vs) H) : Mth P w K mg base CX (k + 1) C m q st ps sp :=
  mth_of F hm S len fun cdv A outer s H vs Q E hr h => let ⟨t, h1, h2⟩ := hb cdv A outer s H vs Q E hr h; ⟨t, h1.nox, h2⟩
end
/-- how arguments written by place (n, the object among them) and by name come to a method's parameters -/
def BndM (m q : Str) (st : Stmt) (ps : List Str) (n : Nat) (ks : List Str) (ix : List Nat) : Prop :=
  ∀ (kV doc pm cdv ct : Value) (an : Option Addr) (us ws : List Value), us.length = n → ws.length = ks.length →
    bindArgs (PySem.W.fnOf m q (defArgs st) (defBody st) (defScope st) .none kV doc pm an cdv ct) ⟨us, ks.zip ws⟩ = pure (ps.zip (sel ix (us ++ ws)))
def BndMP (m q : Str) (st : Stmt) (ps : List Str) : Prop :=
  ∀ (kV doc pm cdv ct : Value) (an : Option Addr) (us : List Value), us.length = ps.length → bindArgs (PySem.W.fnOf m q (defArgs st) (defBody st) (defScope st) .none kV doc pm an cdv ct) ⟨us, []⟩ = pure (ps.zip us)
section
variable {X : Cx} {CX : CXT} {k j : Nat} {C : Addr} {m q : Str} {st : Stmt} {ps ks : List Str} {sp : Sp} {E : XK} {p pos apos : Pos} {o e : Expr} {es : List Expr} {kws : List Keyword} {to : TE} {t tk : TA}
/-- the instance that a value is -/
def IsIns (H : Hp) (C : Addr) (x : V) (m : Str) : Prop := ∃ a dx fs, x = .ref a ∧ H a = some (.ins C dx fs) ∧ fs.lookup m = none
def tM (C : Addr) (m : Str) (sp : Sp) (E : XK) (to : TE) (t : TA) : TE := fun σ H Q => to σ H fun x H1 => IsIns H1 C x m ∧ t σ H1 fun vs H2 => sp (x :: vs) H2 Q E
def tMK (C : Addr) (m : Str) (sp : Sp) (n : Nat) (ix : List Nat) (E : XK) (to : TE) (tk : TA) : TE := fun σ H Q => to σ H fun x H1 => IsIns H1 C x m ∧ tk σ H1 fun zs H2 => zs.length = n ∧ sp (sel ix (x :: zs)) H2 Q E
/-- o.m(e, ..) -/
theorem pe_m {pl : Sem Bool} (c : Mth X.prog X.w X.K X.mg X.base CX k C m q st ps sp) (hc : Cls X.K C) (hr : RoomG j X.A) (hk : k ≤ j) (hx : Passes CX X E) (b : BndMP m q st ps) (he : PE X o to) (ha : PA X (e :: es) t)
    (hst : starEach (e :: es) X.env = (false, eval e X.env) :: starEach es X.env := by rfl) (hpl : (backTo pos (starEach es X.env)).any (·.1) = false := by rfl)
    (ht : eval (.Call (.Attribute o m apos) (e :: es) [] pos) X.env = (do
      let ov ← eval o X.env
      standAt apos.atName
      let (f, first) ← holding [ov] (getMethod ov m pl)
      callWith pos f first (backTo pos (starEach (e :: es) X.env)) (backToKw pos (keywordEach [] X.env))) := by rfl) :
    PE X (.Call (.Attribute o m apos) (e :: es) [] pos) (tM C m sp E to t) := by
  obtain ⟨f, fd, F, hm, _, G⟩ := c.ex
  obtain ⟨oc, od, kV, doc, pm, an, cdv, ct, osl, rfl, lk, hcd⟩ := F.ex
  refine ⟨fun pins s σ H Q I h => PySem.W.methodCall_KW (pl := pl) (thn (he.run pins s σ H _ I h) fun u s1 ⟨x, H1, I1, rx, ⟨a, dx, fs, ex, ea, l⟩, q⟩ => ?_) ht⟩
  subst ex
  obtain rfl : u = Value.ref a := rx
  refine getmeth_ok I1 ea hc hm l ?_
  refine PySem.W.callWith_K (first := [.ref a]) (h₀ := X.base) I.ok.mod.kin hm.kp (thn (ha.run pos pins s1 σ H1 _ I1 q) fun us s2 ⟨vs, H2, I2, r, q2⟩ => ⟨I2.kIn, ?_⟩) hst hpl
  have h0 := r.length
  have h1 := G.len _ _ _ _ q2
  rw [List.length_cons] at h1
  exact run_g (us := .ref a :: us) (kw := []) (vs := .ref a :: vs) G (hr.mono hk) (.of_eq (b kV doc pm cdv ct an (.ref a :: us) (by rw [List.length_cons]; omega))) hx I2 (.cons rfl r) q2
/-- o.m() -/
theorem pe_m0 {pl : Sem Bool} (c : Mth X.prog X.w X.K X.mg X.base CX k C m q st ps sp) (hc : Cls X.K C) (hr : RoomG j X.A) (hk : k ≤ j) (hx : Passes CX X E) (b : BndMP m q st ps) (he : PE X o to)
    (ht : eval (.Call (.Attribute o m apos) [] [] pos) X.env = (do
      let ov ← eval o X.env
      standAt apos.atName
      let (f, first) ← holding [ov] (getMethod ov m pl)
      callWith pos f first (backTo pos (starEach [] X.env)) (backToKw pos (keywordEach [] X.env))) := by rfl) :
    PE X (.Call (.Attribute o m apos) [] [] pos) (tM C m sp E to tNil) := by
  obtain ⟨f, fd, F, hm, _, G⟩ := c.ex
  obtain ⟨oc, od, kV, doc, pm, an, cdv, ct, osl, rfl, lk, hcd⟩ := F.ex
  refine ⟨fun pins s σ H Q I h => PySem.W.methodCall_KW (pl := pl) (thn (he.run pins s σ H _ I h) fun u s1 ⟨x, H1, I1, rx, ⟨a, dx, fs, ex, ea, l⟩, q⟩ => ?_) ht⟩
  subst ex
  obtain rfl : u = Value.ref a := rx
  refine getmeth_ok I1 ea hc hm l ?_
  have h1 := G.len _ _ _ _ q
  exact PySem.W.callWith_K0 (first := [.ref a]) I1.kIn hm.kp (run_g (us := [.ref a]) (kw := []) (vs := [.ref a]) G (hr.mono hk) (.of_eq (b kV doc pm cdv ct an [.ref a] h1)) hx I1 (.cons rfl .nil) q)
/-- o.m(k = e, ..) -/
theorem pe_mK0 {pl : Sem Bool} {ix : List Nat} (c : Mth X.prog X.w X.K X.mg X.base CX k C m q st ps sp) (hc : Cls X.K C) (hr : RoomG j X.A) (hk : k ≤ j) (hx : Passes CX X E) (b : BndM m q st ps 1 ks ix) (he : PE X o to) (hkw : PK X kws tk)
    (hall : (backToKw pos (keywordEach kws X.env)).all (·.1.isSome) = true := by rfl) (hks : (backToKw pos (keywordEach kws X.env)).filterMap (·.1) = ks := by rfl)
    (hpl : ((backTo pos (starEach [] X.env)).any (·.1) || (backToKw pos (keywordEach kws X.env)).any (·.1.isNone)) = false := by rfl)
    (ht : eval (.Call (.Attribute o m apos) [] kws pos) X.env = (do
      let ov ← eval o X.env
      standAt apos.atName
      let (f, first) ← holding [ov] (getMethod ov m pl)
      callWith pos f first (backTo pos (starEach [] X.env)) (backToKw pos (keywordEach kws X.env))) := by rfl) :
    PE X (.Call (.Attribute o m apos) [] kws pos) (tMK C m sp ks.length ix E to tk) := by
  obtain ⟨f, fd, F, hm, _, G⟩ := c.ex
  obtain ⟨oc, od, kV, doc, pm, an, cdv, ct, osl, rfl, lk, hcd⟩ := F.ex
  refine ⟨fun pins s σ H Q I h => PySem.W.methodCall_KW (pl := pl) (thn (he.run pins s σ H _ I h) fun u s1 ⟨x, H1, I1, rx, ⟨a, dx, fs, ex, ea, l⟩, q⟩ => ?_) ht⟩
  subst ex
  obtain rfl : u = Value.ref a := rx
  refine getmeth_ok I1 ea hc hm l (PySem.W.callWith_KW0 (first := [.ref a]) (h₀ := X.base) I.ok.mod.kin hm.kp hall (thn (hkw.run pos pins s1 σ H1 _ I1 q) fun ws s2 ⟨zs, H2, I2, rz, l2, q2⟩ => ⟨I2.kIn, ?_⟩) hpl)
  rw [hks]
  exact run_g (us := [.ref a]) G (hr.mono hk) (.of_eq (b kV doc pm cdv ct an [.ref a] ws rfl (rz.length.symm.trans l2))) hx I2 (sel_vals (xs := .ref a :: zs) (us := .ref a :: ws) (.cons rfl rz) ix) q2
end
open PySem PySem.Spec PySem.Calls PyProof.Rows L2
/-- what the result of a call at a deeper place is -/
theorem run_in1 {X : Cx} {CX : CXT} {k : Nat} {f : Addr} {fd : FuncData} {ps : List Str} {sp : Sp} {E : XK} {pins : List (Addr × Obj)} {σ : L2.St} {H : Hp} {s : Shared} {us : List Value} {vs : List V} {Q : VK} {R : Value → Shared → Prop}
    (F : FnG X.prog X.w X.K X.mg X.base CX k f fd ps sp) (hr : RoomG (k + 1) X.A) (hb : BindsTo s fd ⟨us, []⟩ (ps.zip us)) (hx : Passes CX X E) (I : Inv X pins σ H s) (r : Vals vs us) (h : sp vs H Q E)
    (hR : ∀ u s', EP X pins σ Q u s' → R u s') : wpAny (model X.prog X.w) X.A.in1 (call (.ref f) us) R X.xe s := by
  refine wpAny_call (codeAny_mono (F.run X.A.in1 X.stack s H ⟨us, []⟩ us vs Q E hr.in1 I.env0.in1 hb r h) fun y s' z => ?_)
  match y, z with
  | .error e, z => exact hx pins σ H s e s' I z
  | .ok (.ret u), z => exact hR u s' (I.after z)
  | .ok .next, z => exact z.elim
  | .ok .brk, z => exact z.elim
  | .ok .cont, z => exact z.elim
/-! ## a property -/
/-- a property p of the class at C, its getter by its own body -/
structure Prp (P : Program) (w : World) (K : PySem.W.Frag) (mg : Str → Option Value) (base : Heap) (CX : CXT) (k : Nat) (C : Addr) (m q : Str) (st : Stmt) (ps : List Str) (sp : Sp) : Prop where
  ex : ∃ (p f : Addr) (fd : FuncData), Fun K m q st f fd ∧ PropOf K C m p f ∧ FnG P w K mg base CX k f fd ps sp
section
variable {P : Program} {w : World} {K : PySem.W.Frag} {mg : Str → Option Value} {base : Heap} {CX : CXT}
theorem prp_of {m q : Str} {st : Stmt} {C p f : Addr} {fd : FuncData} {N ps : List Str} {k : Nat} {sp : Sp} (F : Fun K m q st f fd) (hp : PropOf K C m p f) (S : FnScope N ps (defScope st)) (len : ∀ vs H Q E, sp vs H Q E → vs.length = ps.length)
    (hb : ∀ (cdv : Value) (A : Around) (outer : List Env) (s : Shared) (H : Hp) (vs : List V) (Q : VK) (E : XK), RoomG k (A.deeper (envOfC q (defScope st) s.heap.objs.size f cdv)) → sp vs H Q E →
      ∃ t, PSs (cxOf CX P w K mg base N q (defScope st) f cdv A outer s H E) (defBody st) t ∧ t { nx := fun _ H' => Q .non H', rt := Q } (start N vs) H) : Prp P w K mg base CX (k + 1) C m q st ps sp := by
  refine ⟨p, f, fd, F, hp, ?_⟩
  obtain ⟨oc, od, kV, doc, pm, an, cdv, ct, osl, rfl, lk, hcd⟩ := F.ex
  exact fnG_core lk hcd S len fun A outer s H vs Q E hr h => hb cdv A outer s H vs Q E hr h
end
section
variable {X : Cx} {CX : CXT} {k j : Nat} {C : Addr} {m q : Str} {st : Stmt} {ps ks : List Str} {sp : Sp} {E : XK} {p pos apos : Pos} {o e fe : Expr} {es : List Expr} {kws : List Keyword} {to tf : TE} {t tk : TA}
def tP (C : Addr) (sp : Sp) (E : XK) (to : TE) : TE := fun σ H Q => to σ H fun x H1 => ∃ a dx fs, x = .ref a ∧ H1 a = some (.ins C dx fs) ∧ sp [.ref a] H1 Q E
/-- o.p -/
theorem pe_p (c : Prp X.prog X.w X.K X.mg X.base CX k C m q st ps sp) (hc : Cls X.K C) (hr : RoomG j X.A) (hk : k + 1 ≤ j) (hx : Passes CX X.nox E) (b : BndMP m q st ps) (he : PE X o to)
    (hab : attributeBase o m X.env (eval o X.env) = eval o X.env := by rfl) : PE X (.Attribute o m pos) (tP C sp E to) := by
  obtain ⟨p, f, fd, F, hp, G⟩ := c.ex
  obtain ⟨oc, od, kV, doc, pm, an, cdv, ct, osl, rfl, lk, hcd⟩ := F.ex
  refine ⟨fun pins s σ H Q I h => attr_of hab (thn (he.run pins s σ H _ I h) fun u s1 ⟨x, H1, I1, rx, a, dx, fs, ex, ea, q⟩ => ?_)⟩
  subst ex
  obtain rfl : u = Value.ref a := rx
  obtain ⟨mA, O, _, _, _, _⟩ := ins_get I1.hok ea
  obtain ⟨od', J, _⟩ := O.look
  obtain ⟨rest, hrec⟩ := hp.rec_
  have I2 := I1.tok (s1.toks + 1)
  have hcl : (PySem.W.clsIn X.K C).isSome = true := by
    obtain ⟨cd, hc, _⟩ := PySem.W.any_some hc.hd
    rw [hc]
    rfl
  have h1 := G.len _ _ _ _ q
  refine PySem.W.get_bind I1.kIn J (PySem.W.plainGet_of (hc.get m)).1 (PySem.W.findObj_data hcl hp.at_ hp.get hp.tak) (PySem.W.plainGet_of (hc.get m)).2 (wpAny_call (PySem.W.prop_get (s := { s1 with toks := s1.toks + 1 }) I1.kIn hrec ?_))
  refine codeAny_mono (G.run X.A.in1 X.stack { s1 with toks := s1.toks + 1 } H1 ⟨[.ref a], []⟩ [.ref a] [.ref a] Q E (hr.mono hk).in1 I2.env0.in1 (.of_eq (b kV doc pm cdv ct an [.ref a] h1)) (.cons rfl .nil) q) fun y s' z => ?_
  match y, z with
  | .error er, z => exact False.elim (hx pins σ H1 { s1 with toks := s1.toks + 1 } er s' (I2.wish _) z)
  | .ok (.ret u), z =>
    obtain ⟨v, H', I3, rv, q3⟩ := I2.after z
    show wpAny _ _ (handedOut u) _ _ _
    rw [PySem.W.handedOut_of (handed_of rv)]
    exact wpAny_pure ⟨v, H', I3, rv, q3⟩
  | .ok .next, z => exact z.elim
  | .ok .brk, z => exact z.elim
  | .ok .cont, z => exact z.elim
/-! ## an instance called -/
def tO (C : Addr) (sp : Sp) (E : XK) (tf : TE) (t : TA) : TE := fun σ H Q => tf σ H fun y H1 => ∃ a, y = V.ref a ∧ t σ H1 fun vs H2 => (∃ dx fs, H2 a = some (.ins C dx fs)) ∧ sp (.ref a :: vs) H2 Q E
theorem pe_o (c : Mth X.prog X.w X.K X.mg X.base CX k C "__call__" q st ps sp) (hr : RoomG j X.A) (hk : k ≤ j) (hx : Passes CX X E) (b : BndMP "__call__" q st ps) (hf : PE X fe tf) (ha : PA X (e :: es) t)
    (ht : eval (.Call fe (e :: es) [] pos) X.env = (do callWith pos (← eval fe X.env) [] (backTo pos (starEach (e :: es) X.env)) (backToKw pos (keywordEach [] X.env))) := by rfl)
    (he : starEach (e :: es) X.env = (false, eval e X.env) :: starEach es X.env := by rfl) (hpl : (backTo pos (starEach es X.env)).any (·.1) = false := by rfl) : PE X (.Call fe (e :: es) [] pos) (tO C sp E tf t) := by
  obtain ⟨f, fd, F, hm, hfi, G⟩ := c.ex
  obtain ⟨oc, od, kV, doc, pm, an, cdv, ct, osl, rfl, lk, hcd⟩ := F.ex
  refine ⟨fun pins s σ H Q I h => Call_ (thn (hf.run pins s σ H _ I h) fun u s1 ⟨y, H1, I1, ry, a, ey, q⟩ => ?_) ht⟩
  subst ey
  obtain rfl : u = Value.ref a := ry
  refine StX.callO_with (thn (ha.run pos pins s1 σ H1 _ I1 q) fun us s2 ⟨vs, H2, I2, r, ⟨dx, fs, hi⟩, q2⟩ => ?_) he hpl
  obtain ⟨ox, od, J, hd⟩ := StX.insC_at I2 (.inr ⟨dx, fs, hi⟩)
  refine ⟨⟨C, ox, od, J, hd⟩, wpAny_call (PySem.W.kco_code I2.kIn J hd hm.at_ hm.fn hfi ?_)⟩
  have h0 := r.length
  have h1 := G.len _ _ _ _ q2
  rw [List.length_cons] at h1
  refine codeAny_mono (G.run X.A X.stack s2 H2 ⟨.ref a :: us, []⟩ (.ref a :: us) (.ref a :: vs) Q E (hr.mono hk) I2.env0 (.of_eq (b kV doc pm cdv ct an (.ref a :: us) (by rw [List.length_cons]; omega))) (.cons rfl r) q2) fun y s' z => ?_
  match y, z with
  | .error e, z => exact hx pins σ H2 s2 e s' I2 z
  | .ok (.ret u), z => exact I2.after z
  | .ok .next, z => exact z.elim
  | .ok .brk, z => exact z.elim
  | .ok .cont, z => exact z.elim
/-! ## len(o) -/
def rLenO (C : Addr) (sp : Sp) (E : XK) : List V → Hp → VK → Prop := fun xs H Q => ∃ a dx fs, xs = [.ref a] ∧ H a = some (.ins C dx fs) ∧ sp [.ref a] H (fun v H' => ∃ n : Int, v = .int n ∧ 0 ≤ n ∧ n < 2 ^ 63 ∧ Q v H') E
theorem call_lenO (c : Mth X.prog X.w X.K X.mg X.base CX k C "__len__" q st ps sp) (hr : RoomG j X.A) (hk : k + 1 ≤ j) (hx : Passes CX X E) (b : BndMP "__len__" q st ps) : CallR X (.builtin "len") (rLenO C sp E) := by
  intro pins s σ H xs us Q I r h
  obtain ⟨f, fd, F, hm, hfi, G⟩ := c.ex
  obtain ⟨oc, od, kV, doc, pm, an, cdv, ct, osl, rfl, lk, hcd⟩ := F.ex
  obtain ⟨a, dx, fs, rfl, ea, q⟩ := h
  obtain rfl := Vals.ref1 r
  obtain ⟨mA, O, _, _, _, _⟩ := ins_get I.hok ea
  obtain ⟨od', J, _⟩ := O.look
  have h1 := G.len _ _ _ _ q
  have T := I.tok s.toks
  refine Calls.call_function_entry kind_len plain_len entry_len (args_len1 _) ?_
  unfold Builtin.«len»
  refine wpAny_bind (m := oneArg "len" _) (wpAny_pure ?_)
  refine wpAny_bind (m := callSpecial? (.ref a) (Str.ofString "__len__")) (PySem.W.special_fn I.kIn J hm.at_ (beq_iff_eq.mp hm.fn) (run_in1 G (hr.mono hk) (.of_eq (b kV doc pm cdv ct an [.ref a] h1)) hx I (.cons rfl .nil : Vals [.ref a] [.ref a]) q fun u s' z => ?_))
  obtain ⟨v, H', I3, rv, n, rfl, h0, h2, q3⟩ := z
  obtain ⟨tk, rfl⟩ := rv
  refine wpAny_bind (wpAny_holding (wpAny_pure ?_))
  refine wpAny_bind (wpAny_letGo ?_)
  show wpAny _ _ (if n < 0 then _ else _) _ _ _
  rw [if_neg (by omega)]
  show wpAny _ _ (if n ≥ 2 ^ 63 then _ else _) _ _ _
  rw [if_neg (by omega)]
  exact wpAny_bind (wpAny_mkInt (wpAny_pure ⟨_, rfl, .int n, H', I3.tok _, ⟨_, rfl⟩, q3⟩))
end
open PySem PySem.Spec PySem.Calls PyProof.Rows L2
theorem rv_ref (a : Addr) : RelV (.ref a) (.ref a) := rfl
/-- a value of the layer is never NotImplemented -/
theorem cb_of {X : Cx} {pins : List (Addr × Obj)} {σ : L2.St} {Q : VK} {u : Value} {s : Shared} (h : EP X pins σ Q u s) : PySem.W.CmpBack (EP X pins σ Q) u s := by
  unfold PySem.W.CmpBack
  split
  · obtain ⟨v, H', _, r, _⟩ := h
    cases v <;> first | (obtain ⟨_, e⟩ := r; cases e) | cases r
  · exact h
section
variable {prog : Program} {w : World} {A : Around} {E : Value → Shared → Prop} {s : Shared} {K : PySem.W.Frag} {x C f : Addr} {ox : Obj} {od : Option Obj}
theorem mro_self (hc : PySem.W.selfFirst K C = true) : ∃ cd rest, PySem.W.clsIn K C = some cd ∧ cd.mro = .ref C :: rest := by
  obtain ⟨cd, hcd, hm⟩ := PySem.W.any_some hc
  cases q : cd.mro with
  | nil => rw [q] at hm; cases hm
  | cons a r => rw [q] at hm; exact ⟨cd, r, hcd, by rw [List.head?_cons] at hm; cases (beq_iff_eq.mp hm); exact q⟩
/-- o op b, b of a built-in type without the slot -/
theorem binL {op : Operator} {b : Value} {T : String} {Q : Value → Shared → Prop} (X : K.In s.heap) (I : PySem.W.InstAt s.heap x ox C od) (hb : s.TypeIs b T) (hno : fillsNumberSlot (.type T) op.info.2 = pure false) (hc : PySem.W.selfFirst K C = true)
    (hs : PySem.W.findIn K (.ref C) (PySem.dunder op.info.2) = some (some (.ref f))) (hf : PySem.W.isFn K (.ref f) = true)
    (h : wpAny (model prog w) A (call (.ref f) [.ref x, b]) (PySem.W.CmpBack Q) E s) : wpAny (model prog w) A (binaryOp op (.ref x) b) Q E s := by
  obtain ⟨cd, rest, hcd, hm⟩ := mro_self hc
  unfold binaryOp
  refine wpAny_holding (wpAny_bind ?_)
  unfold binaryOp1
  refine wpAny_bind (I.type.here (wpAny_bind (wpAny_typeOf hb (wpAny_bind ((PySem.W.fills_K X hcd hm hs).here ?_)))))
  have hne : ((Value.ref C) == (Value.type T)) = false := by simp
  rw [hne]
  simp only [Bool.false_eq_true, if_false]
  refine wpAny_bind (wpAny_of_eq hno ?_)
  simp only [Bool.and_false, Bool.false_eq_true, if_false, Bool.false_and]
  refine wpAny_bind (wpAny_pure ?_)
  simp only [Bool.false_eq_true, if_false, if_true]
  refine wpAny_bind (m := tryMethod (.ref x) _ b) ?_
  unfold tryMethod
  refine wpAny_bind (PySem.W.special_fn X I hs (beq_iff_eq.mp hf) (wpAny_mono h (fun v s' hv => ?_) fun _ _ e => e))
  cases v <;> first | exact hv.elim | exact wpAny_pure (wpAny_pure (wpAny_pure hv))
/-- b op o, b of a built-in type without the slot: o's reflected method -/
theorem binR {op : Operator} {b : Value} {T : String} {g : Addr} {Q : Value → Shared → Prop} (X : K.In s.heap) (I : PySem.W.InstAt s.heap x ox C od) (hb : s.TypeIs b T) (hno : fillsNumberSlot (.type T) op.info.2 = pure false) (hc : PySem.W.selfFirst K C = true)
    (hs0 : PySem.W.findIn K (.ref C) (PySem.dunder op.info.2) = some (some (.ref g))) (hs : PySem.W.findIn K (.ref C) (PySem.dunderR op.info.2) = some (some (.ref f))) (hf : PySem.W.isFn K (.ref f) = true)
    (h : wpAny (model prog w) A (call (.ref f) [.ref x, b]) (PySem.W.CmpBack Q) E s) : wpAny (model prog w) A (binaryOp op b (.ref x)) Q E s := by
  obtain ⟨cd, rest, hcd, hm⟩ := mro_self hc
  unfold binaryOp
  refine wpAny_holding (wpAny_bind ?_)
  unfold binaryOp1
  refine wpAny_bind (wpAny_typeOf hb (wpAny_bind (I.type.here (wpAny_bind (wpAny_of_eq hno ?_)))))
  have hne : ((Value.type T) == (Value.ref C)) = false := by simp
  rw [hne]
  simp only [Bool.false_eq_true, if_false]
  refine wpAny_bind ((PySem.W.fills_K X hcd hm hs0).here ?_)
  simp only [Bool.and_false, Bool.false_eq_true, if_false, Bool.false_and]
  refine wpAny_bind (wpAny_pure ?_)
  simp only [Bool.false_eq_true, if_false, Bool.not_false, Bool.and_true, if_true]
  refine wpAny_bind (m := tryMethod (.ref x) _ b) ?_
  unfold tryMethod
  refine wpAny_bind (PySem.W.special_fn X I hs (beq_iff_eq.mp hf) (wpAny_mono h (fun v s' hv => ?_) fun _ _ e => e))
  cases v <;> first | exact hv.elim | exact wpAny_pure (wpAny_bind (wpAny_rule (wpAny_pure (wpAny_pure hv))))
/-- o op o', both of C -/
theorem binS {op : Operator} {b : Value} {Q : Value → Shared → Prop} (X : K.In s.heap) (I : PySem.W.InstAt s.heap x ox C od) (hb : PySem.W.Looks (model prog w) s.heap (typeOf b) (.ref C)) (hc : PySem.W.selfFirst K C = true)
    (hs : PySem.W.findIn K (.ref C) (PySem.dunder op.info.2) = some (some (.ref f))) (hf : PySem.W.isFn K (.ref f) = true)
    (h : wpAny (model prog w) A (call (.ref f) [.ref x, b]) (PySem.W.CmpBack Q) E s) : wpAny (model prog w) A (binaryOp op (.ref x) b) Q E s := by
  obtain ⟨cd, rest, hcd, hm⟩ := mro_self hc
  unfold binaryOp
  refine wpAny_holding (wpAny_bind ?_)
  unfold binaryOp1
  refine wpAny_bind (I.type.here (wpAny_bind (hb.here (wpAny_bind ((PySem.W.fills_K X hcd hm hs).here ?_)))))
  simp only [beq_self_eq_true, if_true]
  refine wpAny_bind (wpAny_pure ?_)
  simp only [Bool.and_false, Bool.false_eq_true, if_false, Bool.false_and]
  refine wpAny_bind (wpAny_pure ?_)
  simp only [Bool.false_eq_true, if_false]
  refine wpAny_bind (m := tryMethod (.ref x) _ b) ?_
  unfold tryMethod
  refine wpAny_bind (PySem.W.special_fn X I hs (beq_iff_eq.mp hf) (wpAny_mono h (fun v s' hv => ?_) fun _ _ e => e))
  cases v <;> first | exact hv.elim | exact wpAny_pure (wpAny_pure (wpAny_pure hv))
/-- o op b by a comparison's own method -/
theorem cmpO {op : CmpOp} {b tb : Value} {Q : Value → Shared → Prop} (hu : A.units < cLine) (X : K.In s.heap) (I : PySem.W.InstAt s.heap x ox C od) (hb : PySem.W.Looks (model prog w) s.heap (typeOf b) tb) (hn : PySem.W.notFirst K C tb = true)
    (hs : PySem.W.findIn K (.ref C) (cmpInfo op).2.1 = some (some (.ref f))) (hf : PySem.W.isFn K (.ref f) = true)
    (h : wpAny (model prog w) A (call (.ref f) [.ref x, b]) (PySem.W.CmpBack Q) E s) : wpAny (model prog w) A (richCompare op (.ref x) b) Q E s := by
  have one : wpAny (model prog w) A (tryCompare (.ref x) (cmpInfo op).2.1 b) (fun r s' => ∃ v, r = some v ∧ Q v s') E s := by
    unfold tryCompare
    refine wpAny_bind (PySem.W.ifBound_K X I hs hf (wpAny_mono h (fun v s' hv => ?_) fun _ _ e => e))
    cases v <;> first | exact hv.elim | exact wpAny_pure ⟨_, rfl, hv⟩
  unfold richCompare
  simp only [oneThing_ref]
  refine wpAny_holding (wpAny_bind (wpAny_cRoomFor hu ?_))
  refine wpAny_bind (I.type.here (wpAny_bind (hb.here ?_)))
  split
  · rename_i q
    have e : PySem.W.subIn K tb (.ref C) = some false := by
      rcases Bool.or_eq_true_iff.mp hn with e | e
      · rw [beq_iff_eq.mp e] at q; simp at q
      · exact beq_iff_eq.mp e
    refine wpAny_bind ((PySem.W.looks_subIn X e).here ?_)
    simp only [Bool.false_eq_true, if_false]
    refine wpAny_bind (wpAny_mono one (fun r s' z => ?_) fun _ _ e => e)
    obtain ⟨v, rfl, hq⟩ := z
    exact wpAny_pure hq
  · refine wpAny_bind (wpAny_pure ?_)
    simp only [Bool.false_eq_true, if_false]
    refine wpAny_bind (wpAny_mono one (fun r s' z => ?_) fun _ _ e => e)
    obtain ⟨v, rfl, hq⟩ := z
    exact wpAny_pure hq
/-- v in o -/
theorem inO {v : Value} {Q : Bool → Shared → Prop} (X : K.In s.heap) (I : PySem.W.InstAt s.heap x ox C od) (hs : PySem.W.findIn K (.ref C) "__contains__" = some (some (.ref f))) (hf : PySem.W.isFn K (.ref f) = true)
    (h : wpAny (model prog w) A (call (.ref f) [.ref x, v]) (fun r s' => wpAny (model prog w) A (truthy r) Q E s') E s) : wpAny (model prog w) A (contains (.ref x) v) Q E s := by
  unfold contains
  refine wpAny_holding (wpAny_bind (wpAny_bind (I.type.here ((PySem.W.looks_findIn X hs).here ?_))))
  rw [if_neg (by simp)]
  exact wpAny_bind (PySem.W.unlessNone_K X I hs hf h)
end
section
variable {X : Cx} {CX : CXT} {k j : Nat} {C : Addr} {m q : Str} {st : Stmt} {ps : List Str} {sp : Sp} {E : XK}
/-- a call of the method with these values -/
theorem run_mth (c : Mth X.prog X.w X.K X.mg X.base CX k C m q st ps sp) (hr : RoomG j X.A) (hk : k ≤ j) (hx : Passes CX X E) (b : BndMP m q st ps) :
    ∃ f, Meth X.K C m f ∧ ∀ {pins : List (Addr × Obj)} {σ : L2.St} {H : Hp} {s : Shared} {us : List Value} {vs : List V} {Q : VK}, Inv X pins σ H s → Vals vs us → sp vs H Q E → wpAny (model X.prog X.w) X.A (call (.ref f) us) (EP X pins σ Q) X.xe s := by
  obtain ⟨f, fd, F, hm, hfi, G⟩ := c.ex
  obtain ⟨oc, od, kV, doc, pm, an, cdv, ct, osl, rfl, lk, hcd⟩ := F.ex
  refine ⟨f, hm, fun I r h => run_g (kw := []) G (hr.mono hk) (.of_eq (b kV doc pm cdv ct an _ ?_)) hx I r h⟩
  have h0 := r.length
  have h1 := G.len _ _ _ _ h
  omega
theorem ins_at {pins : List (Addr × Obj)} {σ : L2.St} {H : Hp} {s : Shared} {a dx : Addr} {fs : List (Str × V)} (I : Inv X pins σ H s) (e : H a = some (.ins C dx fs)) : ∃ od, PySem.W.InstAt s.heap a (PySem.W.instObj C dx) C od := by
  obtain ⟨mA, O, _⟩ := ins_get I.hok e
  obtain ⟨od, J, _⟩ := O.look
  exact ⟨_, J⟩
def IsI (H : Hp) (C : Addr) (x : V) : Prop := ∃ a dx fs, x = .ref a ∧ H a = some (.ins C dx fs)
/-- of the built-in class T -/
def TyB (K : PySem.W.Frag) (T : String) (y : V) (H : Hp) : Prop := tyV K T y H ∨ (T = "tuple" ∧ ∃ t xs, y = .ref t ∧ H t = some (.tup xs))
theorem tyB_is {pins : List (Addr × Obj)} {σ : L2.St} {H : Hp} {s : Shared} {T : String} {y : V} {u : Value} (I : Inv X pins σ H s) (r : RelV y u) (ty : TyB X.K T y H) : s.TypeIs u T := by
  rcases ty with ty | ⟨rfl, t, xs, rfl, ht⟩
  · exact (tyV_is I r ty).1
  · obtain rfl : u = Value.ref t := r
    obtain ⟨_, its, r2, o, ho, hc, n, hd⟩ := I.hok _ _ ht
    exact ⟨o, ho, hc⟩
def rBinL (K : PySem.W.Frag) (C : Addr) (T : String) (sp : Sp) (E : XK) : R2 := fun x y H Q => IsI H C x ∧ TyB K T y H ∧ sp [x, y] H Q E
def rBinR (K : PySem.W.Frag) (C : Addr) (T : String) (sp : Sp) (E : XK) : R2 := fun y x H Q => IsI H C x ∧ TyB K T y H ∧ sp [x, y] H Q E
def rBinS (C : Addr) (sp : Sp) (E : XK) : R2 := fun x y H Q => IsI H C x ∧ IsI H C y ∧ sp [x, y] H Q E
theorem op_binL {op : Operator} {T : String} (c : Mth X.prog X.w X.K X.mg X.base CX k C (PySem.dunder op.info.2) q st ps sp) (hc : PySem.W.selfFirst X.K C = true) (hr : RoomG j X.A) (hk : k ≤ j) (hx : Passes CX X E) (b : BndMP (PySem.dunder op.info.2) q st ps)
    (hno : fillsNumberSlot (.type T) op.info.2 = pure false) : OpR X (binaryOp op) (rBinL X.K C T sp E) := by
  intro pins s σ H x y v u Q I rx ry h
  obtain ⟨⟨a, dx, fs, rfl, ea⟩, ty, q⟩ := h
  obtain rfl : v = Value.ref a := rx
  obtain ⟨f, hm, run⟩ := run_mth c hr hk hx b
  obtain ⟨od, J⟩ := ins_at I ea
  exact binL I.kIn J (tyB_is I ry ty) hno hc hm.at_ hm.fn (wpAny_mono (run I (.cons (rv_ref a) (.cons ry .nil)) q) (fun _ _ z => cb_of z) fun _ _ z => z)
theorem op_binR {op : Operator} {T : String} {g : Addr} (c : Mth X.prog X.w X.K X.mg X.base CX k C (PySem.dunderR op.info.2) q st ps sp) (hc : PySem.W.selfFirst X.K C = true) (hr : RoomG j X.A) (hk : k ≤ j) (hx : Passes CX X E) (b : BndMP (PySem.dunderR op.info.2) q st ps)
    (hno : fillsNumberSlot (.type T) op.info.2 = pure false) (h0 : Meth X.K C (PySem.dunder op.info.2) g) : OpR X (binaryOp op) (rBinR X.K C T sp E) := by
  intro pins s σ H y x u v Q I ry rx h
  obtain ⟨⟨a, dx, fs, rfl, ea⟩, ty, q⟩ := h
  obtain rfl : v = Value.ref a := rx
  obtain ⟨f, hm, run⟩ := run_mth c hr hk hx b
  obtain ⟨od, J⟩ := ins_at I ea
  exact binR I.kIn J (tyB_is I ry ty) hno hc h0.at_ hm.at_ hm.fn (wpAny_mono (run I (.cons (rv_ref a) (.cons ry .nil)) q) (fun _ _ z => cb_of z) fun _ _ z => z)
theorem op_binS {op : Operator} (c : Mth X.prog X.w X.K X.mg X.base CX k C (PySem.dunder op.info.2) q st ps sp) (hc : PySem.W.selfFirst X.K C = true) (hr : RoomG j X.A) (hk : k ≤ j) (hx : Passes CX X E) (b : BndMP (PySem.dunder op.info.2) q st ps) : OpR X (binaryOp op) (rBinS C sp E) := by
  intro pins s σ H x y v u Q I rx ry h
  obtain ⟨⟨a, dx, fs, rfl, ea⟩, ⟨a', dx', fs', rfl, ea'⟩, q⟩ := h
  obtain rfl : v = Value.ref a := rx
  obtain rfl : u = Value.ref a' := ry
  obtain ⟨f, hm, run⟩ := run_mth c hr hk hx b
  obtain ⟨od, J⟩ := ins_at I ea
  obtain ⟨od', J'⟩ := ins_at I ea'
  exact binS I.kIn J J'.type hc hm.at_ hm.fn (wpAny_mono (run I (.cons (rv_ref a) (.cons (rv_ref a') .nil)) q) (fun _ _ z => cb_of z) fun _ _ z => z)
/-- a comparison of two of C by its own method -/
theorem op_cmpS {op : CmpOp} (c : Mth X.prog X.w X.K X.mg X.base CX k C (cmpInfo op).2.1 q st ps sp) (hr : RoomG j X.A) (hk : k ≤ j) (hx : Passes CX X E) (b : BndMP (cmpInfo op).2.1 q st ps) (he : compareOp op = richCompare op) : OpR X (compareOp op) (rBinS C sp E) := by
  intro pins s σ H x y v u Q I rx ry h
  obtain ⟨⟨a, dx, fs, rfl, ea⟩, ⟨a', dx', fs', rfl, ea'⟩, q⟩ := h
  obtain rfl : v = Value.ref a := rx
  obtain rfl : u = Value.ref a' := ry
  obtain ⟨f, hm, run⟩ := run_mth c hr hk hx b
  obtain ⟨od, J⟩ := ins_at I ea
  obtain ⟨od', J'⟩ := ins_at I ea'
  rw [he]
  have hn : PySem.W.notFirst X.K C (.ref C) = true := by
    unfold PySem.W.notFirst
    rw [beq_self_eq_true, Bool.true_or]
  exact cmpO hr.r.units0 I.kIn J J'.type hn hm.at_ hm.fn (wpAny_mono (run I (.cons (rv_ref a) (.cons (rv_ref a') .nil)) q) (fun _ _ z => cb_of z) fun _ _ z => z)
/-- y in o: the method tells a truth value -/
def rInO (C : Addr) (neg : Bool) (sp : Sp) (E : XK) : R2 := fun y x H Q => IsI H C x ∧ sp [x, y] H (fun v H' => ∃ b, v = .bl b ∧ Q (.bl (if neg then !b else b)) H') E
theorem op_inO (c : Mth X.prog X.w X.K X.mg X.base CX k C "__contains__" q st ps sp) (hr : RoomG j X.A) (hk : k ≤ j) (hx : Passes CX X E) (b : BndMP "__contains__" q st ps) : OpR X (compareOp .In) (rInO C false sp E) := by
  intro pins s σ H y x u v Q I ry rx h
  obtain ⟨⟨a, dx, fs, rfl, ea⟩, q⟩ := h
  obtain rfl : v = Value.ref a := rx
  obtain ⟨f, hm, run⟩ := run_mth c hr hk hx b
  obtain ⟨od, J⟩ := ins_at I ea
  refine wpAny_bind (inO I.kIn J hm.at_ hm.fn (wpAny_mono (run I (.cons (rv_ref a) (.cons ry .nil)) q) (fun r s' z => ?_) fun _ _ z => z))
  obtain ⟨_, H', I3, rv, b, rfl, q3⟩ := z
  cases rv
  exact wpAny_pure (wpAny_pure ⟨.bl b, H', I3, rfl, q3⟩)
theorem op_notInO (c : Mth X.prog X.w X.K X.mg X.base CX k C "__contains__" q st ps sp) (hr : RoomG j X.A) (hk : k ≤ j) (hx : Passes CX X E) (b : BndMP "__contains__" q st ps) : OpR X (compareOp .NotIn) (rInO C true sp E) := by
  intro pins s σ H y x u v Q I ry rx h
  obtain ⟨⟨a, dx, fs, rfl, ea⟩, q⟩ := h
  obtain rfl : v = Value.ref a := rx
  obtain ⟨f, hm, run⟩ := run_mth c hr hk hx b
  obtain ⟨od, J⟩ := ins_at I ea
  refine wpAny_bind (inO I.kIn J hm.at_ hm.fn (wpAny_mono (run I (.cons (rv_ref a) (.cons ry .nil)) q) (fun r s' z => ?_) fun _ _ z => z))
  obtain ⟨_, H', I3, rv, b, rfl, q3⟩ := z
  cases rv
  exact wpAny_pure (wpAny_pure ⟨.bl (!b), H', I3, rfl, q3⟩)
end
open PySem PySem.Spec PySem.Calls PyProof.Rows L2
/-! ## instances made -/
/-- C(..) with n values and the keywords ks: its own __init__ keeps sp, called with g -/
structure Mkr (P : Program) (w : World) (K : PySem.W.Frag) (mg : Str → Option Value) (base : Heap) (CX : CXT) (k : Nat) (x : Str) (C : Addr) (ps : List Str) (sp : Sp) : Prop where
  ex : ∃ (f : Addr) (fd : FuncData), Mk K C f ∧ mg x = some (.ref C) ∧ FnG P w K mg base CX k f fd ps sp
/-- how arguments come to the parameters, defaults among them -/
def BndI (P : Program) (w : World) (K : PySem.W.Frag) (mg : Str → Option Value) (base : Heap) (CX : CXT) (k : Nat) (x : Str) (C : Addr) (ps : List Str) (sp : Sp) (n : Nat) (ks : List Str) (gV : List V → List V → List V) : Prop :=
  ∃ (f : Addr) (fd : FuncData) (g : List Value → List Value → List Value), Mk K C f ∧ mg x = some (.ref C) ∧ FnG P w K mg base CX k f fd ps sp ∧ KBn K fd ps (n + 1) ks g gV
section
variable {X : Cx} {CX : CXT} {k j n : Nat} {C : Addr} {ps ks : List Str} {sp : Sp} {E : XK} {x : Str} {p pos : Pos} {e : Expr} {es : List Expr} {kws : List Keyword} {t tk : TA} {gV : List V → List V → List V}
theorem run_mk {pins : List (Addr × Obj)} {σ : L2.St} {H : Hp} {s : Shared} {Q : VK} {us ws : List Value} {vs zs : List V} {f : Addr} {fd : FuncData} {g : List Value → List Value → List Value} (M : Mk X.K C f) (F : FnG X.prog X.w X.K X.mg X.base CX k f fd ps sp) (hr : RoomG (k + 1) X.A)
    (hb : KBn X.K fd ps (n + 1) ks g gV) (hx : Passes CX X E) (I : Inv X pins σ H s) (r : Vals vs us) (rz : Vals zs ws) (l1 : vs.length = n) (l2 : zs.length = ks.length)
    (h : ∀ x dx, H x = none → H dx = none → dx ≠ x → sp (gV (.ref x :: vs) zs) (upd (upd H dx (.own x)) x (.ins C dx [])) (fun v H2 => v = .non ∧ Q (.ref x) H2) E) :
    wpAny (model X.prog X.w) X.A (call (.ref C) us (ks.zip ws)) (EP X pins σ Q) X.xe s := by
  have hq := h (s.heap.objs.size + 1) s.heap.objs.size (I.hok.fresh (Nat.le_succ _)) (I.hok.fresh (Nat.le_refl _)) (Nat.ne_of_lt (Nat.lt_succ_self _))
  have I2 := Inv.made (C := C) I
  have r1 : Vals (V.ref (s.heap.objs.size + 1) :: vs) (Value.ref (s.heap.objs.size + 1) :: us) := .cons rfl r
  have r2 := hb.rel r1 rz
  have e1 : (Value.ref (s.heap.objs.size + 1) :: us).length = n + 1 := r1.length.symm.trans (congrArg Nat.succ l1)
  have e2 : ws.length = ks.length := rz.length.symm.trans l2
  refine wpAny_call (make_map (f := f) I.kIn M.makes M.init (beq_iff_eq.mp M.fn) (codeAny_mono (F.run _ X.stack _ _ ⟨Value.ref (s.heap.objs.size + 1) :: us, ks.zip ws⟩ (g (Value.ref (s.heap.objs.size + 1) :: us) ws) _ _ E (hr.make C us (ks.zip ws))
    (I2.env0.make C us (ks.zip ws)) (hb.to _ (Value.ref (s.heap.objs.size + 1) :: us) ws I2.kIn e1 e2) r2 hq) fun r s' hq' => ?_))
  cases r with
  | error e => exact hx pins σ _ _ e s' I2 hq'
  | ok fl =>
    cases fl with
    | ret u =>
      obtain ⟨v, H', I3, rv, ev, q3⟩ := I2.after hq'
      subst ev
      exact ⟨rv, ⟨V.ref (s.heap.objs.size + 1), H', I3, rfl, q3⟩⟩
    | next => exact False.elim hq'
    | brk => exact False.elim hq'
    | cont => exact False.elim hq'
def tMk (C : Addr) (n m : Nat) (sp : Sp) (gV : List V → List V → List V) (E : XK) (t tk : TA) : TE := fun σ H Q => t σ H fun vs H1 => tk σ H1 fun zs H2 => vs.length = n ∧ zs.length = m ∧
  ∀ x dx, H2 x = none → H2 dx = none → dx ≠ x → sp (gV (.ref x :: vs) zs) (upd (upd H2 dx (.own x)) x (.ins C dx [])) (fun v H3 => v = .non ∧ Q (.ref x) H3) E
/-- C(e, .., k = e, ..) -/
theorem pe_mk (c : BndI X.prog X.w X.K X.mg X.base CX k x C ps sp n ks gV) (hr : RoomG j X.A) (hk : k + 1 ≤ j) (hx : Passes CX X E) (hg : Gl X x)
    (ha : PA X (e :: es) t) (hkw : PK X kws tk) (hall : (backToKw pos (keywordEach kws X.env)).all (·.1.isSome) = true := by rfl) (hks : (backToKw pos (keywordEach kws X.env)).filterMap (·.1) = ks := by rfl)
    (hdb : (x == ("__debug__" : Str)) = false := by decide) (he : starEach (e :: es) X.env = (false, eval e X.env) :: starEach es X.env := by rfl)
    (hpl : ((backTo pos (starEach (e :: es) X.env)).any (·.1) || (backToKw pos (keywordEach kws X.env)).any (·.1.isNone)) = false := by rfl) :
    PE X (.Call (.Name x p) (e :: es) kws pos) (tMk C n ks.length sp gV E t tk) := by
  obtain ⟨f, fd, g, M, hm, F, hb⟩ := c
  refine ⟨fun pins s σ H Q I h => wpAny_Call_Name_kw (ld_glob I hg hm ?_ hdb)⟩
  refine PySem.W.callWith_KW (h₀ := X.base) I.ok.mod.kin M.kp hall (thn (ha.run pos pins s σ H _ I h) fun us s1 ⟨vs, H1, I1, r, q⟩ => ?_) hpl he
  refine thn (hkw.run pos pins s1 σ H1 _ I1 q) fun ws s2 ⟨zs, H2, I2, rz, l1, l2, q2⟩ => ⟨I2.kIn, ?_⟩
  rw [hks]
  exact run_mk M F (hr.mono hk) hb hx I2 r rz l1 l2 q2
/-! ## an instance called by keywords -/
theorem callO_kw {M : Model} {A : Around} {E : Value → Shared → Prop} {s : Shared} {a : Addr} {pos : Pos} {Q : Value → Shared → Prop} {args : List (Bool × Sem Value)} {kws : List (Option Str × Sem Value)} (hplain : (args.any (·.1) || kws.any (·.1.isNone)) = false)
    (h : wpAny M A (evalArgs (.ref a) true args kws) (fun z s₁ => (∃ C ox od, PySem.W.InstAt s₁.heap a ox C od ∧ ox.data = .plain) ∧ wpAny M A (call (.ref a) ([] ++ z.pos) z.kw) Q E s₁) E s) : wpAny M A (callWith pos (.ref a) [] args kws) Q E s := by
  unfold callWith
  refine wpAny_bind (wpAny_holding (wpAny_mono h (fun z s₁ h₁ => wpAny_bind (wpAny_standAt ?_)) fun _ _ y => y))
  obtain ⟨⟨C, ox, od, J, hd⟩, h₁⟩ := h₁
  have L := PySem.W.kco_keeper (M := M) J hd
  simp only [hplain]
  refine wpAny_bind (L.here ?_)
  have tail : ∀ {t : Sem Value}, wpAny M A t Q E s₁ → wpAny M A (t >>= fun r => holding [r] point >>= fun _ => pure r) Q E s₁ :=
    fun ht => wpAny_bind (wpAny_mono ht (fun r s₂ hr => wpAny_bind (wpAny_holding (wpAny_point (wpAny_pure hr)))) fun _ _ y => y)
  exact tail (wpAny_operateT h₁)
def tOK (C : Addr) (sp : Sp) (n : Nat) (ix : List Nat) (E : XK) (tf : TE) (tk : TA) : TE := fun σ H Q => tf σ H fun y H1 => ∃ a, y = V.ref a ∧ tk σ H1 fun zs H2 => (∃ dx fs, H2 a = some (.ins C dx fs)) ∧ zs.length = n ∧ sp (sel ix (.ref a :: zs)) H2 Q E
theorem pe_oK {q : Str} {st : Stmt} {fe : Expr} {tf : TE} {ix : List Nat} (c : Mth X.prog X.w X.K X.mg X.base CX k C "__call__" q st ps sp) (hr : RoomG j X.A) (hk : k ≤ j) (hx : Passes CX X E) (b : BndM "__call__" q st ps 1 ks ix) (hf : PE X fe tf) (hkw : PK X kws tk)
    (hall : (backToKw pos (keywordEach kws X.env)).all (·.1.isSome) = true := by rfl) (hks : (backToKw pos (keywordEach kws X.env)).filterMap (·.1) = ks := by rfl)
    (ht : eval (.Call fe [] kws pos) X.env = (do callWith pos (← eval fe X.env) [] (backTo pos (starEach [] X.env)) (backToKw pos (keywordEach kws X.env))) := by rfl)
    (hpl : ((backTo pos (starEach [] X.env)).any (·.1) || (backToKw pos (keywordEach kws X.env)).any (·.1.isNone)) = false := by rfl) : PE X (.Call fe [] kws pos) (tOK C sp ks.length ix E tf tk) := by
  obtain ⟨f, fd, F, hm, hfi, G⟩ := c.ex
  obtain ⟨oc, od, kV, doc, pm, an, cdv, ct, osl, rfl, lk, hcd⟩ := F.ex
  refine ⟨fun pins s σ H Q I h => ?_⟩
  rw [ht]
  refine wpAny_bind (thn (hf.run pins s σ H _ I h) fun u s1 ⟨y, H1, I1, ry, a, ey, q⟩ => ?_)
  subst ey
  obtain rfl : u = Value.ref a := ry
  refine callO_kw hpl (evalArgs_kw2_nil hall (thn (hkw.run pos pins s1 σ H1 _ I1 q) fun ws s2 ⟨zs, H2, I2, rz, ⟨dx, fs, hi⟩, l2, q2⟩ => ?_))
  obtain ⟨ox, od, J, hd⟩ := StX.insC_at I2 (.inr ⟨dx, fs, hi⟩)
  refine ⟨⟨C, ox, od, J, hd⟩, wpAny_call (PySem.W.kco_code I2.kIn J hd hm.at_ hm.fn hfi ?_)⟩
  rw [hks]
  refine codeAny_mono (G.run X.A X.stack s2 H2 ⟨[.ref a], ks.zip ws⟩ (sel ix (.ref a :: ws)) (sel ix (.ref a :: zs)) Q E (hr.mono hk) I2.env0 (.of_eq (b kV doc pm cdv ct an [.ref a] ws rfl (rz.length.symm.trans l2))) (sel_vals (xs := .ref a :: zs) (us := .ref a :: ws) (.cons rfl rz) ix) q2) fun y s' z => ?_
  match y, z with
  | .error e, z => exact hx pins σ H2 s2 e s' I2 z
  | .ok (.ret u), z => exact I2.after z
  | .ok .next, z => exact z.elim
  | .ok .brk, z => exact z.elim
  | .ok .cont, z => exact z.elim
end
open PySem PySem.Spec PySem.Calls PyProof.Rows L2
section
variable {prog : Program} {w : World} {K : Type} [DecidableEq K] {knd : KeyKind prog w K} {A : Around} {E : Value → Shared → Prop} {s : Shared}
theorem dictPut_pairs {d : Addr} {kvs : List (K × Value)} {k : K} {key v : Value} {Q : Unit → Shared → Prop} (hkey : knd.is k key = true) (hm : s.heap.DictOf knd d kvs)
    (hQ : ∀ h', h'.DictOf knd d (stored kvs k v) → Heap.SameBut d s.heap h' → Q () { s with heap := h' })
    (hsz : kvs.length ≤ sizeLine) : wpAny (model prog w) A (dictPut d (knd.hash k) key v) Q E s := by
  obtain ⟨o, es, ep, ho, hc, hd, hk, hp, hn⟩ := hm
  have hes : es.size ≤ sizeLine := by have e1 := hp.length; have e2 : es.toList.length = es.size := by simp
                                      omega
  unfold dictPut
  refine wpAny_bind (wpAny_dictFind_of hkey ho hd hk ?_)
  have hidx : (es.findIdx? fun e => knd.is k e.key) = kvs.findIdx? fun kv => decide (kv.1 = k) := by
    rw [← hp.findIdx k]; obtain ⟨l⟩ := es; simp
  cases hi : es.findIdx? fun e => knd.is k e.key with
  | some i =>
    refine wpAny_updateDict ho hd (hQ _ ⟨_, _, ep, Heap.get?_update_self _ ho (Obj.isFreed_of_dict (Obj.data_mapDict hd _)),
      hc.mapDict _, Obj.data_mapDict hd _, hk.modify _ _, ?_, ?_⟩ (Heap.SameBut.update ..))
    · rw [stored, if_pos (any_of_findIdx_some (hidx ▸ hi))]
      have hl : (es.toList.findIdx? fun e => knd.is k e.key) = some i := by rw [← hi]; obtain ⟨l⟩ := es; simp
      have := hp.modify hn hl v
      obtain ⟨l⟩ := es
      simpa using this
    · rw [stored, if_pos (any_of_findIdx_some (hidx ▸ hi)), keys_map_store]; exact hn
  | none =>
    have hnot : k ∉ kvs.map (·.1) := not_mem_of_findIdx_none (hidx ▸ hi)
    have hany : ¬ (kvs.any fun kv => decide (kv.1 = k)) = true := by
      rw [List.any_eq_true]; rintro ⟨kv, hkv, he⟩
      exact hnot (List.mem_map.mpr ⟨kv, hkv, of_decide_eq_true he⟩)
    refine wpAny_updateDictKeys (hz := hes) ho hd (hQ _ ⟨_, _, ep + 1, Heap.get?_update_self _ ho (Obj.isFreed_of_dict (Obj.data_mapDictKeys hd _)),
      hc.mapDictKeys _, Obj.data_mapDictKeys hd _, hk.push hkey _, ?_, ?_⟩ (Heap.SameBut.update ..))
    · rw [stored, if_neg hany]
      have := hp.append hkey (knd.hash k) v
      obtain ⟨l⟩ := es
      simpa using this
    · rw [stored, if_neg hany, List.map_append, List.nodup_append]
      refine ⟨hn, by simp, ?_⟩
      intro a ha b hb
      simp only [List.map_cons, List.map_nil, List.mem_singleton] at hb
      subst hb
      exact fun e => hnot (e ▸ ha)
/-- the keys of the dict are told by value -/
theorem merge_map {d o : Addr} {kvs more : List (K × Value)} {Q : Unit → Shared → Prop} (hdo : d ≠ o) (hoS : (o == sysModules) = false) (hd : s.heap.DictOf knd d kvs) (ho : s.heap.DictOf knd o more)
    (href : ∀ (k : K) (v : Value), knd.is k v = true → ∀ a, v ≠ .ref a)
    (hQ : ∀ h', h'.DictOf knd d (merged kvs more) → h'.DictOf knd o more → Heap.SameBut d s.heap h' → Q () { s with heap := h' })
    (hsz : kvs.length + more.length ≤ sizeLine) : wpAny (model prog w) A (mergeMapping d (.ref o) false) Q E s := by
  obtain ⟨od, esd, epd, hod, hcd, hdd, hkd, hpd, hnd⟩ := id hd
  obtain ⟨oo, eso, epo, hoo, hco, hdo', hko, hpo, hno⟩ := id ho
  have hlen : more.length = eso.size := by rw [← hpo.length]; simp
  unfold mergeMapping
  refine wpAny_bind (wpAny_isInstance ho.typeIs isSubtype_dict_dict ?_)
  rw [if_pos rfl]
  refine wpAny_bind (wpAny_specialOf ho.typeIs F.slot_dict_iter.lookup ?_)
  rw [show (some (Value.builtin "dict.__iter__") == some (Value.builtin "dict.__iter__")) = true from rfl]
  refine wpAny_bind (wpAny_pure ?_)
  dsimp only
  rw [if_neg (show ¬ (o == sysModules) = true by rw [hoS]; exact Bool.false_ne_true)]
  refine wpAny_bind (wpAny_dictEntries hod hdd ?_)
  have loop : ∀ s1 : Shared, s1 = s → wpAny (model prog w) A (do
      let l ← dictEntries o
      let epoch ← dictEpoch o
      forIn (List.range l.size) PUnit.unit fun i (_ : PUnit) => (do
          let l' ← dictEntries o
          match l'[i]? with
            | some e => do
              holding [e.key, e.val] (dictPut d e.hash e.key e.val)
              let ep' ← dictEpoch o
              if (ep' != epoch) = true then do
                  (unsupported "dict.changed-during-merge" : Sem PUnit)
                  pure (ForInStep.yield PUnit.unit)
                else pure (ForInStep.yield PUnit.unit)
            | _ => do
              (unsupported "dict.changed-during-merge" : Sem PUnit)
              pure (ForInStep.yield PUnit.unit) : Sem (ForInStep PUnit))
      pure ()) Q E s1 := by
    intro s1 e1
    subst e1
    refine wpAny_bind (wpAny_dictEntries hoo hdo' ?_)
    refine wpAny_bind (wpAny_dictEpoch hoo hdo' ?_)
    refine wpAny_bind ?_
    rw [List.range_eq_range']
    refine wpAny_forIn_list _
      (fun rest _ s' => ∃ h' i, s' = { s1 with heap := h' } ∧ rest = List.range' i (eso.size - i) ∧ i ≤ eso.size ∧ h'.DictOf knd d (merged kvs (more.take i)) ∧ h'.get? o = some oo ∧ Heap.SameBut d s1.heap h')
      _ ?_ ?_ _ _ ⟨s1.heap, 0, rfl, by simp, Nat.zero_le _, by simpa [merged] using hd, hoo, Heap.SameBut.refl _ _⟩
    · rintro x rest b s' ⟨h', i, rfl, hr, hi, hd', hoo', hs'⟩
      have hlt : i < eso.size := by
        rcases Nat.lt_or_ge i eso.size with h | h
        · exact h
        · rw [Nat.sub_eq_zero_of_le h] at hr; simp at hr
      obtain ⟨rfl, hrest⟩ : x = i ∧ rest = List.range' (i + 1) (eso.size - (i + 1)) := by
        have e : eso.size - i = (eso.size - (i + 1)) + 1 := by omega
        rw [e, List.range'_succ] at hr
        injection hr with h1 h2
        exact ⟨h1, h2⟩
      refine wpAny_bind (wpAny_dictEntries hoo' hdo' ?_)
      rw [Array.getElem?_eq_getElem hlt]
      obtain ⟨kv, hkv⟩ : ∃ kv, more[x]? = some kv := ⟨more[x]'(by rw [hlen]; exact hlt), List.getElem?_eq_getElem _⟩
      obtain ⟨k, v⟩ := kv
      obtain ⟨hkey, hval⟩ := hpo.get? (e := eso[x]) (by simp [hlt]) hkv
      obtain ⟨k', hkey', hhash⟩ := hko eso[x] (Array.getElem_mem hlt)
      obtain rfl : k' = k := knd.inj _ _ _ hkey' hkey
      show wpAny _ _ (holding [eso[x].key, eso[x].val] (dictPut d eso[x].hash eso[x].key eso[x].val) >>= _) _ _ _
      rw [hhash, hval]
      have hmx : (merged kvs (more.take x)).length ≤ sizeLine := by
        have e1 := merged_length_le kvs (more.take x)
        have e2 : (more.take x).length ≤ more.length := by rw [List.length_take]; omega
        omega
      refine wpAny_bind (wpAny_holding (dictPut_pairs (hsz := hmx) hkey hd' fun h'' hd'' hs'' => ?_))
      have hoo'' : h''.get? o = some oo := (hs''.2 o (Ne.symm hdo)).trans hoo'
      refine wpAny_bind (wpAny_dictEpoch hoo'' hdo' ?_)
      rw [if_neg (by simp)]
      exact wpAny_pure ⟨h'', x + 1, rfl, hrest, hlt, by rw [merged_take_succ kvs more x (k', v) hkv]; exact hd'', hoo'', hs'.trans hs''⟩
    · rintro b s' ⟨h', i, rfl, hr, hi, hd', hoo', hs'⟩
      have hin : i = eso.size := by
        rcases Nat.lt_or_ge i eso.size with h | h
        · have e : eso.size - i = (eso.size - (i + 1)) + 1 := by omega
          rw [e, List.range'_succ] at hr; exact nomatch hr
        · exact Nat.le_antisymm hi h
      refine wpAny_pure (hQ h' ?_ ⟨oo, eso, epo, hoo', hco, hdo', hko, hpo, hno⟩ hs')
      rw [hin, ← hlen, List.take_length] at hd'; exact hd'
  split
  · refine wpAny_bind (wpAny_dictEntries hoo hdo' ?_)
    have hloop : (forIn eso PUnit.unit fun e (_ : PUnit) => (match e.key with
          | Value.ref a => do
            let lk ← specialOf e.key (Str.ofString "__eq__")
            if (lk != some (Value.builtin "object.__eq__")) = true then
                if (Array.filter (fun x => x.hash == e.hash) eso).size > 1 then do
                  (unsupported "dict.merge-into-an-empty-dict:keys-of-equal-hash" : Sem PUnit)
                  pure (ForInStep.yield PUnit.unit)
                else pure (ForInStep.yield PUnit.unit)
              else pure (ForInStep.yield PUnit.unit)
          | x => pure (ForInStep.yield PUnit.unit) : Sem (ForInStep PUnit))) = pure PUnit.unit := by
      rw [← Array.forIn_toList]
      refine forIn_yield_id _ fun e he c => ?_
      obtain ⟨k, hkey, _⟩ := hko e (Array.mem_toList_iff.mp he)
      have hn := href k e.key hkey
      split
      · rename_i a q
        exact absurd q (hn a)
      · rfl
    refine wpAny_bind (wpAny_of_eq hloop ?_)
    exact loop s rfl
  · exact loop s rfl
end
open PySem PySem.Spec PySem.Calls PyProof.Rows L2
section
variable {prog : Program} {w : World} {A : Around} {s : Shared} {K : Type} [DecidableEq K] {knd : KeyKind prog w K}
theorem wp_onR {M : Model} {α : Type} {t : Sem α} {h : Value → Sem Unit} {Q : α → Shared → Prop} {E : Value → Shared → Prop} (ht : wpAny M A t Q (fun _ _ => False) s) : wpAny M A (t.onRaise h) Q E s :=
  wpAny_onRaise (wpAny_mono ht (fun _ _ z => z) fun _ _ z => z.elim)
theorem wp_tryC {M : Model} {α : Type} {t : Sem α} {h : Value → Sem α} {Q : α → Shared → Prop} {E : Value → Shared → Prop} (ht : wpAny M A t Q (fun _ _ => False) s) : wpAny M A (t.tryCatch h) Q E s :=
  wpAny_tryCatch (wpAny_mono ht (fun _ _ z => z) fun _ _ z => z.elim)
/-- the dict at o into the one at d -/
def Mrg1 (knd : KeyKind prog w K) (d : Addr) (s : Shared) (o : Addr) (Q : Shared → Prop) : Prop :=
  ∃ kvs more, d ≠ o ∧ (o == sysModules) = false ∧ s.heap.DictOf knd d kvs ∧ s.heap.DictOf knd o more ∧ kvs.length + more.length ≤ sizeLine ∧ ∀ h', h'.DictOf knd d (merged kvs more) → Heap.SameBut d s.heap h' → Q { s with heap := h' }
theorem mrg1_run {d o : Addr} {Q : Shared → Prop} {E : Value → Shared → Prop} (href : ∀ (k : K) (v : Value), knd.is k v = true → ∀ a, v ≠ .ref a) (h : Mrg1 knd d s o Q) : wpAny (model prog w) A (mergeMapping d (.ref o) false) (fun _ => Q) E s := by
  obtain ⟨kvs, more, h1, h2, h3, h4, h5, h6⟩ := h
  exact merge_map h1 h2 h3 h4 href (fun h' a _ c => h6 h' a c) h5
theorem disp_star1 {m k v : Sem Value} {E : Value → Shared → Prop} {Q : Value → Shared → Prop} (href : ∀ (k : K) (v : Value), knd.is k v = true → ∀ a, v ≠ .ref a)
    (hx : wpAny (model prog w) A m (fun x s1 => ∃ o, x = .ref o ∧ Mrg1 knd s.heap.objs.size s1 o fun s2 => wpAny (model prog w) A (subDict [(k, v)]) (fun b s3 => Mrg1 knd s.heap.objs.size s3 b fun s4 => Q (.ref s.heap.objs.size) s4) E s2) E
      { s with heap := s.heap.push { cls := .type "dict", data := .dict #[] } }) : wpAny (model prog w) A (dictDisplay [(none, m), (some k, v)]) Q E s := by
  unfold dictDisplay
  dsimp only
  simp only [List.forIn_cons, List.forIn_nil, List.isEmpty_nil, if_true, pure_bind]
  refine wpAny_bind (wpAny_bind (wpAny_bind (wpAny_alloc ?_)))
  refine wpAny_bind (wpAny_holding (wpAny_mono hx (fun x s1 z => ?_) fun _ _ z => z))
  obtain ⟨o, rfl, z⟩ := z
  refine wpAny_bind (wp_onR (wp_tryC (wp_onR (wpAny_holding (wpAny_mono (mrg1_run href z) (fun _ s2 z2 => ?_) fun _ _ z => z)))))
  refine wpAny_pure ?_
  refine wpAny_bind (wpAny_pure (wpAny_pure ?_))
  refine wpAny_bind (wpAny_bind (wpAny_holding (wpAny_mono z2 (fun b s3 z3 => ?_) fun _ _ z => z)))
  refine wpAny_bind (wp_onR (wpAny_holding (wpAny_mono (mrg1_run href z3) (fun _ s4 z4 => ?_) fun _ _ z => z)))
  exact wpAny_pure (wpAny_pure z4)
theorem disp_star2 {m m2 : Sem Value} {E : Value → Shared → Prop} {Q : Value → Shared → Prop} (href : ∀ (k : K) (v : Value), knd.is k v = true → ∀ a, v ≠ .ref a)
    (hx : wpAny (model prog w) A m (fun x s1 => ∃ o, x = .ref o ∧ Mrg1 knd s.heap.objs.size s1 o fun s2 => wpAny (model prog w) A m2 (fun y s3 => ∃ b, y = .ref b ∧ Mrg1 knd s.heap.objs.size s3 b fun s4 => Q (.ref s.heap.objs.size) s4) E s2) E
      { s with heap := s.heap.push { cls := .type "dict", data := .dict #[] } }) : wpAny (model prog w) A (dictDisplay [(none, m), (none, m2)]) Q E s := by
  unfold dictDisplay
  dsimp only
  simp only [List.forIn_cons, List.forIn_nil, List.isEmpty_nil, if_true, pure_bind]
  refine wpAny_bind (wpAny_bind (wpAny_bind (wpAny_alloc ?_)))
  refine wpAny_bind (wpAny_holding (wpAny_mono hx (fun x s1 z => ?_) fun _ _ z => z))
  obtain ⟨o, rfl, z⟩ := z
  refine wpAny_bind (wp_onR (wp_tryC (wp_onR (wpAny_holding (wpAny_mono (mrg1_run href z) (fun _ s2 z2 => ?_) fun _ _ z => z)))))
  refine wpAny_pure ?_
  simp only [List.isEmpty_nil, if_true, pure_bind]
  refine wpAny_bind (wpAny_bind (wpAny_holding (wpAny_mono z2 (fun y s3 z3 => ?_) fun _ _ z => z)))
  obtain ⟨b, rfl, z3⟩ := z3
  refine wpAny_bind (wp_onR (wp_tryC (wp_onR (wpAny_holding (wpAny_mono (mrg1_run href z3) (fun _ s4 z4 => ?_) fun _ _ z => z)))))
  refine wpAny_pure ?_
  exact wpAny_pure (wpAny_pure z4)
end
theorem szl1 : 1 ≤ sizeLine := by rw [sizeLine_eq]; decide
/-! ## {**a, k: v}, {**a, **b} over the layer -/
theorem mix_href {P : Program} {w : World} (k : Key) (v : Value) (h : (mixKind P w).is k v = true) (a : Addr) : v ≠ .ref a := by
  rcases keyIs_shape (k := k) (v := v) h with ⟨i, t, _, e⟩ | ⟨i, t, _, e⟩ <;> (rw [e]; intro z; cases z)
section
variable {X : Cx} {pins : List (Addr × Obj)} {σ : L2.St} {H : Hp} {s : Shared}
/-- one merging -/
theorem mrg_lay {d o : Addr} {kvs more : List (Key × V)} {Q : Shared → Prop} (I : Inv X pins σ H s) (hd : H d = some (.dK kvs)) (ho : Rd H o (.dK more)) (hne : d ≠ o) (hz : kvs.length + more.length ≤ sizeLine)
    (hq : ∀ s', Inv X pins σ (upd H d (.dK (mergeK kvs more))) s' → Q s') : Mrg1 (mixKind X.prog X.w) d s o Q := by
  obtain ⟨z1, l1, vs1, r1, d1⟩ := dk_of I.hok hd
  obtain ⟨z2, l2, vs2, r2, d2⟩ := dk_rd I.hok ho
  refine ⟨vs1, vs2, hne, l2, d1, d2, by rw [← r1.length, ← r2.length]; exact hz, fun h' dd hs => hq _ ?_⟩
  have he : ∃ q, h'.get? d = some q := let ⟨q, _, _, hq, _⟩ := dd; ⟨q, hq⟩
  exact d_write I (by rw [hd]; exact True.intro) hs he (dk_new (Nat.le_trans (length_mergeK more kvs) hz) l1 (r2.merge r1) dd)
end
section
variable {X : Cx} {pos : Pos} {e1 e2 k v : Expr} {t1 t2 tk tv : TE}
def tStar1 (t1 tk tv : TE) : TE := fun σ H Q => ∀ d, H d = none → t1 σ (upd H d (.dK [])) fun x H1 => ∃ a more, x = .ref a ∧ d ≠ a ∧ H1 d = some (.dK []) ∧ Rd H1 a (.dK more) ∧
  ∀ b, upd H1 d (.dK (mergeK [] more)) b = none → tPairs [(tk, tv)] σ (upd (upd H1 d (.dK (mergeK [] more))) b (.dK [])) fun ps H2 => ∃ (key : Key) (y : V) (kvs : List (Key × V)), ps = [(kV key, y)] ∧ H2 b = some (.dK []) ∧ H2 d = some (.dK kvs) ∧ kvs.length + 1 ≤ sizeLine ∧
    Q (.ref d) (upd (upd H2 b (.dK [(key, y)])) d (.dK (putK kvs key y)))
theorem pe_star1 (h1 : PE X e1 t1) (hk : PE X k tk) (hv : PE X v tv) : PE X (.Dict [none, some k] [e1, v] pos) (tStar1 t1 tk tv) := by
  refine ⟨fun pins s σ H Q I q => ?_⟩
  rw [arm_eval_Dict]
  refine wpAny_bind (wpAny_standAt ?_)
  show wpAny _ _ (dictDisplay [(none, do let x ← eval e1 X.env; standAt pos; pure x), (some (eval k X.env), do let x ← eval v X.env; standAt pos; pure x)]) _ _ _
  have hn := I.hok.fresh (Nat.le_refl s.heap.objs.size)
  have I1 := I.laid (a := s.heap.objs.size) (o := .dK []) (h' := s.heap.push { cls := .type "dict", data := .dict #[] }) (t' := s.toks) (fun _ _ q => Heap.get?_push_of_some _ q) (Nat.le_refl _) (dk_empty s.heap I.big)
  refine disp_star1 (knd := mixKind X.prog X.w) mix_href (wpAny_bind (thn (h1.run pins _ σ _ _ I1 (q _ hn)) fun u s1 ⟨x, H1, I2, rx, a, more, ex, hne, hd, hr, q2⟩ => wpAny_bind (wpAny_standAt (wpAny_pure ?_))))
  subst ex
  obtain rfl : u = Value.ref a := rx
  have hz0 : more.length ≤ sizeLine := (dk_rd I2.hok hr).1
  refine ⟨a, rfl, mrg_lay I2 hd hr hne (by rw [List.length_nil, Nat.zero_add]; exact hz0) fun s2 I3 => ?_⟩
  have hn3 := I3.hok.fresh (Nat.le_refl s2.heap.objs.size)
  have I4 := I3.laid (a := s2.heap.objs.size) (o := .dK []) (h' := s2.heap.push { cls := .type "dict", data := .dict #[] }) (t' := s2.toks) (fun _ _ q => Heap.get?_push_of_some _ q) (Nat.le_refl _) (dk_empty s2.heap I3.big)
  refine wpAny_subDict (knd := mixKind X.prog X.w) (Nat.le_of_ble_eq_true rfl) (thn ((pps_cons hk hv pps_nil).run pins _ σ _ _ I4 (q2 _ hn3)) fun ws s4 ⟨ps, H4, I5, rel, key, y, kvs, ep, lb, ld, hz, q5⟩ => ?_)
  subst ep
  obtain ⟨rs, c, rk⟩ := carries_of (P := X.prog) (w := X.w) (kvs := [(key, y)]) rel
  obtain ⟨z, hb, vs0, r0, dd⟩ := dk_of I5.hok lb
  cases r0
  refine ⟨rs, c, dd, fun h' dd' hs => ?_⟩
  have he : ∃ q, h'.get? s2.heap.objs.size = some q := let ⟨q, _, _, hq, _⟩ := dd'; ⟨q, hq⟩
  have I6 : Inv X pins σ (upd H4 s2.heap.objs.size (.dK [(key, y)])) { s4 with heap := h', toks := s4.toks + ws.length } := d_write I5 (by rw [lb]; exact True.intro) hs he (dk_new (kvs := mergeK [] [(key, y)]) szl1 hb (rk.merge .nil) dd')
  have hdb : s.heap.objs.size ≠ s2.heap.objs.size := fun z => by
    rw [← z, ] at hn3
    rw [upd_same] at hn3
    cases hn3
  refine mrg_lay I6 (kvs := kvs) (more := [(key, y)]) (by rw [upd_ne hdb]; exact ld) (.inl upd_same) hdb hz fun s6 I7 => ⟨.ref s.heap.objs.size, _, I7, rfl, q5⟩
def tStar2 (t1 t2 : TE) : TE := fun σ H Q => ∀ d, H d = none → t1 σ (upd H d (.dK [])) fun x H1 => ∃ a more, x = .ref a ∧ d ≠ a ∧ H1 d = some (.dK []) ∧ Rd H1 a (.dK more) ∧
  t2 σ (upd H1 d (.dK (mergeK [] more))) fun y H2 => ∃ b kvs more2, y = .ref b ∧ d ≠ b ∧ H2 d = some (.dK kvs) ∧ Rd H2 b (.dK more2) ∧ kvs.length + more2.length ≤ sizeLine ∧ Q (.ref d) (upd H2 d (.dK (mergeK kvs more2)))
theorem pe_star2 (h1 : PE X e1 t1) (h2 : PE X e2 t2) : PE X (.Dict [none, none] [e1, e2] pos) (tStar2 t1 t2) := by
  refine ⟨fun pins s σ H Q I q => ?_⟩
  rw [arm_eval_Dict]
  refine wpAny_bind (wpAny_standAt ?_)
  show wpAny _ _ (dictDisplay [(none, do let x ← eval e1 X.env; standAt pos; pure x), (none, do let x ← eval e2 X.env; standAt pos; pure x)]) _ _ _
  have hn := I.hok.fresh (Nat.le_refl s.heap.objs.size)
  have I1 := I.laid (a := s.heap.objs.size) (o := .dK []) (h' := s.heap.push { cls := .type "dict", data := .dict #[] }) (t' := s.toks) (fun _ _ q => Heap.get?_push_of_some _ q) (Nat.le_refl _) (dk_empty s.heap I.big)
  refine disp_star2 (knd := mixKind X.prog X.w) mix_href (wpAny_bind (thn (h1.run pins _ σ _ _ I1 (q _ hn)) fun u s1 ⟨x, H1, I2, rx, a, more, ex, hne, hd, hr, q2⟩ => wpAny_bind (wpAny_standAt (wpAny_pure ?_))))
  subst ex
  obtain rfl : u = Value.ref a := rx
  have hz0 : more.length ≤ sizeLine := (dk_rd I2.hok hr).1
  refine ⟨a, rfl, mrg_lay I2 hd hr hne (by rw [List.length_nil, Nat.zero_add]; exact hz0) fun s2 I3 => ?_⟩
  refine wpAny_bind (thn (h2.run pins _ σ _ _ I3 q2) fun u2 s3 ⟨y, H2, I4, ry, b, kvs, more2, ey, hne2, hd2, hr2, hz2, q3⟩ => wpAny_bind (wpAny_standAt (wpAny_pure ?_)))
  subst ey
  obtain rfl : u2 = Value.ref b := ry
  exact ⟨b, rfl, mrg_lay I4 hd2 hr2 hne2 hz2 fun s6 I7 => ⟨.ref s.heap.objs.size, _, I7, rfl, q3⟩⟩
end
open PySem PySem.Spec PyProof.Rows
open L2 hiding pass0
/-! ## min(texts, key=str, default=d) -/
namespace MN
abbrev kStr : Value := .type "str"
abbrev two (c : Nat) (xs : Array Value) : Obj := { cls := .type "list", dict := none, data := .seq xs c, slots := #[] }
theorem strs_get : ∀ {vs : List Value} {xs : List Str} {i : Nat} {v : Value}, StrsAre vs xs → vs[i]? = some v → ∃ x t, xs[i]? = some x ∧ v = Value.str x t
  | _, _, _, _, .nil, e => by simp at e
  | _, _, 0, _, .cons x t _, e => by
    simp at e
    exact ⟨x, t, by simp, e.symm⟩
  | _, _, i + 1, v, .cons _ _ h, e => by
    obtain ⟨y, t, e1, e2⟩ := strs_get (i := i) (v := v) h (by simpa using e)
    exact ⟨y, t, by simpa using e1, e2⟩
section
variable {prog : Program} {w : World} {A : Around} {R : Result → Shared → Prop} {it : Addr} {fp wr : List Addr} {G : Array GenState → Array GenState → Prop} {n : Nat} {xs : List Str}
variable {P : Nat → Value → Prop} {St : Nat → Shared → Prop}
/-- one more turn of the loop, from the best so far (the item bi) -/
theorem turns (W : WalksS prog w A.in1 it fp wr G n P St) (hP : ∀ i v, P i v → ∃ x t, xs[i]? = some x ∧ v = .str x t) (B : Addr) (hB : B ∉ fp) (more : List (Str × Value)) :
    ∀ (m i bi : Nat) (s : Shared) (bv : Value) (c : Nat), n - i = m → i ≤ n → St i s → P bi bv → s.heap.get? B = some (two c #[bv, bv]) →
    (∀ j v s', P j v → (∀ y z, xs[j]? = some y → xs[bi]? = some z → tLt z y = false) → (∀ y z l, xs[j]? = some y → i ≤ l → l < n → xs[l]? = some z → tLt z y = false) → Moved (B :: wr) G s s' → R (.ok (.ret v)) s') →
    codeAny (model prog w) A (.builtin "min.loop" ⟨[.ref it, kStr, .ref B], more⟩) R s := by
  have hBw : B ∉ wr := fun q => hB (W.sub _ q)
  have inc : ∀ b ∈ wr, b ∈ B :: wr := fun _ q => List.mem_cons_of_mem _ q
  have nm : (toString "min" ++ toString ".loop" : String) = "min.loop" := by decide
  have off : ∀ {b : Addr}, b ∉ B :: wr → B ≠ b := fun q e => q (e ▸ List.mem_cons_self)
  intro m
  induction m with
  | zero =>
    intro i bi s bv c hm hi st pb hS hR
    obtain rfl : i = n := by omega
    refine codeAny_builtin F.entry_min_loop ?_
    rw [Around.under_plainId F.plain_min_loop _]
    show wpAny _ A.in1 (seqItems? (.ref B) >>= _) _ _ s
    refine wpAny_bind (wpAny_seqItems hS rfl ?_)
    show wpAny _ A.in1 (tryCatch (pyNext (.ref it)) _ >>= _) _ _ s
    refine wpAny_bind (wpAny_tryCatch (W.done s _ _ st fun s' mv => ?_))
    show wpAny _ A.in1 (updateSeq B (fun _ => #[]) >>= _) _ _ _
    refine wpAny_bind (wpAny_updateSeq (mv.heap B _ hBw hS) rfl (wpAny_bind (wpAny_letGo (wpAny_pure ?_))))
    refine hR bi bv _ pb (fun y z e1 e2 => ?_) (fun y z l e1 l1 l2 => by omega) ((mv.mono inc).then_heap (tk := s'.toks) (Nat.le_refl _) fun b o q e => (Heap.get?_update_other _ _ (off q)).trans e)
    rw [e1] at e2
    cases e2
    exact tLt_irr _
  | succ m ih =>
    intro i bi s bv c hm hi st pb hS hR
    have hlt : i < n := by omega
    refine codeAny_builtin F.entry_min_loop ?_
    rw [Around.under_plainId F.plain_min_loop _]
    show wpAny _ A.in1 (seqItems? (.ref B) >>= _) _ _ s
    refine wpAny_bind (wpAny_seqItems hS rfl ?_)
    show wpAny _ A.in1 (tryCatch (pyNext (.ref it)) _ >>= _) _ _ s
    refine wpAny_bind (wpAny_tryCatch (W.item i s _ _ hlt st fun v s' pv st' mv => ?_))
    obtain ⟨x, t, hx, rfl⟩ := hP _ _ pv
    obtain ⟨b, tb, hb, rfl⟩ := hP _ _ pb
    have hS' := mv.heap B _ hBw hS
    show wpAny _ A.in1 (tryCatch (holding [_] (call kStr [_])) _ >>= _) _ _ _
    refine wpAny_bind (wpAny_tryCatch (wpAny_holding (PySem.P.str_of_str ?_)))
    show wpAny _ A.in1 (tryCatch (holding [_, _] (richCompare .Lt _ _ >>= _)) _ >>= _) _ _ _
    refine wpAny_bind (wpAny_tryCatch (wpAny_holding (wpAny_bind (PySem.P.lt_str ?_))))
    refine wpAny_bind (wpAny_holding (wpAny_truthy_bool ?_))
    refine wpAny_bind (wpAny_letGo (wpAny_pure ?_))
    have step : ∀ {s2 : Shared}, Moved (B :: wr) G s' s2 → Moved (B :: wr) G s s2 := fun q => Moved.trans W.gtrans (mv.mono inc) q
    cases e : tLt x b with
    | true =>
      have eb : decide (x.cps.toList < b.cps.toList) = true := e
      have back : tLt b x = false := by
        cases q : tLt b x with
        | false => rfl
        | true => exact absurd (tLt_tr e q) (by rw [tLt_irr]; decide)
      rw [eb]
      simp only [if_true]
      refine wpAny_bind (wpAny_updateSeq hS' rfl (wpAny_bind (wpAny_letGo ?_)))
      rw [nm]
      have m2 : Moved (B :: wr) G s' { s' with heap := s'.heap.update B (Obj.mapSeq fun _ => #[.str x t, .str x t]), toks := s'.toks } := (Moved.refl W.grefl).then_heap (tk := s'.toks) (Nat.le_refl _) fun b o q e => (Heap.get?_update_other _ _ (off q)).trans e
      refine wpAny_pure ⟨plainId_quiet F.plain_min_loop _, ih (i + 1) i _ _ _ (by omega) hlt (W.frame _ s' _ s'.toks st' (Nat.le_refl _) fun b q o e => ?_) pv (Heap.get?_update_self _ hS' rfl) fun j v s2 pj h1 h2 m3 => hR j v s2 pj (fun y z e1 e2 => ?_) (fun y z l e1 l1 l2 e2 => ?_) (step (Moved.trans W.gtrans m2 m3))⟩
      · exact (Heap.get?_update_other _ _ (fun q : B = b => hB (by rw [q]; assumption))).trans e
      · rw [hb] at e2
        cases e2
        exact tLe_tr (h1 y x e1 hx) back
      · by_cases q : l = i
        · rw [q] at e2
          exact h1 y z e1 e2
        · exact h2 y z l e1 (by omega) l2 e2
    | false =>
      have eb : decide (x.cps.toList < b.cps.toList) = false := e
      rw [eb]
      simp only [Bool.false_eq_true, if_false]
      refine wpAny_bind (wpAny_letGo ?_)
      rw [nm]
      refine wpAny_pure ⟨plainId_quiet F.plain_min_loop _, ih (i + 1) bi _ _ c (by omega) hlt st' pb hS' fun j v s2 pj h1 h2 m3 => hR j v s2 pj h1 (fun y z l e1 l1 l2 e2 => ?_) (step m3)⟩
      by_cases q : l = i
      · rw [q, hx] at e2
        cases e2
        exact tLe_tr (h1 y b e1 hb) e
      · exact h2 y z l e1 (by omega) l2 e2
/-- the loop from its start, where there is an item -/
theorem starts (W : WalksS prog w A.in1 it fp wr G n P St) (hP : ∀ i v, P i v → ∃ x t, xs[i]? = some x ∧ v = .str x t) (B : Addr) (hB : B ∉ fp) (more : List (Str × Value)) (h0 : 0 < n) {s : Shared} {c : Nat} (st : St 0 s) (hS : s.heap.get? B = some (two c #[]))
    (hR : ∀ j v s', P j v → (∀ y z l, xs[j]? = some y → l < n → xs[l]? = some z → tLt z y = false) → Moved (B :: wr) G s s' → R (.ok (.ret v)) s') :
    codeAny (model prog w) A (.builtin "min.loop" ⟨[.ref it, kStr, .ref B], more⟩) R s := by
  have hBw : B ∉ wr := fun q => hB (W.sub _ q)
  have inc : ∀ b ∈ wr, b ∈ B :: wr := fun _ q => List.mem_cons_of_mem _ q
  have nm : (toString "min" ++ toString ".loop" : String) = "min.loop" := by decide
  have off : ∀ {b : Addr}, b ∉ B :: wr → B ≠ b := fun q e => q (e ▸ List.mem_cons_self)
  refine codeAny_builtin F.entry_min_loop ?_
  rw [Around.under_plainId F.plain_min_loop _]
  show wpAny _ A.in1 (seqItems? (.ref B) >>= _) _ _ s
  refine wpAny_bind (wpAny_seqItems hS rfl ?_)
  show wpAny _ A.in1 (tryCatch (pyNext (.ref it)) _ >>= _) _ _ s
  refine wpAny_bind (wpAny_tryCatch (W.item 0 s _ _ h0 st fun v s' pv st' mv => ?_))
  obtain ⟨x, t, hx, rfl⟩ := hP _ _ pv
  have hS' := mv.heap B _ hBw hS
  show wpAny _ A.in1 (tryCatch (holding [_] (call kStr [_])) _ >>= _) _ _ _
  refine wpAny_bind (wpAny_tryCatch (wpAny_holding (PySem.P.str_of_str ?_)))
  show wpAny _ A.in1 (updateSeq B (fun _ => #[_, _]) >>= _) _ _ _
  refine wpAny_bind (wpAny_updateSeq hS' rfl ?_)
  rw [nm]
  have m2 : Moved (B :: wr) G s' { s' with heap := s'.heap.update B (Obj.mapSeq fun _ => #[.str x t, .str x t]), toks := s'.toks } := (Moved.refl W.grefl).then_heap (tk := s'.toks) (Nat.le_refl _) fun b o q e => (Heap.get?_update_other _ _ (off q)).trans e
  refine wpAny_pure ⟨plainId_quiet F.plain_min_loop _, turns W hP B hB more _ 1 0 _ _ _ rfl h0 (W.frame _ s' _ s'.toks st' (Nat.le_refl _) fun b q o e => ?_) pv (Heap.get?_update_self _ hS' rfl) fun j v s2 pj h1 h2 m3 => hR j v s2 pj (fun y z l e1 l2 e2 => ?_) (Moved.trans W.gtrans (mv.mono inc) (Moved.trans W.gtrans m2 m3))⟩
  · exact (Heap.get?_update_other _ _ (fun q : B = b => hB (by rw [q]; assumption))).trans e
  · by_cases q : l = 0
    · rw [q] at e2
      exact h1 y z e1 e2
    · exact h2 y z l e1 (by omega) l2 e2
end
end MN
/-- the least of some texts -/
def minT (xs : List Str) : Option Str := xs.find? fun y => xs.all fun z => !tLt z y
theorem minT_of {xs : List Str} {y : Str} (hy : y ∈ xs) (h : ∀ z ∈ xs, tLt z y = false) : minT xs = some y := by
  unfold minT
  cases e : xs.find? fun y => xs.all fun z => !tLt z y with
  | none =>
    have := List.find?_eq_none.mp e y hy
    exact absurd (List.all_eq_true.mpr fun z hz => by rw [h z hz]; rfl) this
  | some x =>
    have hx := List.find?_some e
    have hm := List.mem_of_find?_eq_some e
    have hxy : tLt y x = false := by
      have := List.all_eq_true.mp hx y hy
      simpa using this
    rw [tLt_tot (h x hm) hxy]
section
variable {X : Cx}
/-- min(a, key=str, default=d), a list of texts -/
def rMinK (K : PySem.W.Frag) : List V → List V → Hp → VK → Prop := fun vs zs H Q => ∃ (a : Addr) (xs : List Str) (d : V), vs = [V.ref a] ∧ zs = [.ty "str", d] ∧ SqL K H a (xs.map V.str) ∧ (xs = [] → Q d H) ∧ ∀ y, y ∈ xs → (∀ z ∈ xs, tLt z y = false) → Q (.str y) H
theorem cr_minK (hc : X.calm = true) : CallRK X (.builtin "min") [Str.ofString "key", Str.ofString "default"] (rMinK X.K) := by
  intro pins s σ H vs zs us ws Q I r rz h
  obtain ⟨a, xs, d, rfl, rfl, hs, h0, hq⟩ := h
  obtain rfl := Vals.ref1 r
  obtain ⟨w1, w2, rfl, e1, e3⟩ := vals2 rz
  obtain rfl : w1 = Value.type "str" := e1
  obtain ⟨its, rv, hl, hz⟩ := I.list hs
  have hh : X.A.in1.handled = none := I.ok.hd hc
  refine PyProof.Rows.kmk_tree F.kind_min F.plain_min F.entry_min (args_min_key_default _ _ _) ?_
  refine wpAny_bind (wpAny_of_eq (show Builtin.Builtins.bindParams "min" ["key", "default"] 0 ⟨[], [(Str.ofString "key", Value.type "str"), (Str.ofString "default", w2)]⟩ = pure [some (.type "str"), some w2] from rfl) ?_)
  refine wpAny_bind (wpAny_pure ?_)
  have sa := rv.strs
  have hlen : its.length = xs.length := by
    have := rv.length
    rw [List.length_map] at this
    exact this.symm
  have hP : ∀ (i : Nat) (v : Value), its.toArray[i]? = some v → ∃ x t, xs[i]? = some x ∧ v = Value.str x t := fun i v e => by
    rw [List.getElem?_toArray] at e
    exact MN.strs_get sa e
  refine wpAny_bind (PySem.W.iter_listW (A := X.A.in1) hh hl.isList fun s2 e2 W st hfp hw hk => ?_)
  refine wpAny_bind (wpAny_newObj_type ?_)
  have nm : (toString "min" ++ toString ".loop" : String) = "min.loop" := by decide
  rw [nm]
  let S3 : Shared := { s2 with heap := s2.heap.push { cls := .type "list", data := .seq #[] 0 }, toks := s2.toks }
  have hB : s2.heap.objs.size ∉ [s.heap.objs.size, a] := fun q => Nat.lt_irrefl _ (hfp _ q)
  have st3 := W.frame 0 s2 (s2.heap.push { cls := .type "list", data := .seq #[] 0 }) s2.toks st (Nat.le_refl _) fun b _ o e => Heap.get?_push_of_some _ e
  have keep : ∀ s', Moved (s2.heap.objs.size :: [s.heap.objs.size]) (fun a b => b = a) S3 s' → ∃ h' tk, s' = { s with heap := h', toks := tk } ∧ ∀ b o, s.heap.get? b = some o → h'.get? b = some o := fun s' mv => by
    subst e2
    refine ⟨s'.heap, s'.toks, ?_, fun b o e => mv.heap b o ?_ (Heap.get?_push_of_some _ (hk _ _ e))⟩
    · obtain ⟨hp, g, d, tk, os⟩ := s'
      have h1 : g = s.gens := mv.gens
      have h2 : d = s.drawn := mv.drawn
      have h3 : os = s.os := mv.os
      subst h1
      subst h2
      subst h3
      rfl
    · intro q
      rcases List.mem_cons.mp q with q | q
      · exact Nat.lt_irrefl _ (q ▸ Heap.lt_size (hk _ _ e))
      · exact hw _ _ e q
  refine wpAny_pure ⟨plainId_quiet F.plain_min_loop _, ?_⟩
  cases hxs : xs with
  | nil =>
    subst hxs
    have n0 : its.toArray.size = 0 := by rw [List.size_toArray, hlen]; rfl
    rw [n0] at W
    refine codeAny_min_loop_dflt (A := X.A) W _ hB st3 (Heap.get?_push_size _ rfl) fun s' mv => ?_
    obtain ⟨h', tk, rfl, k⟩ := keep s' (mv.mono fun b q => List.mem_cons_of_mem _ q)
    exact ⟨d, H, I.kept k, e3, h0 rfl⟩
  | cons x r =>
    have npos : 0 < its.toArray.size := by rw [List.size_toArray, hlen, hxs]; exact Nat.succ_pos _
    refine MN.starts (A := X.A) W hP _ hB _ npos st3 (Heap.get?_push_size _ rfl) fun j v s' pj least mv => ?_
    obtain ⟨h', tk, rfl, k⟩ := keep s' mv
    obtain ⟨y, t, ey, rfl⟩ := hP _ _ pj
    refine ⟨.str y, H, I.kept k, ⟨t, rfl⟩, hq y (List.mem_of_getElem? ey) fun z hz => ?_⟩
    obtain ⟨l, hl1, el⟩ := List.mem_iff_getElem.mp hz
    exact least y z l ey (by rw [List.size_toArray, hlen]; exact hl1) (by rw [List.getElem?_eq_getElem hl1, el])
end
open PySem PySem.Spec PySem.Calls PyProof.Rows
open L2 hiding pass0
/-! ## a walk over a list or a tuple -/
def iSeqA (K : PySem.W.Frag) (tl : TE) : TI := fun σ H R => tl σ H fun x H1 => ∃ a xs, x = .ref a ∧ ((SqL K H1 a xs ∧ R (Itl K a) H1) ∨ (SqT K H1 a xs ∧ R (Itt K a) H1))
theorem pi_seqA {X : Cx} {tg l : Expr} {tl : TE} (hl : PE X l tl) : PI X tg l (iSeqA X.K tl) := by
  refine ⟨fun pn s σ H R I h => ?_⟩
  refine thn (hl.run pn s σ H _ I h) fun v s1 ⟨x, H1, I1, rx, a, xs, ex, q1⟩ => ?_
  subst ex
  cases rx
  rcases q1 with ⟨hq, q⟩ | ⟨hq, q⟩
  · obtain ⟨its, rv, hp, hz⟩ := I1.list hq
    refine wpAny_pyIter_list hp.isList ?_
    exact ⟨s1.heap.objs.size, [s1.heap.objs.size], _, _, H1, rfl, I1.kept (t' := s1.toks) fun b o e => Heap.get?_push_of_some _ e, turn_list a _, ⟨_, Heap.get?_push_size _ rfl, rfl, rfl⟩, fun b hb => (List.mem_singleton.mp hb) ▸ I1.fpOk (Nat.le_refl _) (I1.hok.fresh (Nat.le_refl _)), q⟩
  · obtain ⟨its, rv, hp, hz⟩ := I1.tuple hq
    refine wpAny_pyIter_tuple (show s1.heap.IsTuple a its.toArray from hp) ?_
    exact ⟨s1.heap.objs.size, [s1.heap.objs.size], _, _, H1, rfl, I1.kept (t' := s1.toks) fun b o e => Heap.get?_push_of_some _ e, turn_tuple a _, ⟨_, Heap.get?_push_size _ rfl, rfl, rfl⟩, fun b hb => (List.mem_singleton.mp hb) ▸ I1.fpOk (Nat.le_refl _) (I1.hok.fresh (Nat.le_refl _)), q⟩
theorem pi_seqAK {X : Cx} {K : PySem.W.Frag} {tg l : Expr} {tl : TE} (e : X.K = K) (hl : PE X l tl) : PI X tg l (iSeqA K tl) := by subst e; exact pi_seqA hl
/-! ## defs with defaults -/
def BndF (P : Program) (w : World) (K : PySem.W.Frag) (mg : Str → Option Value) (base : Heap) (CX : CXT) (k : Nat) (x : Str) (ps : List Str) (sp : Sp) (n : Nat) (ks : List Str) (gV : List V → List V → List V) : Prop :=
  ∃ (f : Addr) (fd : FuncData) (g : List Value → List Value → List Value), PySem.W.keepIn K (.ref f) = true ∧ mg x = some (.ref f) ∧ FnG P w K mg base CX k f fd ps sp ∧ KBn K fd ps n ks g gV
section
variable {X : Cx} {CX : CXT} {k j n : Nat} {ps ks : List Str} {sp : Sp} {E : XK} {x : Str} {p pos : Pos} {e : Expr} {es : List Expr} {kws : List Keyword} {t tk : TA} {gV : List V → List V → List V}
theorem run_f {pn : List (Addr × Obj)} {σ : L2.St} {H : Hp} {s : Shared} {Q : VK} {us ws : List Value} {vs zs : List V} {f : Addr} {fd : FuncData} {g : List Value → List Value → List Value} (F : FnG X.prog X.w X.K X.mg X.base CX k f fd ps sp) (hr : RoomG k X.A)
    (hb : KBn X.K fd ps n ks g gV) (hx : Passes CX X E) (I : Inv X pn σ H s) (r : Vals vs us) (rz : Vals zs ws) (l1 : vs.length = n) (l2 : zs.length = ks.length) (h : sp (gV vs zs) H Q E) :
    wpAny (model X.prog X.w) X.A (call (.ref f) us (ks.zip ws)) (EP X pn σ Q) X.xe s := by
  have b := hb.to s us ws I.kIn (r.length.symm.trans l1) (rz.length.symm.trans l2)
  refine wpAny_call (codeAny_mono (F.run X.A X.stack s H ⟨us, ks.zip ws⟩ (g us ws) (gV vs zs) Q E hr I.env0 b (hb.rel r rz) h) fun y s' z => ?_)
  match y, z with
  | .error er, z => exact hx pn σ H s er s' I z
  | .ok (.ret u), z => exact I.after z
  | .ok .next, z => exact z.elim
  | .ok .brk, z => exact z.elim
  | .ok .cont, z => exact z.elim
def tF (n m : Nat) (sp : Sp) (gV : List V → List V → List V) (E : XK) (t tk : TA) : TE := fun σ H Q => t σ H fun vs H1 => tk σ H1 fun zs H2 => vs.length = n ∧ zs.length = m ∧ sp (gV vs zs) H2 Q E
/-- x(e, .., k = e, ..) -/
theorem pe_f (c : BndF X.prog X.w X.K X.mg X.base CX k x ps sp n ks gV) (hr : RoomG j X.A) (hk : k ≤ j) (hx : Passes CX X E) (hg : Gl X x) (ha : PA X (e :: es) t) (hkw : PK X kws tk)
    (hall : (backToKw pos (keywordEach kws X.env)).all (·.1.isSome) = true := by rfl) (hks : (backToKw pos (keywordEach kws X.env)).filterMap (·.1) = ks := by rfl)
    (hdb : (x == ("__debug__" : Str)) = false := by decide) (he : starEach (e :: es) X.env = (false, eval e X.env) :: starEach es X.env := by rfl)
    (hpl : ((backTo pos (starEach (e :: es) X.env)).any (·.1) || (backToKw pos (keywordEach kws X.env)).any (·.1.isNone)) = false := by rfl) :
    PE X (.Call (.Name x p) (e :: es) kws pos) (tF n ks.length sp gV E t tk) := by
  obtain ⟨f, fd, g, kp, hm, F, hb⟩ := c
  refine ⟨fun pn s σ H Q I h => wpAny_Call_Name_kw (ld_glob I hg hm ?_ hdb)⟩
  refine PySem.W.callWith_KW (h₀ := X.base) I.ok.mod.kin kp hall (thn (ha.run pos pn s σ H _ I h) fun us s1 ⟨vs, H1, I1, r, q⟩ => ?_) hpl he
  refine thn (hkw.run pos pn s1 σ H1 _ I1 q) fun ws s2 ⟨zs, H2, I2, rz, l1, l2, q2⟩ => ⟨I2.kIn, ?_⟩
  rw [hks]
  exact run_f F (hr.mono hk) hb hx I2 r rz l1 l2 q2
/-- x(k = e, ..) -/
theorem pe_f0 (c : BndF X.prog X.w X.K X.mg X.base CX k x ps sp 0 ks gV) (hr : RoomG j X.A) (hk : k ≤ j) (hx : Passes CX X E) (hg : Gl X x) (hkw : PK X kws tk)
    (hall : (backToKw pos (keywordEach kws X.env)).all (·.1.isSome) = true := by rfl) (hks : (backToKw pos (keywordEach kws X.env)).filterMap (·.1) = ks := by rfl)
    (hdb : (x == ("__debug__" : Str)) = false := by decide)
    (hpl : ((backTo pos (starEach [] X.env)).any (·.1) || (backToKw pos (keywordEach kws X.env)).any (·.1.isNone)) = false := by rfl) :
    PE X (.Call (.Name x p) [] kws pos) (tF 0 ks.length sp gV E tNil tk) := by
  obtain ⟨f, fd, g, kp, hm, F, hb⟩ := c
  refine ⟨fun pn s σ H Q I h => wpAny_Call_Name_kw (ld_glob I hg hm (PySem.W.callWith_KW0 (h₀ := X.base) I.ok.mod.kin kp hall ?_ hpl) hdb)⟩
  refine thn (hkw.run pos pn s σ H _ I h) fun ws s2 ⟨zs, H2, I2, rz, l1, l2, q2⟩ => ⟨I2.kIn, ?_⟩
  rw [hks]
  exact run_f F (hr.mono hk) hb hx I2 .nil rz l1 l2 q2
end
/-- a def whose last parameter has a default: all given -/
theorem bndf_of {P : Program} {w : World} {K : PySem.W.Frag} {mg : Str → Option Value} {base : Heap} {CX : CXT} {k n : Nat} {x q : Str} {params : Arguments} {body : List Stmt} {scope : Scope} {dvs : List V} {f : Addr} {fd : FuncData} {ps ks : List Str} {sp : Sp}
    (F : FunD K x q params body scope dvs [] f fd) (kp : PySem.W.keepIn K (.ref f) = true) (hm : mg x = some (.ref f)) (G : FnG P w K mg base CX k f fd ps sp) (g : {α : Type} → List α → List α → List α → List α) (hd : dvs ≠ [])
    (hrel : ∀ {vs ds zs : List V} {us its ws : List Value}, Vals vs us → Vals ds its → Vals zs ws → Vals (g vs ds zs) (g us its ws))
    (h : ∀ (T : Addr) (kV doc pm : Value) (an : Option Addr) (cdv ct : Value) (us its ws : List Value), us.length = n → its.length = dvs.length → ws.length = ks.length →
      ∃ k, bindArgs (PySem.W.fnOf x q params body scope (.ref T) kV doc pm an cdv ct) ⟨us, ks.zip ws⟩ = seqItems? (.ref T) >>= k ∧ k (some its.toArray) = pure (ps.zip (g us its ws))) :
    BndF P w K mg base CX k x ps sp n ks (fun vs zs => g vs dvs zs) := by
  obtain ⟨its, hb⟩ := F.kbindsD (ps := ps) n ks g hd hrel h
  exact ⟨f, fd, _, kp, hm, G, hb⟩
/-! zip of two texts of small signs -/
open PySem PySem.Spec PyProof.Rows
/-- an iterator over a text of small signs -/
abbrev SIt (h : Heap) (it : Addr) (x : Str) (t : Tok) (i : Nat) : Prop := h.IsStrIter it "str_ascii_iterator" x t i
theorem SIt.ext {h h' : Heap} {it b : Addr} {x : Str} {t : Tok} {i : Nat} (a : SIt h it x t i) (e : Heap.ExtBut b h h') (n : it ≠ b) : SIt h' it x t i :=
  let ⟨o, ho, r⟩ := a; ⟨o, e it o n ho, r⟩
section
variable {prog : Program} {w : World} {A : Around} {E : Value → Shared → Prop} {s : Shared}
theorem nextOf_s_item {it : Addr} {x : Str} {t : Tok} {i c : Nat} {Q : Value → Shared → Prop} (hit : SIt s.heap it x t i) (hx : x.cps[i]? = some c)
    (hQ : ∀ h', SIt h' it x t (i + 1) → Heap.SameBut it s.heap h' → Q (.str ⟨#[c]⟩ s.toks) { s with heap := h', toks := s.toks + 1 }) :
    wpAny (model prog w) A (Builtin.SmallTypes.nextOf (.ref it)) Q E s := by
  obtain ⟨o, ho, hc, hd⟩ := id hit
  unfold Builtin.SmallTypes.nextOf
  refine wpAny_bind (wpAny_callSpecial?_slot (name := Str.ofString "__next__") hit.typeIs F.slot_str_ascii_iterator_next (wpAny_call_entry F.slot_str_ascii_iterator_next hit.typeIs F.entry_str_ascii_iterator_next ?_ (F.args_str_ascii_iterator_next_1 _)))
  show wpAny _ _ (field (.ref it) 0 >>= _) _ _ s; refine wpAny_bind (wpAny_field ho hd (x := .str x t) rfl ?_)
  show wpAny _ _ (field (.ref it) 1 >>= _) _ _ s; refine wpAny_bind (wpAny_field ho hd (x := .int i 0) rfl ?_)
  simp only [Int.toNat_natCast, hx]
  refine wpAny_bind (wpAny_setField ho hd (by simp) (wpAny_bind (wpAny_mkStr (wpAny_pure ⟨_, rfl, wpAny_pure (hQ _ ⟨_, Heap.get?_update_self _ ho (Obj.isFreed_of_fields (Obj.data_mapFields hd _)), (Obj.cls_mapFields ..).trans hc, by rw [Obj.data_mapFields hd]; simp [rawInt]⟩ (Heap.SameBut.update ..))⟩) (by show 1 ≤ sizeLine; decide))))
theorem nextOf_s_end {it : Addr} {x : Str} {t : Tok} {i : Nat} {Q : Value → Shared → Prop} (hh : A.handled = none) (hit : SIt s.heap it x t i) (hx : x.cps[i]? = none)
    (hE : ∀ h' e, Heap.ExtBut it s.heap h' → (∃ o, h'.get? e = some o ∧ o.cls = .type "StopIteration") → E (.ref e) { s with heap := h' }) :
    wpAny (model prog w) A (Builtin.SmallTypes.nextOf (.ref it)) Q E s := by
  obtain ⟨o, ho, hc, hd⟩ := id hit
  unfold Builtin.SmallTypes.nextOf
  refine wpAny_bind (wpAny_callSpecial?_slot (name := Str.ofString "__next__") hit.typeIs F.slot_str_ascii_iterator_next (wpAny_call_entry F.slot_str_ascii_iterator_next hit.typeIs F.entry_str_ascii_iterator_next ?_ (F.args_str_ascii_iterator_next_1 _)))
  show wpAny _ _ (field (.ref it) 0 >>= _) _ _ s; refine wpAny_bind (wpAny_field ho hd (x := .str x t) rfl ?_)
  show wpAny _ _ (field (.ref it) 1 >>= _) _ _ s; refine wpAny_bind (wpAny_field ho hd (x := .int i 0) rfl ?_)
  simp only [Int.toNat_natCast, hx]
  refine wpAny_bind (wpAny_rule (wpAny_bind (wpAny_setField ho hd (by simp) (wpAny_bind (wpAny_letGo ?_)))))
  show wpAny _ _ (newExc (.type "StopIteration") [] >>= _) _ _ _; refine wpAny_bind ?_
  simp only [newExc, newTuple]
  refine wpAny_bind (wpAny_newObj_type ?_ (by size_fits)); refine wpAny_bind (m := firstArgMember _ _) (wpAny_of_eq (a := Value.none) (by first | rfl | (simp only [firstArgMember]; rfl)) ?_)
  refine wpAny_newObj_type ?_ (by size_fits); simp only [raiseNew]; refine wpAny_bind (wpAny_handled ?_)
  first | rw [show A.in1.handled = none from hh] | rw [hh]
  refine wpAny_bind (wpAny_pure (wpAny_throw ?_)); exact hE _ _ (((Heap.SameBut.update ..).extBut.push _).push _) ⟨_, Heap.get?_push_size _ rfl, rfl⟩
theorem zipS_next_item {z TI TO i1 i2 l1 l2 : Addr} {k1 k2 c1 c2 : Nat} {x y : Str} {t1 t2 : Tok} {a b : Value} {Q : Value → Shared → Prop} (D : ZipApart z TI TO i1 i2 l1 l2)
    (hz : IsZip s.heap z TI TO .none) (hTI : IsPair s.heap TI (.ref i1) (.ref i2)) (hTO : IsPair s.heap TO a b) (h1 : SIt s.heap i1 x t1 k1) (h2 : SIt s.heap i2 y t2 k2) (hx : x.cps[k1]? = some c1) (hy : y.cps[k2]? = some c2)
    (hQ : ∀ h' u v t, IsZip h' z TI TO (rawInt s.heap.objs.size) → IsPair h' TO (.str ⟨#[c1]⟩ u) (.str ⟨#[c2]⟩ v) → SIt h' i1 x t1 (k1 + 1) → SIt h' i2 y t2 (k2 + 1) → IsPair h' s.heap.objs.size (.str ⟨#[c1]⟩ u) (.str ⟨#[c2]⟩ v) →
      (∀ c o, c ≠ z → c ≠ TO → c ≠ i1 → c ≠ i2 → s.heap.get? c = some o → h'.get? c = some o) → Q (.ref s.heap.objs.size) { s with heap := h', toks := t }) :
    wpAny (model prog w) A (Builtin.«zip.__next__» ⟨[.ref z], []⟩) (fun fin s' => ∃ v, fin = .done (.ret v) ∧ Q v s') E s := by
  show wpAny _ _ (field (.ref z) 2 >>= _) _ _ _; refine wpAny_bind (wpAny_field hz rfl (x := .bool false) rfl ?_)
  show wpAny _ _ (field (.ref z) 3 >>= _) _ _ _; refine wpAny_bind (wpAny_field hz rfl (x := .ref TI) rfl ?_)
  refine wpAny_bind (wpAny_seqItems hTI rfl ?_); show wpAny _ _ (Builtin.SmallTypes.ownedTupleIsFree (.ref z) >>= _) _ _ _; refine wpAny_bind ?_
  unfold Builtin.SmallTypes.ownedTupleIsFree; refine wpAny_bind (wpAny_field hz rfl (x := .none) rfl (wpAny_pure ?_))
  simp only [if_true]; refine wpAny_bind (wpAny_rule ?_); refine wpAny_bind (wpAny_field hz rfl (x := .ref TO) rfl ?_)
  refine wpAny_bind (wpAny_setField_rec hz (by simp) fun h₁ hz₁ hs₁ => ?_); replace hz₁ : IsZip h₁ z TI TO .ellipsis := hz₁
  refine wpAny_bind ?_; simp only [List.zipIdx_cons, List.zipIdx_nil, List.forIn_cons, List.forIn_nil]
  refine wpAny_bind (wpAny_bind (wpAny_onRaise ?_)); show wpAny _ _ (Builtin.SmallTypes.nextOf (.ref i1) >>= _) _ _ _
  refine wpAny_bind (nextOf_s_item (h1.ext hs₁.extBut D.i1z) hx fun h₂ h1₂ hs₂ => wpAny_pure ?_)
  have hTO₂ : IsPair h₂ TO a b := hs₂.extBut _ _ D.TOi1 (hs₁.extBut _ _ D.TOz hTO); refine wpAny_bind (wpAny_seqItems hTO₂ rfl ?_)
  refine wpAny_bind (wpAny_updateSeq_pair hTO₂ fun h₃ hTO₃ hs₃ => ?_); replace hTO₃ : IsPair h₃ TO (.str ⟨#[c1]⟩ s.toks) b := hTO₃
  refine wpAny_bind (wpAny_letGo (wpAny_pure ?_)); refine wpAny_bind (wpAny_bind (wpAny_onRaise ?_)); show wpAny _ _ (Builtin.SmallTypes.nextOf (.ref i2) >>= _) _ _ _
  refine wpAny_bind (nextOf_s_item (((h2.ext hs₁.extBut D.i2z).ext hs₂.extBut D.i12.symm).ext hs₃.extBut D.TOi2.symm) hy fun h₄ h2₄ hs₄ => wpAny_pure ?_)
  have hTO₄ : IsPair h₄ TO (.str ⟨#[c1]⟩ s.toks) b := hs₄.extBut _ _ D.TOi2 hTO₃; refine wpAny_bind (wpAny_seqItems hTO₄ rfl ?_)
  refine wpAny_bind (wpAny_updateSeq_pair hTO₄ fun h₅ hTO₅ hs₅ => ?_); replace hTO₅ : IsPair h₅ TO (.str ⟨#[c1]⟩ s.toks) (.str ⟨#[c2]⟩ (s.toks + 1)) := hTO₅
  refine wpAny_bind (wpAny_letGo (wpAny_pure (wpAny_pure ?_))); refine wpAny_bind (wpAny_seqItems hTO₅ rfl ?_); refine wpAny_bind (wpAny_newTuple ?_)
  have hsz : h₅.objs.size = s.heap.objs.size := by rw [hs₅.1, hs₄.1, hs₃.1, hs₂.1]; exact hs₁.1
  have hz₅ : IsZip h₅ z TI TO .ellipsis := hs₅.extBut _ _ D.TOz.symm (hs₄.extBut _ _ D.i2z.symm (hs₃.extBut _ _ D.TOz.symm (hs₂.extBut _ _ D.i1z.symm hz₁)))
  have hk₅ : ∀ c o, c ≠ z → c ≠ TO → c ≠ i1 → c ≠ i2 → s.heap.get? c = some o → h₅.get? c = some o := fun c o n1 n2 n3 n4 e => hs₅.extBut _ _ n2 (hs₄.extBut _ _ n4 (hs₃.extBut _ _ n2 (hs₂.extBut _ _ n3 (hs₁.extBut _ _ n1 e))))
  have h1₅ : SIt h₅ i1 x t1 (k1 + 1) := ((h1₂.ext hs₃.extBut D.TOi1.symm).ext hs₄.extBut D.i12).ext hs₅.extBut D.TOi1.symm
  have h2₅ : SIt h₅ i2 y t2 (k2 + 1) := h2₄.ext hs₅.extBut D.TOi2.symm
  have hzlt : z < h₅.objs.size := Heap.lt_size hz₅
  show wpAny _ _ (Builtin.SmallTypes.ownedTupleHandOut (.ref z) (.ref h₅.objs.size) >>= _) _ _ _; refine wpAny_bind ?_; unfold Builtin.SmallTypes.ownedTupleHandOut
  have hz₆ : IsZip (h₅.push { cls := .type "tuple", data := .seq #[.str ⟨#[c1]⟩ s.toks, .str ⟨#[c2]⟩ (s.toks + 1)] }) z TI TO .ellipsis := Heap.get?_push_of_some _ hz₅
  refine wpAny_bind (wpAny_setField_rec hz₆ (by simp) fun h₇ hz₇ hs₇ => ?_); replace hz₇ : IsZip h₇ z TI TO (rawInt h₅.objs.size) := hz₇
  refine wpAny_setField_rec hz₇ (by simp) fun h₈ hz₈ hs₈ => ?_; replace hz₈ : IsZip h₈ z TI TO (rawInt h₅.objs.size) := hz₈
  have up : ∀ c o, c ≠ z → h₅.get? c = some o → h₈.get? c = some o := fun c o n e => hs₈.extBut _ _ n (hs₇.extBut _ _ n (Heap.get?_push_of_some _ e))
  have hT₈ : IsPair h₈ h₅.objs.size (.str ⟨#[c1]⟩ s.toks) (.str ⟨#[c2]⟩ (s.toks + 1)) := hs₈.extBut _ _ (Nat.ne_of_gt hzlt) (hs₇.extBut _ _ (Nat.ne_of_gt hzlt) (Heap.get?_push_size _ rfl))
  rw [hsz] at hz₈ hT₈
  refine wpAny_pure ⟨_, rfl, ?_⟩; show Q (.ref h₅.objs.size) _; rw [hsz]
  exact hQ h₈ _ _ _ hz₈ (up _ _ D.TOz hTO₅) (let ⟨o, e, r⟩ := h1₅; ⟨o, up _ o D.i1z e, r⟩) (let ⟨o, e, r⟩ := h2₅; ⟨o, up _ o D.i2z e, r⟩) hT₈ fun c o n1 n2 n3 n4 e => up c o n1 (hk₅ c o n1 n2 n3 n4 e)
theorem zipS_next_end {z TI TO i1 i2 l1 l2 : Addr} {k1 k2 : Nat} {x y : Str} {t1 t2 : Tok} {a b : Value} {Q : Fin → Shared → Prop} (hh : A.handled = none) (D : ZipApart z TI TO i1 i2 l1 l2)
    (hz : IsZip s.heap z TI TO .none) (hTI : IsPair s.heap TI (.ref i1) (.ref i2)) (hTO : IsPair s.heap TO a b) (h1 : SIt s.heap i1 x t1 k1) (h2 : SIt s.heap i2 y t2 k2) (hend : x.cps[k1]? = none ∨ y.cps[k2]? = none)
    (hE : ∀ h' t e, (∀ c o, c ≠ z → c ≠ TO → c ≠ i1 → c ≠ i2 → s.heap.get? c = some o → h'.get? c = some o) → (∃ o, h'.get? e = some o ∧ o.cls = .type "StopIteration") → E (.ref e) { s with heap := h', toks := t }) :
    wpAny (model prog w) A (Builtin.«zip.__next__» ⟨[.ref z], []⟩) Q E s := by
  show wpAny _ _ (field (.ref z) 2 >>= _) _ _ _; refine wpAny_bind (wpAny_field hz rfl (x := .bool false) rfl ?_)
  show wpAny _ _ (field (.ref z) 3 >>= _) _ _ _; refine wpAny_bind (wpAny_field hz rfl (x := .ref TI) rfl ?_)
  refine wpAny_bind (wpAny_seqItems hTI rfl ?_); show wpAny _ _ (Builtin.SmallTypes.ownedTupleIsFree (.ref z) >>= _) _ _ _; refine wpAny_bind ?_
  unfold Builtin.SmallTypes.ownedTupleIsFree; refine wpAny_bind (wpAny_field hz rfl (x := .none) rfl (wpAny_pure ?_))
  simp only [if_true]; refine wpAny_bind (wpAny_rule ?_); refine wpAny_bind (wpAny_field hz rfl (x := .ref TO) rfl ?_)
  refine wpAny_bind (wpAny_setField_rec hz (by simp) fun h₁ hz₁ hs₁ => ?_); replace hz₁ : IsZip h₁ z TI TO .ellipsis := hz₁
  refine wpAny_bind ?_; simp only [List.zipIdx_cons, List.zipIdx_nil, List.forIn_cons, List.forIn_nil]
  refine wpAny_bind (wpAny_bind (wpAny_onRaise ?_)); show wpAny _ _ (Builtin.SmallTypes.nextOf (.ref i1) >>= _) _ _ _
  cases hx : x.cps[k1]? with
  | none =>
    refine wpAny_bind (nextOf_s_end hh (h1.ext hs₁.extBut D.i1z) hx fun h₂ e hs₂ he => ?_); obtain ⟨oe, hoe, hce⟩ := he
    have hz₂ : IsZip h₂ z TI TO .ellipsis := hs₂ _ _ D.i1z.symm hz₁
    have hez : e ≠ z := fun q => by subst q; rw [hz₂] at hoe; cases hoe; simp at hce
    refine wpAny_setField_rec hz₂ (by simp) fun h₃ _ hs₃ => hE h₃ _ e (fun c o n1 _ n3 _ q => hs₃.extBut _ _ n1 (hs₂ _ _ n3 (hs₁.extBut _ _ n1 q))) ⟨oe, hs₃.extBut _ _ hez hoe, hce⟩
  | some c =>
    have hy : y.cps[k2]? = none := by rcases hend with h | h; (rw [hx] at h; cases h); exact h
    refine wpAny_bind (nextOf_s_item (h1.ext hs₁.extBut D.i1z) hx fun h₂ h1₂ hs₂ => wpAny_pure ?_)
    have hTO₂ : IsPair h₂ TO a b := hs₂.extBut _ _ D.TOi1 (hs₁.extBut _ _ D.TOz hTO); refine wpAny_bind (wpAny_seqItems hTO₂ rfl ?_)
    refine wpAny_bind (wpAny_updateSeq_pair hTO₂ fun h₃ hTO₃ hs₃ => ?_); refine wpAny_bind (wpAny_letGo (wpAny_pure ?_)); refine wpAny_bind (wpAny_bind (wpAny_onRaise ?_))
    show wpAny _ _ (Builtin.SmallTypes.nextOf (.ref i2) >>= _) _ _ _
    refine wpAny_bind (nextOf_s_end hh (((h2.ext hs₁.extBut D.i2z).ext hs₂.extBut D.i12.symm).ext hs₃.extBut D.TOi2.symm) hy fun h₄ e hs₄ he => ?_); obtain ⟨oe, hoe, hce⟩ := he
    have hz₄ : IsZip h₄ z TI TO .ellipsis := hs₄ _ _ D.i2z.symm (hs₃.extBut _ _ D.TOz.symm (hs₂.extBut _ _ D.i1z.symm hz₁))
    have hez : e ≠ z := fun q => by subst q; rw [hz₄] at hoe; cases hoe; simp at hce
    refine wpAny_setField_rec hz₄ (by simp) fun h₅ _ hs₅ => hE h₅ _ e (fun c o n1 n2 n3 n4 q => hs₅.extBut _ _ n1 (hs₄ _ _ n4 (hs₃.extBut _ _ n2 (hs₂.extBut _ _ n3 (hs₁.extBut _ _ n1 q))))) ⟨oe, hs₅.extBut _ _ hez hoe, hce⟩
theorem pyNext_zipS_item {z TI TO i1 i2 l1 l2 : Addr} {k1 k2 c1 c2 : Nat} {x y : Str} {t1 t2 : Tok} {a b : Value} {Q : Option Value → Shared → Prop} (D : ZipApart z TI TO i1 i2 l1 l2)
    (hz : IsZip s.heap z TI TO .none) (hTI : IsPair s.heap TI (.ref i1) (.ref i2)) (hTO : IsPair s.heap TO a b) (h1 : SIt s.heap i1 x t1 k1) (h2 : SIt s.heap i2 y t2 k2) (hx : x.cps[k1]? = some c1) (hy : y.cps[k2]? = some c2)
    (hQ : ∀ h' u v t, IsZip h' z TI TO (rawInt s.heap.objs.size) → IsPair h' TO (.str ⟨#[c1]⟩ u) (.str ⟨#[c2]⟩ v) → SIt h' i1 x t1 (k1 + 1) → SIt h' i2 y t2 (k2 + 1) → IsPair h' s.heap.objs.size (.str ⟨#[c1]⟩ u) (.str ⟨#[c2]⟩ v) →
      (∀ c o, c ≠ z → c ≠ TO → c ≠ i1 → c ≠ i2 → s.heap.get? c = some o → h'.get? c = some o) → Q (some (.ref s.heap.objs.size)) { s with heap := h', toks := t }) :
    wpAny (model prog w) A (pyNext (.ref z)) Q E s := by
  have hT : s.TypeIs (.ref z) "zip" := ⟨_, hz, rfl⟩
  unfold pyNext
  exact wpAny_bind (wpAny_attempt (wpAny_callSpecial?_slot (name := Str.ofString "__next__") hT F.slot_zip_next (wpAny_call_entry F.slot_zip_next hT F.entry_zip_next
      (zipS_next_item D hz hTI hTO h1 h2 hx hy fun h' u v t a1 a2 a3 a4 a5 a7 => wpAny_pure (hQ h' u v t a1 a2 a3 a4 a5 a7)) (F.args_zip_next_1 _))))
theorem pyNext_zipS_end {z TI TO i1 i2 l1 l2 : Addr} {k1 k2 : Nat} {x y : Str} {t1 t2 : Tok} {a b : Value} {Q : Option Value → Shared → Prop} (hh : A.handled = none) (D : ZipApart z TI TO i1 i2 l1 l2)
    (hz : IsZip s.heap z TI TO .none) (hTI : IsPair s.heap TI (.ref i1) (.ref i2)) (hTO : IsPair s.heap TO a b) (h1 : SIt s.heap i1 x t1 k1) (h2 : SIt s.heap i2 y t2 k2) (hend : x.cps[k1]? = none ∨ y.cps[k2]? = none)
    (hQ : ∀ h' t, (∀ c o, c ≠ z → c ≠ TO → c ≠ i1 → c ≠ i2 → s.heap.get? c = some o → h'.get? c = some o) → Q none { s with heap := h', toks := t }) : wpAny (model prog w) A (pyNext (.ref z)) Q E s := by
  have hT : s.TypeIs (.ref z) "zip" := ⟨_, hz, rfl⟩
  unfold pyNext
  refine wpAny_bind (wpAny_attempt (wpAny_callSpecial?_slot (name := Str.ofString "__next__") hT F.slot_zip_next (wpAny_call_entry F.slot_zip_next hT F.entry_zip_next
    (zipS_next_end hh D hz hTI hTO h1 h2 hend fun h' t e hk he => ?_) (F.args_zip_next_1 _))))
  obtain ⟨o, ho, hc⟩ := he
  exact wpAny_bind (wpAny_isInstance (T := "StopIteration") (b := true) ⟨o, ho, hc⟩ isSubtype_stop (wpAny_pure (hQ _ _ hk)))
end
/-! the call -/
abbrev zsH1 (h : Heap) (x : Str) (t : Tok) : Heap := h.push { cls := .type "str_ascii_iterator", data := .fields #[.str x t, .int 0 0] }
abbrev zsH2 (h : Heap) (x y : Str) (t u : Tok) : Heap := (zsH1 h x t).push { cls := .type "str_ascii_iterator", data := .fields #[.str y u, .int 0 0] }
abbrev zsH3 (h : Heap) (x y : Str) (t u : Tok) : Heap := (zsH2 h x y t u).push { cls := .type "tuple", data := .seq #[.ref h.objs.size, .ref (zsH1 h x t).objs.size] }
abbrev zsH4 (h : Heap) (x y : Str) (t u : Tok) : Heap := (zsH3 h x y t u).push { cls := .type "tuple", data := .seq #[.none, .none] }
abbrev zsH5 (h : Heap) (x y : Str) (t u : Tok) : Heap := (zsH4 h x y t u).push { cls := .type "zip", data := .fields #[.none, .bool false, .bool false, .ref (zsH2 h x y t u).objs.size, .ref (zsH3 h x y t u).objs.size] }
theorem meets_zipS (x y : Str) (t u : Tok) (hx : x.cps.all (· < 128) = true) (hy : y.cps.all (· < 128) = true) :
    Meets (Builtin.«zip.__new__» ⟨[.type "zip", .str x t, .str y u], []⟩) (fun _ R s => R (.ok (.ret (.ref (zsH4 s.heap x y t u).objs.size))) { s with heap := zsH5 s.heap x y t u }) :=
  .of_wp fun prog w A R s h => by
    obtain ⟨hp, g, d, tk, os⟩ := s
    have hsub := sub_zip
    wp_walk using wpAny_pyIter_ascii hx, wpAny_pyIter_ascii hy
    exact ⟨_, rfl, h⟩
section
variable {prog : Program} {w : World} {A : Around} {E : Value → Shared → Prop} {s : Shared}
theorem call_zipS {x y : Str} {t u : Tok} {Q : Value → Shared → Prop} (hx : x.cps.all (· < 128) = true) (hy : y.cps.all (· < 128) = true)
    (h : ∀ h', IsZip h' (s.heap.objs.size + 4) (s.heap.objs.size + 2) (s.heap.objs.size + 3) .none → IsPair h' (s.heap.objs.size + 2) (.ref s.heap.objs.size) (.ref (s.heap.objs.size + 1)) →
      IsPair h' (s.heap.objs.size + 3) .none .none → SIt h' s.heap.objs.size x t 0 → SIt h' (s.heap.objs.size + 1) y u 0 → h'.objs.size = s.heap.objs.size + 5 →
      (∀ c o, s.heap.get? c = some o → h'.get? c = some o) → Q (.ref (s.heap.objs.size + 4)) { s with heap := h' }) :
    wpAny (model prog w) A (call (.type "zip") [.str x t, .str y u]) Q E s := by
  refine callType_new F.called_zip (by decide) (F.typeCall_zip_2 _ _) (F.newCall_zip_2 _ _) (fun obj => F.args_object_init_3 obj _ _) F.entry_zip_new (meets_zipS x y t u hx hy) ?_
  have z1 : (zsH1 s.heap x t).objs.size = s.heap.objs.size + 1 := Heap.size_push ..
  have z2 : (zsH2 s.heap x y t u).objs.size = s.heap.objs.size + 2 := by rw [Heap.size_push, z1]
  have z3 : (zsH3 s.heap x y t u).objs.size = s.heap.objs.size + 3 := by rw [Heap.size_push, z2]
  have z4 : (zsH4 s.heap x y t u).objs.size = s.heap.objs.size + 4 := by rw [Heap.size_push, z3]
  have z5 : (zsH5 s.heap x y t u).objs.size = s.heap.objs.size + 5 := by rw [Heap.size_push, z4]
  have g5 : (zsH5 s.heap x y t u).get? (zsH4 s.heap x y t u).objs.size = some _ := Heap.get?_push_size _ rfl
  have g4 : (zsH5 s.heap x y t u).get? (zsH3 s.heap x y t u).objs.size = some _ := Heap.get?_push_of_some _ (Heap.get?_push_size _ rfl)
  have g3 : (zsH5 s.heap x y t u).get? (zsH2 s.heap x y t u).objs.size = some _ := Heap.get?_push_of_some _ (Heap.get?_push_of_some _ (Heap.get?_push_size _ rfl))
  have g2 : (zsH5 s.heap x y t u).get? (zsH1 s.heap x t).objs.size = some _ := Heap.get?_push_of_some _ (Heap.get?_push_of_some _ (Heap.get?_push_of_some _ (Heap.get?_push_size _ rfl)))
  have g1 : (zsH5 s.heap x y t u).get? s.heap.objs.size = some _ := Heap.get?_push_of_some _ (Heap.get?_push_of_some _ (Heap.get?_push_of_some _ (Heap.get?_push_of_some _ (Heap.get?_push_size _ rfl))))
  show _ ∧ _
  rw [z2, z3, z4] at g5
  rw [z1, z2] at g3
  rw [z3] at g4
  rw [z1] at g2
  rw [z4]
  exact ⟨⟨_, g5, rfl⟩, h _ g5 g3 g4 ⟨_, g1, rfl, rfl⟩ ⟨_, g2, rfl, rfl⟩ z5 fun c o q => Heap.get?_push_of_some _ (Heap.get?_push_of_some _ (Heap.get?_push_of_some _ (Heap.get?_push_of_some _ (Heap.get?_push_of_some _ q))))⟩
end
open PySem PySem.Spec PyProof.Rows
open L2
/-! the rule -/
def ItzS (x y : Str) : It :=
  ⟨fun i _ => i < x.cps.size ∧ i < y.cps.size, fun i H v H' => ∃ T c d, v = .ref T ∧ H T = none ∧ H' = upd H T (.tup [.str ⟨#[c]⟩, .str ⟨#[d]⟩]) ∧ x.cps[i]? = some c ∧ y.cps[i]? = some d, fun i _ => x.cps.size ≤ i ∨ y.cps.size ≤ i⟩
theorem apartS (I : Nat) : ZipApart (I + 4) (I + 2) (I + 3) I (I + 1) (I + 2) (I + 2) := by constructor <;> (show ¬ ((_ : Nat) = _); omega)
theorem turn_zipS {P : Program} {w : World} {K : PySem.W.Frag} {elts : List Expr} {kk : Nat} {tpos : Pos} {x y : Str} {t1 t2 : Tok} {a b z TI TO i1 i2 : Addr} (D : ZipApart z TI TO i1 i2 a b) :
    Turn P w K (.Tuple elts kk tpos) (ItzS x y) [z, TI, TO, i1, i2] z (fun i h => IsZip h z TI TO .none ∧ IsPair h TI (.ref i1) (.ref i2) ∧ (∃ x y, IsPair h TO x y) ∧ SIt h i1 x t1 i ∧ SIt h i2 y t2 i) where
  mem := by simp
  obj := fun i h st c hc => by
    obtain ⟨hz, hTI, ⟨u, v, hTO⟩, ⟨o1, e1, _, d1⟩, ⟨o2, e2, _, d2⟩⟩ := st
    have e' : c = z ∨ c = TI ∨ c = TO ∨ c = i1 ∨ c = i2 := by simpa using hc
    rcases e' with q | q | q | q | q <;> rw [q]
    · exact ⟨_, hz, fun v q => nomatch q⟩
    · exact ⟨_, hTI, fun v q => nomatch q⟩
    · exact ⟨_, hTO, fun v q => nomatch q⟩
    · exact ⟨o1, e1, fun v q => by rw [d1] at q; cases q⟩
    · exact ⟨o2, e2, fun v q => by rw [d2] at q; cases q⟩
  keep := fun i h h' st k => by
    obtain ⟨hz, hTI, ⟨u, v, hTO⟩, ⟨o1, e1, r1⟩, ⟨o2, e2, r2⟩⟩ := st
    exact ⟨k z (by simp) _ hz, k TI (by simp) _ hTI, ⟨u, v, k TO (by simp) _ hTO⟩, ⟨o1, k i1 (by simp) _ e1, r1⟩, ⟨o2, k i2 (by simp) _ e2, r2⟩⟩
  item := by
    intro X hP hw hK hc i pins s σ H E I hf st hg
    subst hP hw hK
    obtain ⟨hz, hTI, ⟨x0, y0, hTO⟩, h1, h2⟩ := st
    obtain ⟨lx, ly⟩ := hg
    have hx : x.cps[i]? = some x.cps[i] := Array.getElem?_eq_getElem lx
    have hy : y.cps[i]? = some y.cps[i] := Array.getElem?_eq_getElem ly
    have hzl : z < s.heap.objs.size := Heap.lt_size hz
    refine pyNext_zipS_item D hz hTI hTO h1 h2 hx hy fun h' u v t z' TO' h1' h2' hT hk => ?_
    refine ⟨_, rfl, wpAny_letOwnedTupleGo_zip (s := { s with heap := h', toks := t }) z' fun h'' z'' sb => ?_⟩
    have hT2 : h''.get? s.heap.objs.size = some { cls := .type "tuple", data := .seq #[.str ⟨#[x.cps[i]]⟩ u, .str ⟨#[y.cps[i]]⟩ v] } := (sb.2 _ (Nat.ne_of_gt hzl)).trans hT
    have new : ObjOk X.prog X.w (upd H s.heap.objs.size (.tup [.str ⟨#[x.cps[i]]⟩, .str ⟨#[y.cps[i]]⟩])) h'' s.heap.objs.size (.tup [.str ⟨#[x.cps[i]]⟩, .str ⟨#[y.cps[i]]⟩]) :=
      ⟨by show 2 ≤ sizeLine; decide, [.str ⟨#[x.cps[i]]⟩ u, .str ⟨#[y.cps[i]]⟩ v], .cons ⟨_, rfl⟩ (.cons ⟨_, rfl⟩ .nil), ⟨_, hT2, rfl, _, rfl⟩⟩
    have I1 : Inv X pins σ (upd H s.heap.objs.size (.tup [.str ⟨#[x.cps[i]]⟩, .str ⟨#[y.cps[i]]⟩])) { s with heap := h'', toks := t } :=
      I.turnedNew (t' := t) (ch := [z, TI, TO, i1, i2]) (fun c o hb q => (sb.2 c (fun q' => hb (by simp [q']))).trans (hk c o (fun q' => hb (by simp [q'])) (fun q' => hb (by simp [q'])) (fun q' => hb (by simp [q'])) (fun q' => hb (by simp [q'])) q)) hf (Nat.le_refl _) new
    refine ⟨.ref s.heap.objs.size, _, I1, rfl, ⟨_, _, _, rfl, I.hok.fresh (Nat.le_refl _), rfl, hx, hy⟩, ⟨z'', ?_, ⟨_, _, (sb.2 _ D.TOz).trans TO'⟩, ?_, ?_⟩, fun c hcm => ?_⟩
    · exact (sb.2 _ D.TIz).trans (hk _ _ D.TIz D.TITO D.TIi1 D.TIi2 hTI)
    · exact let ⟨o, e, r⟩ := h1'; ⟨o, (sb.2 _ D.i1z).trans e, r⟩
    · exact let ⟨o, e, r⟩ := h2'; ⟨o, (sb.2 _ D.i2z).trans e, r⟩
    · have hlt : c < s.heap.objs.size := by
        have e' : c = z ∨ c = TI ∨ c = TO ∨ c = i1 ∨ c = i2 := by simpa using hcm
        rcases e' with q | q | q | q | q <;> rw [q]
        · exact hzl
        · exact Heap.lt_size hTI
        · exact Heap.lt_size hTO
        · obtain ⟨_, e1, _⟩ := h1; exact Heap.lt_size e1
        · obtain ⟨_, e2, _⟩ := h2; exact Heap.lt_size e2
      rw [upd_ne (Nat.ne_of_lt hlt)]
      exact (hf c hcm).1
  done := by
    intro X hP hw hK hc i pins s σ H E I hf st hg
    subst hP hw hK
    obtain ⟨hz, hTI, ⟨x0, y0, hTO⟩, h1, h2⟩ := st
    have he : x.cps[i]? = none ∨ y.cps[i]? = none := hg.elim (fun q => .inl (Array.getElem?_eq_none q)) fun q => .inr (Array.getElem?_eq_none q)
    exact pyNext_zipS_end (I.ok.hd hc) D hz hTI hTO h1 h2 he fun h' t hk => ⟨rfl, I.turnedL (t' := t) (ch := [z, TI, TO, i1, i2]) (fun c o hb q =>
      hk c o (fun q' => hb (by simp [q'])) (fun q' => hb (by simp [q'])) (fun q' => hb (by simp [q'])) (fun q' => hb (by simp [q'])) q) hf⟩
  self := fun A i s Q E st h => wpAny_pyIter_zip st.1 h
def SmallS (x : Str) : Prop := x.cps.all (· < 128) = true
def iZipS (ta : TA) : TI := fun σ H R => ta σ H fun vs H1 => ∃ x y, vs = [.str x, .str y] ∧ SmallS x ∧ SmallS y ∧ R (ItzS x y) H1
theorem pi_zipS {X : Cx} {e e2 : Expr} {ta : TA} {p pos tpos : Pos} {elts : List Expr} {kk : Nat} (hg : Gl X "zip") (hm : X.mg "zip" = none) (ha : PA X [e, e2] ta)
    (hs : starEach [e, e2] X.env = (false, eval e X.env) :: starEach [e2] X.env := by rfl) (hpl : (backTo pos (starEach [e2] X.env)).any (·.1) = false := by rfl) :
    PI X (.Tuple elts kk tpos) (.Call (.Name "zip" p) [e, e2] [] pos) (iZipS ta) := by
  refine ⟨fun pins s σ H R I h => ?_⟩
  refine Call_ (ld_blt I hg hm PyProof.Rows.boot_zip (PyProof.Rows.callWith_type1 (thn (ha.run pos pins s σ H _ I h) fun us s1 ⟨vs, H1, I1, r1, q1⟩ => ?_) hs hpl))
  obtain ⟨x, y, ex, hx, hy, q⟩ := q1
  subst ex
  cases r1 with
  | cons r rr =>
    cases rr with
    | cons r' rr =>
      cases rr
      obtain ⟨t, rfl⟩ := r
      obtain ⟨t', rfl⟩ := r'
      refine call_zipS hx hy fun h' hz hTI hTO h1 h2 hsz hk => wpAny_pyIter_zip hz ?_
      have I2 : Inv X pins σ H1 { s1 with heap := h' } := I1.kept (t' := s1.toks) hk
      refine ⟨s1.heap.objs.size + 4, [s1.heap.objs.size + 4, s1.heap.objs.size + 2, s1.heap.objs.size + 3, s1.heap.objs.size, s1.heap.objs.size + 1], _, _, H1, rfl, I2, turn_zipS (apartS s1.heap.objs.size), ⟨hz, hTI, ⟨_, _, hTO⟩, h1, h2⟩, fun c hcm => ?_, q⟩
      have e' : c = s1.heap.objs.size + 4 ∨ c = s1.heap.objs.size + 2 ∨ c = s1.heap.objs.size + 3 ∨ c = s1.heap.objs.size ∨ c = s1.heap.objs.size + 1 := by simpa using hcm
      have hle : s1.heap.objs.size ≤ c := by
        rcases e' with q | q | q | q | q <;> rw [q] <;> first | exact Nat.le_add_right _ _ | exact Nat.le_refl _
      exact I1.fpOk hle (I1.hok.fresh hle)
theorem walk_zipS {x y : Str} : L2.Walk (ItzS x y) (min x.length y.length) (fun _ => True) (fun i H v H' => ∃ T c d, v = .ref T ∧ H T = none ∧ H' = upd H T (.tup [.str ⟨#[c]⟩, .str ⟨#[d]⟩]) ∧ x.cps.toList[i]? = some c ∧ y.cps.toList[i]? = some d) := by
  refine ⟨fun i _ hi _ => ?_, fun _ _ => ?_, fun i H v H' hi _ y => ?_⟩
  · show i < x.length ∧ i < y.length
    omega
  · show x.length ≤ _ ∨ y.length ≤ _
    omega
  · obtain ⟨T, c, d, e1, e2, e3, e4, e5⟩ := y
    exact ⟨T, c, d, e1, e2, e3, by simpa using e4, by simpa using e5⟩
namespace M
/-! ## texts of 0 and 1 as numbers -/
def BL (l : List Nat) : Prop := ∀ c ∈ l, c = 48 ∨ c = 49
def bn : List Nat → Nat
  | [] => 0
  | c :: r => (c - 48) * 2 ^ r.length + bn r
theorem BL.tl {c : Nat} {l : List Nat} (h : BL (c :: l)) : BL l := fun d hd => h d (List.mem_cons_of_mem _ hd)
theorem BL.hd {c : Nat} {l : List Nat} (h : BL (c :: l)) : c = 48 ∨ c = 49 := h c (List.mem_cons_self ..)
theorem BL.app {x y : List Nat} (h : BL x) (k : BL y) : BL (x ++ y) := fun d hd => (List.mem_append.mp hd).elim (h d) (k d)
theorem BL.l {x y : List Nat} (h : BL (x ++ y)) : BL x := fun d hd => h d (List.mem_append_left _ hd)
theorem BL.r {x y : List Nat} (h : BL (x ++ y)) : BL y := fun d hd => h d (List.mem_append_right _ hd)
theorem BL.rep (n : Nat) : BL (List.replicate n 48) := fun d hd => .inl (List.eq_of_mem_replicate hd)
theorem bn_app : ∀ x y : List Nat, bn (x ++ y) = bn x * 2 ^ y.length + bn y
  | [], y => by simp [bn]
  | c :: x, y => by
    show (c - 48) * 2 ^ (x ++ y).length + bn (x ++ y) = ((c - 48) * 2 ^ x.length + bn x) * 2 ^ y.length + bn y
    rw [bn_app x y, List.length_append, Nat.pow_add, Nat.add_mul, Nat.mul_assoc, Nat.add_assoc]
theorem bn_rep : ∀ n : Nat, bn (List.replicate n 48) = 0
  | 0 => rfl
  | n + 1 => by
    show (48 - 48) * _ + bn (List.replicate n 48) = 0
    rw [bn_rep n]; simp
theorem bn_lt : ∀ {l : List Nat}, BL l → bn l < 2 ^ l.length
  | [], _ => by simp [bn]
  | c :: l, h => by
    have ih := bn_lt h.tl
    show (c - 48) * 2 ^ l.length + bn l < 2 ^ (l.length + 1)
    rw [Nat.pow_succ]
    rcases h.hd with rfl | rfl <;> simp <;> omega
theorem bn_inj : ∀ {x y : List Nat}, BL x → BL y → x.length = y.length → bn x = bn y → x = y
  | [], [], _, _, _, _ => rfl
  | [], _ :: _, _, _, h, _ => by simp at h
  | _ :: _, [], _, _, h, _ => by simp at h
  | c :: x, d :: y, hx, hy, hl, h => by
    have hl' : x.length = y.length := by simpa using hl
    have h' : (c - 48) * 2 ^ x.length + bn x = (d - 48) * 2 ^ y.length + bn y := h
    have l1 := bn_lt hx.tl
    have l2 := bn_lt hy.tl
    rw [hl'] at h' l1
    rcases hx.hd with rfl | rfl <;> rcases hy.hd with rfl | rfl
    · rw [bn_inj hx.tl hy.tl hl' (by simpa using h')]
    · simp at h'; omega
    · simp at h'; omega
    · rw [bn_inj hx.tl hy.tl hl' (by simpa using h')]
theorem bn_foldl : ∀ (l : List Nat) (a : Nat), l.foldl (fun a c => a * 2 + (c - 48)) a = a * 2 ^ l.length + bn l
  | [], a => by simp [bn]
  | c :: l, a => by
    rw [List.foldl_cons, bn_foldl l]
    show (a * 2 + (c - 48)) * 2 ^ l.length + bn l = a * 2 ^ (l.length + 1) + ((c - 48) * 2 ^ l.length + bn l)
    rw [Nat.pow_succ, Nat.add_mul, Nat.mul_assoc, Nat.mul_comm 2 (2 ^ l.length)]
    omega
/-! ## stretches as intervals -/
def size (w : Nat) (t : List Nat) : Nat := 2 ^ (w - t.length)
def lo (w : Nat) (t : List Nat) : Nat := bn t * size w t
def hi (w : Nat) (t : List Nat) : Nat := lo w t + size w t
theorem size_pos (w : Nat) (t : List Nat) : 0 < size w t := Nat.two_pow_pos _
theorem lo_first (w : Nat) (t : List Nat) : bn (t ++ List.replicate (w - t.length) 48) = lo w t := by
  rw [bn_app, bn_rep, List.length_replicate]; rfl
theorem hi_le {w : Nat} {t : List Nat} (h : BL t) (hl : t.length ≤ w) : hi w t ≤ 2 ^ w := by
  have l := bn_lt h
  have e : 2 ^ w = 2 ^ t.length * size w t := by unfold size; rw [← Nat.pow_add]; congr 1; omega
  unfold hi lo
  have : (bn t + 1) * size w t ≤ 2 ^ t.length * size w t := Nat.mul_le_mul_right _ l
  rw [Nat.add_mul, Nat.one_mul] at this
  omega
theorem pre_iff {w : Nat} {t a : List Nat} (ht : BL t) (ha : BL a) (hl : t.length ≤ w) (hw : a.length = w) : t <+: a ↔ lo w t ≤ bn a ∧ bn a < hi w t := by
  have e : a = a.take t.length ++ a.drop t.length := (List.take_append_drop ..).symm
  have h1 : BL (a.take t.length) := fun c hc => ha c (List.mem_of_mem_take hc)
  have h2 : BL (a.drop t.length) := fun c hc => ha c (List.mem_of_mem_drop hc)
  have l1 : (a.take t.length).length = t.length := by rw [List.length_take]; omega
  have l2 : (a.drop t.length).length = w - t.length := by rw [List.length_drop]; omega
  have b2 := bn_lt h2
  have eb : bn a = bn (a.take t.length) * size w t + bn (a.drop t.length) := by
    have := bn_app (a.take t.length) (a.drop t.length)
    rw [← e, l2] at this
    exact this
  have b2' : bn (a.drop t.length) < size w t := by rw [l2] at b2; exact b2
  rw [List.prefix_iff_eq_take]
  unfold hi lo
  rw [eb]
  have sp := size_pos w t
  constructor
  · intro q
    rw [← q]
    omega
  · rintro ⟨q1, q2⟩
    refine bn_inj ht h1 l1.symm ?_
    have : bn t * size w t < (bn (a.take t.length) + 1) * size w t := by rw [Nat.add_mul, Nat.one_mul]; omega
    have i1 := Nat.lt_of_mul_lt_mul_right this
    have : bn (a.take t.length) * size w t < (bn t + 1) * size w t := by rw [Nat.add_mul, Nat.one_mul]; omega
    have i2 := Nat.lt_of_mul_lt_mul_right this
    omega
theorem lo_cons {w c : Nat} {t : List Nat} : lo (w + 1) (c :: t) = if t.length ≤ w then (c - 48) * 2 ^ w + lo w t else (c - 48) * 2 ^ t.length + bn t := by
  unfold lo size
  show ((c - 48) * 2 ^ t.length + bn t) * 2 ^ (w + 1 - (t.length + 1)) = _
  rw [Nat.add_sub_add_right]
  split
  · rename_i h
    rw [Nat.add_mul, Nat.mul_assoc, ← Nat.pow_add]
    congr 3
    omega
  · rename_i h
    rw [show w - t.length = 0 by omega]
    simp
theorem lex_hi : ∀ {w : Nat} {x y : List Nat}, BL x → BL y → x.length ≤ w → y.length ≤ w → x < y → ¬ x <+: y → hi w x ≤ lo w y
  | w, [], y, _, _, _, _, _, np => absurd (List.nil_prefix) np
  | w, c :: x, [], _, _, _, _, h, _ => by cases h
  | 0, _ :: _, _ :: _, _, _, h, _, _, _ => by simp at h
  | w + 1, c :: x, d :: y, hx, hy, lx, ly, h, np => by
    have lx' : x.length ≤ w := by simpa using lx
    have ly' : y.length ≤ w := by simpa using ly
    have sz : ∀ (e : Nat) (z : List Nat), size (w + 1) (e :: z) = size w z := fun e z => by unfold size; rw [List.length_cons, Nat.add_sub_add_right]
    unfold hi
    rw [sz, lo_cons, if_pos lx', lo_cons, if_pos ly']
    have hh : lo w x + size w x ≤ 2 ^ w := hi_le hx.tl lx'
    rcases hx.hd with rfl | rfl <;> rcases hy.hd with rfl | rfl
    · have := lex_hi (w := w) hx.tl hy.tl lx' ly' (by
        rw [List.cons_lt_cons_iff] at h
        rcases h with h | h
        · omega
        · exact h.2) (fun q => np (List.prefix_cons_inj _ |>.mpr q))
      unfold hi at this
      simpa using this
    · simp; omega
    · rw [List.cons_lt_cons_iff] at h
      omega
    · have := lex_hi (w := w) hx.tl hy.tl lx' ly' (by
        rw [List.cons_lt_cons_iff] at h
        rcases h with h | h
        · omega
        · exact h.2) (fun q => np (List.prefix_cons_inj _ |>.mpr q))
      unfold hi at this
      omega
end M
namespace M
/-! ## longest beginnings -/
/-- the longest of the beginnings of a up to k signs that is among ts -/
def lgN (ts : List (List Nat)) (a : List Nat) : Nat → List Nat
  | 0 => []
  | k + 1 => if a.take (k + 1) ∈ ts then a.take (k + 1) else lgN ts a k
def lg (ts : List (List Nat)) (a : List Nat) : List Nat := lgN ts a a.length
/-- p is the longest one of ts with which a begins -/
structure IsLg (ts : List (List Nat)) (a p : List Nat) : Prop where
  mem : p ∈ ts
  pre : p <+: a
  top : ∀ q ∈ ts, q <+: a → q.length ≤ p.length
theorem IsLg.uniq {ts : List (List Nat)} {a p q : List Nat} (h : IsLg ts a p) (k : IsLg ts a q) : p = q := by
  have e : p.length = q.length := Nat.le_antisymm (k.top p h.mem h.pre) (h.top q k.mem k.pre)
  rw [List.prefix_iff_eq_take.mp h.pre, List.prefix_iff_eq_take.mp k.pre, e]
theorem lgN_is {ts : List (List Nat)} {a : List Nat} (h0 : [] ∈ ts) : ∀ k, k ≤ a.length → (∀ q ∈ ts, q <+: a → q.length ≤ k) → IsLg ts a (lgN ts a k)
  | 0, _, h => ⟨h0, List.nil_prefix, h⟩
  | k + 1, hk, h => by
    unfold lgN
    split
    · rename_i hm
      exact ⟨hm, List.take_prefix _ _, fun q hq hp => by rw [List.length_take]; have := h q hq hp; omega⟩
    · rename_i hm
      refine lgN_is h0 k (by omega) fun q hq hp => ?_
      have l := h q hq hp
      by_cases e : q.length = k + 1
      · refine absurd ?_ hm
        rw [← e, ← List.prefix_iff_eq_take.mp hp]
        exact hq
      · omega
theorem lg_is {ts : List (List Nat)} {a : List Nat} (h0 : [] ∈ ts) : IsLg ts a (lg ts a) := lgN_is h0 a.length (Nat.le_refl _) fun q _ hp => hp.length_le
theorem lg_eq {ts : List (List Nat)} {a p : List Nat} (h0 : [] ∈ ts) (h : IsLg ts a p) : lg ts a = p := (lg_is h0).uniq h
theorem lgN_step {ts : List (List Nat)} {a : List Nat} {k : Nat} (hk : k + 1 ≤ a.length) (h : a.take (k + 1) ∉ ts) : lgN ts a (k + 1) = lgN ts a k := by
  rw [lgN, if_neg h]
/-- whose cell a stretch lies in, itself left out -/
def par (ts : List (List Nat)) (t : List Nat) : List Nat := lg ts t.dropLast
/-- the widest stretches inside one -/
def ch (ts : List (List Nat)) (s : List Nat) : List (List Nat) := ts.filter fun t => decide (t ≠ [] ∧ par ts t = s)
theorem mem_ch {ts : List (List Nat)} {s t : List Nat} : t ∈ ch ts s ↔ t ∈ ts ∧ t ≠ [] ∧ par ts t = s := by
  unfold ch
  rw [List.mem_filter, decide_eq_true_eq]
theorem pre_dropLast {q t : List Nat} : q <+: t.dropLast ↔ q <+: t ∧ q.length ≤ t.length - 1 := by
  constructor
  · intro h
    exact ⟨h.trans (List.dropLast_prefix t), by have := h.length_le; rwa [List.length_dropLast] at this⟩
  · rintro ⟨h, l⟩
    rw [List.prefix_iff_eq_take] at h ⊢
    rw [List.dropLast_eq_take, List.take_take, Nat.min_eq_left l]
    exact h
theorem ch_iff {ts : List (List Nat)} {s t : List Nat} (h0 : [] ∈ ts) : t ∈ ch ts s ↔ t ∈ ts ∧ t ≠ [] ∧ s ∈ ts ∧ s <+: t ∧ s.length < t.length ∧ ∀ q ∈ ts, q <+: t → q.length < t.length → q.length ≤ s.length := by
  rw [mem_ch]
  constructor
  · rintro ⟨h1, h2, h3⟩
    have h4 : IsLg ts t.dropLast s := h3 ▸ lg_is h0
    have p := pre_dropLast.mp h4.pre
    have lp : 0 < t.length := List.length_pos_iff.mpr h2
    exact ⟨h1, h2, h4.mem, p.1, by omega, fun q hq hp hl => h4.top q hq (pre_dropLast.mpr ⟨hp, by omega⟩)⟩
  · rintro ⟨h1, h2, h3, h4, h5, h6⟩
    exact ⟨h1, h2, lg_eq h0 ⟨h3, pre_dropLast.mpr ⟨h4, by omega⟩, fun q hq hp => h6 q hq (pre_dropLast.mp hp).1 (by have := (pre_dropLast.mp hp).2; have : 0 < t.length := List.length_pos_iff.mpr h2; omega)⟩⟩
/-- a least one of a list -/
theorem least {α : Type} (f : α → Nat) (P : α → Prop) : ∀ (n : Nat) (x : α), P x → f x ≤ n → ∃ y, P y ∧ ∀ z, P z → f y ≤ f z
  | 0, x, h, l => ⟨x, h, fun z _ => by omega⟩
  | n + 1, x, h, l => by
    by_cases e : ∃ z, P z ∧ f z < f x
    · obtain ⟨z, hz, hl⟩ := e
      exact least f P n z hz (by omega)
    · exact ⟨x, h, fun z hz => by
        by_cases q : f x ≤ f z
        · exact q
        · exact absurd ⟨z, hz, by omega⟩ e⟩
theorem pre_both {p q a : List Nat} (h : p <+: a) (k : q <+: a) (l : p.length ≤ q.length) : p <+: q := List.prefix_of_prefix_length_le h k l
/-- the cell of s: its addresses but for those of the widest ones inside -/
theorem cell_iff {ts : List (List Nat)} {s a : List Nat} (h0 : [] ∈ ts) (hs : s ∈ ts) : lg ts a = s ↔ s <+: a ∧ ∀ c ∈ ch ts s, ¬ c <+: a := by
  constructor
  · intro e
    have h : IsLg ts a s := e ▸ lg_is h0
    refine ⟨h.pre, fun c hc hp => ?_⟩
    have hc' := (ch_iff h0).mp hc
    have := h.top c hc'.1 hp
    omega
  · rintro ⟨hp, hn⟩
    refine lg_eq h0 ⟨hs, hp, fun q hq hqa => ?_⟩
    refine Decidable.byContradiction fun hl => ?_
    obtain ⟨c, ⟨hc1, hc2, hc3⟩, hc4⟩ := least List.length (fun c => c ∈ ts ∧ c <+: a ∧ s.length < c.length) q.length q ⟨hq, hqa, by omega⟩ (Nat.le_refl _)
    refine hn c ((ch_iff h0).mpr ⟨hc1, ?_, hs, pre_both hp hc2 (by omega), hc3, fun r hr hrc hrl => ?_⟩) hc2
    · rintro rfl
      simp at hc3
    · refine Decidable.byContradiction fun hl2 => ?_
      have := hc4 r ⟨hr, hrc.trans hc2, by omega⟩
      omega
/-- two of them have no address in common -/
theorem ch_apart {ts : List (List Nat)} {s c d : List Nat} (h0 : [] ∈ ts) (hc : c ∈ ch ts s) (hd : d ∈ ch ts s) (h : c <+: d) : c = d := by
  have hc' := (ch_iff h0).mp hc
  have hd' := (ch_iff h0).mp hd
  by_cases e : c.length < d.length
  · have := hd'.2.2.2.2.2 c hc'.1 h e
    omega
  · exact h.eq_of_length (by have := h.length_le; omega)
/-! ## counting -/
def inI (w : Nat) (t : List Nat) (v : Nat) : Bool := decide (lo w t ≤ v) && decide (v < hi w t)
theorem cnt_and {α : Type} (p q : α → Bool) : ∀ l : List α, l.countP p = l.countP (fun x => p x && q x) + l.countP (fun x => p x && !q x)
  | [] => rfl
  | x :: l => by
    rw [List.countP_cons, List.countP_cons, List.countP_cons, cnt_and p q l]
    cases p x <;> cases q x <;> simp <;> omega
theorem cnt_sum {α : Type} (l : List α) : ∀ (cs : List (α → Bool)) (p : α → Bool), cs.Pairwise (fun c d => ∀ x, c x = true → d x = false) → (∀ c ∈ cs, ∀ x, c x = true → p x = true) →
    l.countP p = l.countP (fun x => p x && cs.all fun c => !c x) + (cs.map fun c => l.countP c).sum
  | [], p, _, _ => by simp
  | c :: cs, p, h, k => by
    have hc := List.pairwise_cons.mp h
    have ih := cnt_sum l cs (fun x => p x && !c x) hc.2 fun d hd x hx => by
      rw [k d (List.mem_cons_of_mem _ hd) x hx, Bool.true_and]
      cases e : c x with
      | false => rfl
      | true => rw [hc.1 d hd x e] at hx; cases hx
    have e1 : l.countP (fun x => p x && c x) = l.countP c := by
      congr 1
      funext x
      cases e : c x with
      | false => rw [Bool.and_false]
      | true => rw [k c (List.mem_cons_self ..) x e]; rfl
    rw [cnt_and p c l, e1, ih, List.map_cons, List.sum_cons]
    have e2 : (fun x => p x && (c :: cs).all fun c => !c x) = fun x => (p x && !c x) && cs.all fun c => !c x := by
      funext x
      rw [List.all_cons, Bool.and_assoc]
    rw [e2]
    omega
theorem cnt_range : ∀ (n a b : Nat), a ≤ b → b ≤ n → (List.range n).countP (fun v => decide (a ≤ v) && decide (v < b)) = b - a
  | 0, a, b, h1, h2 => by simp; omega
  | n + 1, a, b, h1, h2 => by
    rw [List.range_succ, List.countP_append]
    by_cases e : b ≤ n
    · rw [cnt_range n a b h1 e]
      simp [show ¬ n < b by omega]
    · have eb : b = n + 1 := by omega
      subst eb
      by_cases ea : a ≤ n
      · have ih := cnt_range n a n ea (Nat.le_refl _)
        have e2 : (List.range n).countP (fun v => decide (a ≤ v) && decide (v < n + 1)) = (List.range n).countP (fun v => decide (a ≤ v) && decide (v < n)) := by
          refine List.countP_congr fun v hv => ?_
          have := List.mem_range.mp hv
          simp; omega
        rw [e2, ih]
        simp [ea]
        omega
      · have e2 : (List.range n).countP (fun v => decide (a ≤ v) && decide (v < n + 1)) = 0 := by
          rw [List.countP_eq_zero]
          intro v hv
          have := List.mem_range.mp hv
          simp; omega
        rw [e2]
        simp [ea]
        omega
theorem cnt_inI {w : Nat} {t : List Nat} (h : BL t) (l : t.length ≤ w) : (List.range (2 ^ w)).countP (inI w t) = size w t := by
  show (List.range (2 ^ w)).countP (fun v => decide (lo w t ≤ v) && decide (v < hi w t)) = _
  rw [cnt_range _ _ _ (by unfold hi; omega) (hi_le h l)]
  unfold hi; omega
/-! ## the first place that no part holds -/
def scan (w : Nat) : Nat → List (List Nat) → Nat
  | place, [] => place
  | place, c :: r => if lo w c = place then scan w (place + size w c) r else place
theorem scan_ok (w : Nat) : ∀ (cs : List (List Nat)) (place : Nat), cs.Pairwise (fun c d => hi w c ≤ lo w d) → (∀ c ∈ cs, place ≤ lo w c) →
    place ≤ scan w place cs ∧ (∀ v, place ≤ v → v < scan w place cs → ∃ c ∈ cs, inI w c v = true) ∧ ∀ c ∈ cs, inI w c (scan w place cs) = false
  | [], place, _, _ => ⟨Nat.le_refl _, fun v h1 h2 => by simp [scan] at h2; omega, fun c hc => by cases hc⟩
  | c :: cs, place, h, k => by
    have hc := List.pairwise_cons.mp h
    have sp := size_pos w c
    unfold scan
    split
    · rename_i e
      have ih := scan_ok w cs (place + size w c) hc.2 fun d hd => by
        have := hc.1 d hd
        unfold hi at this
        omega
      refine ⟨by omega, fun v h1 h2 => ?_, fun d hd => ?_⟩
      · by_cases q : v < place + size w c
        · refine ⟨c, List.mem_cons_self .., ?_⟩
          unfold inI hi
          rw [Bool.and_eq_true, decide_eq_true_eq, decide_eq_true_eq]
          omega
        · obtain ⟨d, hd, e2⟩ := ih.2.1 v (by omega) h2
          exact ⟨d, List.mem_cons_of_mem _ hd, e2⟩
      · rcases List.mem_cons.mp hd with rfl | hd
        · unfold inI hi
          rw [Bool.and_eq_false_iff, decide_eq_false_iff_not, decide_eq_false_iff_not]
          omega
        · exact ih.2.2 d hd
    · rename_i e
      have kc := k c (List.mem_cons_self ..)
      refine ⟨Nat.le_refl _, fun v h1 h2 => by omega, fun d hd => ?_⟩
      unfold inI
      rw [Bool.and_eq_false_iff, decide_eq_false_iff_not, decide_eq_false_iff_not]
      rcases List.mem_cons.mp hd with rfl | hd
      · omega
      · have := hc.1 d hd
        unfold hi at this
        omega
end M
namespace M
/-- all addresses -/
def addrs : Nat → List (List Nat)
  | 0 => [[]]
  | n + 1 => (addrs n).flatMap fun r => [r ++ [48], r ++ [49]]
theorem addr_ok : ∀ {w : Nat} {a : List Nat}, a ∈ addrs w → BL a ∧ a.length = w
  | 0, a, h => by
    obtain rfl := List.mem_singleton.mp h
    exact ⟨(fun c hc => by cases hc), rfl⟩
  | w + 1, a, h => by
    obtain ⟨r, hr, h⟩ := List.mem_flatMap.mp h
    have ih := addr_ok hr
    have : a = r ++ [48] ∨ a = r ++ [49] := by simpa using h
    rcases this with rfl | rfl
    · exact ⟨ih.1.app fun c hc => .inl (List.mem_singleton.mp hc), by rw [List.length_append, ih.2]; rfl⟩
    · exact ⟨ih.1.app fun c hc => .inr (List.mem_singleton.mp hc), by rw [List.length_append, ih.2]; rfl⟩
theorem range_two : ∀ n : Nat, (List.range n).flatMap (fun v => [2 * v, 2 * v + 1]) = List.range (2 * n)
  | 0 => rfl
  | n + 1 => by
    rw [List.range_succ, List.flatMap_append, range_two n, show 2 * (n + 1) = 2 * n + 1 + 1 by omega, List.range_succ, List.range_succ, List.append_assoc]
    rfl
theorem addrs_bn : ∀ w : Nat, (addrs w).map bn = List.range (2 ^ w)
  | 0 => rfl
  | w + 1 => by
    show ((addrs w).flatMap fun r => [r ++ [48], r ++ [49]]).map bn = _
    rw [Nat.pow_succ, Nat.mul_comm, ← range_two, ← addrs_bn w, List.map_flatMap, List.flatMap_map]
    congr 1
    funext r
    have e0 : bn (r ++ [48]) = 2 * bn r := by rw [bn_app]; simp [bn]; omega
    have e1 : bn (r ++ [49]) = 2 * bn r + 1 := by rw [bn_app]; simp [bn]; omega
    show [bn (r ++ [48]), bn (r ++ [49])] = _
    rw [e0, e1]
theorem addrs_len (w : Nat) : (addrs w).length = 2 ^ w := by
  have := congrArg List.length (addrs_bn w)
  simpa using this
theorem addrs_lt (w : Nat) : (addrs w).Pairwise fun a b => bn a < bn b := by
  have h : ((addrs w).map bn).Pairwise (· < ·) := by rw [addrs_bn]; exact List.pairwise_lt_range
  rwa [List.pairwise_map] at h
theorem addr_of {w : Nat} {a : List Nat} (h : BL a) (l : a.length = w) : a ∈ addrs w := by
  have hl : bn a < 2 ^ w := l ▸ bn_lt h
  have : bn a ∈ (addrs w).map bn := by rw [addrs_bn]; exact List.mem_range.mpr hl
  obtain ⟨b, hb, e⟩ := List.mem_map.mp this
  have hb' := addr_ok hb
  rw [← bn_inj hb'.1 h (hb'.2.trans l.symm) e]
  exact hb
theorem find_least {w : Nat} {p : List Nat → Bool} {a : List Nat} (ha : a ∈ addrs w) (hp : p a = true) (hl : ∀ b ∈ addrs w, p b = true → bn a ≤ bn b) : (addrs w).find? p = some a := by
  cases e : (addrs w).find? p with
  | none => exact absurd hp (List.find?_eq_none.mp e a ha)
  | some b =>
    obtain ⟨pb, as, bs, e2, e3⟩ := List.find?_eq_some_iff_append.mp e
    have hb : b ∈ addrs w := by rw [e2]; simp
    have l1 := hl b hb pb
    have ha' := ha
    rw [e2] at ha'
    rcases List.mem_append.mp ha' with q | q
    · have := e3 a q
      rw [hp] at this
      cases this
    · rcases List.mem_cons.mp q with rfl | q
      · rfl
      · have s := addrs_lt w
        rw [e2] at s
        have := (List.pairwise_cons.mp (List.pairwise_append.mp s).2.1).1 a q
        omega
/-- the stretches of some cells, in their order -/
structure Known (w : Nat) (ts : List (List Nat)) : Prop where
  all : [] ∈ ts
  bits : ∀ t ∈ ts, BL t
  fit : ∀ t ∈ ts, t.length ≤ w
  ord : ts.Pairwise (· < ·)
def many (w : Nat) (ts : List (List Nat)) (s : List Nat) : Nat := size w s - ((ch ts s).map (size w)).sum
def place (w : Nat) (ts : List (List Nat)) (s : List Nat) : Nat := scan w (lo w s) (ch ts s)
theorem lo_le_of_pre {w : Nat} {s t : List Nat} (hs : BL s) (ht : BL t) (ls : s.length ≤ w) (lt : t.length ≤ w) (h : s <+: t) : lo w s ≤ lo w t ∧ hi w t ≤ hi w s := by
  have hf : BL (t ++ List.replicate (w - t.length) 48) := ht.app (BL.rep _)
  have lf : (t ++ List.replicate (w - t.length) 48).length = w := by rw [List.length_append, List.length_replicate]; omega
  have h1 := (pre_iff hs hf ls lf).mp (h.trans (List.prefix_append _ _))
  rw [lo_first] at h1
  refine ⟨h1.1, ?_⟩
  have hg : BL (t ++ List.replicate (w - t.length) 49) := ht.app fun d hd => .inr (List.eq_of_mem_replicate hd)
  have lg' : (t ++ List.replicate (w - t.length) 49).length = w := by rw [List.length_append, List.length_replicate]; omega
  have h2 := (pre_iff hs hg ls lg').mp (h.trans (List.prefix_append _ _))
  have e : bn (t ++ List.replicate (w - t.length) 49) + 1 = hi w t := by
    rw [bn_app, List.length_replicate]
    have : ∀ n, bn (List.replicate n 49) + 1 = 2 ^ n := by
      intro n
      induction n with
      | zero => rfl
      | succ n ih =>
        show (49 - 48) * 2 ^ (List.replicate n 49).length + bn (List.replicate n 49) + 1 = _
        rw [List.length_replicate, Nat.pow_succ]
        omega
    unfold hi lo size
    rw [Nat.add_assoc, this]
  omega
theorem ch_ord {w : Nat} {ts : List (List Nat)} {s : List Nat} (k : Known w ts) : (ch ts s).Pairwise fun c d => hi w c ≤ lo w d := by
  have h : (ch ts s).Pairwise (· < ·) := k.ord.sublist List.filter_sublist
  refine h.imp_of_mem fun {c d} hc hd l => ?_
  have hc' := mem_ch.mp hc
  have hd' := mem_ch.mp hd
  refine lex_hi (k.bits _ hc'.1) (k.bits _ hd'.1) (k.fit _ hc'.1) (k.fit _ hd'.1) l fun p => ?_
  have := ch_apart k.all hc hd p
  subst this
  exact absurd l (List.lt_irrefl _)
theorem cell_in {w : Nat} {ts : List (List Nat)} {s a : List Nat} (k : Known w ts) (hs : s ∈ ts) (ha : BL a) (la : a.length = w) :
    decide (lg ts a = s) = (inI w s (bn a) && (ch ts s).all fun c => !inI w c (bn a)) := by
  have key := cell_iff (a := a) k.all hs
  have one : ∀ t ∈ ts, (t <+: a ↔ inI w t (bn a) = true) := fun t ht => by
    rw [pre_iff (k.bits t ht) ha (k.fit t ht) la]
    unfold inI
    rw [Bool.and_eq_true, decide_eq_true_eq, decide_eq_true_eq]
  rw [Bool.eq_iff_iff, decide_eq_true_eq, key, Bool.and_eq_true, one s hs, List.all_eq_true]
  refine and_congr_right fun _ => ⟨fun h c hc => ?_, fun h c hc q => ?_⟩
  · have := h c hc
    rw [one c (mem_ch.mp hc).1] at this
    simpa using this
  · have := h c hc
    rw [(one c (mem_ch.mp hc).1).mp q] at this
    cases this
theorem cnt_addrs (w : Nat) (p : Nat → Bool) : (addrs w).countP (fun a => p (bn a)) = (List.range (2 ^ w)).countP p := by
  rw [← addrs_bn, List.countP_map]
  rfl
theorem cnt_cell {w : Nat} {ts : List (List Nat)} {s : List Nat} (k : Known w ts) (hs : s ∈ ts) :
    (addrs w).countP (fun a => decide (lg ts a = s)) + ((ch ts s).map (size w)).sum = size w s := by
  have e : (addrs w).countP (fun a => decide (lg ts a = s)) = (addrs w).countP (fun a => (fun v => inI w s v && (ch ts s).all fun c => !inI w c v) (bn a)) := by
    refine List.countP_congr fun a ha => ?_
    have := addr_ok ha
    rw [cell_in k hs this.1 this.2]
  rw [e, cnt_addrs w fun v => inI w s v && (ch ts s).all fun c => !inI w c v]
  have c := cnt_sum (List.range (2 ^ w)) ((ch ts s).map (inI w)) (inI w s) (by
    rw [List.pairwise_map]
    refine (ch_ord k).imp fun {c d} l x hx => ?_
    unfold inI at hx ⊢
    rw [Bool.and_eq_true, decide_eq_true_eq, decide_eq_true_eq] at hx
    rw [Bool.and_eq_false_iff, decide_eq_false_iff_not]
    left
    omega) (fun q hq x hx => by
    obtain ⟨c, hc, rfl⟩ := List.mem_map.mp hq
    have hc' := (ch_iff k.all).mp hc
    have := lo_le_of_pre (k.bits s hs) (k.bits c hc'.1) (k.fit s hs) (k.fit c hc'.1) hc'.2.2.2.1
    unfold inI at hx ⊢
    rw [Bool.and_eq_true, decide_eq_true_eq, decide_eq_true_eq] at hx ⊢
    omega)
  rw [cnt_inI (k.bits s hs) (k.fit s hs), List.map_map] at c
  have e2 : (ch ts s).map ((fun c => (List.range (2 ^ w)).countP c) ∘ inI w) = (ch ts s).map (size w) := by
    refine List.map_congr_left fun c hc => ?_
    have hc' := mem_ch.mp hc
    exact cnt_inI (k.bits c hc'.1) (k.fit c hc'.1)
  rw [e2] at c
  rw [c]
  congr 1
  refine List.countP_congr fun v _ => ?_
  rw [List.all_map]
  rfl
theorem cnt_many {w : Nat} {ts : List (List Nat)} {s : List Nat} (k : Known w ts) (hs : s ∈ ts) : (addrs w).countP (fun a => decide (lg ts a = s)) = many w ts s ∧ ((ch ts s).map (size w)).sum ≤ size w s := by
  have := cnt_cell k hs
  unfold many
  omega
theorem find_cell {w : Nat} {ts : List (List Nat)} {s : List Nat} (k : Known w ts) (hs : s ∈ ts) :
    (many w ts s = 0 → (addrs w).find? (fun a => decide (lg ts a = s)) = none) ∧
    (many w ts s ≠ 0 → place w ts s < 2 ^ w ∧ ∀ a, BL a → a.length = w → bn a = place w ts s → (addrs w).find? (fun a => decide (lg ts a = s)) = some a) := by
  have hc := (cnt_many k hs).1
  constructor
  · intro h
    rw [h, List.countP_eq_zero] at hc
    exact List.find?_eq_none.mpr hc
  · intro h
    have sc := scan_ok w (ch ts s) (lo w s) (ch_ord k) fun c hc => by
      have hc' := (ch_iff k.all).mp hc
      exact (lo_le_of_pre (k.bits s hs) (k.bits c hc'.1) (k.fit s hs) (k.fit c hc'.1) hc'.2.2.2.1).1
    have low : ∀ b, BL b → b.length = w → decide (lg ts b = s) = true → place w ts s ≤ bn b ∧ bn b < hi w s := by
      intro b hb lb e
      rw [cell_in k hs hb lb, Bool.and_eq_true, List.all_eq_true] at e
      have e1 := e.1
      unfold inI at e1
      rw [Bool.and_eq_true, decide_eq_true_eq, decide_eq_true_eq] at e1
      refine ⟨?_, e1.2⟩
      refine Decidable.byContradiction fun q => ?_
      obtain ⟨c, hc1, hc2⟩ := sc.2.1 (bn b) e1.1 (by unfold place at q; omega)
      have := e.2 c hc1
      rw [hc2] at this
      cases this
    have pos : 0 < (addrs w).countP (fun a => decide (lg ts a = s)) := by rw [hc]; omega
    obtain ⟨b, hb1, hb2⟩ := List.countP_pos_iff.mp pos
    have hb := addr_ok hb1
    have lb := low b hb.1 hb.2 hb2
    have hh := hi_le (k.bits s hs) (k.fit s hs)
    refine ⟨by omega, fun a ha la ea => find_least (addr_of ha la) ?_ fun c hc1 hc2 => ?_⟩
    · rw [cell_in k hs ha la, ea, Bool.and_eq_true, List.all_eq_true]
      refine ⟨?_, fun c hc => ?_⟩
      · unfold inI
        rw [Bool.and_eq_true, decide_eq_true_eq, decide_eq_true_eq]
        have := sc.1
        exact ⟨this, by omega⟩
      · have := sc.2.2 c hc
        unfold place
        rw [this]; rfl
    · have := addr_ok hc1
      rw [ea]
      exact (low c this.1 this.2 hc2).1
theorem sum_many {w : Nat} {ts : List (List Nat)} (k : Known w ts) : (ts.map (many w ts)).sum = 2 ^ w := by
  have e : ts.map (many w ts) = ts.map fun s => (addrs w).countP (fun a => decide (lg ts a = s)) := List.map_congr_left fun s hs => (cnt_many k hs).1.symm
  rw [e]
  have nd : ts.Nodup := k.ord.imp fun {a b} l => by rintro rfl; exact List.lt_irrefl _ l
  have : ∀ l : List (List Nat), (ts.map fun s => l.countP (fun a => decide (lg ts a = s))).sum = l.length := by
    intro l
    induction l with
    | nil =>
      have : ∀ us : List (List Nat), (us.map fun s => List.countP (fun a => decide (lg ts a = s)) []).sum = 0 := by
        intro us
        induction us with
        | nil => rfl
        | cons u us ih => rw [List.map_cons, List.sum_cons, ih]; rfl
      exact this ts
    | cons a l ih =>
      have hm := (lg_is (a := a) k.all).mem
      have : ∀ us : List (List Nat), us.Nodup → (us.map fun s => (a :: l).countP (fun a => decide (lg ts a = s))).sum = (us.map fun s => l.countP (fun a => decide (lg ts a = s))).sum + if lg ts a ∈ us then 1 else 0 := by
        intro us
        induction us with
        | nil => intro _; rfl
        | cons u us ih2 =>
          intro hn
          have hn' := List.nodup_cons.mp hn
          rw [List.map_cons, List.sum_cons, ih2 hn'.2, List.map_cons, List.sum_cons, List.countP_cons]
          by_cases e : lg ts a = u
          · subst e
            simp [hn'.1]
            omega
          · simp [e]
            omega
      rw [this ts nd, ih, if_pos hm]
      rfl
  rw [this, addrs_len]
end M
namespace M
/-! ## numbers as texts of 0 and 1 -/
theorem dig2 : ∀ (fuel n : Nat) (ds : List Char), n < fuel → ∃ l : List Char, Nat.toDigitsCore 2 fuel n ds = l ++ ds ∧ BL (l.map Char.toNat) ∧ bn (l.map Char.toNat) = n ∧ ∀ w, 1 ≤ w → n < 2 ^ w → l.length ≤ w
  | 0, n, ds, h => absurd h (Nat.not_lt_zero _)
  | fuel + 1, n, ds, h => by
    have e2 : (Nat.digitChar (n % 2)).toNat = 48 + n % 2 := by
      rcases Nat.mod_two_eq_zero_or_one n with q | q <;> rw [q] <;> rfl
    have hb : BL [(Nat.digitChar (n % 2)).toNat] := fun c hc => by
      rw [List.mem_singleton.mp hc, e2]
      omega
    unfold Nat.toDigitsCore
    by_cases c : n / 2 = 0
    · refine ⟨[Nat.digitChar (n % 2)], ?_, hb, ?_, fun w hw _ => hw⟩
      · simp [c]
      · show ((Nat.digitChar (n % 2)).toNat - 48) * 2 ^ 0 + 0 = n
        rw [e2]
        omega
    · obtain ⟨l, h1, h2, h3, h4⟩ := dig2 fuel (n / 2) (Nat.digitChar (n % 2) :: ds) (by omega)
      refine ⟨l ++ [Nat.digitChar (n % 2)], ?_, ?_, ?_, fun w hw hn => ?_⟩
      · simp only [c, if_false]
        rw [h1, List.append_assoc]
        rfl
      · rw [List.map_append]
        exact h2.app hb
      · rw [List.map_append, bn_app, h3]
        show n / 2 * 2 ^ 1 + (((Nat.digitChar (n % 2)).toNat - 48) * 2 ^ 0 + 0) = n
        rw [e2]
        omega
      · rw [List.length_append]
        show l.length + 1 ≤ w
        match w, hw with
        | 1, _ =>
          exfalso
          apply c
          have : n < 2 := by simpa using hn
          omega
        | w + 2, _ =>
          have := h4 (w + 1) (by omega) (by rw [Nat.pow_succ] at hn; omega)
          omega
def dg (n : Nat) : List Nat := (Nat.toDigits 2 n).map Char.toNat
theorem dg_ok (n : Nat) : BL (dg n) ∧ bn (dg n) = n ∧ ∀ w, 1 ≤ w → n < 2 ^ w → (dg n).length ≤ w := by
  obtain ⟨l, h1, h2, h3, h4⟩ := dig2 (n + 1) n [] (Nat.lt_succ_self _)
  have e : Nat.toDigits 2 n = l := by
    unfold Nat.toDigits
    rw [h1, List.append_nil]
  unfold dg
  rw [e]
  exact ⟨h2, h3, fun w a b => by rw [List.length_map]; exact h4 w a b⟩
/-- the address at a place -/
def adr (w v : Nat) : List Nat := List.replicate (w - (dg v).length) 48 ++ dg v
theorem adr_ok {w v : Nat} (hw : 1 ≤ w) (hv : v < 2 ^ w) : BL (adr w v) ∧ (adr w v).length = w ∧ bn (adr w v) = v := by
  have h := dg_ok v
  have l := h.2.2 w hw hv
  unfold adr
  refine ⟨(BL.rep _).app h.1, ?_, ?_⟩
  · rw [List.length_append, List.length_replicate]; omega
  · rw [bn_app, bn_rep, h.2.1]; omega
/-- what a cell tells -/
def cellA (w : Nat) (ts : List (List Nat)) (s : List Nat) : Option (List Nat) := if many w ts s = 0 then none else some (adr w (place w ts s))
theorem find_is {w : Nat} {ts : List (List Nat)} {s : List Nat} (hw : 1 ≤ w) (k : Known w ts) (hs : s ∈ ts) : (addrs w).find? (fun a => decide (lg ts a = s)) = cellA w ts s := by
  unfold cellA
  have f := find_cell k hs
  by_cases c : many w ts s = 0
  · rw [if_pos c, f.1 c]
  · rw [if_neg c]
    obtain ⟨h1, h2⟩ := f.2 c
    have a := adr_ok hw h1
    exact h2 _ a.1 a.2.1 a.2.2
end M
open PySem PySem.Spec PyProof.Rows L2
/-! ## dicts of flat values compared, equal or not -/
def allEq (ks ls : List (Key × V)) : Bool := ks.all fun p => match valV ls p.1 with
  | some v => eqV p.2 v
  | none => false
theorem hits_any {A : Around} {s : Shared} {ls : List (Key × V)} {vb : List (Key × Value)} (rb : KV ls vb) (fl : ∀ p ∈ ls, flatV p.2 = true) {ks : List (Key × V)} {va : List (Key × Value)} (ra : KV ks va) :
    (∀ p ∈ ks, flatV p.2 = true) → PySem.W.KeqHits A s vb va (allEq ks ls) := by
  unfold KV at ra
  induction ra with
  | nil => intro _; exact .nil
  | @cons p q ps qs h t ih =>
    intro hp
    obtain ⟨h1, h2⟩ := h
    obtain ⟨k, v⟩ := q
    have h1' : p.1 = k := h1
    have hv := rb.val p.1
    have ih' := ih fun p' hm => hp p' (List.mem_cons_of_mem _ hm)
    have e : allEq (p :: ps) ls = ((match valV ls p.1 with | some v => eqV p.2 v | none => false) && allEq ps ls) := rfl
    rw [e]
    cases hl : valV ls p.1 with
    | none =>
      rw [hl, h1'] at hv
      have hn : valueAt vb k = none := by
        cases hx : valueAt vb k with
        | none => rfl
        | some y => rw [hx] at hv; cases hv
      exact .miss hn
    | some x =>
      have rr : RelO (some x) (valueAt vb p.1) := by rw [← hl]; exact hv
      obtain ⟨y, hy, ry⟩ := rr.some_of
      rw [h1'] at hy
      have fx : flatV x = true := by
        have hm : ∃ p' ∈ ls, p'.2 = x := by
          unfold valV at hl
          cases hf : ls.find? (fun kv => decide (kv.1 = p.1)) with
          | none => rw [hf] at hl; cases hl
          | some p' =>
            rw [hf] at hl
            exact ⟨p', List.mem_of_find?_eq_some hf, Option.some.inj hl⟩
        obtain ⟨p', hp', rfl⟩ := hm
        exact fl p' hp'
      exact .hit hy (eqAt_V h2 ry (hp p List.mem_cons_self) fx) ih'
section
variable {X : Cx}
def rEqDT : R2 := fun x y H Q => ∃ a b ks ls, x = .ref a ∧ y = .ref b ∧ H a = some (.dK ks) ∧ H b = some (.dK ls) ∧ (∀ p ∈ ks, flatV p.2 = true) ∧ (∀ p ∈ ls, flatV p.2 = true) ∧ Q (.bl (ks.length == ls.length && allEq ks ls)) H
theorem op_eq_dictT (hu : X.A.units < cLine) : OpR X (compareOp .Eq) rEqDT := by
  intro pins s σ H x y v u Q I rx ry h
  obtain ⟨a, b, ks, ls, rfl, rfl, ea, eb, fa, fb, q⟩ := h
  obtain rfl : v = Value.ref a := rx
  obtain rfl : u = Value.ref b := ry
  obtain ⟨_, ya, va, ra, da⟩ := (show ObjOk X.prog X.w H s.heap a (.dK ks) from I.hok a _ ea)
  obtain ⟨_, yb, vb, rb, db⟩ := (show ObjOk X.prog X.w H s.heap b (.dK ls) from I.hok b _ eb)
  have l1 : ks.length = va.length := ra.length
  have l2 : ls.length = vb.length := rb.length
  exact PySem.W.keq_eq (knd := mixKind X.prog X.w) (r := allEq ks ls) ya yb da db hu (fun _ => hits_any rb fb ra fa) (fin_bl I q (by rw [l1, l2]))
end
open PySem PySem.Spec PySem.Calls PyProof.Rows
open L2 hiding pass0
/-! ## [*d, ..] of a dict -/
section
variable {X : Cx} {pn : List (Addr × Obj)} {σ : L2.St} {H : Hp} {s : Shared}
theorem star_dk {a : Addr} {kvs : List (Key × V)} {E : Value → Shared → Prop} {Q : List Value → Shared → Prop} (hcalm : X.calm = true) (I : Inv X pn σ H s) (h : Rd H a (.dK kvs))
    (hQ : ∀ us s', Inv X pn σ H s' → Vals (kvs.map fun kv => kV kv.1) us → Q us s') : PySem.W.StarOf (model X.prog X.w) X.A E (.ref a) Q s := by
  obtain ⟨z, lo, ws, rel, dd⟩ := dk_rd I.hok h
  obtain ⟨ep, hat⟩ := dd.dictAt
  have hT : s.TypeIs (.ref a) "dict" := by
    obtain ⟨o, _, e1, e2, _⟩ := hat
    exact ⟨o, e1, e2.1⟩
  have ek : (kvs.map fun kv => kV kv.1) = ws.map fun p => kV p.1 := by
    have e := congrArg (List.map kV) rel.keys
    rwa [List.map_map, List.map_map] at e
  unfold PySem.W.StarOf notIterableAtAll
  refine wpAny_bind (wpAny_specialOf hT PySem.F.slot_dict_iter.lookup (wpAny_pure ⟨rfl, ?_⟩))
  refine PySem.W.kdu_collect (PySem.W.kdl_dict (knd := mixKind X.prog X.w) (kvs := ws) (ep := ep) lo) (I.ok.hd hcalm) hat (by rw [← rel.length]; exact z) fun h' tk acc hk hacc => ?_
  refine hQ _ _ (I.kept hk) ?_
  rw [ek]
  exact keys_at (by rw [Array.length_toList]; exact hacc.1) fun j v e => hacc.2 j v (by rw [← Array.getElem?_toList]; exact e)
end
def tStarD (te : TE) (t : TA) : TA := fun σ H Q => te σ H fun x H1 => ∃ a kvs, x = V.ref a ∧ Rd H1 a (.dK kvs) ∧ t σ H1 fun ys H2 => Q ((kvs.map fun kv => kV kv.1) ++ ys) H2
section
variable {X : Cx} {e : Expr} {es : List Expr} {te : TE} {t : TA} {p : Pos}
theorem pa_starD (hcalm : X.calm = true) (he : PE X e te) (hr : PA X es t) (hs : starEach (.Starred e p :: es) X.env = (true, eval e X.env) :: starEach es X.env := by rfl) : PA X (.Starred e p :: es) (tStarD te t) := by
  refine ⟨fun pos pn s σ H Q I h => ?_⟩
  refine PySem.W.items_star (thn (he.run pn s σ H _ I h) fun v s1 ⟨y, H1, I1, ry, a, kvs, ey, hx, q⟩ => ?_) hs
  subst ey
  obtain rfl : v = Value.ref a := ry
  refine star_dk hcalm I1 hx fun us s2 I2 rv => ?_
  exact thn (hr.run pos pn s2 σ H1 _ I2 q) fun ws s3 ⟨vs, H3, I3, r3, q3⟩ => ⟨_, H3, I3, rv.append r3, q3⟩
end
namespace M
/-! ## counting by cells -/
theorem sum_step {α : Type} (a : α) (l : List α) (f : α → List Nat) (p : List Nat → Bool) : ∀ us : List (List Nat), us.Nodup →
    (us.map fun s => if p s = true then (a :: l).countP (fun x => decide (f x = s)) else 0).sum = (us.map fun s => if p s = true then l.countP (fun x => decide (f x = s)) else 0).sum + if f a ∈ us ∧ p (f a) = true then 1 else 0
  | [], _ => by simp
  | u :: us, h => by
    have hn := List.nodup_cons.mp h
    rw [List.map_cons, List.sum_cons, List.map_cons, List.sum_cons, sum_step a l f p us hn.2, List.countP_cons]
    by_cases e : f a = u
    · subst e
      by_cases c : p (f a) = true
      · simp [hn.1, c]
        omega
      · simp [c]
    · have e' : decide (f a = u) = false := decide_eq_false e
      simp [e]
      omega
theorem sum_by {α : Type} (f : α → List Nat) (p : List Nat → Bool) (ts : List (List Nat)) (hn : ts.Nodup) : ∀ l : List α, (∀ x ∈ l, f x ∈ ts) →
    (ts.map fun s => if p s = true then l.countP (fun x => decide (f x = s)) else 0).sum = l.countP fun x => p (f x)
  | [], _ => by
    have : ∀ us : List (List Nat), (us.map fun s => if p s = true then List.countP (fun x : α => decide (f x = s)) [] else 0).sum = 0 := by
      intro us
      induction us with
      | nil => rfl
      | cons u us ih => rw [List.map_cons, List.sum_cons, ih]; simp
    rw [this]
    rfl
  | a :: l, h => by
    rw [sum_step a l f p ts hn, sum_by f p ts hn l fun x hx => h x (List.mem_cons_of_mem _ hx), List.countP_cons]
    simp [h a (List.mem_cons_self ..)]
theorem nd_known {w : Nat} {ts : List (List Nat)} (k : Known w ts) : ts.Nodup := k.ord.imp fun {a b} l => by rintro rfl; exact List.lt_irrefl _ l
theorem cnt_by {w : Nat} {ts : List (List Nat)} (k : Known w ts) (p : List Nat → Bool) : (ts.map fun s => if p s = true then many w ts s else 0).sum = (addrs w).countP fun z => p (lg ts z) := by
  rw [← sum_by (lg ts) p ts (nd_known k) (addrs w) fun z _ => (lg_is k.all).mem]
  congr 1
  refine List.map_congr_left fun s hs => ?_
  rw [(cnt_many k hs).1]
/-! ## fewer stretches -/
theorem lg_lg {us ts : List (List Nat)} (h0u : [] ∈ us) (h0 : [] ∈ ts) (sub : ∀ t ∈ us, t ∈ ts) (a : List Nat) : lg us a = lg us (lg ts a) := by
  have hs := lg_is (a := a) h0
  have hp := lg_is (a := a) h0u
  refine (lg_eq h0u ⟨hp.mem, pre_both hp.pre hs.pre (hs.top _ (sub _ hp.mem) hp.pre), fun q hq hqs => hp.top q hq (hqs.trans hs.pre)⟩).symm
/-- one of them is its beginning -/
def frB (fs : List (List Nat)) (z : List Nat) : Bool := fs.any fun f => decide (f <+: z)
theorem fr_lg {fs ts : List (List Nat)} (h0 : [] ∈ ts) (sub : ∀ t ∈ fs, t ∈ ts) (a : List Nat) : frB fs a = frB fs (lg ts a) := by
  have hs := lg_is (a := a) h0
  unfold frB
  rw [Bool.eq_iff_iff, List.any_eq_true, List.any_eq_true]
  constructor
  · rintro ⟨f, hf, e⟩
    have e' := of_decide_eq_true e
    exact ⟨f, hf, decide_eq_true (pre_both e' hs.pre (hs.top _ (sub f hf) e'))⟩
  · rintro ⟨f, hf, e⟩
    exact ⟨f, hf, decide_eq_true ((of_decide_eq_true e).trans hs.pre)⟩
/-! ## first addresses -/
theorem lt_bn {a b : List Nat} (ha : BL a) (hb : BL b) (l : a.length = b.length) (h : a < b) : bn a < bn b := by
  have e := lex_hi (w := a.length) ha hb (Nat.le_refl _) (by omega) h fun q => by
    rw [q.eq_of_length l] at h
    exact List.lt_irrefl _ h
  unfold hi lo size at e
  rw [l] at e
  simp only [Nat.sub_self, Nat.pow_zero, Nat.mul_one] at e
  omega
theorem find_min {p : List Nat → Bool} : ∀ {l : List (List Nat)} {a : List Nat}, l.Pairwise (fun a b => bn a < bn b) → l.find? p = some a → ∀ z ∈ l, p z = true → bn a ≤ bn z
  | [], a, _, h, _, _, _ => by cases h
  | x :: l, a, hl, h, z, hz, pz => by
    have hx := List.pairwise_cons.mp hl
    cases c : p x with
    | true =>
      rw [List.find?_cons_of_pos (by simpa using c)] at h
      cases h
      rcases List.mem_cons.mp hz with e | hz
      · rw [e]; exact Nat.le_refl _
      · exact Nat.le_of_lt (hx.1 z hz)
    | false =>
      rw [List.find?_cons_of_neg (by simp [c])] at h
      rcases List.mem_cons.mp hz with e | hz
      · rw [e, c] at pz; cases pz
      · exact find_min hx.2 h z hz pz
theorem cell_first {w : Nat} {ts : List (List Nat)} {s : List Nat} (hw : 1 ≤ w) (k : Known w ts) (hs : s ∈ ts) (h : many w ts s ≠ 0) :
    ∃ a, cellA w ts s = some a ∧ a ∈ addrs w ∧ lg ts a = s ∧ ∀ z ∈ addrs w, lg ts z = s → bn a ≤ bn z := by
  have f := find_is hw k hs
  have c : cellA w ts s = some (adr w (place w ts s)) := by unfold cellA; rw [if_neg h]
  rw [c] at f
  exact ⟨_, c, List.mem_of_find?_eq_some f, by simpa using List.find?_some f, fun z hz e => find_min (addrs_lt w) f z hz (decide_eq_true e)⟩
theorem many_pos {w : Nat} {ts : List (List Nat)} {a : List Nat} (k : Known w ts) (ha : a ∈ addrs w) : many w ts (lg ts a) ≠ 0 := by
  have := (cnt_many k (lg_is (a := a) k.all).mem).1
  have pos : 0 < (addrs w).countP (fun z => decide (lg ts z = lg ts a)) := List.countP_pos_iff.mpr ⟨a, ha, decide_eq_true rfl⟩
  omega
theorem head_least {w : Nat} {q : List Nat → Bool} {y : List Nat} (hy : y ∈ addrs w) (hq : q y = true) (hl : ∀ z ∈ addrs w, q z = true → bn y ≤ bn z) : ((addrs w).filter q).head? = some y := by
  rw [List.head?_filter]
  exact find_least hy hq hl
end M
/-! data that is small: shown and compared -/
open PySem PySem.Spec PyProof.Rows L2
/-- of bulk at most N, depth at most D -/
structure Fit (N D : Nat) (d : PyData) : Prop where
  lay : d.canLay0 = true
  sh : d.showable = true
  dp : d.depth ≤ D
  ls : d.leavesShort 13 = true
  bk : d.bulk ≤ N
theorem Fit.mono {N D N' D' : Nat} {d : PyData} (h : Fit N D d) (hN : N ≤ N') (hD : D ≤ D') : Fit N' D' d := ⟨h.lay, h.sh, Nat.le_trans h.dp hD, h.ls, Nat.le_trans h.bk hN⟩
theorem Fit.non {N D : Nat} : Fit N D .none := ⟨rfl, rfl, Nat.zero_le _, rfl, Nat.zero_le _⟩
theorem Fit.bool {N D : Nat} (b : Bool) : Fit N D (.bool b) := ⟨rfl, rfl, Nat.zero_le _, rfl, Nat.zero_le _⟩
theorem Fit.str {N D : Nat} {z : Str} (h : ∀ c ∈ z.cps.toList, c < 128) (l : z.length ≤ N) : Fit N D (.str z) := by
  refine ⟨?_, rfl, Nat.zero_le _, ?_, l⟩
  · show (z.cps.all fun c => decide (c < 0x110000)) = true
    refine Array.all_eq_true_iff_forall_mem.mpr fun c hc => decide_eq_true ?_
    have := h c (by simpa using hc)
    omega
  · show (z.cps.toList.all fun c => decide (c < 16 ^ 8)) = true
    exact List.all_eq_true.mpr fun c hc => decide_eq_true (by have := h c hc; have : (128 : Nat) ≤ 16 ^ 8 := by decide
                                                              omega)
theorem Fit.int {N D : Nat} {i : Int} (h : ((PyData.shown (.int i)).length ≤ 13 ∧ i.natAbs < 2 ^ 1000)) : Fit N D (.int i) := by
  refine ⟨rfl, ?_, Nat.zero_le _, decide_eq_true h.1, Nat.zero_le _⟩
  refine decide_eq_true ?_
  rcases Nat.eq_zero_or_pos i.natAbs with e | e
  · rw [e]; decide
  · have := (Nat.log2_lt (by omega)).mpr h.2
    omega
theorem fit_all {N D : Nat} : ∀ {ds : List PyData}, (∀ d ∈ ds, Fit N D d) → PyData.canLayAll0 ds = true ∧ PyData.showableAll ds = true ∧ PyData.depthAll ds ≤ D ∧ PyData.leavesShortAll 13 ds = true ∧ PyData.bulkAll ds ≤ (N + 1) * ds.length
  | [], _ => ⟨by simp only [PyData.canLayAll0], by simp only [PyData.showableAll], by simp only [PyData.depthAll]; omega, by simp only [PyData.leavesShortAll], by simp only [PyData.bulkAll]; omega⟩
  | d :: ds, h => by
    have h1 := h d (List.mem_cons_self ..)
    obtain ⟨a1, a2, a3, a4, a5⟩ := fit_all (ds := ds) fun x hx => h x (List.mem_cons_of_mem _ hx)
    have b3 := h1.dp
    have b5 := h1.bk
    refine ⟨?_, ?_, ?_, ?_, ?_⟩
    · simp only [PyData.canLayAll0, h1.lay, a1, Bool.and_self]
    · simp only [PyData.showableAll, h1.sh, a2, Bool.and_self]
    · simp only [PyData.depthAll]; omega
    · simp only [PyData.leavesShortAll, h1.ls, a4, Bool.and_self]
    · simp only [PyData.bulkAll, List.length_cons]
      rw [Nat.mul_add]
      omega
theorem Fit.list {N D : Nat} {ds : List PyData} (h : ∀ d ∈ ds, Fit N D d) : Fit ((N + 1) * ds.length) (D + 1) (.list ds) := by
  obtain ⟨a1, a2, a3, a4, a5⟩ := fit_all h
  exact ⟨by simpa only [PyData.canLay0] using a1, by simpa only [PyData.showable] using a2, by simp only [PyData.depth]; omega, by simpa only [PyData.leavesShort] using a4, by simpa only [PyData.bulk] using a5⟩
theorem Fit.tuple {N D : Nat} {ds : List PyData} (h : ∀ d ∈ ds, Fit N D d) : Fit ((N + 1) * ds.length) (D + 1) (.tuple ds) := by
  obtain ⟨a1, a2, a3, a4, a5⟩ := fit_all h
  exact ⟨by simpa only [PyData.canLay0] using a1, by simpa only [PyData.showable] using a2, by simp only [PyData.depth]; omega, by simpa only [PyData.leavesShort] using a4, by simpa only [PyData.bulk] using a5⟩
theorem Fit.rp {K : PySem.W.Frag} {H : Hp} {x : V} {d : PyData} {N D : Nat} (h : Fit N D d) (g : Dp K H x d) (hN : N ≤ 1048576) (hD : D ≤ 50) : Rp K H x d ∧ PyData.showable d = true ∧ PyData.depth d ≤ 50 ∧ d.shown.length ≤ sizeLine :=
  ⟨.dat g (PyData.hasDict_of_canLay d h.lay), h.sh, Nat.le_trans h.dp hD, PyData.shown_fits_bulk (by decide) (by decide) h.ls (Nat.le_trans h.bk (Nat.le_trans hN (by decide)))⟩
theorem Fit.shp {d : PyData} {N D : Nat} (h : Fit N D d) (hD : D ≤ 50) : SeqAt.shaped d = true := by
  show (d.canLay0 && decide (d.depth ≤ 64)) = true
  rw [h.lay, decide_eq_true (by have := h.dp; omega)]
  rfl
theorem Fit.eqv {d : PyData} {N D : Nat} (h : Fit N D d) : PyData.eqv d d = true := SeqAt.eqv_refl d h.lay
open PySem PySem.Spec PyProof.Rows L2
/-! ## != of two of a class that has == alone -/
section
variable {M : Model} {prog : Program} {w : World} {A : Around} {E : Value → Shared → Prop} {s : Shared} {K : PySem.W.Frag} {x C f : Addr} {b : Value} {ox : Obj} {od : Option Obj}
theorem entry_ownNe (X : K.In s.heap) (I : PySem.W.InstAt s.heap x ox C od) (hu : A.units < cLine) (he : PySem.W.findIn K (.ref C) "__eq__" = some (some (.ref f))) (hf : PySem.W.isFn K (.ref f) = true) {Q : Fin → Shared → Prop}
    (h : wpAny (model prog w) A (call (.ref f) [.ref x, b]) (fun v s' => ∃ c, v = .bool c ∧ Q (.done (.ret (.bool (!c)))) s') E s) : wpAny (model prog w) A (Builtin.«object.__ne__» ⟨[.ref x, b], []⟩) Q E s := by
  unfold Builtin.«object.__ne__»
  repeat (first
    | with_reducible refine wpAny_cRoomFor hu ?_
    | (refine wpAny_bind (m := callSpecialIfBound? (.ref x) (Str.ofString "__eq__") [b])
        (PySem.W.ifBound_K X I he hf (wpAny_mono h (fun r s' hr => by
          obtain ⟨c, rfl, hq⟩ := hr
          repeat (first | exact hq | exact wpAny_pure hq | exact wpAny_truthy_bool hq | (refine wpAny_bind (m := truthy (.bool _)) (wpAny_truthy_bool ?_)) | wp_step)) fun _ _ e => e)))
    | wp_step)
theorem ifBound_objNe {args : List Value} {Q : Option Value → Shared → Prop} (X : K.In s.heap) (I : PySem.W.InstAt s.heap x ox C od) (hs : PySem.W.findIn K (.ref C) "__ne__" = some (some (.builtin "object.__ne__")))
    (h : wpAny M A (call (.builtin "object.__ne__") (.ref x :: args)) (fun v => Q (some v)) E s) : wpAny M A (callSpecialIfBound? (.ref x) "__ne__" args) Q E s := by
  simp only [callSpecialIfBound?, bindSpecialIfBound?]
  refine wpAny_holding (wpAny_bind (wpAny_bind (wpAny_bind (I.type.here ((PySem.W.looks_findIn X hs).here ?_)))))
  refine wpAny_bind (wpAny_askSetting (wpAny_ite ?_))
  have fin : wpAny M A (call (.builtin "object.__ne__") ([.ref x] ++ args) >>= fun v => pure (some v)) Q E s := wpAny_bind (wpAny_mono h (fun v s' h' => wpAny_pure h') fun _ _ h' => h')
  split
  · exact wpAny_bind (wpAny_of_eq (F.cmp_object.ne.bind _) (wpAny_pure (by exact fin)))
  · exact wpAny_tryCatch (wpAny_bind (wpAny_of_eq (F.cmp_object.ne.bind _) (wpAny_pure (by exact fin))))
theorem neO {tb : Value} {Q : Value → Shared → Prop} (hu : A.units + 1 < cLine) (X : K.In s.heap) (I : PySem.W.InstAt s.heap x ox C od) (hb : PySem.W.Looks (model prog w) s.heap (typeOf b) tb) (hn : PySem.W.notFirst K C tb = true) (hm : PySem.W.mroIn K C (.type "object") = some true)
    (hs : PySem.W.findIn K (.ref C) "__ne__" = some (some (.builtin "object.__ne__"))) (he : PySem.W.findIn K (.ref C) "__eq__" = some (some (.ref f))) (hf : PySem.W.isFn K (.ref f) = true)
    (h : wpAny (model prog w) A.in1 (call (.ref f) [.ref x, b]) (fun v s' => ∃ c, v = .bool c ∧ Q (.bool (!c)) s') E s) : wpAny (model prog w) A (richCompare .NotEq (.ref x) b) Q E s := by
  have one : wpAny (model prog w) A (tryCompare (.ref x) "__ne__" b) (fun r s' => ∃ v, r = some v ∧ Q v s') E s := by
    unfold tryCompare
    refine wpAny_bind (ifBound_objNe X I hs (wpAny_call (codeAny_call_builtin F.cmp_object.ne.plain F.cmpEntry_ne (PySem.W.check_slot F.cmpKind_ne F.cmpSplit_ne (I.type.andThen (PySem.W.looks_mroIn X hm)) (F.cmpArgs_ne _ _)
      (entry_ownNe X I (by exact hu) he hf (wpAny_mono h (fun v s' hv => ?_) fun _ _ e => e))))))
    obtain ⟨c, rfl, hq⟩ := hv
    first | exact ⟨c, rfl, wpAny_pure ⟨_, rfl, hq⟩⟩ | exact ⟨c, rfl, wpAny_pure (wpAny_pure ⟨_, rfl, hq⟩)⟩ | exact ⟨c, rfl, _, rfl, hq⟩
  unfold richCompare
  simp only [oneThing_ref]
  refine wpAny_holding (wpAny_bind (wpAny_cRoomFor (Nat.lt_of_succ_lt hu) ?_))
  rw [cmpInfo_NotEq]
  dsimp only
  refine wpAny_bind (I.type.here (wpAny_bind (hb.here ?_)))
  split
  · rename_i q
    have e : PySem.W.subIn K tb (.ref C) = some false := by
      rcases Bool.or_eq_true_iff.mp hn with e | e
      · rw [beq_iff_eq.mp e] at q; simp at q
      · exact beq_iff_eq.mp e
    refine wpAny_bind ((PySem.W.looks_subIn X e).here ?_)
    simp only [Bool.false_eq_true, if_false]
    refine wpAny_bind (wpAny_mono one (fun r s' z => ?_) fun _ _ e => e)
    obtain ⟨v, rfl, hq⟩ := z
    exact wpAny_pure hq
  · refine wpAny_bind (wpAny_pure ?_)
    simp only [Bool.false_eq_true, if_false]
    refine wpAny_bind (wpAny_mono one (fun r s' z => ?_) fun _ _ e => e)
    obtain ⟨v, rfl, hq⟩ := z
    exact wpAny_pure hq
end
section
variable {X : Cx} {CX : CXT} {k j : Nat} {C : Addr} {q : Str} {st : Stmt} {ps : List Str} {sp : Sp} {E : XK}
def rNeS (C : Addr) (sp : Sp) (E : XK) : R2 := fun x y H Q => IsI H C x ∧ IsI H C y ∧ sp [x, y] H (fun v H' => ∃ c, v = .bl c ∧ Q (.bl (!c)) H') E
theorem op_neS (c : Mth X.prog X.w X.K X.mg X.base CX k C "__eq__" q st ps sp) (hr : RoomG j X.A) (hk : k + 1 ≤ j) (hx : Passes CX X E) (b : BndMP "__eq__" q st ps) (hs : PySem.W.findIn X.K (.ref C) "__ne__" = some (some (.builtin "object.__ne__"))) (ho : PySem.W.mroIn X.K C (.type "object") = some true) :
    OpR X (compareOp .NotEq) (rNeS C sp E) := by
  intro pins s σ H x y v u Q I rx ry h
  obtain ⟨⟨a, dx, fs, rfl, ea⟩, ⟨a', dx', fs', rfl, ea'⟩, q⟩ := h
  obtain rfl : v = Value.ref a := rx
  obtain rfl : u = Value.ref a' := ry
  obtain ⟨f, fd, F, hm, hfi, G⟩ := c.ex
  obtain ⟨oc, od, kV, doc, pm, an, cdv, ct, osl, rfl, lk, hcd⟩ := F.ex
  obtain ⟨od, J⟩ := ins_at I ea
  obtain ⟨od', J'⟩ := ins_at I ea'
  have hn : PySem.W.notFirst X.K C (.ref C) = true := by
    unfold PySem.W.notFirst
    rw [beq_self_eq_true, Bool.true_or]
  have h1 := G.len _ _ _ _ q
  unfold compareOp
  refine neO hr.u1 I.kIn J J'.type hn ho hs hm.at_ hm.fn (run_in1 G (hr.mono hk) (.of_eq (b kV doc pm cdv ct an [.ref a, .ref a'] h1)) hx I (.cons rfl (.cons rfl .nil) : Vals [.ref a, .ref a'] [.ref a, .ref a']) q fun u s' z => ?_)
  obtain ⟨v, H', I3, rv, c, rfl, q3⟩ := z
  cases rv
  exact ⟨c, rfl, .bl (!c), H', I3, rfl, q3⟩
end
section
variable {X : Cx}
def rNeDT : R2 := fun x y H Q => ∃ a b ks ls, x = .ref a ∧ y = .ref b ∧ H a = some (.dK ks) ∧ H b = some (.dK ls) ∧ (∀ p ∈ ks, flatV p.2 = true) ∧ (∀ p ∈ ls, flatV p.2 = true) ∧ Q (.bl (!(ks.length == ls.length && allEq ks ls))) H
theorem op_ne_dictT (hu : X.A.units < cLine) : OpR X (compareOp .NotEq) rNeDT := by
  intro pins s σ H x y v u Q I rx ry h
  obtain ⟨a, b, ks, ls, rfl, rfl, ea, eb, fa, fb, q⟩ := h
  obtain rfl : v = Value.ref a := rx
  obtain rfl : u = Value.ref b := ry
  obtain ⟨_, ya, va, ra, da⟩ := (show ObjOk X.prog X.w H s.heap a (.dK ks) from I.hok a _ ea)
  obtain ⟨_, yb, vb, rb, db⟩ := (show ObjOk X.prog X.w H s.heap b (.dK ls) from I.hok b _ eb)
  have l1 : ks.length = va.length := ra.length
  have l2 : ls.length = vb.length := rb.length
  exact PySem.W.keq_ne (knd := mixKind X.prog X.w) (r := allEq ks ls) ya yb da db hu (fun _ => hits_any rb fb ra fa) (fin_bl I q (by rw [l1, l2]))
end
open PySem PySem.Spec PySem.Calls PyProof.Rows
open L2 hiding pass0
/-! ## a method of a built-in value within a comprehension -/
section
variable {X : Cx} {K : PySem.W.Frag} {o e : Expr} {es : List Expr} {to : TE} {t : TA} {name : Str} {apos cpos : Pos} {T id : String} {r : V → List V → Hp → VK → Prop}
theorem pe_bmK (eK : X.K = K) (pa : PlainAttrs T) (slot : Slot T name id) (hty : typeOf (.builtin id) = pure (.type "method_descriptor")) (hm : MtR X id r) (ho : PE X o to) (ha : PA X (e :: es) t)
    (hbase : attributeBase o name X.env (eval o X.env) = eval o X.env := by rfl)
    (hfew : ((backTo cpos (starEach (e :: es) X.env)).all (fun x => !x.1) && (backToKw cpos (keywordEach [] X.env)).all (fun x => x.1.isSome)
      && decide ((e :: es).length + ([] : List Keyword).length + (if ([] : List Keyword).isEmpty then 0 else 1) < 30)) = true := by rfl)
    (hline : (apos.endLine == cpos.line) = true := by rfl) (hs : starEach (e :: es) X.env = (false, eval e X.env) :: starEach es X.env := by rfl) (hplain : (backTo cpos (starEach es X.env)).any (·.1) = false := by rfl) :
    PE X (.Call (.Attribute o name apos) (e :: es) [] cpos) (tBM K T r to t) := by
  subst eK
  exact pe_bm pa slot hty hm ho ha hbase hfew hline hs hplain
end
/-! ## a def with defaults that raises nothing -/
theorem fnG_core0 {P : Program} {w : World} {K : PySem.W.Frag} {mg : Str → Option Value} {base : Heap} {CX : CXT} {f : Addr} {x q : Str} {args : Arguments} {body : List Stmt} {scope : Scope} {oc : Value} {od : Option Addr} {dV kV doc pm cdv ct : Value} {an : Option Addr} {osl : Array (Option Value)} {N ps : List Str} {k : Nat} {sp : Sp}
    (lk : K.lookup f = some ⟨oc, od, .func (PySem.W.fnOf x q args body scope dV kV doc pm an cdv ct), osl⟩) (hcd : PySem.W.codeIn K cdv q = true) (S : FnScope N ps scope) (len : ∀ vs H Q E, sp vs H Q E → vs.length = ps.length)
    (hb : ∀ (A : Around) (outer : List Env) (s : Shared) (H : Hp) (vs : List V) (Q : VK) (E : XK), RoomG k (A.deeper (envOfC q scope s.heap.objs.size f cdv)) → sp vs H Q E →
      ∃ t, PSs (cxOf CX P w K mg base N q scope f cdv A outer s H E).nox body t ∧ t { nx := fun _ H' => Q .non H', rt := Q } (start N vs) H) : FnG P w K mg base CX (k + 1) f (PySem.W.fnOf x q args body scope dV kV doc pm an cdv ct) ps sp := fnG_core lk hcd S len fun A outer s H vs Q E hr h => let ⟨t, h1, h2⟩ := hb A outer s H vs Q E hr h; ⟨t, h1.nox, h2⟩
open PySem PySem.Spec PyProof.Rows L2
/-! ## sorted(d.items()), d a dict of texts -/
def pLt (p q : Str × Str) : Bool := if p.1 = q.1 then tLt p.2 q.2 else tLt p.1 q.1
theorem pLe_tr {a b c : Str × Str} (h1 : pLt b a = false) (h2 : pLt c b = false) : pLt c a = false := by
  unfold pLt at *
  by_cases e1 : b.1 = a.1
  · rw [if_pos e1] at h1
    by_cases e2 : c.1 = b.1
    · rw [if_pos e2] at h2
      rw [if_pos (e2.trans e1)]
      exact tLe_tr h1 h2
    · rw [if_neg e2] at h2
      rw [if_neg (fun e => e2 (e.trans e1.symm)), ← e1]
      exact h2
  · rw [if_neg e1] at h1
    by_cases e2 : c.1 = b.1
    · rw [if_neg (fun e => e1 (e2.symm.trans e)), e2]
      exact h1
    · rw [if_neg e2] at h2
      by_cases e3 : c.1 = a.1
      · rw [e3] at h2
        exact absurd (tLt_tot h1 h2) e1
      · rw [if_neg e3]
        exact tLe_tr h1 h2
theorem pLe_tot (a b : Str × Str) : (!pLt b a || !pLt a b) = true := by
  have as : ∀ x y : Str, tLt x y = true → tLt y x = false := fun x y h => by
    cases e : tLt y x with
    | false => rfl
    | true => exact absurd (tLt_tr h e) (by rw [tLt_irr]; decide)
  unfold pLt
  by_cases e1 : b.1 = a.1
  · rw [if_pos e1, if_pos e1.symm]
    cases e : tLt b.2 a.2 with
    | false => rfl
    | true => rw [as _ _ e]; rfl
  · rw [if_neg e1, if_neg (Ne.symm e1)]
    cases e : tLt b.1 a.1 with
    | false => rfl
    | true => rw [as _ _ e]; rfl
def encP (b : Addr × Str × Str) : PyData := .tuple [.str b.2.1, .str b.2.2]
theorem dle_pair (a b : Addr × Str × Str) : PySem.W.dataLe false encP a b = !pLt b.2 a.2 := by
  rw [PySem.W.dataLe_eq]
  show (!PySem.W.dataLt (.tuple [.str b.2.1, .str b.2.2]) (.tuple [.str a.2.1, .str a.2.2])) = _
  rw [PySem.W.dataLt_pair (by rfl) (by rfl)]
  unfold pLt tLt
  have ev : ∀ x y : Str, PyData.eqv (.str x) (.str y) = decide (x = y) := fun x y => by
    show (x == y) = _
    rw [Bool.eq_iff_iff, beq_iff_eq, decide_eq_true_iff]
  rw [ev, ev, PySem.W.dataLt_str, PySem.W.dataLt_str]
  by_cases e1 : b.2.1 = a.2.1
  · rw [if_pos (decide_eq_true e1), if_pos e1]
    by_cases e2 : b.2.2 = a.2.2
    · rw [if_pos (decide_eq_true e2), e2]
      have := tLt_irr a.2.2
      unfold tLt at this
      rw [this]
    · rw [if_neg (by rw [decide_eq_false e2]; decide)]
  · rw [if_neg (by rw [decide_eq_false e1]; decide), if_neg e1]
theorem sort_pairs (zs : List (Addr × Str × Str)) : (zs.mergeSort (PySem.W.dataLe false encP)).Pairwise (fun a b => pLt b.2 a.2 = false) := by
  have h := List.pairwise_mergeSort (le := PySem.W.dataLe false encP) (fun a b c h1 h2 => by
    rw [dle_pair] at *
    have h1' : pLt b.2 a.2 = false := by simpa using h1
    have h2' : pLt c.2 b.2 = false := by simpa using h2
    rw [pLe_tr h1' h2']
    rfl) (fun a b => by
    rw [dle_pair, dle_pair]
    exact pLe_tot a.2 b.2) zs
  refine h.imp fun {a b} z => ?_
  rw [dle_pair] at z
  simpa using z
theorem each_of {P : Value → Addr × Str × Str → Prop} : ∀ {as : List Addr} {m : List (Str × Str)}, as.length = m.length → (∀ z ∈ as.zip m, P (.ref z.1) z) → PySem.W.EachIs P (as.map Value.ref) (as.zip m)
  | [], [], _, _ => .nil
  | a :: as, q :: m, hl, h => .cons (h (a, q) (List.mem_cons_self ..)) (each_of (by simpa using hl) fun z hz => h z (List.mem_cons_of_mem _ hz))
  | [], _ :: _, hl, _ => by simp at hl
  | _ :: _, [], hl, _ => by simp at hl
theorem each_out : ∀ {out : List Value} {zs : List (Addr × Str × Str)}, PySem.W.EachIs (fun v b => v = Value.ref b.1) out zs → out = zs.map fun z => Value.ref z.1
  | _, _, .nil => rfl
  | _, _, .cons h r => by rw [h, each_out r]; rfl
theorem pairs_at2 {P : Program} {w : World} : ∀ {es : List DictEntry} {kvs : List (Key × Value)}, Pairs (mixKind P w) es kvs → ∀ {j : Nat} {e : DictEntry}, es[j]? = some e → ∃ kv, kvs[j]? = some kv ∧ (mixKind P w).is kv.1 e.key = true ∧ e.val = kv.2
  | _, _, .nil, j, e, h => by simp at h
  | _, _, .cons h1 h2 r, 0, e, h => by cases h; exact ⟨_, rfl, h1, h2⟩
  | _, _, .cons h1 h2 r, j + 1, e, h => pairs_at2 r (by simpa using h)
section
variable {X : Cx}
def rItemsK : V → List V → Hp → VK → Prop := fun x xs H Q => ∃ (a : Addr) (kvs : List (Key × V)), x = .ref a ∧ xs = [] ∧ H a = some (.dK kvs) ∧ ∀ p, H p = none → Q (.ref p) (upd H p (DX.itemsO p a))
theorem mt_itemsK : MtR X "dict.items" rItemsK := by
  intro pins s σ H x xs v us Q I rx rxs h
  obtain ⟨a, kvs, rfl, rfl, ha, q⟩ := h
  cases rx
  cases rxs
  obtain ⟨hz, hs0, vs, kv, hdo⟩ := I.hok a _ ha
  obtain ⟨o, es, ep, ho, hx, hdat, _⟩ := hdo
  refine DT.callItems (es := es) (ep := ep) hs0 ⟨o, ho, hx, hdat⟩ ?_
  have hf : H s.heap.objs.size = none := I.hok.fresh (Nat.le_refl _)
  exact ⟨.ref s.heap.objs.size, upd H s.heap.objs.size (DX.itemsO s.heap.objs.size a), I.laid (t' := s.toks) (fun b u e => Heap.get?_push_of_some _ e) (Nat.le_refl _) (DX.itemsO_ok (Heap.get?_push_size _ rfl)), rfl, q _ hf⟩
def tkP (m : List (Str × Str)) : List (Key × V) := m.map fun p => (Sum.inr p.1, V.str p.2)
def rSortIt2 : List V → Hp → VK → Prop := fun vs H Q => ∃ (p a : Addr) (m : List (Str × Str)), vs = [.ref p] ∧ H p = some (DX.itemsO p a) ∧ H a = some (.dK (tkP m)) ∧ m.length ≤ 1000 ∧
  ∀ (H' : Hp) (l : Addr) (zs : List (Addr × Str × Str)), (∀ b o, H b = some o → H' b = some o) → H l = none → (zs.map (·.2)).Perm m → zs.Pairwise (fun a b => pLt b.2 a.2 = false) → H' l = some (.lst (zs.map fun z => V.ref z.1)) →
    (∀ z ∈ zs, H' z.1 = some (.tup [.str z.2.1, .str z.2.2])) → Q (.ref l) H'
theorem cr_sortedIt (hc : X.calm = true) (hu : X.A.units + 64 < cLine) : CallR X (.builtin "sorted") rSortIt2 := by
  intro pins s σ H xs us Q I r h
  obtain ⟨p, a, m, rfl, hp, ha, hm, q⟩ := h
  obtain rfl := Vals.ref1 r
  have view : s.heap.IsItemsView p a := (show ObjOk X.prog X.w H s.heap p (DX.itemsO p a) from I.hok p _ hp).1
  obtain ⟨hz, hs0, kvs, kv, hdo⟩ := I.hok a _ ha
  obtain ⟨o, es, ep, ho, hx, hdat, _, hes, _⟩ := hdo
  have l1 : (tkP m).length = kvs.length := Paired.length kv
  have l1' : (tkP m).length = m.length := by unfold tkP; rw [List.length_map]
  have les : ∀ {es : List DictEntry} {kvs : List (Key × Value)}, Pairs (mixKind X.prog X.w) es kvs → es.length = kvs.length := fun {es kvs} h => by
    induction h with
    | nil => rfl
    | cons _ _ _ ih => exact congrArg Nat.succ ih
  have l2 : es.size = kvs.length := by rw [← Array.length_toList]; exact les hes
  have hh : X.A.handled = none := I.ok.hd hc
  refine DT.sortedI (es := es) (ep := ep) hh view ⟨o, ho, hx, hdat⟩ (by rw [sizeLine_eq]; omega) fun h' tk as hk hlt hl hG => ?_
  have lak : as.length = m.length := by omega
  have nd : as.Nodup := List.Pairwise.imp (fun h => Nat.ne_of_lt h) hG.rise
  have pr : ∀ (j : Nat) (b : Addr), as[j]? = some b → ∃ (q : Str × Str) (t1 t2 : Tok), m[j]? = some q ∧ h'.get? b = some { cls := .type "tuple", data := .seq #[Value.str q.1 t1, Value.str q.2 t2] } := by
    intro j b hj
    obtain ⟨en, he, hg⟩ := hG.pairs j b hj
    obtain ⟨kv0, k1, k2, k3⟩ := pairs_at2 hes (by rw [Array.getElem?_toList]; exact he)
    have hjl : j < m.length := by
      have := (List.getElem?_eq_some_iff.mp hj).1
      omega
    have hmj : m[j]? = some m[j] := by simp [hjl]
    have htk : (tkP m)[j]? = some (Sum.inr m[j].1, V.str m[j].2) := by
      unfold tkP
      rw [List.getElem?_map, hmj]
      rfl
    obtain ⟨y, g1, g2, g3⟩ := LiI.paired_get kv htk
    obtain rfl : y = kv0 := Option.some.inj (g1.symm.trans k1)
    have rk : RelV (kV (Sum.inr m[j].1)) en.key := by
      have g2' : (Sum.inr m[j].1 : Key) = y.1 := g2
      rw [← g2'] at k2
      exact relV_key k2
    obtain ⟨t1, ht1⟩ := rk
    obtain ⟨t2, ht2⟩ := g3
    refine ⟨m[j], t1, t2, hmj, ?_⟩
    rw [hg, ht1, k3, ht2]
  have hob : (h'.push { cls := .type "list", data := .seq (as.map Value.ref).toArray }).get? h'.objs.size = some (seqObj "list" (as.map Value.ref).toArray 0) := Heap.get?_push_size _ rfl
  have kb : ∀ b o, s.heap.get? b = some o → (h'.push { cls := .type "list", data := .seq (as.map Value.ref).toArray }).get? b = some o := fun b o e => Heap.get?_push_of_some _ (hk b o e)
  have ne0 : ∀ b o, h'.get? b = some o → b ≠ h'.objs.size := fun b o e => Nat.ne_of_lt (Heap.lt_size e)
  generalize hh2 : h'.push { cls := .type "list", data := .seq (as.map Value.ref).toArray } = h2 at hob kb ⊢
  have ka : ∀ b o, h'.get? b = some o → h2.get? b = some o := fun b o e => by rw [← hh2]; exact Heap.get?_push_of_some _ e
  have idx0 : ∀ z ∈ as.zip m, ∃ j : Nat, as[j]? = some z.1 ∧ m[j]? = some z.2 := by
    intro z' hz'
    obtain ⟨j, hj⟩ := List.mem_iff_getElem?.mp hz'
    exact ⟨j, List.getElem?_zip_eq_some.mp hj⟩
  refine PySem.W.list_sort_data (s := { s with heap := h2, toks := tk }) (vs := as.map Value.ref) (bs := as.zip m) (enc := encP) (R := fun v b => v = Value.ref b.1) hob (each_of lak fun _ _ => rfl) (each_of lak fun z hz => ?_)
    (PySem.W.AllAlike.of fun b b' => by rfl) (PySem.W.Sortable.tuples fun b => ⟨_, _, rfl⟩) ?_ (fun b _ => ?_) fun out o1 o2 => ?_
  · obtain ⟨j, j1, j2⟩ := idx0 z hz
    obtain ⟨q0, t1, t2, e1, e2⟩ := pr j z.1 j1
    have e3 : q0 = z.2 := Option.some.inj (e1.symm.trans j2)
    rw [e3] at e2
    exact ⟨[], .tuple (ka _ _ e2) rfl rfl (.cons (.str _ _) (.cons (.str _ _) .nil)), List.not_mem_nil⟩
  · rw [List.length_zip, sizeLine_eq]
    omega
  · have hd : (encP b).depth = 1 := by unfold encP; simp [PyData.depth, PyData.depthAll]
    rw [hd]
    show X.A.units + 1 + 1 + 1 < cLine
    omega
  · show EP X pins σ Q (.ref h'.objs.size) { s with heap := sortedHeap h2 h'.objs.size (as.map Value.ref) (List.toArray out), toks := tk }
    have hout : out = ((as.zip m).mergeSort (PySem.W.dataLe false encP)).map fun z => Value.ref z.1 := each_out o2
    have pz : ((as.zip m).mergeSort (PySem.W.dataLe false encP)).Perm (as.zip m) := List.mergeSort_perm _ _
    have hsort := sort_pairs (as.zip m)
    generalize (as.zip m).mergeSort (PySem.W.dataLe false encP) = zs at hout pz hsort
    have idx : ∀ z ∈ zs, ∃ j : Nat, as[j]? = some z.1 ∧ m[j]? = some z.2 := fun z hz => idx0 z (pz.mem_iff.mp hz)
    have hperm : (zs.map (·.2)).Perm m := by
      have e := pz.map (·.2)
      have m2 : (as.zip m).map (·.2) = m := List.map_snd_zip (by rw [lak]; exact Nat.le_refl _)
      rw [m2] at e
      exact e
    have kF : ∀ b o, b ≠ h'.objs.size → h2.get? b = some o → (sortedHeap h2 h'.objs.size (as.map Value.ref) (List.toArray out)).get? b = some o := fun b o hb e => (PyProof.Rows.sortedHeap_old hb (Heap.lt_size e)).trans e
    have kS : ∀ b o, s.heap.get? b = some o → (sortedHeap h2 h'.objs.size (as.map Value.ref) (List.toArray out)).get? b = some o := fun b o e => kF b o (ne0 _ _ (hk b o e)) (kb b o e)
    obtain ⟨eF, heF⟩ := PyProof.Rows.sortedHeap_at (vs := as.map Value.ref) (out := List.toArray out) hob
    have I1 : Inv X pins σ H { s with heap := sortedHeap h2 h'.objs.size (as.map Value.ref) (List.toArray out), toks := tk } := I.kept (t' := tk) kS
    have hn0 : H h'.objs.size = none := I.hok.fresh (Nat.le_of_lt hlt)
    have hlen : (zs.map fun z => V.ref z.1).length ≤ sizeLine := by
      have e := hperm.length_eq
      rw [List.length_map] at e
      rw [List.length_map, sizeLine_eq]
      omega
    have rv : Vals (zs.map fun z => V.ref z.1) out := by
      rw [hout]
      exact vals_maps (fun z : Addr × Str × Str => V.ref z.1) (fun z => Value.ref z.1) zs fun _ _ => rfl
    have I2 : Inv X pins σ (upd H h'.objs.size (.lst (zs.map fun z => V.ref z.1))) { s with heap := sortedHeap h2 h'.objs.size (as.map Value.ref) (List.toArray out), toks := tk } :=
      I1.take (h' := sortedHeap h2 h'.objs.size (as.map Value.ref) (List.toArray out)) (t' := tk) (fun b ob _ e => e) (I.fpOk (Nat.le_of_lt hlt) hn0) ⟨hlen, out, eF, rv, heF⟩
    obtain ⟨H2, I3, g, qt⟩ := DX.takeT (P := fun b vs => ∃ (j : Nat) (q0 : Str × Str), as[j]? = some b ∧ m[j]? = some q0 ∧ vs = [.str q0.1, .str q0.2]) I as _ I2 nd fun b hb => by
      obtain ⟨j, hj⟩ := List.mem_iff_getElem?.mp hb
      obtain ⟨q0, t1, t2, he, hg⟩ := pr j b hj
      have hbl : s.heap.objs.size ≤ b := Nat.le_of_lt (hG.above b hb)
      refine ⟨hbl, ?_, [.str q0.1, .str q0.2], ⟨j, q0, hj, he, rfl⟩, fun H3 => ⟨(by rw [sizeLine_eq]; show 2 ≤ 16777216; omega), [Value.str q0.1 t1, Value.str q0.2 t2], .cons ⟨t1, rfl⟩ (.cons ⟨t2, rfl⟩ .nil), ⟨_, kF _ _ (ne0 _ _ hg) (ka _ _ hg), rfl, 0, rfl⟩⟩⟩
      rw [upd_ne (ne0 _ _ hg)]
      exact I.hok.fresh hbl
    have gr : ∀ b o, H b = some o → H2 b = some o := fun b o e => g b o (by rw [upd_ne (ne_of_none e hn0)]; exact e)
    refine ⟨.ref h'.objs.size, H2, I3, rfl, q H2 h'.objs.size zs gr hn0 hperm hsort (g _ _ upd_same) fun z' hz' => ?_⟩
    obtain ⟨i, i1, i2⟩ := idx z' hz'
    obtain ⟨vs, ⟨j, q0, j1, j2, ev⟩, hH⟩ := qt z'.1 (List.mem_of_getElem? i1)
    have eij : i = j := (List.getElem?_inj (List.getElem?_eq_some_iff.mp i1).1 nd).mp (i1.trans j1.symm)
    subst eij
    have ee : q0 = z'.2 := Option.some.inj (j2.symm.trans i2)
    rw [ev, ee] at hH
    exact hH
end
open PySem PySem.Spec PyProof.Rows L2
/-! ## repr of a list of a dict and two whole numbers -/
def d3 (ds : List (PyData × PyData)) (a b : Int) : PyData := .list [.dict ds, .int a, .int b]
@[irreducible] def rRepr3 : List V → Hp → VK → Prop := fun xs H Q => ∃ (L D : Addr) (kvs : List (Key × V)) (ds : List (PyData × PyData)) (a b : Int), xs = [.ref L] ∧ L ≠ sysModules ∧ H L = some (.lst [.ref D, .int a, .int b]) ∧ H D = some (.dK kvs) ∧ Flat kvs ds ∧
  PyData.showable (d3 ds a b) = true ∧ PyData.depth (d3 ds a b) ≤ 50 ∧ (d3 ds a b).shown.length ≤ sizeLine ∧ Q (.str (d3 ds a b).shown) H
section
variable {X : Cx} {pins : List (Addr × Obj)} {σ : L2.St} {H : Hp} {s : Shared}
theorem call_repr3 (hg : X.A.guards = some []) (hu : X.A.units + 60 < cLine) : CallR X (.builtin "repr") rRepr3 := by
  intro pins s σ H xs us Q I r h
  unfold rRepr3 at h
  obtain ⟨L, D, kvs, ds, a, b, rfl, hns, hL, hD, hf, hs, hd, hz, q⟩ := h
  obtain rfl := Vals.ref1 r
  obtain ⟨_, its, n, rv, ho⟩ := I.hok L _ hL
  obtain ⟨u1, u2, u3, rfl, r1, r2, r3⟩ : ∃ u1 u2 u3, its = [u1, u2, u3] ∧ RelV (.ref D) u1 ∧ RelV (.int a) u2 ∧ RelV (.int b) u3 := by
    cases rv with
    | cons p1 q1 =>
      cases q1 with
      | cons p2 q2 =>
        cases q2 with
        | cons p3 q3 => cases q3; exact ⟨_, _, _, rfl, p1, p2, p3⟩
  obtain ⟨as, rd, hm⟩ := Rp.reads (X := X) I (Rp.dct hD hf) r1
  obtain ⟨t2, rfl⟩ := r2
  obtain ⟨t3, rfl⟩ := r3
  have R := Reads.list (h := s.heap) ho rfl rfl (ReadsAll.cons rd (ReadsAll.cons (.int a t2) (ReadsAll.cons (.int b t3) .nil)))
  refine repr_of_reads' R hs (fun _ => ?_) hg (by show X.A.units + ((d3 ds a b).depth + 1) < cLine; omega) (fun _ _ e => e) (fun h' u tk hk => ⟨.str _, H, I.kept hk, ⟨_, rfl⟩, q⟩) hz
  intro hmem
  rcases List.mem_cons.mp hmem with e | e
  · exact hns e.symm
  · simp only [List.append_nil, List.nil_append] at e
    exact hm (by simp [PyData.hasDict]) e
/-- a list display; its place is not that of sys.modules -/
def tLstN (t : TA) : TE := fun σ H Q => t σ H fun xs H1 => xs.length ≤ sizeLine ∧ ∀ p, H1 p = none → p ≠ sysModules → Q (.ref p) (upd H1 p (.lst xs))
theorem pe_lstN {es : List Expr} {t : TA} {pos : Pos} (h : PA X es t) : PE X (.List es pos) (tLstN t) := by
  refine ⟨fun pins s σ H Q I hq => ?_⟩
  refine wpAny_List_spliced (thn (h.run pos pins s σ H _ I hq) fun us s1 ⟨xs, H1, I1, r, z, q⟩ => ⟨by rw [← r.length]; exact z, ?_⟩)
  have hf : H1 s1.heap.objs.size = none := I1.hok.fresh (Nat.le_refl _)
  refine ⟨.ref s1.heap.objs.size, upd H1 s1.heap.objs.size (.lst xs), I1.laid (t' := s1.toks) (fun b u e => Heap.get?_push_of_some _ e) (Nat.le_refl _) ?_, rfl, q _ hf (Ne.symm (Nat.ne_of_lt I1.big))⟩
  exact ⟨z, us, 0, r, Heap.get?_push_size _ rfl⟩
end
theorem flat_tk (m : List (Str × Str)) : Flat (m.map fun p => ((Sum.inr p.1 : Key), V.str p.2)) (m.map fun p => (PyData.str p.1, PyData.str p.2)) := by
  induction m with
  | nil => exact .nil
  | cons p m ih => exact .cons (k := Sum.inr p.1) rfl ih
theorem repr3_go {L D : Addr} {m : List (Str × Str)} {a b : Int} {H : Hp} {Q : VK} (hn : L ≠ sysModules) (hL : H L = some (.lst [.ref D, .int a, .int b])) (hD : H D = some (.dK (m.map fun p => ((Sum.inr p.1 : Key), V.str p.2)))) (ok : PyData.showable (d3 (m.map fun p => (PyData.str p.1, PyData.str p.2)) a b) = true ∧ PyData.depth (d3 (m.map fun p => (PyData.str p.1, PyData.str p.2)) a b) ≤ 50 ∧ (d3 (m.map fun p => (PyData.str p.1, PyData.str p.2)) a b).shown.length ≤ sizeLine)
    (q : Q (.str (d3 (m.map fun p => (PyData.str p.1, PyData.str p.2)) a b).shown) H) : rRepr3 [.ref L] H Q := by
  unfold rRepr3
  exact ⟨L, D, _, _, a, b, rfl, hn, hL, hD, flat_tk m, ok.1, ok.2.1, ok.2.2, q⟩
theorem fit_kv {N D : Nat} : ∀ {ds : List (PyData × PyData)}, (∀ p ∈ ds, Fit N D p.1 ∧ Fit N D p.2) → PyData.showableKv ds = true ∧ PyData.depthKv ds ≤ D ∧ PyData.leavesShortKv 13 ds = true ∧ PyData.bulkKv ds ≤ (2 * N + 2) * ds.length
  | [], _ => ⟨by simp only [PyData.showableKv], by simp only [PyData.depthKv]; omega, by simp only [PyData.leavesShortKv], by simp only [PyData.bulkKv]; omega⟩
  | (a, b) :: ds, h => by
    obtain ⟨h1, h2⟩ := h (a, b) (List.mem_cons_self ..)
    obtain ⟨a2, a3, a4, a5⟩ := fit_kv (ds := ds) fun x hx => h x (List.mem_cons_of_mem _ hx)
    have b3 := h1.dp
    have b5 := h1.bk
    have c3 := h2.dp
    have c5 := h2.bk
    simp only at b3 b5 c3 c5
    refine ⟨?_, ?_, ?_, ?_⟩
    · simp only [PyData.showableKv, h1.sh, h2.sh, a2, Bool.and_self]
    · simp only [PyData.depthKv]; omega
    · simp only [PyData.leavesShortKv, h1.ls, h2.ls, a4, Bool.and_self]
    · simp only [PyData.bulkKv, List.length_cons]
      rw [Nat.mul_add]
      omega
/-- such data is small -/
theorem d3_ok {m : List (Str × Str)} {a b : Int} (h : ∀ p ∈ m, (∀ c ∈ p.1.cps.toList, c < 128) ∧ (∀ c ∈ p.2.cps.toList, c < 128) ∧ p.1.length ≤ 200 ∧ p.2.length ≤ 200) (l : m.length ≤ 40) (ha : 0 ≤ a) (ha2 : a ≤ 1000) (hb : 0 ≤ b) (hb2 : b ≤ 1000) :
    PyData.showable (d3 (m.map fun p => (PyData.str p.1, PyData.str p.2)) a b) = true ∧ PyData.depth (d3 (m.map fun p => (PyData.str p.1, PyData.str p.2)) a b) ≤ 50 ∧ (d3 (m.map fun p => (PyData.str p.1, PyData.str p.2)) a b).shown.length ≤ sizeLine := by
  obtain ⟨k1, k2, k3, k4⟩ := fit_kv (N := 200) (D := 0) (ds := m.map fun p => (PyData.str p.1, PyData.str p.2)) (by
    intro p hp
    obtain ⟨q, hq, rfl⟩ := List.mem_map.mp hp
    obtain ⟨q1, q2, q3, q4⟩ := h q hq
    exact ⟨Fit.str q1 q3, Fit.str q2 q4⟩)
  have hi : ∀ i : Int, 0 ≤ i → i ≤ 1000 → Fit 0 0 (.int i) := fun i h0 h1 => Fit.int ⟨PyData.shown_int_le (Nat.lt_of_le_of_lt (m := 1000) (by omega) (by decide)), Nat.lt_of_le_of_lt (m := 1000) (by omega) (by decide)⟩
  have ia := hi a ha ha2
  have ib := hi b hb hb2
  have k5 : (m.map fun p => (PyData.str p.1, PyData.str p.2)).length ≤ 40 := by rw [List.length_map]; exact l
  generalize (m.map fun p => (PyData.str p.1, PyData.str p.2)) = ds at *
  refine ⟨?_, ?_, PyData.shown_fits_bulk (B := 13) (by decide) (by decide) ?_ ?_⟩
  · simp only [d3, PyData.showable, PyData.showableAll, k1, Bool.and_self, Bool.and_true, Bool.true_and, Bool.and_eq_true]
    exact ⟨by simpa only [PyData.showable] using ia.sh, by simpa only [PyData.showable] using ib.sh⟩
  · simp only [d3, PyData.depth, PyData.depthAll]
    omega
  · simp only [d3, PyData.leavesShort, PyData.leavesShortAll, k3, Bool.and_self, Bool.and_true, Bool.true_and, Bool.and_eq_true]
    exact ⟨by simpa only [PyData.leavesShort] using ia.ls, by simpa only [PyData.leavesShort] using ib.ls⟩
  · simp only [d3, PyData.bulk, PyData.bulkAll]
    have : 402 * ds.length ≤ 402 * 40 := Nat.mul_le_mul_left _ k5
    have e : (2 ^ 20 : Nat) = 1048576 := by decide
    omega
open PySem PySem.Spec PyProof.Rows L2
/-! ## repr of a list of numbers, texts, dicts of these -/
/-- an item of such a list -/
inductive Rf (H : Hp) : V → PyData → Prop
  | atom {v : V} {d : PyData} : vD v = some d → Rf H v d
  | dct {a : Addr} {kvs : List (Key × V)} {ds : List (PyData × PyData)} : H a = some (.dK kvs) → Flat kvs ds → Rf H (.ref a) (.dict ds)
@[irreducible] def rReprF : List V → Hp → VK → Prop := fun xs H Q => ∃ (L : Addr) (ys : List V) (ds : List PyData), xs = [.ref L] ∧ L ≠ sysModules ∧ H L = some (.lst ys) ∧ Paired (Rf H) ys ds ∧
  PyData.showable (.list ds) = true ∧ PyData.depth (.list ds) ≤ 50 ∧ (PyData.list ds).shown.length ≤ sizeLine ∧ Q (.str (PyData.list ds).shown) H
section
variable {X : Cx} {pins : List (Addr × Obj)} {σ : L2.St} {H : Hp} {s : Shared}
theorem Rf.reads (I : Inv X pins σ H s) {x : V} {d : PyData} {u : Value} (h : Rf H x d) (r : RelV x u) : ∃ as, Reads s.heap u d as ∧ sysModules ∉ as := by
  cases h with
  | atom h => exact ⟨[], vD_reads h r, by simp⟩
  | dct h1 h2 =>
    obtain ⟨as, rd, hm⟩ := Rp.reads (X := X) I (Rp.dct h1 h2) r
    exact ⟨as, rd, hm (by simp [PyData.hasDict])⟩
theorem Rf.readsAll (I : Inv X pins σ H s) : ∀ {xs : List V} {ds : List PyData} {us : List Value}, Paired (Rf H) xs ds → Vals xs us → ∃ as, ReadsAll s.heap us ds as ∧ sysModules ∉ as
  | _, _, _, .nil, .nil => ⟨[], .nil, by simp⟩
  | _, _, _, .cons h t, .cons r q => by
    obtain ⟨a1, r1, n1⟩ := h.reads I r
    obtain ⟨a2, r2, n2⟩ := Rf.readsAll I t q
    exact ⟨a1 ++ a2, .cons r1 r2, fun hm => (List.mem_append.mp hm).elim n1 n2⟩
theorem call_reprF (hg : X.A.guards = some []) (hu : X.A.units + 60 < cLine) : CallR X (.builtin "repr") rReprF := by
  intro pins s σ H xs us Q I r h
  unfold rReprF at h
  obtain ⟨L, ys, ds, rfl, hns, hL, hp, hs, hd, hz, q⟩ := h
  obtain rfl := Vals.ref1 r
  obtain ⟨_, its, n, rv, ho⟩ := I.hok L _ hL
  obtain ⟨as, rd, hm⟩ := Rf.readsAll I hp rv
  have R := Reads.list (h := s.heap) ho rfl rfl rd
  refine repr_of_reads' R hs (fun _ => ?_) hg (by omega) (fun _ _ e => e) (fun h' u tk hk => ⟨.str _, H, I.kept hk, ⟨_, rfl⟩, q⟩) hz
  intro hmem
  rcases List.mem_cons.mp hmem with e | e
  · exact hns e.symm
  · exact hm e
end
/-- small data, dicts too -/
structure FitR (N D : Nat) (d : PyData) : Prop where
  sh : d.showable = true
  dp : d.depth ≤ D
  ls : d.leavesShort 13 = true
  bk : d.bulk ≤ N
theorem Fit.r {N D : Nat} {d : PyData} (h : Fit N D d) : FitR N D d := ⟨h.sh, h.dp, h.ls, h.bk⟩
theorem FitR.mono {N D N' D' : Nat} {d : PyData} (h : FitR N D d) (hN : N ≤ N') (hD : D ≤ D') : FitR N' D' d := ⟨h.sh, Nat.le_trans h.dp hD, h.ls, Nat.le_trans h.bk hN⟩
theorem FitR.dict {N D : Nat} {ds : List (PyData × PyData)} (h : ∀ p ∈ ds, Fit N D p.1 ∧ Fit N D p.2) : FitR ((2 * N + 2) * ds.length) (D + 1) (.dict ds) := by
  obtain ⟨k1, k2, k3, k4⟩ := fit_kv h
  exact ⟨by simpa only [PyData.showable] using k1, by simp only [PyData.depth]; omega, by simpa only [PyData.leavesShort] using k3, by simpa only [PyData.bulk] using k4⟩
theorem fitR_all {N D : Nat} : ∀ {ds : List PyData}, (∀ d ∈ ds, FitR N D d) → PyData.showableAll ds = true ∧ PyData.depthAll ds ≤ D ∧ PyData.leavesShortAll 13 ds = true ∧ PyData.bulkAll ds ≤ (N + 1) * ds.length
  | [], _ => ⟨by simp only [PyData.showableAll], by simp only [PyData.depthAll]; omega, by simp only [PyData.leavesShortAll], by simp only [PyData.bulkAll]; omega⟩
  | d :: ds, h => by
    have h1 := h d (List.mem_cons_self ..)
    obtain ⟨a2, a3, a4, a5⟩ := fitR_all (ds := ds) fun x hx => h x (List.mem_cons_of_mem _ hx)
    have b3 := h1.dp
    have b5 := h1.bk
    refine ⟨?_, ?_, ?_, ?_⟩
    · simp only [PyData.showableAll, h1.sh, a2, Bool.and_self]
    · simp only [PyData.depthAll]; omega
    · simp only [PyData.leavesShortAll, h1.ls, a4, Bool.and_self]
    · simp only [PyData.bulkAll, List.length_cons]
      rw [Nat.mul_add]
      omega
theorem FitR.list {N D : Nat} {ds : List PyData} (h : ∀ d ∈ ds, FitR N D d) : FitR ((N + 1) * ds.length) (D + 1) (.list ds) := by
  obtain ⟨a2, a3, a4, a5⟩ := fitR_all h
  exact ⟨by simpa only [PyData.showable] using a2, by simp only [PyData.depth]; omega, by simpa only [PyData.leavesShort] using a4, by simpa only [PyData.bulk] using a5⟩
theorem FitR.ok {d : PyData} {N D : Nat} (h : FitR N D d) (hN : N ≤ 1048576) (hD : D ≤ 50) : PyData.showable d = true ∧ PyData.depth d ≤ 50 ∧ d.shown.length ≤ sizeLine :=
  ⟨h.sh, Nat.le_trans h.dp hD, PyData.shown_fits_bulk (by decide) (by decide) h.ls (Nat.le_trans h.bk (Nat.le_trans hN (by decide)))⟩
theorem reprF_go {L : Addr} {ys : List V} {ds : List PyData} {N D : Nat} {H : Hp} {Q : VK} (hn : L ≠ sysModules) (hL : H L = some (.lst ys)) (hp : Paired (Rf H) ys ds) (h : FitR N D (.list ds)) (hN : N ≤ 1048576) (hD : D ≤ 50) (q : Q (.str (PyData.list ds).shown) H) : rReprF [.ref L] H Q := by
  unfold rReprF
  obtain ⟨a, b, c⟩ := h.ok hN hD
  exact ⟨L, ys, ds, rfl, hn, hL, hp, a, b, c, q⟩
theorem fit_i {i : Int} (h0 : 0 ≤ i) (h1 : i ≤ 1000) : Fit 0 0 (.int i) := Fit.int ⟨PyData.shown_int_le (Nat.lt_of_le_of_lt (m := 1000) (by omega) (by decide)), Nat.lt_of_le_of_lt (m := 1000) (by omega) (by decide)⟩
theorem fitR_tk {m : List (Str × Str)} (h : ∀ p ∈ m, (∀ c ∈ p.1.cps.toList, c < 128) ∧ (∀ c ∈ p.2.cps.toList, c < 128) ∧ p.1.length ≤ 200 ∧ p.2.length ≤ 200) : FitR (402 * m.length) 1 (.dict (m.map fun p => (PyData.str p.1, PyData.str p.2))) := by
  have := FitR.dict (N := 200) (D := 0) (ds := m.map fun p => (PyData.str p.1, PyData.str p.2)) (by
    intro p hp
    obtain ⟨q, hq, rfl⟩ := List.mem_map.mp hp
    obtain ⟨q1, q2, q3, q4⟩ := h q hq
    exact ⟨Fit.str q1 q3, Fit.str q2 q4⟩)
  rw [List.length_map] at this
  exact this
open PySem PySem.Spec PyProof.Rows L2
/-! ## data with numbers of up to B signs -/
structure FitB (B N D : Nat) (d : PyData) : Prop where
  sh : d.showable = true
  dp : d.depth ≤ D
  ls : d.leavesShort B = true
  bk : d.bulk ≤ N
theorem FitB.str {B N D : Nat} {z : Str} (h : ∀ c ∈ z.cps.toList, c < 128) (l : z.length ≤ N) : FitB B N D (.str z) := by
  refine ⟨rfl, Nat.zero_le _, ?_, l⟩
  show (z.cps.toList.all fun c => decide (c < 16 ^ 8)) = true
  exact List.all_eq_true.mpr fun c hc => decide_eq_true (by
    have := h c hc
    have : (128 : Nat) ≤ 16 ^ 8 := by decide
    omega)
theorem FitB.int {B N D k : Nat} {i : Int} (hk : 0 < k) (hB : k + 1 ≤ B) (h : i.natAbs < 10 ^ k) (h2 : i.natAbs < 2 ^ 1900) : FitB B N D (.int i) := by
  refine ⟨?_, Nat.zero_le _, ?_, Nat.zero_le _⟩
  · refine decide_eq_true ?_
    rcases Nat.eq_zero_or_pos i.natAbs with e | e
    · rw [e]; decide
    · have := (Nat.log2_lt (by omega)).mpr h2
      omega
  · refine decide_eq_true ?_
    have e := int_text_length_le10 hk h
    show (Str.ofString (toString i)).length ≤ B
    rw [PySem.ofString_length]
    omega
theorem FitB.non {B N D : Nat} : FitB B N D .none := ⟨rfl, Nat.zero_le _, rfl, Nat.zero_le _⟩
theorem FitB.bool {B N D : Nat} (b : Bool) : FitB B N D (.bool b) := ⟨rfl, Nat.zero_le _, rfl, Nat.zero_le _⟩
theorem FitB.mono {B N D N' D' : Nat} {d : PyData} (h : FitB B N D d) (hN : N ≤ N') (hD : D ≤ D') : FitB B N' D' d := ⟨h.sh, Nat.le_trans h.dp hD, h.ls, Nat.le_trans h.bk hN⟩
theorem fitB_kv {B N D : Nat} : ∀ {ds : List (PyData × PyData)}, (∀ p ∈ ds, FitB B N D p.1 ∧ FitB B N D p.2) → PyData.showableKv ds = true ∧ PyData.depthKv ds ≤ D ∧ PyData.leavesShortKv B ds = true ∧ PyData.bulkKv ds ≤ (2 * N + 2) * ds.length
  | [], _ => ⟨by simp only [PyData.showableKv], by simp only [PyData.depthKv]; omega, by simp only [PyData.leavesShortKv], by simp only [PyData.bulkKv]; omega⟩
  | (a, b) :: ds, h => by
    obtain ⟨h1, h2⟩ := h (a, b) (List.mem_cons_self ..)
    obtain ⟨a2, a3, a4, a5⟩ := fitB_kv (ds := ds) fun x hx => h x (List.mem_cons_of_mem _ hx)
    have b3 := h1.dp
    have b5 := h1.bk
    have c3 := h2.dp
    have c5 := h2.bk
    simp only at b3 b5 c3 c5
    refine ⟨?_, ?_, ?_, ?_⟩
    · simp only [PyData.showableKv, h1.sh, h2.sh, a2, Bool.and_self]
    · simp only [PyData.depthKv]; omega
    · simp only [PyData.leavesShortKv, h1.ls, h2.ls, a4, Bool.and_self]
    · simp only [PyData.bulkKv, List.length_cons]
      rw [Nat.mul_add]
      omega
theorem fitB_all {B N D : Nat} : ∀ {ds : List PyData}, (∀ d ∈ ds, FitB B N D d) → PyData.showableAll ds = true ∧ PyData.depthAll ds ≤ D ∧ PyData.leavesShortAll B ds = true ∧ PyData.bulkAll ds ≤ (N + 1) * ds.length
  | [], _ => ⟨by simp only [PyData.showableAll], by simp only [PyData.depthAll]; omega, by simp only [PyData.leavesShortAll], by simp only [PyData.bulkAll]; omega⟩
  | d :: ds, h => by
    have h1 := h d (List.mem_cons_self ..)
    obtain ⟨a2, a3, a4, a5⟩ := fitB_all (ds := ds) fun x hx => h x (List.mem_cons_of_mem _ hx)
    have b3 := h1.dp
    have b5 := h1.bk
    refine ⟨?_, ?_, ?_, ?_⟩
    · simp only [PyData.showableAll, h1.sh, a2, Bool.and_self]
    · simp only [PyData.depthAll]; omega
    · simp only [PyData.leavesShortAll, h1.ls, a4, Bool.and_self]
    · simp only [PyData.bulkAll, List.length_cons]
      rw [Nat.mul_add]
      omega
theorem FitB.dict {B N D : Nat} {ds : List (PyData × PyData)} (h : ∀ p ∈ ds, FitB B N D p.1 ∧ FitB B N D p.2) : FitB B ((2 * N + 2) * ds.length) (D + 1) (.dict ds) := by
  obtain ⟨k1, k2, k3, k4⟩ := fitB_kv h
  exact ⟨by simpa only [PyData.showable] using k1, by simp only [PyData.depth]; omega, by simpa only [PyData.leavesShort] using k3, by simpa only [PyData.bulk] using k4⟩
theorem FitB.list {B N D : Nat} {ds : List PyData} (h : ∀ d ∈ ds, FitB B N D d) : FitB B ((N + 1) * ds.length) (D + 1) (.list ds) := by
  obtain ⟨a2, a3, a4, a5⟩ := fitB_all h
  exact ⟨by simpa only [PyData.showable] using a2, by simp only [PyData.depth]; omega, by simpa only [PyData.leavesShort] using a4, by simpa only [PyData.bulk] using a5⟩
theorem FitB.tuple {B N D : Nat} {ds : List PyData} (h : ∀ d ∈ ds, FitB B N D d) : FitB B ((N + 1) * ds.length) (D + 1) (.tuple ds) := by
  obtain ⟨a2, a3, a4, a5⟩ := fitB_all h
  exact ⟨by simpa only [PyData.showable] using a2, by simp only [PyData.depth]; omega, by simpa only [PyData.leavesShort] using a4, by simpa only [PyData.bulk] using a5⟩
theorem FitB.ok {B N D : Nat} {d : PyData} (h : FitB B N D d) (hB : 8 ≤ B) (hN : (B + 2) * N + B ≤ 1000000) (hD : D ≤ 50) : PyData.showable d = true ∧ PyData.depth d ≤ 50 ∧ d.shown.length ≤ sizeLine := by
  refine ⟨h.sh, Nat.le_trans h.dp hD, ?_⟩
  have e := PyData.shown_le_bulk B hB d h.ls
  have e2 : (B + 2) * d.bulk ≤ (B + 2) * N := Nat.mul_le_mul_left _ h.bk
  rw [sizeLine_eq]
  omega
open PySem PySem.Spec PyProof.Rows
open L2 hiding pass0
open L2 (cxOf)
def top (i : Nat) : Stmt := PySem.Challenge.pw_coverways_k23_whole_great_widths_counted.main.body.getD i (.Pass ⟨0, 0, 0, 0⟩)
abbrev s_law_pot : Stmt := top 56
theorem sc_law_pot : FnScope ["_law_script", "_law_k", "_law_cell"] ["_law_script", "_law_k"] (defScope s_law_pot) := ⟨rfl, rfl, rfl, by decide +kernel, rfl, by decide +kernel, by decide +kernel⟩
theorem bp_law_pot : BndP "_law_pot" s_law_pot ["_law_script", "_law_k"] := fun _ _ _ _ _ _ us h => match us, h with | [_, _], _ => rfl
abbrev s_law_draw : Stmt := top 57
theorem sc_law_draw : FnScope ["_law_pot_here", "_law_many", "_law_digit"] ["_law_pot_here", "_law_many"] (defScope s_law_draw) := ⟨rfl, rfl, rfl, by decide +kernel, rfl, by decide +kernel, by decide +kernel⟩
theorem bp_law_draw : BndP "_law_draw" s_law_draw ["_law_pot_here", "_law_many"] := fun _ _ _ _ _ _ us h => match us, h with | [_, _], _ => rfl
abbrev s_law_pick : Stmt := top 58
theorem sc_law_pick : FnScope ["_law_pot_here", "_law_some_here"] ["_law_pot_here", "_law_some_here"] (defScope s_law_pick) := ⟨rfl, rfl, rfl, by decide +kernel, rfl, by decide +kernel, by decide +kernel⟩
theorem bp_law_pick : BndP "_law_pick" s_law_pick ["_law_pot_here", "_law_some_here"] := fun _ _ _ _ _ _ us h => match us, h with | [_, _], _ => rfl
abbrev s_law_bits : Stmt := top 59
theorem sc_law_bits : FnScope ["_law_pot_here", "_law_size_here", "_law_turn"] ["_law_pot_here", "_law_size_here"] (defScope s_law_bits) := ⟨rfl, rfl, rfl, by decide +kernel, rfl, by decide +kernel, by decide +kernel⟩
theorem bp_law_bits : BndP "_law_bits" s_law_bits ["_law_pot_here", "_law_size_here"] := fun _ _ _ _ _ _ us h => match us, h with | [_, _], _ => rfl
/-- what the top leaves of the built-in names -/
structure Txt (K : PySem.W.Frag) (mg : Str → Option Value) : Prop where
  b_len : mg "len" = none
  b_abs : mg "abs" = none
  b_max : mg "max" = none
  b_min : mg "min" = none
  b_int : mg "int" = none
  b_divmod : mg "divmod" = none
  b_range : mg "range" = none
  b_repr : mg "repr" = none
  b_all : mg "all" = none
  b_str : mg "str" = none
  b_bool : mg "bool" = none
  b_isinstance : mg "isinstance" = none
  b_tuple : mg "tuple" = none
  b_dict : mg "dict" = none
  b_list : mg "list" = none
  b_sorted : mg "sorted" = none
  b_zip : mg "zip" = none
  b_enumerate : mg "enumerate" = none
  b_sum : mg "sum" = none
  b_any : mg "any" = none
/-! ### draws -/
def PotAt (H : Hp) (p : Addr) : Prop := ∃ a b : Int, H p = some (.lst [.int a, .int b]) ∧ 0 ≤ a ∧ 0 ≤ b ∧ b < 2147483648
/-- all that stood stands, but for the pot at p -/
structure Go (p : Addr) (H H' : Hp) : Prop where
  pot : PotAt H' p
  keep : ∀ a o, H a = some o → a ≠ p → H' a = some o
theorem Go.trans {p : Addr} {H H1 H2 : Hp} (a : Go p H H1) (b : Go p H1 H2) : Go p H H2 := ⟨b.pot, fun c o h n => b.keep c o (a.keep c o h n) n⟩
theorem Go.refl {p : Addr} {H : Hp} (h : PotAt H p) : Go p H H := ⟨h, fun _ _ e _ => e⟩
theorem Go.new {p q : Addr} {H H1 : Hp} {o : HO} (g : Go p H H1) (h : H1 q = none) : Go p H (upd H1 q o) := by
  obtain ⟨a, b, e, r⟩ := g.pot
  refine ⟨⟨a, b, by rw [upd_ne (ne_of_none e h)]; exact e, r⟩, fun c u hc n => ?_⟩
  have := g.keep c u hc n
  rw [upd_ne (ne_of_none this h)]
  exact this
theorem Go.lst {K : PySem.W.Frag} {p a : Addr} {H H' : Hp} {xs : List V} (g : Go p H H') (n : a ≠ p) (h : SqL K H a xs) : SqL K H' a xs := by
  rcases h with (h | ⟨o, h⟩) | h
  · exact .inl (.inl (g.keep _ _ h n))
  · exact .inl (.inr ⟨o, g.keep _ _ h n⟩)
  · exact .inr h
theorem Go.fresh {p q : Addr} {H H' : Hp} (g : Go p H H') (hp : PotAt H p) (h : H' q = none) : H q = none := by
  cases e : H q with
  | none => rfl
  | some o =>
    by_cases n : q = p
    · subst n
      obtain ⟨a, b, e2, _⟩ := g.pot
      rw [h] at e2
      cases e2
    · have := g.keep q o e n
      rw [h] at this
      cases this
theorem szl {n : Nat} (h : n ≤ 1000000) : n ≤ sizeLine := Nat.le_trans h (by decide)
theorem szt {n : Nat} (h : n < 1000000) : n < sizeLine := Nat.lt_of_lt_of_le h (by decide)
theorem nonn {H : Hp} {a b : Addr} {o : HO} (h' : H b = none) (h : H a = some o) : a ≠ b := ne_of_none h h'
theorem Go.kp {p a : Addr} {H H' : Hp} {o : HO} (g : Go p H H') (h : H a = some o) (n : a ≠ p) : H' a = some o := g.keep a o h n
theorem updn {H : Hp} {a b : Addr} {o u : HO} (n : b ≠ a) (h : H b = some u) : upd H a o b = some u := (upd_ne n).trans h
local macro_rules | `(tactic| walk_at "hp") => `(tactic| first | assumption | exact upd_same | exact updn (by walk_at "ne") (by walk_at "hp") | exact Go.kp (by assumption) (by walk_at "hp") (by walk_at "ne"))
local macro_rules | `(tactic| walk_at "ne") => `(tactic| first | assumption | exact Ne.symm (by assumption) | exact nonn (by assumption) (by walk_at "hp") | exact Ne.symm (nonn (by assumption) (by walk_at "hp")))
local macro_rules | `(tactic| walk_at "sq") => `(tactic| first | assumption | exact SqL.of (by walk_at "hp") | exact SqT.of (by walk_at "hp") | exact Go.lst (by assumption) (by walk_at "ne") (by walk_at "sq"))
local macro_rules | `(tactic| walk_at "sz") => `(tactic| first | assumption | exact szl (Nat.le_of_ble_eq_true rfl) | (apply szl; first | omega | (simp; omega)) | (apply szt; first | omega | (simp; omega)))
local macro_rules | `(tactic| walk_at "len") => `(tactic| first | exact Or.inl ⟨_, (by walk_at "sq"), rfl⟩ | exact ⟨(by walk_at "sz"), rfl⟩ | exact Or.inr ⟨_, (by walk_at "sq"), rfl⟩)
local macro_rules | `(tactic| walk_at "ar") => `(tactic| first | assumption | omega | decide | exact upd_same | rfl | walk_at "sz" | (simp only [CDiv, CMul, CPow]; first | omega | decide) | (refine ⟨?_, ?_⟩ <;> first | omega | decide))
local macro_rules | `(tactic| walk_at "at") => `(tactic| first | rfl | assumption | decide)
/-! one step of a reading -/
local macro_rules | `(tactic| walk_at "s1") => `(tactic| first
  | (refine ⟨_, rfl, ?_⟩)
  | (refine ⟨_, _, rfl, rfl, ?_⟩)
  | (refine Or.inl ⟨_, _, _, _, rfl, rfl, by walk_at "sq", by walk_at "at", ?_⟩)
  | (refine Or.inr (Or.inl ⟨_, _, _, _, rfl, rfl, by walk_at "sq", by walk_at "at", ?_⟩))
  | (refine Or.inl ⟨_, rfl, ?_⟩)
  | (refine And.intro (by walk_at "ar") ?_)
  | (refine ⟨_, _, rfl, ?_⟩)
  | (refine ⟨_, _, rfl, (by walk_at "sq"), rfl, ?_⟩)
  | (refine ⟨_, _, rfl, (by walk_at "len"), ?_⟩)
  | (refine ⟨_, _, _, _, rfl, rfl, (by walk_at "hp"), rfl, ?_⟩)
  | (refine fun q (hq : _ = none) => ?_)
  | (intro _; intros))
local macro_rules | `(tactic| walk_at "go") => `(tactic| first | assumption | exact Go.refl (by assumption) | exact Go.new (by walk_at "go") (by assumption) | exact Go.trans (by walk_at "go") (by assumption))
local macro_rules | `(tactic| walk_at "pot") => `(tactic| first | assumption | exact Go.pot (by assumption) | exact Go.pot (by walk_at "go"))
theorem atI_ok {α : Type} {xs : List α} {d : Int} (h0 : 0 ≤ d) (h1 : d < (xs.length : Int)) : ∃ v, v ∈ xs ∧ atI xs d = some v := by
  obtain ⟨j, rfl⟩ := Int.eq_ofNat_of_zero_le h0
  have hj : j < xs.length := by omega
  exact ⟨xs[j], List.getElem_mem hj, atI_nat (by simp [hj])⟩
theorem potb (x M : Int) (h0 : 0 < M) (h1 : M < 2147483648) : 0 ≤ x % M + 1 ∧ x % M + 1 < 2147483648 := by
  have := Int.emod_nonneg x (show M ≠ 0 by omega)
  have := Int.emod_lt_of_pos x h0
  omega
theorem emodb (x M : Int) (h0 : 0 < M) (h1 : M ≤ 2147483648) : x % M < 2147483648 := by
  have := Int.emod_lt_of_pos x h0
  omega
theorem max0 {x : Int} : 0 ≤ (if x > 0 then x else 0) := by split <;> omega
theorem Go.mut {p D : Addr} {H H1 : Hp} {o : HO} (g : Go p H H1) (n : H D = none) (np : D ≠ p) : Go p H (upd H1 D o) := by
  obtain ⟨a, b, e, r⟩ := g.pot
  exact ⟨⟨a, b, by rw [upd_ne (Ne.symm np)]; exact e, r⟩, fun c u hc nc => by rw [upd_ne (ne_of_none hc n)]; exact g.keep c u hc nc⟩
theorem PotAt.ne {p q : Addr} {H : Hp} (h : PotAt H p) (n : H q = none) : q ≠ p := by
  obtain ⟨a, b, e, _⟩ := h
  exact (ne_of_none e n).symm
/-- a def that raises nothing -/
theorem nm_of0 {P : Program} {w : World} {K : PySem.W.Frag} {mg : Str → Option Value} {base : Heap} {CX : CXT} {x : Str} {st : Stmt} {f : Addr} {fd : FuncData} {N ps : List Str} {k : Nat} {sp : Sp} (F : Fun K x x st f fd) (hm : mg x = some (.ref f)) (S : FnScope N ps (defScope st)) (len : ∀ vs H Q E, sp vs H Q E → vs.length = ps.length)
    (hb : ∀ (cdv : Value) (A : Around) (outer : List Env) (s : Shared) (H : Hp) (vs : List V) (Q : VK) (E : XK), RoomG k (A.deeper (envOfC x (defScope st) s.heap.objs.size f cdv)) → sp vs H Q E →
      ∃ t, PSs (cxOf CX P w K mg base N x (defScope st) f cdv A outer s H E).nox (defBody st) t ∧ t { nx := fun _ H' => Q .non H', rt := Q } (start N vs) H) : Nm P w K mg base CX (k + 1) x st ps sp :=
  nm_of F hm S len fun cdv A outer s H vs Q E hr h => let ⟨t, h1, h2⟩ := hb cdv A outer s H vs Q E hr h; ⟨t, h1.nox, h2⟩
/-- texts of single signs -/
def sg (c : Nat) : Str := ⟨#[c]⟩
theorem joinL_sg : ∀ zs : List Nat, TL.joinL [] (zs.map fun c => [c]) = zs
  | [] => rfl
  | [c] => rfl
  | c :: d :: r => by
    show [c] ++ [] ++ TL.joinL [] ((d :: r).map fun c => [c]) = c :: d :: r
    rw [joinL_sg (d :: r)]
    rfl
theorem join_sg (zs : List Nat) : Txt.join ("" : Str) (zs.map sg) = SX.S zs := by
  have h := SX.join_S [] (zs.map fun c => [c])
  rw [joinL_sg, List.map_map] at h
  exact h
theorem sum_sg : ∀ zs : List Nat, ((zs.map sg).map (·.length)).sum = zs.length
  | [] => rfl
  | c :: r => by
    rw [List.map_cons, List.map_cons, List.sum_cons, sum_sg r]
    show 1 + r.length = r.length + 1
    omega
theorem Go.put {p : Addr} {H H1 : Hp} {a b : Int} (g : Go p H H1) (ha : 0 ≤ a) (hb : 0 ≤ b) (hb2 : b < 2147483648) : Go p H (upd H1 p (.lst [.int a, .int b])) :=
  ⟨⟨a, b, upd_same, ha, hb, hb2⟩, fun c o e n => by rw [upd_ne n]; exact g.keep c o e n⟩
theorem Go.any {p : Addr} {H : Hp} (q : Addr) (o : HO) (h : PotAt H p) (n : H q = none) : Go p H (upd H q o) := (Go.refl h).new n
@[irreducible] def spPot (K : PySem.W.Frag) : Sp := fun vs H Q _ => ∃ (a : Addr) (ns : List Int) (k : Int), vs = [.ref a, .int k] ∧ SqL K H a (ns.map V.int) ∧ ns.length ≤ 63 ∧ 0 ≤ k ∧ k ≤ 100 ∧
  ∀ p H', H p = none → PotAt H' p → (∀ b o, H b = some o → H' b = some o) → Q (.ref p) H'
@[irreducible] def spDraw : Sp := fun vs H Q _ => ∃ (p : Addr) (n : Int), vs = [.ref p, .int n] ∧ PotAt H p ∧ 0 < n ∧ n < 1073741824 ∧ ∀ (d : Int) H', 0 ≤ d → d < n → Go p H H' → Q (.int d) H'
@[irreducible] def spAmong (K : PySem.W.Frag) : Sp := fun vs H Q _ => ∃ (p : Addr) (x : V), vs = [.ref p, x] ∧ PotAt H p ∧
  ((∃ (a : Addr) (xs : List V), x = .ref a ∧ a ≠ p ∧ SqL K H a xs ∧ 0 < xs.length ∧ xs.length ≤ 1000 ∧ ∀ v ∈ xs, ∀ H', Go p H H' → Q v H') ∨
   (∃ z : Str, x = .str z ∧ 0 < z.length ∧ z.length ≤ 1000 ∧ ∀ c ∈ z.cps.toList, ∀ H', Go p H H' → Q (.str ⟨#[c]⟩) H'))
def Bits (z : Str) : Prop := ∀ c ∈ z.cps.toList, c = 48 ∨ c = 49
@[irreducible] def spBitsN : Sp := fun vs H Q _ => ∃ (p : Addr) (n : Nat), vs = [.ref p, .int n] ∧ PotAt H p ∧ n ≤ 1000 ∧ ∀ (z : Str) H', Bits z → z.length = n → Go p H H' → Q (.str z) H'
section
variable {K : PySem.W.Frag} {p a : Addr} {n lo hi k : Int} {H : Hp} {Q : VK} {E : XK} {xs : List V} {z : Str} {ns : List Int}
theorem pot_go (hS : SqL K H a (ns.map V.int)) (hl : ns.length ≤ 63) (h0 : 0 ≤ k) (h1 : k ≤ 100) (q : ∀ p H', H p = none → PotAt H' p → (∀ b o, H b = some o → H' b = some o) → Q (.ref p) H') : spPot K [.ref a, .int k] H Q E := by
  unfold spPot
  exact ⟨a, ns, k, rfl, hS, hl, h0, h1, q⟩
theorem draw_go (hp : PotAt H p) (h0 : 0 < n) (h1 : n < 1073741824) (q : ∀ (d : Int) H', 0 ≤ d → d < n → Go p H H' → Q (.int d) H') : spDraw [.ref p, .int n] H Q E := by
  unfold spDraw
  exact ⟨p, n, rfl, hp, h0, h1, q⟩
theorem among_l (hp : PotAt H p) (na : a ≠ p) (hS : SqL K H a xs) (h0 : 0 < xs.length) (h1 : xs.length ≤ 1000) (q : ∀ v ∈ xs, ∀ H', Go p H H' → Q v H') : spAmong K [.ref p, .ref a] H Q E := by
  unfold spAmong
  exact ⟨p, _, rfl, hp, .inl ⟨a, xs, rfl, na, hS, h0, h1, q⟩⟩
theorem among_s (hp : PotAt H p) (h0 : 0 < z.length) (h1 : z.length ≤ 1000) (q : ∀ c ∈ z.cps.toList, ∀ H', Go p H H' → Q (.str ⟨#[c]⟩) H') : spAmong K [.ref p, .str z] H Q E := by
  unfold spAmong
  exact ⟨p, _, rfl, hp, .inr ⟨z, rfl, h0, h1, q⟩⟩
theorem bitsn_go {m : Nat} (hp : PotAt H p) (h2 : m ≤ 1000) (q : ∀ (z : Str) H', Bits z → z.length = m → Go p H H' → Q (.str z) H') : spBitsN [.ref p, .int m] H Q E := by
  unfold spBitsN
  exact ⟨p, m, rfl, hp, h2, q⟩
end
section
variable {P : Program} {w : World} {K : PySem.W.Frag} {mg : Str → Option Value} {base : Heap} {f : Addr} {fd : FuncData}
theorem ok_draw (F : Fun K "_law_draw" "_law_draw" s_law_draw f fd) (hm : mg "_law_draw" = some (.ref f)) (T : Txt K mg) : Nm P w K mg base CX0 1 "_law_draw" s_law_draw ["_law_pot_here", "_law_many"] spDraw := by
  refine nm_of F hm sc_law_draw (fun vs H Q E h => ?_) fun cdv A outer s H vs Q E hr h => ?_
  · unfold spDraw at h
    obtain ⟨p, n, rfl, _⟩ := h
    rfl
  · unfold spDraw at h
    obtain ⟨p, n, rfl, ⟨a, b, hp, ha, hb, hb2⟩, hn, hn2, k⟩ := h
    refine ⟨_, (pss_cons (ps_if (pt_cmpR op_gt (pe_ix (ix_seqK (K := K) rfl) (pv 0) pe_int (fun _ _ => rfl)) pe_int (nomark _)) (pss_cons (ps_asg (pe_callB call_divmod (by rfl) T.b_divmod (by decide +kernel) (pa_cons (pe_ix (ix_seqK (K := K) rfl) (pv 0) pe_int (fun _ _ => rfl)) (pa_cons (pv 1) pa_nil))) (pg_tup (by rfl) (pgs_cons (pg_sub (pv 0) pe_int set_list) (pgs_cons (pg_name (i := 2) sc_law_draw.nd rfl (by first | exact Or.inl rfl | exact Or.inr rfl)) pgs_nil))))
      (pss_one (ps_ret (pv 2)))) pss_nil)
      (pss_cons (ps_asg (pe_op op_mod (pe_callTy call_int1 (by rfl) T.b_int (by decide +kernel) (pa_cons (pe_op op_add (pe_op op_mul (pe_ix (ix_seqK (K := K) rfl) (pv 0) pe_int (fun _ _ => rfl)) pe_int) pe_int) pa_nil)) pe_int) (pg_sub (pv 0) pe_int set_list))
      (pss_one (ps_ret (pe_op op_mod (pe_callTy call_int1 (by rfl) T.b_int (by decide +kernel) (pa_cons (pe_op op_fdiv (pe_op op_mod (pe_callTy call_int1 (by rfl) T.b_int (by decide +kernel) (pa_cons (pe_op op_mul (pe_ix (ix_seqK (K := K) rfl) (pv 0) pe_int (fun _ _ => rfl)) (pe_ix (ix_seqK (K := K) rfl) (pv 0) pe_int (fun _ _ => rfl))) pa_nil)) pe_int) pe_int) pa_nil)) (pv 1)))))), ?_⟩
    have g0 : PotAt H p := ⟨a, b, hp, ha, hb, hb2⟩
    repeat walk_at "s1"
    refine ite2 (fun c => ?_) fun c => ?_
    · have c' : 0 < a := of_decide_eq_true c
      repeat walk_at "s1"
      rename_i q hq
      exact k _ _ (Int.emod_nonneg _ (by omega)) (Int.emod_lt_of_pos _ hn) (((Go.refl g0).new hq).put (Int.ediv_nonneg ha (by omega)) hb hb2)
    · repeat walk_at "s1"
      exact k _ _ (Int.emod_nonneg _ (by omega)) (Int.emod_lt_of_pos _ hn) ((Go.refl g0).put ha (Int.emod_nonneg _ (by decide)) (emodb _ _ (by decide) (by decide)))
theorem ok_pot (F : Fun K "_law_pot" "_law_pot" s_law_pot f fd) (hm : mg "_law_pot" = some (.ref f)) (T : Txt K mg) : Nm P w K mg base CX0 1 "_law_pot" s_law_pot ["_law_script", "_law_k"] (spPot K) := by
  refine nm_of F hm sc_law_pot (fun vs H Q E h => ?_) fun cdv A outer s H vs Q E hr h => ?_
  · unfold spPot at h
    obtain ⟨a, ns, k, rfl, _⟩ := h
    rfl
  · unfold spPot at h
    obtain ⟨a, ns, k, rfl, hS, hl, hk, hk2, kk⟩ := h
    refine ⟨_, (pss_cons (ps_set (i := 2) sc_law_pot.nd rfl (by first | exact Or.inl rfl | exact Or.inr rfl) (pe_ifExp (pt_cmpR op_lt (pv 1) (pe_callB (call_lenK (K := K) rfl) (by rfl) T.b_len PySem.boot_len (pa_cons (pv 0) pa_nil)) (nomark _)) (pe_callB call_abs (by rfl) T.b_abs (by decide +kernel) (pa_cons (pe_ix (ix_seqK (K := K) rfl) (pv 0) (pv 1) (fun _ _ => rfl)) pa_nil)) (pe_op op_add (pe_op op_mul pe_int (pv 1)) pe_int)))
      (pss_one (ps_ret (pe_lst (pa_cons (pe_callB (call_max2 rfl) (by rfl) T.b_max (by decide +kernel) (pa_cons pe_int (pa_cons (pe_op op_sub (pv 2) (pe_op op_pow pe_int pe_int)) pa_nil))) (pa_cons (pe_op op_add (pe_op op_mod (pe_callTy call_int1 (by rfl) T.b_int (by decide +kernel) (pa_cons (pe_op op_add (pe_op op_add (pe_op op_mul (pe_op op_mod (pe_callTy call_int1 (by rfl) T.b_int (by decide +kernel) (pa_cons (pv 2) pa_nil)) pe_int) pe_int) (pe_op op_mul pe_int (pv 1))) pe_int) pa_nil)) pe_int) pe_int) pa_nil)))))), ?_⟩
    repeat walk_at "s1"
    refine ite2 (fun c => ?_) fun c => ?_
    · have c' : k < (ns.length : Int) := by have := of_decide_eq_true c; rw [List.length_map] at this; exact this
      have hat : atI (ns.map V.int) k = some (.int (ns.getD k.toNat 0)) := by
        obtain ⟨j, rfl⟩ := Int.eq_ofNat_of_zero_le hk
        have hj : j < ns.length := by omega
        refine atI_nat ?_
        simp [List.getElem?_map, hj, List.getD]
      iterate 30 (try walk_at "s1")
      refine kk _ _ (by assumption) ⟨_, _, upd_same, ?_, ?_, ?_⟩ fun b o e => updn (nonn (by assumption) e) e
      · exact max0
      · exact (potb _ _ (by decide) (by decide)).1
      · exact (potb _ _ (by decide) (by decide)).2
    · iterate 30 (try walk_at "s1")
      refine kk _ _ (by assumption) ⟨_, _, upd_same, ?_, ?_, ?_⟩ fun b o e => updn (nonn (by assumption) e) e
      · exact max0
      · exact (potb _ _ (by decide) (by decide)).1
      · exact (potb _ _ (by decide) (by decide)).2
theorem ok_among (F : Fun K "_law_pick" "_law_pick" s_law_pick f fd) (hm : mg "_law_pick" = some (.ref f)) (T : Txt K mg) (c_law_draw : Nm P w K mg base CX0 1 "_law_draw" s_law_draw ["_law_pot_here", "_law_many"] spDraw) :
    Nm P w K mg base CX0 2 "_law_pick" s_law_pick ["_law_pot_here", "_law_some_here"] (spAmong K) := by
  refine nm_of F hm sc_law_pick (fun vs H Q E h => ?_) fun cdv A outer s H vs Q E hr h => ?_
  · unfold spAmong at h
    obtain ⟨p, x, rfl, _⟩ := h
    rfl
  · unfold spAmong at h
    obtain ⟨p, x, rfl, hp, h⟩ := h
    refine ⟨_, (pss_one (ps_ret (pe_ix (ix_seqK (K := K) rfl) (pv 1) (pe_g c_law_draw hr (by decide) L2.pass0 bp_law_draw (by rfl) (pa_cons (pv 0) (pa_cons (pe_callB (call_lenK (K := K) rfl) (by rfl) T.b_len PySem.boot_len (pa_cons (pv 1) pa_nil)) pa_nil))) (fun _ _ => rfl)))), ?_⟩
    rcases h with ⟨a, xs, rfl, na, hS, l0, l1, k⟩ | ⟨z, rfl, l0, l1, k⟩
    · iterate 4 walk_at "s1"
      refine draw_go hp (by omega) (by omega) fun d H' h0 h1 g => ?_
      obtain ⟨v, hv, hat⟩ := atI_ok (xs := xs) h0 h1
      exact Or.inl ⟨_, _, _, _, rfl, rfl, g.lst na hS, hat, k v hv H' g⟩
    · iterate 4 walk_at "s1"
      refine draw_go hp (by omega) (by omega) fun d H' h0 h1 g => ?_
      obtain ⟨c, hc, hat⟩ := atI_ok (xs := z.cps.toList) h0 (by rw [Array.length_toList]; exact h1)
      exact Or.inr (Or.inr ⟨_, _, c, rfl, rfl, szl (by omega), hat, k c hc H' g⟩)
theorem ok_bitsn (F : Fun K "_law_bits" "_law_bits" s_law_bits f fd) (hm : mg "_law_bits" = some (.ref f)) (T : Txt K mg) (c_law_pick : Nm P w K mg base CX0 2 "_law_pick" s_law_pick ["_law_pot_here", "_law_some_here"] (spAmong K)) : Nm P w K mg base CX0 3 "_law_bits" s_law_bits ["_law_pot_here", "_law_size_here"] (spBitsN) := by
  refine nm_of F hm sc_law_bits (fun vs H Q E h => ?_) fun cdv A outer s H vs Q E hr h => ?_
  · unfold spBitsN at h
    obtain ⟨p, n, rfl, hp, h2, k⟩ := h
    subst_vars
    rfl
  unfold spBitsN at h
  obtain ⟨p, n, rfl, hp, h2, k⟩ := h
  refine ⟨_, (pss_one (ps_ret (pe_join pe_str (pe_lc (own := [("_law_turn", 2)]) (g := (gName 2)) (by rfl) sc_law_bits.nd (pi_range1 (by rfl) T.b_range (pa_cons (pv 1) pa_nil)) (blkOk_by (own := [("_law_turn", 2)]) (N := ["_law_pot_here", "_law_size_here", "_law_turn"]) (sc := defScope s_law_bits) (by decide +kernel)) (fun _ _ _ _ _ => (pg_name (i := 2) sc_law_bits.nd rfl (by first | exact Or.inl rfl | exact Or.inr rfl))) (fun _ _ _ _ _ => pts_nil) (fun _ _ _ _ _ => (pe_g c_law_pick hr (by decide) L2.pass0 bp_law_pick (by rfl) (pa_cons (pv 0) (pa_cons pe_str pa_nil)))))))), ?_⟩
  refine ⟨⟨_, rfl⟩, ?_⟩
  refine ⟨_, rfl, ⟨_, rfl, by omega, by omega, fun D nD => ?_⟩⟩
  have nDp : D ≠ p := hp.ne nD
  refine lc_it walk_range (fun i H' => ∃ zs : List Nat, H' D = some (.lst ((zs.map sg).map V.str)) ∧ zs.length = i ∧ (∀ c ∈ zs, c = 48 ∨ c = 49) ∧ Go p H H') ⟨[], upd_same, rfl, (fun c hc => by cases hc), (Go.refl hp).new nD⟩ (fun _ _ _ _ => trivial) ?_ ?_
  · rintro i x H2 H3 hi ⟨zs, hD, hl, hz, g2⟩ ⟨rfl, rfl⟩
    refine ⟨rfl, ?_⟩
    dsimp only [tYes]
    rw [if_pos rfl]
    walk_at "s1"
    refine among_s g2.pot (by decide) (by decide) fun c hc H4 g3 => ?_
    refine ⟨_, g3.kp hD nDp, szt (by rw [List.length_map, List.length_map, hl]; omega), zs ++ [c], ?_, ?_, ?_, (g2.trans g3).mut nD nDp⟩
    · rw [upd_same, List.map_append, List.map_append]; rfl
    · rw [List.length_append, hl]; rfl
    · intro e he
      rcases List.mem_append.mp he with he | he
      · exact hz e he
      · rw [List.mem_singleton] at he
        subst he
        have : e ∈ [48, 49] := hc
        simpa using this
  · rintro H2 ⟨zs, hD, hl, hz, g2⟩
    have hn : ((n : Int) - 0).toNat = n := by omega
    refine ⟨_, _, zs.map sg, rfl, rfl, Or.inl (SqL.of hD), ?_, ?_⟩
    · rw [sum_sg, List.length_map]
      show zs.length + zs.length * 0 ≤ _
      omega
    · show Q (.str (Txt.join "" (zs.map sg))) H2
      rw [join_sg]
      refine k _ _ hz ?_ g2
      rw [SX.S_len]
      omega
end
open PySem PySem.Spec PyProof.Rows
open L2 hiding pass0
abbrev s_is_count : Stmt := top 21
theorem sc_is_count : FnScope ["value"] ["value"] (defScope s_is_count) := ⟨rfl, rfl, rfl, by decide +kernel, rfl, by decide +kernel, by decide +kernel⟩
theorem bp_is_count : BndP "is_count" s_is_count ["value"] := fun _ _ _ _ _ _ us h => match us, h with | [_], _ => rfl
abbrev s_is_width : Stmt := top 22
theorem sc_is_width : FnScope ["value"] ["value"] (defScope s_is_width) := ⟨rfl, rfl, rfl, by decide +kernel, rfl, by decide +kernel, by decide +kernel⟩
theorem bp_is_width : BndP "is_width" s_is_width ["value"] := fun _ _ _ _ _ _ us h => match us, h with | [_], _ => rfl
abbrev s_is_bits : Stmt := top 23
theorem sc_is_bits : FnScope ["value", "bit"] ["value"] (defScope s_is_bits) := ⟨rfl, rfl, rfl, by decide +kernel, rfl, by decide +kernel, by decide +kernel⟩
theorem bp_is_bits : BndP "is_bits" s_is_bits ["value"] := fun _ _ _ _ _ _ us h => match us, h with | [_], _ => rfl
abbrev s_is_name : Stmt := top 24
theorem sc_is_name : FnScope ["value", "letter"] ["value"] (defScope s_is_name) := ⟨rfl, rfl, rfl, by decide +kernel, rfl, by decide +kernel, by decide +kernel⟩
theorem bp_is_name : BndP "is_name" s_is_name ["value"] := fun _ _ _ _ _ _ us h => match us, h with | [_], _ => rfl
abbrev s_is_goal : Stmt := top 25
theorem sc_is_goal : FnScope ["value"] ["value"] (defScope s_is_goal) := ⟨rfl, rfl, rfl, by decide +kernel, rfl, by decide +kernel, by decide +kernel⟩
theorem bp_is_goal : BndP "is_goal" s_is_goal ["value"] := fun _ _ _ _ _ _ us h => match us, h with | [_], _ => rfl
abbrev s_check_width : Stmt := top 28
theorem sc_check_width : FnScope ["width"] ["width"] (defScope s_check_width) := ⟨rfl, rfl, rfl, by decide +kernel, rfl, by decide +kernel, by decide +kernel⟩
theorem bp_check_width : BndP "check_width" s_check_width ["width"] := fun _ _ _ _ _ _ us h => match us, h with | [_], _ => rfl
abbrev s_is_stretch : Stmt := top 27
theorem sc_is_stretch : FnScope ["width", "value"] ["width", "value"] (defScope s_is_stretch) := ⟨rfl, rfl, rfl, by decide +kernel, rfl, by decide +kernel, by decide +kernel⟩
theorem bp_is_stretch : BndP "is_stretch" s_is_stretch ["width", "value"] := fun _ _ _ _ _ _ us h => match us, h with | [_, _], _ => rfl
abbrev s_is_address : Stmt := top 26
theorem sc_is_address : FnScope ["width", "value"] ["width", "value"] (defScope s_is_address) := ⟨rfl, rfl, rfl, by decide +kernel, rfl, by decide +kernel, by decide +kernel⟩
theorem bp_is_address : BndP "is_address" s_is_address ["width", "value"] := fun _ _ _ _ _ _ us h => match us, h with | [_, _], _ => rfl
abbrev s_check_stretch : Stmt := top 29
theorem sc_check_stretch : FnScope ["width", "stretch"] ["width", "stretch"] (defScope s_check_stretch) := ⟨rfl, rfl, rfl, by decide +kernel, rfl, by decide +kernel, by decide +kernel⟩
theorem bp_check_stretch : BndP "check_stretch" s_check_stretch ["width", "stretch"] := fun _ _ _ _ _ _ us h => match us, h with | [_, _], _ => rfl
abbrev s_check_stretches : Stmt := top 30
theorem sc_check_stretches : FnScope ["width", "stretches", "position", "stretch"] ["width", "stretches"] (defScope s_check_stretches) := ⟨rfl, rfl, rfl, by decide +kernel, rfl, by decide +kernel, by decide +kernel⟩
theorem bp_check_stretches : BndP "check_stretches" s_check_stretches ["width", "stretches"] := fun _ _ _ _ _ _ us h => match us, h with | [_, _], _ => rfl
abbrev s_check_address : Stmt := top 31
theorem sc_check_address : FnScope ["width", "address"] ["width", "address"] (defScope s_check_address) := ⟨rfl, rfl, rfl, by decide +kernel, rfl, by decide +kernel, by decide +kernel⟩
theorem bp_check_address : BndP "check_address" s_check_address ["width", "address"] := fun _ _ _ _ _ _ us h => match us, h with | [_, _], _ => rfl
abbrev s_number : Stmt := top 33
theorem sc_number : FnScope ["width", "stretch", "many", "_"] ["width", "stretch"] (defScope s_number) := ⟨rfl, rfl, rfl, by decide +kernel, rfl, by decide +kernel, by decide +kernel⟩
theorem bp_number : BndP "number" s_number ["width", "stretch"] := fun _ _ _ _ _ _ us h => match us, h with | [_, _], _ => rfl
abbrev s_first : Stmt := top 34
theorem sc_first : FnScope ["width", "stretch"] ["width", "stretch"] (defScope s_first) := ⟨rfl, rfl, rfl, by decide +kernel, rfl, by decide +kernel, by decide +kernel⟩
theorem bp_first : BndP "first" s_first ["width", "stretch"] := fun _ _ _ _ _ _ us h => match us, h with | [_, _], _ => rfl
/-- the constants of the text -/
structure Cst (K : PySem.W.Frag) (mg : Str → Option Value) where
  c_MOST_WIDTH : ∃ u, mg "MOST_WIDTH" = some u ∧ RelV (.int 100) u
  c_MOST_LETTERS : ∃ u, mg "MOST_LETTERS" = some u ∧ RelV (.int 6) u
  c_LETTERS : ∃ u, mg "LETTERS" = some u ∧ RelV (.str "abcdefghijklmnopqrstuvwxyz") u
  aN : Addr
  c_NO_NAMES : ∃ u, mg "NO_NAMES" = some u ∧ RelV (.ref aN) u
  tN : ∀ H, SqT K H aN [.str "home", .str "hole", .str "ring", .str "all", .str "none"]
  aE : Addr
  c_ENDS : ∃ u, mg "ENDS" = some u ∧ RelV (.ref aE) u
  tE : ∀ H, SqT K H aE [.str "home", .str "hole"]
/-! ### words, of whole numbers and texts -/
def bitsB (z : Str) : Bool := z.cps.toList.all fun c => decide (c ∈ ("01" : Str).cps.toList)
theorem bitsB_of {z : Str} (h : Bits z) : bitsB z = true := List.all_eq_true.mpr fun c hc => by
  rcases h c hc with rfl | rfl <;> exact decide_eq_true (by decide)
theorem Bits.of {z : Str} (h : bitsB z = true) : Bits z := fun c hc => by
  have := of_decide_eq_true (List.all_eq_true.mp h c hc)
  have h2 : c ∈ [48, 49] := this
  simpa using h2
def Low (z : Str) : Prop := ∀ c ∈ z.cps.toList, c < 128
theorem Bits.low {z : Str} (h : Bits z) : Low z := fun c hc => by
  have := h c hc
  omega
theorem Low.small {z : Str} (h : Low z) : SmallS z := by
  refine Array.all_eq_true_iff_forall_mem.mpr fun c hc => decide_eq_true (h c (by simpa using hc))
@[irreducible] def spI (g : Int → Bool) : Sp := fun vs H Q _ => ∃ n : Int, vs = [.int n] ∧ Q (.bl (g n)) H
@[irreducible] def spT (g : Str → Bool) : Sp := fun vs H Q _ => ∃ z : Str, vs = [.str z] ∧ z.length ≤ 1000 ∧ ∀ H', Same H H' → Q (.bl (g z)) H'
@[irreducible] def spIT (g : Int → Str → Bool) : Sp := fun vs H Q _ => ∃ (n : Int) (z : Str), vs = [.int n, .str z] ∧ 1 ≤ n ∧ n ≤ 100 ∧ z.length ≤ 1000 ∧ ∀ H', Same H H' → Q (.bl (g n z)) H'
@[irreducible] def spCW : Sp := fun vs H Q _ => ∃ n : Int, vs = [.int n] ∧ 1 ≤ n ∧ n ≤ 100 ∧ ∀ H', Same H H' → Q .non H'
/-- a check of a text that is right -/
@[irreducible] def spCT (g : Int → Str → Bool) : Sp := fun vs H Q _ => ∃ (n : Int) (z : Str), vs = [.int n, .str z] ∧ 1 ≤ n ∧ n ≤ 100 ∧ z.length ≤ 1000 ∧ g n z = true ∧ ∀ H', Same H H' → Q .non H'
def cntB (n : Int) : Bool := decide (0 ≤ n)
def widB (n : Int) : Bool := decide (1 ≤ n) && decide (n ≤ 100)
def strB (n : Int) (z : Str) : Bool := bitsB z && decide ((z.length : Int) ≤ n)
def adrB (n : Int) (z : Str) : Bool := bitsB z && decide ((z.length : Int) = n)
section
variable {g : Int → Bool} {gt : Str → Bool} {g2 : Int → Str → Bool} {n : Int} {z : Str} {H : Hp} {Q : VK} {E : XK}
theorem i_go (q : Q (.bl (g n)) H) : spI g [.int n] H Q E := by
  unfold spI
  exact ⟨n, rfl, q⟩
theorem t_go (h : z.length ≤ 1000) (q : ∀ H', Same H H' → Q (.bl (gt z)) H') : spT gt [.str z] H Q E := by
  unfold spT
  exact ⟨z, rfl, h, q⟩
theorem it_go (h0 : 1 ≤ n) (h1 : n ≤ 100) (h : z.length ≤ 1000) (q : ∀ H', Same H H' → Q (.bl (g2 n z)) H') : spIT g2 [.int n, .str z] H Q E := by
  unfold spIT
  exact ⟨n, z, rfl, h0, h1, h, q⟩
theorem cw_go (h0 : 1 ≤ n) (h1 : n ≤ 100) (q : ∀ H', Same H H' → Q .non H') : spCW [.int n] H Q E := by
  unfold spCW
  exact ⟨n, rfl, h0, h1, q⟩
theorem ct_go (h0 : 1 ≤ n) (h1 : n ≤ 100) (h : z.length ≤ 1000) (hg : g2 n z = true) (q : ∀ H', Same H H' → Q .non H') : spCT g2 [.int n, .str z] H Q E := by
  unfold spCT
  exact ⟨n, z, rfl, h0, h1, h, hg, q⟩
end
theorem k_ii : kitB "int" "int" = some true := by decide +kernel
theorem k_ib : kitB "int" "bool" = some false := by decide +kernel
theorem k_ss : kitB "str" "str" = some true := by decide +kernel
section
variable {P : Program} {w : World} {K : PySem.W.Frag} {mg : Str → Option Value} {base : Heap} {f : Addr} {fd : FuncData}
theorem ok_is_count (F : Fun K "is_count" "is_count" s_is_count f fd) (hm : mg "is_count" = some (.ref f)) (T : Txt K mg) : Nm P w K mg base CX0 1 "is_count" s_is_count ["value"] (spI cntB) := by
  refine nm_of F hm sc_is_count (fun vs H Q E h => ?_) fun cdv A outer s H vs Q E hr h => ?_
  · unfold spI at h
    obtain ⟨n, rfl, k⟩ := h
    subst_vars
    rfl
  unfold spI at h
  obtain ⟨n, rfl, k⟩ := h
  refine ⟨_, (pss_one (ps_ret (pe_and (pe_callB (call_isiK' (K := K) rfl) (by rfl) T.b_isinstance (by decide +kernel) (pa_cons (pv 0) (pa_cons (pe_ty "int" (by rfl) T.b_int (by decide +kernel)) pa_nil))) (pe_and (pe_not (pe_callB (call_isiK' (K := K) rfl) (by rfl) T.b_isinstance (by decide +kernel) (pa_cons (pv 0) (pa_cons (pe_ty "bool" (by rfl) T.b_bool (by decide +kernel)) pa_nil)))) (pe_one (pe_cmpR op_ge (pv 0) pe_int (nomark _))))))), ?_⟩
  repeat walk_at "s1"
  refine ⟨_, _, _, _, _, rfl, .ty _, .base (.int _), kit_ty k_ii, ?_⟩
  refine ⟨_, rfl, iteT ?_⟩
  repeat walk_at "s1"
  refine ⟨_, _, _, _, _, rfl, .ty _, .base (.int _), kit_ty k_ib, ?_⟩
  repeat walk_at "s1"
  exact k
theorem ok_is_width (F : Fun K "is_width" "is_width" s_is_width f fd) (hm : mg "is_width" = some (.ref f)) (T : Txt K mg) (C : Cst K mg) (c_is_count : Nm P w K mg base CX0 1 "is_count" s_is_count ["value"] (spI cntB)) : Nm P w K mg base CX0 2 "is_width" s_is_width ["value"] (spI widB) := by
  refine nm_of F hm sc_is_width (fun vs H Q E h => ?_) fun cdv A outer s H vs Q E hr h => ?_
  · unfold spI at h
    obtain ⟨n, rfl, k⟩ := h
    subst_vars
    rfl
  unfold spI at h
  obtain ⟨n, rfl, k⟩ := h
  refine ⟨_, (pss_one (ps_ret (pe_and (pe_g c_is_count hr (by decide) L2.pass0 bp_is_count (by rfl) (pa_cons (pv 0) pa_nil)) (pe_one (pe_chain op_le op_le pe_int (pv 0) (pe_cst (by rfl) C.c_MOST_WIDTH)))))), ?_⟩
  repeat walk_at "s1"
  refine i_go ?_
  refine ⟨_, rfl, ?_⟩
  refine ite2 (fun c => ?_) fun c => ?_
  · repeat walk_at "s1"
    refine ite2 (fun c1 => ?_) fun c1 => ?_
    · repeat walk_at "s1"
      have e : widB n = decide (n ≤ 100) := by show (decide _ && _) = _; rw [c1, Bool.true_and]
      rw [e] at k; exact k
    · have e : widB n = false := by show (decide _ && _) = _; rw [Bool.eq_false_iff.mpr c1, Bool.false_and]
      rw [e] at k; exact k
  · have c' : ¬ 0 ≤ n := fun q => c (decide_eq_true q)
    have e : widB n = false := by show (decide _ && _) = _; rw [decide_eq_false (show ¬ 1 ≤ n by omega)]; rfl
    rw [e] at k; exact k
theorem ok_is_bits (F : Fun K "is_bits" "is_bits" s_is_bits f fd) (hm : mg "is_bits" = some (.ref f)) (T : Txt K mg) : Nm P w K mg base CX0 1 "is_bits" s_is_bits ["value"] (spT bitsB) := by
  refine nm_of F hm sc_is_bits (fun vs H Q E h => ?_) fun cdv A outer s H vs Q E hr h => ?_
  · unfold spT at h
    obtain ⟨z, rfl, hz', k⟩ := h
    subst_vars
    rfl
  unfold spT at h
  obtain ⟨z, rfl, hz', k⟩ := h
  refine ⟨_, (pss_one (ps_ret (pe_and (pe_callB (call_isiK' (K := K) rfl) (by rfl) T.b_isinstance (by decide +kernel) (pa_cons (pv 0) (pa_cons (pe_ty "str" (by rfl) T.b_str (by decide +kernel)) pa_nil))) (pe_one (pe_callB (call_allK (K := K) rfl rfl) (by rfl) T.b_all (by decide +kernel) (pa_cons (pe_lc (own := [("bit", 1)]) (g := (gName 1)) (by rfl) sc_is_bits.nd (pi_str (pv 0)) (blkOk_by (own := [("bit", 1)]) (N := ["value", "bit"]) (sc := defScope s_is_bits) (by decide +kernel)) (fun _ _ _ _ _ => (pg_name (i := 1) sc_is_bits.nd rfl (by first | exact Or.inl rfl | exact Or.inr rfl))) (fun _ _ _ _ _ => pts_nil) (fun _ _ _ _ _ => (pe_cmpR op_in_sign (pv 1) pe_str rfl))) pa_nil)))))), ?_⟩
  repeat walk_at "s1"
  refine ⟨_, _, _, _, _, rfl, .ty _, .base (.str _), kit_ty k_ss, ?_⟩
  refine ⟨_, rfl, iteT ?_⟩
  repeat walk_at "s1"
  rename_i D nD
  have hz : z.cps.size ≤ 1000 := hz'
  refine lc_it walk_str (fun i H1 => H1 D = some (.lst (((z.cps.toList.take i).map fun c => decide (c ∈ ("01" : Str).cps.toList)).map V.bl)) ∧ Same H H1) ⟨upd_same, fun b o e => updn (nonn nD e) e⟩ (fun _ _ _ _ => trivial) ?_ ?_
  · rintro i x H1 H2 hi ⟨hD, sm⟩ ⟨rfl, c, hc, rfl⟩
    refine ⟨rfl, ?_⟩
    dsimp only [tYes]
    rw [if_pos rfl]
    repeat walk_at "s1"
    refine ⟨_, hD, szt (by rw [List.length_map, List.length_map, List.length_take]; omega), ?_, fun b o e => updn (nonn nD e) (sm b o e)⟩
    rw [upd_same, List.take_add_one, Array.getElem?_toList, hc, List.map_append, List.map_append]
    rfl
  · rintro H1 ⟨hD, sm⟩
    rw [List.take_of_length_le (by rw [Array.length_toList]; exact Nat.le_refl _)] at hD
    refine ⟨_, _, rfl, SqL.of hD, ?_⟩
    have hk := k H1 sm
    have e : bitsB z = ((z.cps.toList.map fun c => decide (c ∈ ("01" : Str).cps.toList)).all id) := by rw [List.all_map]; rfl
    rw [e] at hk
    exact hk
theorem ok_check_width (F : Fun K "check_width" "check_width" s_check_width f fd) (hm : mg "check_width" = some (.ref f)) (T : Txt K mg) (c_is_width : Nm P w K mg base CX0 2 "is_width" s_is_width ["value"] (spI widB)) : Nm P w K mg base CX0 3 "check_width" s_check_width ["width"] (spCW) := by
  refine nm_of F hm sc_check_width (fun vs H Q E h => ?_) fun cdv A outer s H vs Q E hr h => ?_
  · unfold spCW at h
    obtain ⟨n, rfl, h0, h1, k⟩ := h
    subst_vars
    rfl
  unfold spCW at h
  obtain ⟨n, rfl, h0, h1, k⟩ := h
  refine ⟨_, (pss_one (ps_if (pt_not (pt_val (pe_g c_is_width hr (by decide) L2.pass0 bp_is_width (by rfl) (pa_cons (pv 0) pa_nil)))) (pss_one ps_never) pss_nil)), ?_⟩
  repeat walk_at "s1"
  refine i_go ?_
  repeat walk_at "s1"
  have e : widB n = true := by show (decide _ && decide _) = true; rw [decide_eq_true h0, decide_eq_true h1]; rfl
  rw [e]
  refine iteF ?_
  exact k H (Same.refl H)
theorem ok_is_stretch (F : Fun K "is_stretch" "is_stretch" s_is_stretch f fd) (hm : mg "is_stretch" = some (.ref f)) (T : Txt K mg) (c_check_width : Nm P w K mg base CX0 3 "check_width" s_check_width ["width"] (spCW)) (c_is_bits : Nm P w K mg base CX0 1 "is_bits" s_is_bits ["value"] (spT bitsB)) : Nm P w K mg base CX0 4 "is_stretch" s_is_stretch ["width", "value"] (spIT strB) := by
  refine nm_of F hm sc_is_stretch (fun vs H Q E h => ?_) fun cdv A outer s H vs Q E hr h => ?_
  · unfold spIT at h
    obtain ⟨n, z, rfl, h0, h1, hz, k⟩ := h
    subst_vars
    rfl
  unfold spIT at h
  obtain ⟨n, z, rfl, h0, h1, hz, k⟩ := h
  refine ⟨_, (pss_cons (ps_expr (pe_g c_check_width hr (by decide) L2.pass0 bp_check_width (by rfl) (pa_cons (pv 0) pa_nil)))
      (pss_one (ps_ret (pe_and (pe_g c_is_bits hr (by decide) L2.pass0 bp_is_bits (by rfl) (pa_cons (pv 1) pa_nil)) (pe_one (pe_cmpR op_le (pe_callB (call_lenK (K := K) rfl) (by rfl) T.b_len PySem.boot_len (pa_cons (pv 1) pa_nil)) (pv 0) (nomark _))))))), ?_⟩
  repeat walk_at "s1"
  refine cw_go h0 h1 fun H1 sm => ?_
  repeat walk_at "s1"
  refine t_go hz fun H2 sm2 => ?_
  have hk := k H2 (sm.trans sm2)
  refine ⟨_, rfl, ?_⟩
  cases c : bitsB z with
  | true =>
    refine iteT ?_
    repeat walk_at "s1"
    have e : strB n z = decide ((z.length : Int) ≤ n) := by show (bitsB _ && _) = _; rw [c]; rfl
    rw [e] at hk
    exact hk
  | false =>
    have e : strB n z = false := by show (bitsB _ && _) = _; rw [c]; rfl
    rw [e] at hk
    exact iteF hk
theorem ok_is_address (F : Fun K "is_address" "is_address" s_is_address f fd) (hm : mg "is_address" = some (.ref f)) (T : Txt K mg) (c_is_stretch : Nm P w K mg base CX0 4 "is_stretch" s_is_stretch ["width", "value"] (spIT strB)) : Nm P w K mg base CX0 5 "is_address" s_is_address ["width", "value"] (spIT adrB) := by
  refine nm_of F hm sc_is_address (fun vs H Q E h => ?_) fun cdv A outer s H vs Q E hr h => ?_
  · unfold spIT at h
    obtain ⟨n, z, rfl, h0, h1, hz, k⟩ := h
    subst_vars
    rfl
  unfold spIT at h
  obtain ⟨n, z, rfl, h0, h1, hz, k⟩ := h
  refine ⟨_, (pss_one (ps_ret (pe_and (pe_g c_is_stretch hr (by decide) L2.pass0 bp_is_stretch (by rfl) (pa_cons (pv 0) (pa_cons (pv 1) pa_nil))) (pe_one (pe_cmpR op_eq (pe_callB (call_lenK (K := K) rfl) (by rfl) T.b_len PySem.boot_len (pa_cons (pv 1) pa_nil)) (pv 0) (nomark _)))))), ?_⟩
  repeat walk_at "s1"
  refine it_go h0 h1 hz fun H2 sm2 => ?_
  have hk := k H2 sm2
  refine ⟨_, rfl, ?_⟩
  cases c : strB n z with
  | true =>
    refine iteT ?_
    repeat walk_at "s1"
    have c' : (bitsB z && decide ((z.length : Int) ≤ n)) = true := c
    have e : adrB n z = decide (V.int (z.length : Int) = V.int n) := by
      show (bitsB z && decide ((z.length : Int) = n)) = _
      rw [Bool.and_eq_true] at c'
      rw [c'.1, Bool.true_and]
      exact decide_eq_decide.mpr ⟨fun q => by rw [q], fun q => V.int.inj q⟩
    rw [e] at hk
    exact hk
  | false =>
    have e : adrB n z = false := by
      have c' : (bitsB z && decide ((z.length : Int) ≤ n)) = false := c
      show (bitsB z && decide ((z.length : Int) = n)) = false
      cases b : bitsB z with
      | false => rfl
      | true =>
        rw [b, Bool.true_and] at c'
        have := of_decide_eq_false c'
        rw [Bool.true_and]
        exact decide_eq_false (by omega)
    rw [e] at hk
    exact iteF hk
theorem ok_check_stretch (F : Fun K "check_stretch" "check_stretch" s_check_stretch f fd) (hm : mg "check_stretch" = some (.ref f)) (T : Txt K mg) (c_is_stretch : Nm P w K mg base CX0 4 "is_stretch" s_is_stretch ["width", "value"] (spIT strB)) : Nm P w K mg base CX0 5 "check_stretch" s_check_stretch ["width", "stretch"] (spCT strB) := by
  refine nm_of F hm sc_check_stretch (fun vs H Q E h => ?_) fun cdv A outer s H vs Q E hr h => ?_
  · unfold spCT at h
    obtain ⟨n, z, rfl, h0, h1, hz, hg, k⟩ := h
    subst_vars
    rfl
  unfold spCT at h
  obtain ⟨n, z, rfl, h0, h1, hz, hg, k⟩ := h
  refine ⟨_, (pss_one (ps_if (pt_not (pt_val (pe_g c_is_stretch hr (by decide) L2.pass0 bp_is_stretch (by rfl) (pa_cons (pv 0) (pa_cons (pv 1) pa_nil))))) (pss_one ps_never) pss_nil)), ?_⟩
  repeat walk_at "s1"
  refine it_go h0 h1 hz fun H2 sm2 => ?_
  repeat walk_at "s1"
  rw [hg]
  refine iteF ?_
  exact k H2 sm2
theorem ok_check_address (F : Fun K "check_address" "check_address" s_check_address f fd) (hm : mg "check_address" = some (.ref f)) (T : Txt K mg) (c_is_address : Nm P w K mg base CX0 5 "is_address" s_is_address ["width", "value"] (spIT adrB)) : Nm P w K mg base CX0 6 "check_address" s_check_address ["width", "address"] (spCT adrB) := by
  refine nm_of F hm sc_check_address (fun vs H Q E h => ?_) fun cdv A outer s H vs Q E hr h => ?_
  · unfold spCT at h
    obtain ⟨n, z, rfl, h0, h1, hz, hg, k⟩ := h
    subst_vars
    rfl
  unfold spCT at h
  obtain ⟨n, z, rfl, h0, h1, hz, hg, k⟩ := h
  refine ⟨_, (pss_one (ps_if (pt_not (pt_val (pe_g c_is_address hr (by decide) L2.pass0 bp_is_address (by rfl) (pa_cons (pv 0) (pa_cons (pv 1) pa_nil))))) (pss_one ps_never) pss_nil)), ?_⟩
  repeat walk_at "s1"
  refine it_go h0 h1 hz fun H2 sm2 => ?_
  repeat walk_at "s1"
  rw [hg]
  refine iteF ?_
  exact k H2 sm2
end
/-! ### names and goals, of texts -/
def nameB (z : Str) : Bool := decide (1 ≤ (z.length : Int)) && decide ((z.length : Int) ≤ 6) && !inV (.str z) [.str "home", .str "hole", .str "ring", .str "all", .str "none"] && z.cps.toList.all fun c => decide (c ∈ ("abcdefghijklmnopqrstuvwxyz" : Str).cps.toList)
def goalB (z : Str) : Bool := nameB z || inV (.str z) [.str "home", .str "hole"]
section
variable {P : Program} {w : World} {K : PySem.W.Frag} {mg : Str → Option Value} {base : Heap} {f : Addr} {fd : FuncData}
theorem ok_is_name (F : Fun K "is_name" "is_name" s_is_name f fd) (hm : mg "is_name" = some (.ref f)) (T : Txt K mg) (C : Cst K mg) : Nm P w K mg base CX0 1 "is_name" s_is_name ["value"] (spT nameB) := by
  refine nm_of F hm sc_is_name (fun vs H Q E h => ?_) fun cdv A outer s H vs Q E hr h => ?_
  · unfold spT at h
    obtain ⟨z, rfl, hz0, k⟩ := h
    subst_vars
    rfl
  unfold spT at h
  obtain ⟨z, rfl, hz0, k⟩ := h
  refine ⟨_, (pss_cons (ps_if (PW.pt (pw_or (pt_not (pt_val (pe_callB (call_isiK' (K := K) rfl) (by rfl) T.b_isinstance (by decide +kernel) (pa_cons (pv 0) (pa_cons (pe_ty "str" (by rfl) T.b_str (by decide +kernel)) pa_nil))))) (pw_or1 (pt_not (pt_chain op_le op_le pe_int (pe_callB (call_lenK (K := K) rfl) (by rfl) T.b_len PySem.boot_len (pa_cons (pv 0) pa_nil)) (pe_cst (by rfl) C.c_MOST_LETTERS)))))) (pss_one (ps_ret pe_bl)) pss_nil)
      (pss_one (ps_ret (pe_and (pe_cmpR (op_notInK (K := K) rfl) (pv 0) (pe_cst (by rfl) C.c_NO_NAMES) rfl) (pe_one (pe_callB (call_allK (K := K) rfl rfl) (by rfl) T.b_all (by decide +kernel) (pa_cons (pe_lc (own := [("letter", 1)]) (g := (gName 1)) (by rfl) sc_is_name.nd (pi_str (pv 0)) (blkOk_by (own := [("letter", 1)]) (N := ["value", "letter"]) (sc := defScope s_is_name) (by decide +kernel)) (fun _ _ _ _ _ => (pg_name (i := 1) sc_is_name.nd rfl (by first | exact Or.inl rfl | exact Or.inr rfl))) (fun _ _ _ _ _ => pts_nil) (fun _ _ _ _ _ => (pe_cmpR op_in_sign (pv 1) (pe_cst (by rfl) C.c_LETTERS) rfl))) pa_nil))))))), ?_⟩
  repeat walk_at "s1"
  refine ⟨_, _, _, _, _, rfl, .ty _, .base (.str _), kit_ty k_ss, ?_⟩
  refine ⟨_, rfl, ?_⟩
  refine iteF ?_
  repeat walk_at "s1"
  refine ite2 (fun c1 => ?_) fun c1 => ?_
  · have c1' := of_decide_eq_true c1
    repeat walk_at "s1"
    by_cases c2 : (z.length : Int) ≤ 6
    · rw [decide_eq_true c2]
      refine iteF ?_
      repeat walk_at "s1"
      refine ⟨_, _, rfl, Or.inr (C.tN _), rfl, rfl, ?_⟩
      refine ⟨_, rfl, ?_⟩
      cases c3 : inV (V.str z) [.str "home", .str "hole", .str "ring", .str "all", .str "none"] with
      | true =>
        refine iteF ?_
        have hk := k H (Same.refl H)
        have e : nameB z = false := by
          show (decide _ && decide _ && !inV _ _ && _) = false
          rw [c3]
          simp
        rw [e] at hk
        exact hk
      | false =>
        refine iteT ?_
        repeat walk_at "s1"
        rename_i D nD
        have hz' : z.cps.size ≤ 1000 := hz0
        refine lc_it walk_str (fun i H1 => H1 D = some (.lst (((z.cps.toList.take i).map fun c => decide (c ∈ ("abcdefghijklmnopqrstuvwxyz" : Str).cps.toList)).map V.bl)) ∧ Same H H1) ⟨upd_same, fun b o e => updn (nonn nD e) e⟩ (fun _ _ _ _ => trivial) ?_ ?_
        · rintro i x H1 H2 hi ⟨hD, sm⟩ ⟨rfl, c, hc, rfl⟩
          refine ⟨rfl, ?_⟩
          dsimp only [tYes]
          rw [if_pos rfl]
          repeat walk_at "s1"
          refine ⟨_, hD, szt (by rw [List.length_map, List.length_map, List.length_take]; omega), ?_, fun b o e => updn (nonn nD e) (sm b o e)⟩
          rw [upd_same, List.take_add_one, Array.getElem?_toList, hc, List.map_append, List.map_append]
          rfl
        · rintro H1 ⟨hD, sm⟩
          rw [List.take_of_length_le (by rw [Array.length_toList]; exact Nat.le_refl _)] at hD
          refine ⟨_, _, rfl, SqL.of hD, ?_⟩
          have hk := k H1 sm
          have e : nameB z = ((z.cps.toList.map fun c => decide (c ∈ ("abcdefghijklmnopqrstuvwxyz" : Str).cps.toList)).all id) := by
            show (decide _ && decide _ && !inV _ _ && _) = _
            rw [c3, decide_eq_true c1', decide_eq_true c2, List.all_map]
            rfl
          rw [e] at hk
          exact hk
    · rw [decide_eq_false c2]
      refine iteT ?_
      have hk := k H (Same.refl H)
      have e : nameB z = false := by
        show (decide _ && decide _ && !inV _ _ && _) = false
        rw [decide_eq_false c2]
        simp
      rw [e] at hk
      exact hk
  · repeat walk_at "s1"
    refine iteT ?_
    have hk := k H (Same.refl H)
    have e : nameB z = false := by
      show (decide (1 ≤ (z.length : Int)) && decide _ && !inV _ _ && _) = false
      rw [Bool.eq_false_iff.mpr c1]
      simp
    rw [e] at hk
    exact hk
theorem ok_is_goal (F : Fun K "is_goal" "is_goal" s_is_goal f fd) (hm : mg "is_goal" = some (.ref f)) (T : Txt K mg) (C : Cst K mg) (c_is_name : Nm P w K mg base CX0 1 "is_name" s_is_name ["value"] (spT nameB)) : Nm P w K mg base CX0 2 "is_goal" s_is_goal ["value"] (spT goalB) := by
  refine nm_of F hm sc_is_goal (fun vs H Q E h => ?_) fun cdv A outer s H vs Q E hr h => ?_
  · unfold spT at h
    obtain ⟨z, rfl, hz, k⟩ := h
    subst_vars
    rfl
  unfold spT at h
  obtain ⟨z, rfl, hz, k⟩ := h
  refine ⟨_, (pss_one (ps_ret (pe_or (pe_g c_is_name hr (by decide) L2.pass0 bp_is_name (by rfl) (pa_cons (pv 0) pa_nil)) (pe_one (pe_and (pe_callB (call_isiK' (K := K) rfl) (by rfl) T.b_isinstance (by decide +kernel) (pa_cons (pv 0) (pa_cons (pe_ty "str" (by rfl) T.b_str (by decide +kernel)) pa_nil))) (pe_one (pe_cmpR (op_inK (K := K) rfl) (pv 0) (pe_cst (by rfl) C.c_ENDS) rfl))))))), ?_⟩
  repeat walk_at "s1"
  refine t_go hz fun H1 sm => ?_
  refine ⟨_, rfl, ?_⟩
  have hk := k H1 sm
  cases c : nameB z with
  | true =>
    refine iteT ?_
    have e : goalB z = true := by show (nameB _ || _) = true; rw [c]; rfl
    rw [e] at hk
    exact hk
  | false =>
    refine iteF ?_
    repeat walk_at "s1"
    refine ⟨_, _, _, _, _, rfl, .ty _, .base (.str _), kit_ty k_ss, ?_⟩
    refine ⟨_, rfl, ?_⟩
    refine iteT ?_
    repeat walk_at "s1"
    refine ⟨_, _, rfl, Or.inr (C.tE _), rfl, rfl, ?_⟩
    have e : goalB z = inV (V.str z) [.str "home", .str "hole"] := by show (nameB _ || _) = _; rw [c]; rfl
    rw [e] at hk
    exact hk
end
open PySem PySem.Spec PyProof.Rows
open L2 hiding pass0
/-! ### stretches -/
def sx (t : List Nat) : V := .str (SX.S t)
theorem sx_bits {t : List Nat} (h : M.BL t) : Bits (SX.S t) := fun c hc => h c (by rw [SX.S] at hc; simpa using hc)
theorem sx_len (t : List Nat) : (SX.S t).length = t.length := SX.S_len t
theorem tl_S (t : List Nat) : (SX.S t).cps.toList = t := by unfold SX.S; simp
theorem S_inj {a b : List Nat} (h : SX.S a = SX.S b) : a = b := by
  have := congrArg (fun z : Str => z.cps.toList) h
  rwa [tl_S, tl_S] at this
/-- a list or a tuple of stretches -/
def ArgAt (H : Hp) (a : Addr) (ts : List (List Nat)) : Prop := H a = some (.lst (ts.map sx)) ∨ H a = some (.tup (ts.map sx))
def Fits (n : Nat) (ts : List (List Nat)) : Prop := ∀ t ∈ ts, M.BL t ∧ t.length ≤ n
theorem ArgAt.same {H H' : Hp} {a : Addr} {ts : List (List Nat)} (h : ArgAt H a ts) (s : Same H H') : ArgAt H' a ts := h.elim (fun e => .inl (s _ _ e)) fun e => .inr (s _ _ e)
@[irreducible] def spCS : Sp := fun vs H Q _ => ∃ (n : Nat) (a : Addr) (ts : List (List Nat)), vs = [.int n, .ref a] ∧ 1 ≤ n ∧ n ≤ 100 ∧ ArgAt H a ts ∧ Fits n ts ∧ ∀ H', Same H H' → Q .non H'
@[irreducible] def spNum : Sp := fun vs H Q _ => ∃ (n : Nat) (t : List Nat), vs = [.int n, sx t] ∧ 1 ≤ n ∧ n ≤ 100 ∧ M.BL t ∧ t.length ≤ n ∧ ∀ H', Same H H' → Q (.int ((M.size n t : Nat) : Int)) H'
@[irreducible] def spFirst : Sp := fun vs H Q _ => ∃ (n : Nat) (t : List Nat), vs = [.int n, sx t] ∧ 1 ≤ n ∧ n ≤ 100 ∧ M.BL t ∧ t.length ≤ n ∧ ∀ H', Same H H' → Q (sx (t ++ List.replicate (n - t.length) 48)) H'
theorem cs_go {n : Nat} {a : Addr} {ts : List (List Nat)} {H : Hp} {Q : VK} {E : XK} (h0 : 1 ≤ n) (h1 : n ≤ 100) (ha : ArgAt H a ts) (hf : Fits n ts) (k : ∀ H', Same H H' → Q .non H') : spCS [.int n, .ref a] H Q E := by
  unfold spCS
  exact ⟨n, a, ts, rfl, h0, h1, ha, hf, k⟩
theorem num_go {n : Nat} {t : List Nat} {H : Hp} {Q : VK} {E : XK} (h0 : 1 ≤ n) (h1 : n ≤ 100) (hb : M.BL t) (hl : t.length ≤ n) (k : ∀ H', Same H H' → Q (.int ((M.size n t : Nat) : Int)) H') : spNum [.int n, sx t] H Q E := by
  unfold spNum
  exact ⟨n, t, rfl, h0, h1, hb, hl, k⟩
theorem first_go {n : Nat} {t : List Nat} {H : Hp} {Q : VK} {E : XK} (h0 : 1 ≤ n) (h1 : n ≤ 100) (hb : M.BL t) (hl : t.length ≤ n) (k : ∀ H', Same H H' → Q (sx (t ++ List.replicate (n - t.length) 48)) H') : spFirst [.int n, sx t] H Q E := by
  unfold spFirst
  exact ⟨n, t, rfl, h0, h1, hb, hl, k⟩
theorem str_ok {n : Nat} {t : List Nat} (hb : M.BL t) (hl : t.length ≤ n) : strB n (SX.S t) = true := by
  show (bitsB _ && decide (((SX.S t).length : Int) ≤ n)) = true
  rw [bitsB_of (sx_bits hb), sx_len, decide_eq_true (by omega)]
  rfl
theorem lj_eq {n : Nat} {t : List Nat} (hl : t.length ≤ n) : Txt.ljustF (SX.S t) (n : Int) 48 = SX.S (t ++ List.replicate (n - t.length) 48) := by
  unfold Txt.ljustF
  rw [sx_len]
  split
  · rename_i h
    have : n - t.length = 0 := by omega
    rw [this, List.replicate_zero, List.append_nil]
  · rw [Int.toNat_natCast]
    unfold PySem.Builtin.Str.padded SX.S
    simp
theorem pad_ok {n : Nat} (h : n ≤ 100) : PadOk (n : Int) = true := by
  have : ∀ m : Fin 101, PadOk ((m.val : Nat) : Int) = true := by decide +kernel
  exact this ⟨n, by omega⟩
section
variable {P : Program} {w : World} {K : PySem.W.Frag} {mg : Str → Option Value} {base : Heap} {f : Addr} {fd : FuncData}
theorem ok_check_stretches (F : Fun K "check_stretches" "check_stretches" s_check_stretches f fd) (hm : mg "check_stretches" = some (.ref f)) (T : Txt K mg) (c_check_width : Nm P w K mg base CX0 3 "check_width" s_check_width ["width"] (spCW)) (c_is_stretch : Nm P w K mg base CX0 4 "is_stretch" s_is_stretch ["width", "value"] (spIT strB)) : Nm P w K mg base CX0 5 "check_stretches" s_check_stretches ["width", "stretches"] (spCS) := by
  refine nm_of0 F hm sc_check_stretches (fun vs H Q E h => ?_) fun cdv A outer s H vs Q E hr h => ?_
  · unfold spCS at h
    obtain ⟨n, a, ts, rfl, h0, h1, ha, hf, k⟩ := h
    subst_vars
    rfl
  unfold spCS at h
  obtain ⟨n, a, ts, rfl, h0, h1, ha, hf, k⟩ := h
  refine ⟨_, (pss_cons (ps_expr (pe_g c_check_width hr (by decide) L2.pass0 bp_check_width (by rfl) (pa_cons (pv 0) pa_nil)))
      (pss_cons (ps_if (pt_not (pt_val (pe_callB call_isiT (by rfl) T.b_isinstance (by decide +kernel) (pa_cons (pv 1) (pa_cons (pe_tup (pa_cons (pe_ty "list" (by rfl) T.b_list (by decide +kernel)) (pa_cons (pe_ty "tuple" (by rfl) T.b_tuple (by decide +kernel)) pa_nil))) pa_nil))))) (pss_one ps_never) pss_nil)
      (pss_one (ps_for PassesOwn.never rfl (pi_enumA (by rfl) T.b_enumerate (pa_cons (pv 1) pa_nil)) (pg_tup (by rfl) (pgs_cons (pg_name (i := 2) sc_check_stretches.nd rfl (by first | exact Or.inl rfl | exact Or.inr rfl)) (pgs_cons (pg_name (i := 3) sc_check_stretches.nd rfl (by first | exact Or.inl rfl | exact Or.inr rfl)) pgs_nil))) (pss_one (ps_if (pt_not (pt_val (pe_g c_is_stretch hr (by decide) L2.pass0 bp_is_stretch (by rfl) (pa_cons (pv 0) (pa_cons (pv 3) pa_nil))))) (pss_one ps_never) pss_nil)))))), ?_⟩
  repeat walk_at "s1"
  refine cw_go (by omega) (by omega) fun H1 sm1 => ?_
  have ha1 := ha.same sm1
  refine ⟨_, rfl, ?_⟩
  refine ⟨szl (by show 2 ≤ 1000000; decide), fun T nT => ?_⟩
  have e2 : kitB "tuple" "list" = some false := by decide +kernel
  have e3 : kitB "tuple" "tuple" = some true := by decide +kernel
  have e1 : kitB "list" "list" = some true := by decide +kernel
  have ty : ∃ t, TyX K (upd H1 T (.tup [.ty "list", .ty "tuple"])) (.ref a) t ∧ PySem.W.kitAny K t [.type "list", .type "tuple"] = some true := by
    rcases ha1 with e | e
    · exact ⟨_, .base (.lst (updn (nonn nT e) e)), kitAny_cons (kit_ty e1) (fun z => nomatch z) fun _ => rfl⟩
    · exact ⟨_, .base (.tup (updn (nonn nT e) e)), kitAny_cons (kit_ty e2) (fun _ => kitAny_cons (kit_ty e3) (fun z => nomatch z) fun _ => rfl) fun z => nomatch z⟩
  obtain ⟨ty, hty, hk⟩ := ty
  refine ⟨_, T, _, ty, _, true, rfl, upd_same, .cons (.ty _) (.cons (.ty _) .nil), hty, hk, ?_⟩
  refine ⟨_, rfl, ?_⟩
  refine iteF ?_
  have sm2 : Same H (upd H1 T (.tup [.ty "list", .ty "tuple"])) := fun b o e => updn (nonn nT (sm1 b o e)) (sm1 b o e)
  generalize upd H1 T (.tup [.ty "list", .ty "tuple"]) = H2 at sm2 ⊢
  clear hty hk nT ha1
  have ha2 := ha.same sm2
  refine ⟨_, rfl, ?_⟩
  rcases ha2 with e | e
  · refine ⟨a, ts.map sx, rfl, .inl ⟨SqL.of e, ?_⟩⟩
    refine for_it (walk_enum (xs := ts.map sx)) (fun i σ' H' => ∃ x2 x3, σ' = [some (.int n), some (.ref a), x2, x3] ∧ Same H2 H') ⟨_, _, rfl, Same.refl H2⟩ (fun i σ' H' _ h => let ⟨_, _, _, s⟩ := h; SqL.of (s _ _ e)) ?_ ?_
    · rintro i x σ' H3 H4 hi ⟨x2, x3, rfl, sm⟩ ⟨T2, y, z, rfl, nT2, rfl, e5, e6⟩
      obtain rfl : y = .int (i : Nat) := (Option.some.inj e5).symm
      obtain ⟨t, ht, rfl⟩ : ∃ t, ts[i]? = some t ∧ z = sx t := by
        dsimp only at e6
        rw [List.getElem?_map] at e6
        cases q : ts[i]? with
        | none => rw [q] at e6; cases e6
        | some t => rw [q] at e6; exact ⟨t, rfl, (Option.some.inj e6).symm⟩
      obtain ⟨hb, hl⟩ := hf t (List.mem_of_getElem? ht)
      have sm3 : Same H2 (upd H3 T2 (.tup [.int (i : Nat), sx t])) := fun b o q => updn (nonn nT2 (sm b o q)) (sm b o q)
      refine ⟨T2, [.int (i : Nat), sx t], rfl, SqT.of upd_same, rfl, ?_⟩
      refine ⟨_, _, rfl, ?_⟩
      refine ⟨_, _, rfl, ?_⟩
      refine ⟨rfl, ?_⟩
      refine ⟨_, rfl, ?_⟩
      refine ⟨_, rfl, ?_⟩
      refine it_go (by omega) (by omega) (by rw [sx_len]; omega) fun H5 sm5 => ?_
      rw [str_ok hb hl]
      refine ⟨_, rfl, iteF ?_⟩
      exact ⟨_, _, rfl, fun b o q => sm5 b o (sm3 b o q)⟩
    · rintro σ' H3 ⟨x2, x3, rfl, sm⟩
      exact k _ fun b o q => sm b o (sm2 b o q)
  · refine ⟨a, ts.map sx, rfl, .inr ⟨SqT.of e, ?_⟩⟩
    refine for_it (walk_enumT (xs := ts.map sx)) (fun i σ' H' => ∃ x2 x3, σ' = [some (.int n), some (.ref a), x2, x3] ∧ Same H2 H') ⟨_, _, rfl, Same.refl H2⟩ (fun i σ' H' _ h => let ⟨_, _, _, s⟩ := h; SqT.of (s _ _ e)) ?_ ?_
    · rintro i x σ' H3 H4 hi ⟨x2, x3, rfl, sm⟩ ⟨T2, y, z, rfl, nT2, rfl, e5, e6⟩
      obtain rfl : y = .int (i : Nat) := (Option.some.inj e5).symm
      obtain ⟨t, ht, rfl⟩ : ∃ t, ts[i]? = some t ∧ z = sx t := by
        dsimp only at e6
        rw [List.getElem?_map] at e6
        cases q : ts[i]? with
        | none => rw [q] at e6; cases e6
        | some t => rw [q] at e6; exact ⟨t, rfl, (Option.some.inj e6).symm⟩
      obtain ⟨hb, hl⟩ := hf t (List.mem_of_getElem? ht)
      have sm3 : Same H2 (upd H3 T2 (.tup [.int (i : Nat), sx t])) := fun b o q => updn (nonn nT2 (sm b o q)) (sm b o q)
      refine ⟨T2, [.int (i : Nat), sx t], rfl, SqT.of upd_same, rfl, ?_⟩
      refine ⟨_, _, rfl, ?_⟩
      refine ⟨_, _, rfl, ?_⟩
      refine ⟨rfl, ?_⟩
      refine ⟨_, rfl, ?_⟩
      refine ⟨_, rfl, ?_⟩
      refine it_go (by omega) (by omega) (by rw [sx_len]; omega) fun H5 sm5 => ?_
      rw [str_ok hb hl]
      refine ⟨_, rfl, iteF ?_⟩
      exact ⟨_, _, rfl, fun b o q => sm5 b o (sm3 b o q)⟩
    · rintro σ' H3 ⟨x2, x3, rfl, sm⟩
      exact k _ fun b o q => sm b o (sm2 b o q)
theorem ok_number (F : Fun K "number" "number" s_number f fd) (hm : mg "number" = some (.ref f)) (T : Txt K mg) (c_check_stretch : Nm P w K mg base CX0 5 "check_stretch" s_check_stretch ["width", "stretch"] (spCT strB)) : Nm P w K mg base CX0 6 "number" s_number ["width", "stretch"] (spNum) := by
  refine nm_of0 F hm sc_number (fun vs H Q E h => ?_) fun cdv A outer s H vs Q E hr h => ?_
  · unfold spNum at h
    obtain ⟨n, t, rfl, h0, h1, hb, hl, k⟩ := h
    subst_vars
    rfl
  unfold spNum at h
  obtain ⟨n, t, rfl, h0, h1, hb, hl, k⟩ := h
  refine ⟨_, (pss_cons (ps_expr (pe_g c_check_stretch hr (by decide) L2.pass0 bp_check_stretch (by rfl) (pa_cons (pv 0) (pa_cons (pv 1) pa_nil))))
      (pss_cons (ps_set (i := 2) sc_number.nd rfl (by first | exact Or.inl rfl | exact Or.inr rfl) pe_int)
      (pss_cons (ps_for PassesOwn.never rfl (pi_range1 (by rfl) T.b_range (pa_cons (pe_op op_sub (pv 0) (pe_callB (call_lenK (K := K) rfl) (by rfl) T.b_len PySem.boot_len (pa_cons (pv 1) pa_nil))) pa_nil)) (pg_name (i := 3) sc_number.nd rfl (by first | exact Or.inl rfl | exact Or.inr rfl)) (pss_one (ps_set (i := 2) sc_number.nd rfl (by first | exact Or.inl rfl | exact Or.inr rfl) (pe_op op_mul (pv 2) pe_int))))
      (pss_one (ps_ret (pv 2)))))), ?_⟩
  refine ⟨_, rfl, ?_⟩
  refine ⟨_, rfl, ?_⟩
  refine ct_go (by omega) (by omega) (by rw [sx_len]; omega) (str_ok hb hl) fun H1 sm1 => ?_
  refine ⟨_, rfl, ⟨_, rfl, ⟨_, _, rfl, ⟨szl (by rw [sx_len]; omega), rfl⟩, ⟨_, _, rfl, rfl, ?_⟩⟩⟩⟩
  have en : ((n : Int) - ((SX.S t).length : Int)).toNat = n - t.length := by rw [sx_len]; omega
  refine ⟨_, rfl, by rw [sx_len]; omega, by omega, ?_⟩
  rw [en]
  refine for_it walk_range (fun i σ' H' => ∃ x3, σ' = [some (.int n), some (sx t), some (.int ((2 ^ i : Nat) : Int)), x3] ∧ H' = H1) ⟨_, rfl, rfl⟩ (fun _ _ _ _ _ => trivial) ?_ ?_
  · rintro i x σ' H2 H3 hi ⟨x3, rfl, rfl⟩ ⟨rfl, rfl⟩
    refine ⟨_, rfl, ?_⟩
    refine ⟨_, _, rfl, rfl, .inr ⟨by decide, by decide⟩, ?_⟩
    rw [Nat.pow_succ, Int.natCast_mul]
    exact ⟨_, rfl, rfl⟩
  · rintro σ' H2 ⟨x3, rfl, rfl⟩
    refine ⟨_, rfl, ?_⟩
    exact k _ sm1
theorem ok_first (F : Fun K "first" "first" s_first f fd) (hm : mg "first" = some (.ref f)) (T : Txt K mg) (c_check_stretch : Nm P w K mg base CX0 5 "check_stretch" s_check_stretch ["width", "stretch"] (spCT strB)) : Nm P w K mg base CX0 6 "first" s_first ["width", "stretch"] (spFirst) := by
  refine nm_of F hm sc_first (fun vs H Q E h => ?_) fun cdv A outer s H vs Q E hr h => ?_
  · unfold spFirst at h
    obtain ⟨n, t, rfl, h0, h1, hb, hl, k⟩ := h
    subst_vars
    rfl
  unfold spFirst at h
  obtain ⟨n, t, rfl, h0, h1, hb, hl, k⟩ := h
  refine ⟨_, (pss_cons (ps_expr (pe_g c_check_stretch hr (by decide) L2.pass0 bp_check_stretch (by rfl) (pa_cons (pv 0) (pa_cons (pv 1) pa_nil))))
      (pss_one (ps_ret (pe_bm PySem.F.plainAttrs_str PySem.F.slot_str_ljust PySem.F.type_str_ljust mt_ljust2 (pv 1) (pa_cons (pv 0) (pa_cons pe_str pa_nil)))))), ?_⟩
  refine ⟨_, rfl, ?_⟩
  refine ⟨_, rfl, ?_⟩
  refine ct_go (by omega) (by omega) (by rw [sx_len]; omega) (str_ok hb hl) fun H1 sm1 => ?_
  refine ⟨_, rfl, ?_⟩
  have hp : PadOk (n : Int) = true := pad_ok h1
  refine ⟨rfl, ⟨_, rfl, ⟨SX.S t, n, "0", rfl, rfl, hp, rfl, ?_⟩⟩⟩
  have hk := k _ sm1
  unfold sx at hk
  rw [← lj_eq hl] at hk
  exact hk
end
open PySem PySem.Spec PyProof.Rows
open L2 hiding pass0
abbrev s_longest_beginning : Stmt := top 37
theorem sc_longest_beginning : FnScope ["known", "bits", "length"] ["known", "bits"] (defScope s_longest_beginning) := ⟨rfl, rfl, rfl, by decide +kernel, rfl, by decide +kernel, by decide +kernel⟩
theorem bp_longest_beginning : BndP "longest_beginning" s_longest_beginning ["known", "bits"] := fun _ _ _ _ _ _ us h => match us, h with | [_, _], _ => rfl
abbrev s_with_all : Stmt := top 38
theorem sc_with_all : FnScope ["stretches", "stretch"] ["stretches"] (defScope s_with_all) := ⟨rfl, rfl, rfl, by decide +kernel, rfl, by decide +kernel, by decide +kernel⟩
theorem bp_with_all : BndP "_with_all" s_with_all ["stretches"] := fun _ _ _ _ _ _ us h => match us, h with | [_], _ => rfl
/-! ### dicts of stretches -/
def skey (t : List Nat) : Key := Sum.inr (SX.S t)
theorem skey_inj {a b : List Nat} (h : skey a = skey b) : a = b := S_inj (Sum.inr.inj h)
def fd (ks : List (List Nat)) (g : List Nat → V) : List (Key × V) := ks.map fun t => (skey t, g t)
theorem fd_len (ks : List (List Nat)) (g : List Nat → V) : (fd ks g).length = ks.length := List.length_map ..
theorem fd_keys (ks : List (List Nat)) (g : List Nat → V) : (fd ks g).map (·.1) = (ks.map SX.S).map Sum.inr := by
  unfold fd
  rw [List.map_map, List.map_map]
  rfl
theorem fd_get (ks : List (List Nat)) (g : List Nat → V) (i : Nat) : (fd ks g)[i]? = (ks[i]?).map fun t => (skey t, g t) := List.getElem?_map ..
theorem fd_val {ks : List (List Nat)} {g : List Nat → V} {t : List Nat} : valV (fd ks g) (skey t) = if t ∈ ks then some (g t) else none := by
  induction ks with
  | nil => rfl
  | cons s ks ih =>
    show valV ((skey s, g s) :: fd ks g) (skey t) = _
    by_cases e : s = t
    · subst e
      rw [valV_pos rfl, if_pos (List.mem_cons_self ..)]
    · rw [valV_neg (fun q => e (skey_inj q)), ih]
      by_cases m : t ∈ ks
      · rw [if_pos m, if_pos (List.mem_cons_of_mem _ m)]
      · rw [if_neg m, if_neg (fun q => (List.mem_cons.mp q).elim (fun q => e q.symm) m)]
theorem fd_has {ks : List (List Nat)} {g : List Nat → V} {t : List Nat} : (valV (fd ks g) (skey t)).isSome = decide (t ∈ ks) := by
  rw [fd_val]
  by_cases m : t ∈ ks <;> simp [m]
theorem fd_congr {ks : List (List Nat)} {g g' : List Nat → V} (h : ∀ t ∈ ks, g t = g' t) : fd ks g = fd ks g' := List.map_congr_left fun t ht => by rw [h t ht]
def fup {α : Type} (g : List Nat → α) (t : List Nat) (v : α) : List Nat → α := fun x => if x = t then v else g x
theorem fup_at {α : Type} {g : List Nat → α} {t : List Nat} {v : α} : fup g t v t = v := if_pos rfl
theorem fup_ne {α : Type} {g : List Nat → α} {t x : List Nat} {v : α} (h : x ≠ t) : fup g t v x = g x := if_neg h
theorem fd_any {ks : List (List Nat)} {g : List Nat → V} {t : List Nat} : ((fd ks g).any fun kv => decide (kv.1 = skey t)) = decide (t ∈ ks) := by
  rw [valV_any, fd_has]
theorem fd_put {ks : List (List Nat)} {g : List Nat → V} {t : List Nat} {v : V} : putK (fd ks g) (skey t) v = fd (if t ∈ ks then ks else ks ++ [t]) (fup g t v) := by
  unfold putK
  rw [fd_any]
  by_cases m : t ∈ ks
  · rw [decide_eq_true m, if_pos rfl, if_pos m]
    unfold fd
    rw [List.map_map]
    refine List.map_congr_left fun s hs => ?_
    show (if skey s = skey t then (skey s, v) else (skey s, g s)) = _
    by_cases e : s = t
    · rw [if_pos (by rw [e]), e, fup_at]
    · rw [if_neg (fun q => e (skey_inj q)), fup_ne e]
  · rw [decide_eq_false m, if_neg Bool.false_ne_true, if_neg m]
    unfold fd
    rw [List.map_append]
    show _ = _ ++ [(skey t, fup g t v t)]
    rw [fup_at]
    congr 1
    exact List.map_congr_left fun s hs => by rw [fup_ne (fun q : s = t => m (q ▸ hs))]
/-! ### the longest beginning -/
@[irreducible] def spLB : Sp := fun vs H Q _ => ∃ (D : Addr) (ks : List (List Nat)) (g : List Nat → V) (a : List Nat), vs = [.ref D, sx a] ∧ Rd H D (.dK (fd ks g)) ∧ [] ∈ ks ∧ a.length ≤ 1000 ∧ ∀ H', Same H H' → Q (sx (M.lg ks a)) H'
theorem lb_go {D : Addr} {ks : List (List Nat)} {g : List Nat → V} {a : List Nat} {H : Hp} {Q : VK} {E : XK} (hD : Rd H D (.dK (fd ks g))) (h0 : [] ∈ ks) (hl : a.length ≤ 1000) (k : ∀ H', Same H H' → Q (sx (M.lg ks a)) H') : spLB [.ref D, sx a] H Q E := by
  unfold spLB
  exact ⟨D, ks, g, a, rfl, hD, h0, hl, k⟩
theorem cut_S (t : List Nat) {d : Int} {k : Nat} (h : d = k) : cutS (SX.S t) none (some d) = SX.S (t.take k) := by
  subst h
  show SX.S _ = SX.S _
  refine congrArg SX.S ?_
  show ((SX.S t).cps.toList.drop 0).take (HT.sIx (SX.S t).length (SX.S t).length (some (k : Int)) - 0) = t.take k
  rw [HT.sIx_nat, List.drop_zero, Nat.sub_zero, tl_S, sx_len]
  by_cases c : k ≤ t.length
  · rw [Nat.min_eq_left c]
  · rw [List.take_of_length_le (by omega), List.take_of_length_le (by omega)]
theorem rd_same {H H' : Hp} {a : Addr} {o : HO} (h : Rd H a o) (s : Same H H') : Rd H' a o := h.elim (fun e => .inl (s _ _ e)) fun ⟨b, e⟩ => .inr ⟨b, s _ _ e⟩
/-! ### stretches in order, each once -/
def stp (acc : List Str) (z : Str) : List Str := if z ∈ acc then acc else acc ++ [z]
def dd (zs : List Str) : List Str := zs.foldl stp []
theorem fold_mem : ∀ (zs acc : List Str) {z : Str}, z ∈ zs.foldl stp acc ↔ z ∈ acc ∨ z ∈ zs
  | [], acc, z => by simp
  | y :: zs, acc, z => by
    rw [List.foldl_cons, fold_mem zs]
    unfold stp
    by_cases m : y ∈ acc
    · rw [if_pos m]
      constructor
      · rintro (h | h)
        · exact .inl h
        · exact .inr (List.mem_cons_of_mem _ h)
      · rintro (h | h)
        · exact .inl h
        · rcases List.mem_cons.mp h with h | h
          · exact .inl (h ▸ m)
          · exact .inr h
    · rw [if_neg m, List.mem_append, List.mem_singleton, List.mem_cons, or_assoc]
theorem fold_sub : ∀ (zs acc : List Str), (zs.foldl stp acc).Sublist (acc ++ zs)
  | [], acc => by simp
  | y :: zs, acc => by
    rw [List.foldl_cons]
    refine (fold_sub zs _).trans ?_
    unfold stp
    split
    · exact (List.Sublist.refl acc).append (List.sublist_cons_self y zs)
    · rw [List.append_assoc]
      exact List.Sublist.refl _
theorem fold_nd : ∀ (zs acc : List Str), acc.Nodup → (zs.foldl stp acc).Nodup
  | [], acc, h => h
  | y :: zs, acc, h => by
    rw [List.foldl_cons]
    refine fold_nd zs _ ?_
    unfold stp
    split
    · exact h
    · rename_i m
      exact List.nodup_append.mpr ⟨h, by simp, fun a ha b hb e => m (by rw [List.mem_singleton.mp hb] at e; exact e ▸ ha)⟩
theorem dd_snoc {zs : List Str} {i : Nat} {z : Str} (h : zs[i]? = some z) : dd (zs.take (i + 1)) = stp (dd (zs.take i)) z := by
  unfold dd
  rw [List.take_add_one, h, List.foldl_append]
  rfl
/-- the stretches, that of all addresses ahead -/
def ksOf (ts : List (List Nat)) : List (List Nat) := (dd (tsort (("" : Str) :: ts.map SX.S))).map fun z => z.cps.toList
theorem ks_mem {ts : List (List Nat)} {t : List Nat} : t ∈ ksOf ts ↔ t = [] ∨ t ∈ ts := by
  unfold ksOf dd
  rw [List.mem_map]
  constructor
  · rintro ⟨z, hz, rfl⟩
    rw [fold_mem] at hz
    rcases hz with hz | hz
    · cases hz
    · rcases List.mem_cons.mp ((tsort_perm _).mem_iff.mp hz) with h | h
      · rw [h]; exact .inl rfl
      · obtain ⟨t, ht, rfl⟩ := List.mem_map.mp h
        rw [tl_S]
        exact .inr ht
  · intro h
    refine ⟨SX.S t, ?_, tl_S t⟩
    rw [fold_mem, (tsort_perm _).mem_iff]
    rcases h with rfl | h
    · exact .inr (List.mem_cons_self ..)
    · exact .inr (List.mem_cons_of_mem _ (List.mem_map_of_mem h))
theorem ks_ord (ts : List (List Nat)) : (ksOf ts).Pairwise (· < ·) := by
  unfold ksOf
  rw [List.pairwise_map]
  have h1 : (dd (tsort (("" : Str) :: ts.map SX.S))).Pairwise fun a b => tLt b a = false := by
    have := fold_sub (tsort (("" : Str) :: ts.map SX.S)) []
    rw [List.nil_append] at this
    exact (tsort_ts _).sublist this
  have h2 : (dd (tsort (("" : Str) :: ts.map SX.S))).Pairwise (· ≠ ·) := fold_nd _ [] .nil
  refine (h1.and h2).imp fun {a b} h => ?_
  by_cases c : tLt a b = true
  · exact of_decide_eq_true c
  · exact absurd (tLt_tot (by simpa using c) h.1) h.2
theorem ks_known {n : Nat} {ts : List (List Nat)} (h : Fits n ts) : M.Known n (ksOf ts) := by
  refine ⟨ks_mem.mpr (.inl rfl), fun t ht => ?_, fun t ht => ?_, ks_ord ts⟩
  · rcases ks_mem.mp ht with rfl | ht
    · exact fun c hc => by cases hc
    · exact (h t ht).1
  · rcases ks_mem.mp ht with rfl | ht
    · exact Nat.zero_le _
    · exact (h t ht).2
theorem ord_eq : ∀ {xs ys : List (List Nat)}, xs.Pairwise (· < ·) → ys.Pairwise (· < ·) → (∀ t, t ∈ xs ↔ t ∈ ys) → xs = ys
  | [], [], _, _, _ => rfl
  | [], y :: ys, _, _, h => by have := (h y).mpr (List.mem_cons_self ..); cases this
  | x :: xs, [], _, _, h => by have := (h x).mp (List.mem_cons_self ..); cases this
  | x :: xs, y :: ys, hx, hy, h => by
    have px := List.pairwise_cons.mp hx
    have py := List.pairwise_cons.mp hy
    have e : x = y := by
      rcases List.mem_cons.mp ((h x).mp (List.mem_cons_self ..)) with e | m1
      · exact e
      · rcases List.mem_cons.mp ((h y).mpr (List.mem_cons_self ..)) with e | m2
        · exact e.symm
        · exact absurd (List.lt_trans (px.1 y m2) (py.1 x m1)) (List.lt_irrefl _)
    subst e
    rw [ord_eq px.2 py.2 fun t => ⟨fun m => ?_, fun m => ?_⟩]
    · rcases List.mem_cons.mp ((h t).mp (List.mem_cons_of_mem _ m)) with e | q
      · exact absurd (e ▸ px.1 t m) (List.lt_irrefl _)
      · exact q
    · rcases List.mem_cons.mp ((h t).mpr (List.mem_cons_of_mem _ m)) with e | q
      · exact absurd (e ▸ py.1 t m) (List.lt_irrefl _)
      · exact q
theorem ks_eq {a b : List (List Nat)} (h : ∀ t, t ∈ a ↔ t ∈ b) : ksOf a = ksOf b := ord_eq (ks_ord a) (ks_ord b) fun t => by rw [ks_mem, ks_mem, h]
theorem sub_perm_len {α : Type} {a b : List α} (h : a.Sublist b) : a.length ≤ b.length := h.length_le
theorem ks_len (ts : List (List Nat)) : (ksOf ts).length ≤ ts.length + 1 := by
  unfold ksOf
  rw [List.length_map]
  have h := (fold_sub (tsort (("" : Str) :: ts.map SX.S)) []).length_le
  rw [List.nil_append, (tsort_perm _).length_eq, List.length_cons, List.length_map] at h
  exact h
@[irreducible] def spWA : Sp := fun vs H Q _ => ∃ (a : Addr) (ts : List (List Nat)), vs = [.ref a] ∧ ArgAt H a ts ∧ ts.length ≤ 1000 ∧ ∀ D H', H D = none → Same H H' → H' D = some (.dK (fd (ksOf ts) fun _ => .bl true)) → Q (.ref D) H'
theorem wa_go {a : Addr} {ts : List (List Nat)} {H : Hp} {Q : VK} {E : XK} (ha : ArgAt H a ts) (hl : ts.length ≤ 1000) (k : ∀ D H', H D = none → Same H H' → H' D = some (.dK (fd (ksOf ts) fun _ => .bl true)) → Q (.ref D) H') : spWA [.ref a] H Q E := by
  unfold spWA
  exact ⟨a, ts, rfl, ha, hl, k⟩
theorem dc_it {J : It} {n : Nat} {G : Hp → Prop} {Y : Nat → Hp → V → Hp → Prop} (w : L2.Walk J n G Y) {g : TG} {tt : TT} {tk tv : TE} {vs : List Nat} {σ : L2.St} {H1 : Hp} {D : Addr} {Qd : Hp → Prop} (Pv : Nat → Hp → Prop) (h0 : Pv 0 (upd H1 D (.dK []))) (hG : ∀ i H, i ≤ n → Pv i H → G H)
    (hs : ∀ i x H H', i < n → Pv i H → Y i H x H' → g x (wipe σ vs) H' fun σ2 H2 => wipe σ2 vs = wipe σ vs ∧ tt σ2 H2 fun b H3 =>
      if b = true then tk σ2 H3 fun y H4 => tv σ2 H4 fun z H5 => ∃ kvs k, y = kV k ∧ H5 D = some (.dK kvs) ∧ kvs.length < sizeLine ∧ Pv (i + 1) (upd H5 D (.dK (putK kvs k z))) else Pv (i + 1) H3) (hd : ∀ H, Pv n H → Qd H) :
    ∃ W : Nat → Nat → Hp → Prop, (∃ m, W 0 m (upd H1 D (.dK []))) ∧ ∀ i m H, W i m H →
      (J.stop i H ∧ Qd H) ∨ (J.go i H ∧ ∃ Nx : Hp → Prop, (∀ H', Nx H' → ∃ m', m' < m ∧ W (i + 1) m' H') ∧ ∀ x H', J.yld i H x H' → g x (wipe σ vs) H' fun σ2 H2 => wipe σ2 vs = wipe σ vs ∧ tt σ2 H2 fun b H3 =>
        if b = true then tk σ2 H3 fun y H4 => tv σ2 H4 fun z H5 => ∃ kvs k, y = kV k ∧ H5 D = some (.dK kvs) ∧ kvs.length < sizeLine ∧ Nx (upd H5 D (.dK (putK kvs k z))) else Nx H3) := by
  refine ⟨fun i m H => m = n - i ∧ i ≤ n ∧ Pv i H, ⟨n, by simp, Nat.zero_le _, h0⟩, ?_⟩
  rintro i m H ⟨rfl, hi, p⟩
  have q := hG i H hi p
  by_cases hlt : i < n
  · refine .inr ⟨w.goes i H hlt q, Pv (i + 1), fun H' p' => ⟨n - (i + 1), by omega, rfl, hlt, p'⟩, fun x H' y => hs i x H H' hlt p (w.yields i H x H' hlt q y)⟩
  · have e : i = n := by omega
    subst e
    exact .inl ⟨w.stops H q, hd H p⟩
section
variable {P : Program} {w : World} {K : PySem.W.Frag} {mg : Str → Option Value} {base : Heap} {f : Addr} {fd' : FuncData}
theorem ok_longest (F : Fun K "longest_beginning" "longest_beginning" s_longest_beginning f fd') (hm : mg "longest_beginning" = some (.ref f)) (T : Txt K mg) : Nm P w K mg base CX0 1 "longest_beginning" s_longest_beginning ["known", "bits"] (spLB) := by
  refine nm_of0 F hm sc_longest_beginning (fun vs H Q E h => ?_) fun cdv A outer s H vs Q E hr h => ?_
  · unfold spLB at h
    obtain ⟨D, ks, g, a, rfl, hD, h0, hl, k⟩ := h
    subst_vars
    rfl
  unfold spLB at h
  obtain ⟨D, ks, g, a, rfl, hD, h0, hl, k⟩ := h
  refine ⟨_, (pss_cons (ps_for PassesOwn.never rfl (pi_range3 (by rfl) T.b_range (pa_cons (pe_callB (call_lenK (K := K) rfl) (by rfl) T.b_len PySem.boot_len (pa_cons (pv 1) pa_nil)) (pa_cons (pe_un un_neg pe_int) (pa_cons (pe_un un_neg pe_int) pa_nil)))) (pg_name (i := 2) sc_longest_beginning.nd rfl (by first | exact Or.inl rfl | exact Or.inr rfl)) (pss_one (ps_if (pt_cmp (pc_din hr.u1 (pe_slice sl_str (pv 1) po_none (po_some (pv 2))) (pv 0))) (pss_one (ps_ret (pe_slice sl_str (pv 1) po_none (po_some (pv 2))))) pss_nil)))
      (pss_one (ps_ret pe_non))), ?_⟩
  have en : (((SX.S a).length : Int) - (-1)).toNat = a.length + 1 := by rw [sx_len]; omega
  refine ⟨_, rfl, ⟨_, _, rfl, ⟨szl (by rw [sx_len]; omega), rfl⟩, ?_⟩⟩
  repeat walk_at "s1"
  refine ⟨_, _, _, _, rfl, RgC.neg (by rw [sx_len]; omega) (by omega) (by omega) (by omega), ?_⟩
  rw [en]
  refine for_it walk_rangeC (fun i σ' H' => ∃ x2, σ' = [some (.ref D), some (sx a), x2] ∧ Same H H' ∧ i ≤ a.length ∧ M.lg ks a = M.lgN ks a (a.length - i)) ⟨_, rfl, Same.refl H, Nat.zero_le _, rfl⟩ (fun _ _ _ _ _ => trivial) ?_ ?_
  · rintro i x σ' H1 H2 hi ⟨x2, rfl, sm, hle, hg⟩ ⟨rfl, rfl⟩
    repeat walk_at "s1"
    have ej : ((SX.S a).length : Int) + (i : Int) * -1 = ((a.length - i : Nat) : Int) := by rw [sx_len]; omega
    rw [cut_S a ej]
    refine ⟨D, _, rfl, .inl ⟨fd ks g, skey (a.take (a.length - i)), rd_same hD sm, rfl, rfl⟩, ?_⟩
    rw [fd_has]
    by_cases hc : a.take (a.length - i) ∈ ks
    · rw [decide_eq_true hc]
      refine ⟨_, rfl, iteT ?_⟩
      repeat walk_at "s1"
      rw [cut_S a ej]
      have e : M.lg ks a = a.take (a.length - i) := by
        rw [hg]
        generalize a.length - i = j at hc
        cases j with
        | zero => rfl
        | succ j => exact if_pos hc
      have hk := k _ sm
      rw [e] at hk
      exact hk
    · rw [decide_eq_false hc]
      refine ⟨_, rfl, iteF ?_⟩
      have hi0 : i < a.length := by
        refine Nat.lt_of_le_of_ne hle fun q => hc ?_
        rw [q, Nat.sub_self]
        exact h0
      refine ⟨_, rfl, sm, by omega, ?_⟩
      obtain ⟨j, hj⟩ : ∃ j, a.length - i = j + 1 := ⟨a.length - i - 1, by omega⟩
      rw [hg, show a.length - (i + 1) = j by omega, hj]
      rw [hj] at hc
      exact if_neg hc
  · rintro σ' H1 ⟨x2, rfl, sm, hle, hg⟩
    omega
theorem ok_with_all (F : Fun K "_with_all" "_with_all" s_with_all f fd') (hm : mg "_with_all" = some (.ref f)) (T : Txt K mg) : Nm P w K mg base CX0 1 "_with_all" s_with_all ["stretches"] (spWA) := by
  refine nm_of F hm sc_with_all (fun vs H Q E h => ?_) fun cdv A outer s H vs Q E hr h => ?_
  · unfold spWA at h
    obtain ⟨a, ts, rfl, ha, hl, k⟩ := h
    subst_vars
    rfl
  unfold spWA at h
  obtain ⟨a, ts, rfl, ha, hl, k⟩ := h
  refine ⟨_, (pss_one (ps_ret (pe_dc (own := [("stretch", 1)]) (g := (gName 1)) (by rfl) sc_with_all.nd (pi_listK (K := K) rfl (pe_callBK (cr_sortK hr.u) (by rfl) T.b_sorted (by decide +kernel) (pa_cons (pe_lst (pa_cons pe_str (StX.pa_star (pv 0) pa_nil))) pa_nil) (pk_cons (pe_ty "str" (by rfl) T.b_str (by decide +kernel)) pk_nil))) (blkOk_by (own := [("stretch", 1)]) (N := ["stretches", "stretch"]) (sc := defScope s_with_all) (by decide +kernel)) (fun _ _ _ _ _ => (pg_name (i := 1) sc_with_all.nd rfl (by first | exact Or.inl rfl | exact Or.inr rfl))) (fun _ _ _ _ _ => pts_nil) (fun _ _ _ _ _ => (pv 1)) (fun _ _ _ _ _ => pe_bl)))), ?_⟩
  refine ⟨_, rfl, ?_⟩
  refine ⟨a, ts.map sx, rfl, ha.elim (fun e => .inr (SqL.of e)) fun e => .inl (SqT.of e), ?_⟩
  have eL : (V.str "" :: (ts.map sx ++ [])) = (("" : Str) :: ts.map SX.S).map V.str := by
    rw [List.append_nil, List.map_cons, List.map_map]
    rfl
  refine ⟨szl (by show (V.str "" :: (ts.map sx ++ [])).length ≤ _; rw [eL]; simp; omega), fun L nL => ?_⟩
  have hl2 : (tsort (("" : Str) :: ts.map SX.S)).length ≤ 1001 := by
    rw [(tsort_perm _).length_eq]
    simp
    omega
  refine ⟨L, ("" : Str) :: ts.map SX.S, rfl, rfl, SqL.of (by rw [upd_same]; exact congrArg (fun z => some (HO.lst z)) eL), fun L2 nL2 => ?_⟩
  have k' : ∀ D H', H D = none → Same H H' → H' D = some (.dK (fd ((dd (tsort (("" : Str) :: ts.map SX.S))).map fun z => z.cps.toList) fun _ => .bl true)) → Q (.ref D) H' := k
  generalize tsort (("" : Str) :: ts.map SX.S) = zs at hl2 nL2 k' ⊢
  have sm1 : Same H (upd (upd H L (.lst (V.str "" :: (ts.map sx ++ [])))) L2 (.lst (zs.map V.str))) := fun b o e => updn (nonn nL2 (updn (nonn nL e) e)) (updn (nonn nL e) e)
  have e1 : upd (upd H L (.lst (V.str "" :: (ts.map sx ++ [])))) L2 (.lst (zs.map V.str)) L2 = some (.lst (zs.map V.str)) := upd_same
  generalize upd (upd H L (.lst (V.str "" :: (ts.map sx ++ [])))) L2 (.lst (zs.map V.str)) = H1 at sm1 e1
  refine ⟨L2, rfl, ⟨_, SqL.of e1⟩, fun D nD => ?_⟩
  have nD0 : H D = none := by
    cases q : H D with
    | none => rfl
    | some o => rw [sm1 _ _ q] at nD; cases nD
  refine dc_it (walk_list (xs := zs.map V.str)) (fun i H' => H' D = some (.dK (fd ((dd (zs.take i)).map fun z => z.cps.toList) fun _ => .bl true)) ∧ H' L2 = some (.lst (zs.map V.str)) ∧ Same H H') ⟨upd_same, updn (nonn nD e1) e1, fun b o q => updn (nonn nD0 q) (sm1 b o q)⟩ (fun i H' _ h => SqL.of h.2.1) ?_ ?_
  · rintro i x H2 H3 hi ⟨hD, hL, sm⟩ ⟨rfl, hx⟩
    obtain ⟨z, hz, rfl⟩ : ∃ z, zs[i]? = some z ∧ x = .str z := by
      rw [List.getElem?_map] at hx
      cases e : zs[i]? with
      | none => rw [e] at hx; cases hx
      | some z => rw [e] at hx; exact ⟨z, rfl, (Option.some.inj hx).symm⟩
    refine ⟨rfl, ?_⟩
    dsimp only [tYes]
    rw [if_pos rfl]
    refine ⟨_, rfl, ?_⟩
    have ez : (Sum.inr z : Key) = skey z.cps.toList := by unfold skey; rw [SX.S_tl]
    have ln : (dd (zs.take i)).length ≤ 1001 := by
      have h := (fold_sub (zs.take i) []).length_le
      rw [List.nil_append, List.length_take] at h
      unfold dd
      omega
    refine ⟨_, Sum.inr z, rfl, hD, szt (by rw [fd_len, List.length_map]; omega), ?_, updn (nonn nD e1) hL, fun b o q => updn (nonn nD0 q) (sm b o q)⟩
    rw [upd_same, ez, fd_put, dd_snoc hz]
    have e2 : (if z.cps.toList ∈ (dd (zs.take i)).map (fun z => z.cps.toList) then (dd (zs.take i)).map (fun z => z.cps.toList) else (dd (zs.take i)).map (fun z => z.cps.toList) ++ [z.cps.toList]) = (stp (dd (zs.take i)) z).map fun z => z.cps.toList := by
      unfold stp
      by_cases m : z ∈ dd (zs.take i)
      · rw [if_pos m, if_pos (List.mem_map_of_mem m)]
      · rw [if_neg m, if_neg, List.map_append]
        · rfl
        · intro q
          obtain ⟨y, hy, e⟩ := List.mem_map.mp q
          have : y = z := by rw [← SX.S_tl y, ← SX.S_tl z, e]
          exact m (this ▸ hy)
    rw [e2]
    exact congrArg (fun z => some (HO.dK z)) (fd_congr fun t _ => by unfold fup; split <;> rfl)
  · rintro H2 ⟨hD, hL, sm⟩
    rw [List.length_map, List.take_length] at hD
    exact k' D H2 nD0 sm hD
end
open PySem PySem.Spec PyProof.Rows
open L2 hiding pass0
abbrev s_widest_inside : Stmt := top 39
theorem sc_widest_inside : FnScope ["known", "inside", "stretch"] ["known"] (defScope s_widest_inside) := ⟨rfl, rfl, rfl, by decide +kernel, rfl, by decide +kernel, by decide +kernel⟩
theorem bp_widest_inside : BndP "_widest_inside" s_widest_inside ["known"] := fun _ _ _ _ _ _ us h => match us, h with | [_], _ => rfl
theorem cut_last (t : List Nat) (h : t ≠ []) : cutS (SX.S t) none (some (-1)) = SX.S t.dropLast := by
  show SX.S _ = SX.S _
  refine congrArg SX.S ?_
  show ((SX.S t).cps.toList.drop 0).take (HT.sIx (SX.S t).length (SX.S t).length (some (-1)) - 0) = t.dropLast
  rw [List.drop_zero, Nat.sub_zero, tl_S, sx_len, List.dropLast_eq_take]
  congr 1
  have : 0 < t.length := List.length_pos_iff.mpr h
  unfold HT.sIx
  simp
  omega
/-- the dict of the widest ones inside each: lists of their own at ad; all else but at D stands -/
structure Ins (D : Addr) (H0 H : Hp) (ks : List (List Nat)) (ad : List Nat → Addr) (B : Addr) (vs : List Nat → List (List Nat)) : Prop where
  same : ∀ b o, b ≠ D → H0 b = some o → H b = some o
  newB : H0 B = none
  dict : H B = some (.dK (fd ks fun t => .ref (ad t)))
  lst : ∀ t ∈ ks, H (ad t) = some (.lst ((vs t).map sx))
  new : ∀ t ∈ ks, H0 (ad t) = none
  inj : ∀ s ∈ ks, ∀ t ∈ ks, ad s = ad t → s = t
  offB : ∀ t ∈ ks, ad t ≠ B
section
variable {D B : Addr} {H0 H : Hp} {ks : List (List Nat)} {ad : List Nat → Addr} {vs : List Nat → List (List Nat)}
theorem Ins.updD (h : Ins D H0 H ks ad B vs) {u : HO} (hD : H0 D = some u) (o : HO) : Ins D H0 (upd H D o) ks ad B vs :=
  ⟨fun b u' n e => updn n (h.same b u' n e), h.newB, updn (nonn h.newB hD).symm h.dict, fun t ht => updn (nonn (h.new t ht) hD).symm (h.lst t ht), h.new, h.inj, h.offB⟩
theorem Ins.to {H' : Hp} (h : Ins D H0 H ks ad B vs) (s : Same H H') : Ins D H0 H' ks ad B vs :=
  ⟨fun b u' n e => s _ _ (h.same b u' n e), h.newB, s _ _ h.dict, fun t ht => s _ _ (h.lst t ht), h.new, h.inj, h.offB⟩
theorem Ins.congr {vs' : List Nat → List (List Nat)} (h : Ins D H0 H ks ad B vs) (e : ∀ t ∈ ks, vs t = vs' t) : Ins D H0 H ks ad B vs' :=
  ⟨h.same, h.newB, h.dict, fun t ht => e t ht ▸ h.lst t ht, h.new, h.inj, h.offB⟩
theorem Ins.push (h : Ins D H0 H ks ad B vs) {s : List Nat} (hs : s ∈ ks) (l : List (List Nat)) : Ins D H0 (upd H (ad s) (.lst (l.map sx))) ks ad B (fup vs s l) := by
  refine ⟨fun b u' n e => updn (nonn (h.new s hs) e) (h.same b u' n e), h.newB, updn (h.offB s hs).symm h.dict, fun t ht => ?_, h.new, h.inj, h.offB⟩
  by_cases e : t = s
  · subst e
    rw [upd_same, fup_at]
  · rw [fup_ne e]
    exact updn (fun q => e (h.inj t ht s hs q)) (h.lst t ht)
theorem Ins.all (h : Ins D H0 H ks ad B vs) {u : HO} (hD : H0 D = some u) (e : H D = some u) : Same H0 H := fun b o q => by
  by_cases n : b = D
  · subst n
    rw [hD] at q
    cases q
    exact e
  · exact h.same b o n q
/-- one more key, with a new list -/
theorem Ins.more (h : Ins D H0 H ks ad B fun _ => []) {u : HO} (eD : H D = some u) {t : List Nat} (ht : t ∉ ks) {L : Addr} (nL : H L = none) :
    Ins D H0 (upd (upd H L (.lst [])) B (.dK (putK (fd ks fun t => .ref (ad t)) (skey t) (.ref L)))) (ks ++ [t]) (fup ad t L) B fun _ => [] := by
  have nLD : L ≠ D := fun q => by rw [q, eD] at nL; cases nL
  have nLB : L ≠ B := fun q => by rw [q, h.dict] at nL; cases nL
  have fL : H0 L = none := by
    cases e : H0 L with
    | none => rfl
    | some o => rw [h.same L o nLD e] at nL; cases nL
  have ne : ∀ s ∈ ks, s ≠ t := fun s hs q => ht (q ▸ hs)
  have nLa : ∀ s ∈ ks, ad s ≠ L := fun s hs => nonn nL (h.lst s hs)
  refine ⟨fun b o n e => ?_, h.newB, ?_, fun s hs => ?_, fun s hs => ?_, fun s hs r hr q => ?_, fun s hs => ?_⟩
  · have e1 := h.same b o n e
    exact updn (nonn h.newB e) (updn (nonn nL e1) e1)
  · rw [upd_same, fd_put, if_neg ht]
    exact congrArg (fun z => some (HO.dK z)) (fd_congr fun s hs => by unfold fup; split <;> rfl)
  · rcases List.mem_append.mp hs with hs | hs
    · rw [fup_ne (ne s hs)]
      exact updn (h.offB s hs) (updn (nLa s hs) (h.lst s hs))
    · rw [List.mem_singleton.mp hs, fup_at]
      exact updn nLB upd_same
  · rcases List.mem_append.mp hs with hs | hs
    · rw [fup_ne (ne s hs)]
      exact h.new s hs
    · rw [List.mem_singleton.mp hs, fup_at]
      exact fL
  · rcases List.mem_append.mp hs with hs | hs <;> rcases List.mem_append.mp hr with hr | hr
    · rw [fup_ne (ne s hs), fup_ne (ne r hr)] at q
      exact h.inj s hs r hr q
    · rw [List.mem_singleton.mp hr, fup_at, fup_ne (ne s hs)] at q
      exact absurd q (nLa s hs)
    · rw [List.mem_singleton.mp hs, fup_at, fup_ne (ne r hr)] at q
      exact absurd q.symm (nLa r hr)
    · rw [List.mem_singleton.mp hs, List.mem_singleton.mp hr]
  · rcases List.mem_append.mp hs with hs | hs
    · rw [fup_ne (ne s hs)]
      exact h.offB s hs
    · rw [List.mem_singleton.mp hs, fup_at]
      exact nLB
end
def vsAt (ks : List (List Nat)) (i : Nat) (s : List Nat) : List (List Nat) := (ks.take i).filter fun t => decide (t ≠ [] ∧ M.par ks t = s)
theorem vs_len (ks : List (List Nat)) (i : Nat) (s : List Nat) : (vsAt ks i s).length ≤ ks.length := by
  unfold vsAt
  refine Nat.le_trans (List.length_filter_le _ _) ?_
  rw [List.length_take]
  omega
theorem vs_skip {ks : List (List Nat)} {i : Nat} (h : ks[i]? = some []) (s : List Nat) : vsAt ks (i + 1) s = vsAt ks i s := by
  unfold vsAt
  rw [List.take_add_one, h, List.filter_append]
  simp
theorem vs_more {ks : List (List Nat)} {i : Nat} {t : List Nat} (h : ks[i]? = some t) (ht : t ≠ []) (s : List Nat) : fup (vsAt ks i) (M.par ks t) (vsAt ks i (M.par ks t) ++ [t]) s = vsAt ks (i + 1) s := by
  by_cases e : s = M.par ks t
  · subst e
    rw [fup_at]
    unfold vsAt
    rw [List.take_add_one, h, List.filter_append]
    simp [ht]
  · rw [fup_ne e]
    unfold vsAt
    rw [List.take_add_one, h, List.filter_append]
    simp [Ne.symm e]
theorem nd_of_ord {ks : List (List Nat)} (h : ks.Pairwise (· < ·)) : ks.Nodup := h.imp fun {a b} l => by rintro rfl; exact List.lt_irrefl _ l
theorem take_new {ks : List (List Nat)} (h : ks.Nodup) {i : Nat} {t : List Nat} (e : ks[i]? = some t) : t ∉ ks.take i := by
  intro hin
  have hn : (ks.take (i + 1)).Nodup := (List.take_sublist _ _).nodup h
  rw [List.take_add_one, e] at hn
  exact (List.nodup_append.mp hn).2.2 t hin t (List.mem_singleton.mpr rfl) rfl
theorem key_at {ks : List (List Nat)} {g : List Nat → V} {i : Nat} {k : Key} {v : V} (h : (fd ks g)[i]? = some (k, v)) : ∃ t, ks[i]? = some t ∧ k = skey t ∧ v = g t := by
  rw [fd_get] at h
  cases e : ks[i]? with
  | none => rw [e] at h; cases h
  | some t =>
    rw [e] at h
    cases Option.some.inj h
    exact ⟨t, rfl, rfl, rfl⟩
@[irreducible] def spWI : Sp := fun vs H Q _ => ∃ (n : Nat) (D : Addr) (ks : List (List Nat)), vs = [.ref D] ∧ H D = some (.dK (fd ks fun _ => .bl true)) ∧ M.Known n ks ∧ n ≤ 100 ∧ ks.length ≤ 1001 ∧
  ∀ B ad H', Ins D H H' ks ad B (M.ch ks) → H' D = some (.dK (fd ks fun _ => .bl true)) → Q (.ref B) H'
theorem wi_go {n : Nat} {D : Addr} {ks : List (List Nat)} {H : Hp} {Q : VK} {E : XK} (hD : H D = some (.dK (fd ks fun _ => .bl true))) (kn : M.Known n ks) (hn : n ≤ 100) (hl : ks.length ≤ 1001)
    (k : ∀ B ad H', Ins D H H' ks ad B (M.ch ks) → H' D = some (.dK (fd ks fun _ => .bl true)) → Q (.ref B) H') : spWI [.ref D] H Q E := by
  unfold spWI
  exact ⟨n, D, ks, rfl, hD, kn, hn, hl, k⟩
section
variable {P : Program} {w : World} {K : PySem.W.Frag} {mg : Str → Option Value} {base : Heap} {f : Addr} {fd' : FuncData}
theorem ok_widest (F : Fun K "_widest_inside" "_widest_inside" s_widest_inside f fd') (hm : mg "_widest_inside" = some (.ref f)) (T : Txt K mg) (c_longest_beginning : Nm P w K mg base CX0 1 "longest_beginning" s_longest_beginning ["known", "bits"] (spLB)) : Nm P w K mg base CX0 2 "_widest_inside" s_widest_inside ["known"] (spWI) := by
  refine nm_of0 F hm sc_widest_inside (fun vs H Q E h => ?_) fun cdv A outer s H vs Q E hr h => ?_
  · unfold spWI at h
    obtain ⟨n, D, ks, rfl, hD, kn, hn, hl, k⟩ := h
    subst_vars
    rfl
  unfold spWI at h
  obtain ⟨n, D, ks, rfl, hD, kn, hn, hl, k⟩ := h
  refine ⟨_, (pss_cons (ps_lock (ps_setDc (i := 1) (own := [("stretch", 2)]) (g := (gName 2)) (by rfl) sc_widest_inside.nd rfl rfl (sw_trueD rfl rfl rfl (by decide +kernel)) (pi_keys (pv 0)) (blkOk_by (own := [("stretch", 2)]) (N := ["known", "inside", "stretch"]) (sc := defScope s_widest_inside) (by decide +kernel)) (fun _ _ _ _ _ => (pg_name (i := 2) sc_widest_inside.nd rfl (by first | exact Or.inl rfl | exact Or.inr rfl))) (fun _ _ _ _ _ => pts_nil) (fun _ _ _ _ _ => (pv 2)) (fun _ _ _ _ _ => (pe_lst pa_nil))))
      (pss_cons (ps_lock (ps_for PassesOwn.never rfl (pi_keys (pv 0)) (pg_name (i := 2) sc_widest_inside.nd rfl (by first | exact Or.inl rfl | exact Or.inr rfl)) (pss_one (ps_if (pt_cmpR op_ne (pv 2) pe_str (nomark _)) (pss_one (ps_expr (pe_bm PySem.F.plainAttrs_list PySem.F.slot_list_append PySem.F.type_list_append mt_append (pe_dget hr.u1 (pv 1) (pe_g c_longest_beginning hr (by decide) L2.pass0 bp_longest_beginning (by rfl) (pa_cons (pv 0) (pa_cons (pe_slice sl_str (pv 2) po_none (po_some (pe_un un_neg pe_int))) pa_nil))) (fun _ _ => rfl)) (pa_cons (pv 2) pa_nil)))) pss_nil))))
      (pss_one (ps_ret (pv 1))))), ?_⟩
  show ∃ d u, _
  refine ⟨D, _, hD, trivial, fun od => ?_⟩
  refine ⟨_, rfl, ?_⟩
  refine ⟨D, od, rfl, .inl ⟨_, upd_same, fun B nB => ?_⟩⟩
  have nd := nd_of_ord kn.ord
  have hBD : D ≠ B := nonn nB upd_same
  have nB0 : H B = none := by rw [upd_ne hBD.symm] at nB; exact nB
  refine dc_it walk_keys (fun i H' => (∃ ad, Ins D H H' (ks.take i) ad B fun _ => []) ∧ H' D = some (.frz od (.dK (fd ks fun _ => .bl true)))) ⟨⟨fun _ => 0, fun b o n e => updn (nonn nB0 e) (updn n e), nB0, upd_same, (fun t ht => by cases ht), (fun t ht => by cases ht), (fun t ht => by cases ht), (fun t ht => by cases ht)⟩, updn hBD upd_same⟩ (fun _ H' _ h => h.2) ?_ ?_
  · rintro i x H1 H2 hi ⟨⟨ad, g1⟩, e1⟩ ⟨rfl, key, v, hkv, rfl⟩
    obtain ⟨t, ht, rfl, rfl⟩ := key_at hkv
    refine ⟨rfl, ?_⟩
    dsimp only [tYes]
    rw [if_pos rfl]
    refine ⟨_, rfl, ?_⟩
    refine ⟨szl (Nat.zero_le _), fun L nL => ?_⟩
    have g2 := g1.more e1 (take_new nd ht) nL
    have nLB : B ≠ L := nonn nL g1.dict
    refine ⟨_, skey t, rfl, updn nLB g1.dict, szt (by rw [fd_len, List.length_take]; omega), ⟨fup ad t L, ?_⟩, updn hBD (updn (nonn nL e1) e1)⟩
    rw [List.take_add_one, ht]
    exact g2
  · rintro H1 ⟨⟨ad, g1⟩, e1⟩
    rw [fd_len, List.take_length] at g1
    refine ⟨e1, ?_⟩
    have g2 := (g1.updD hD (.dK (fd ks fun _ => .bl true))).congr (vs' := vsAt ks 0) fun t _ => by unfold vsAt; rfl
    have e2 : upd H1 D (.dK (fd ks fun _ => .bl true)) D = some (.dK (fd ks fun _ => .bl true)) := upd_same
    generalize upd H1 D (.dK (fd ks fun _ => .bl true)) = H2 at g2 e2 ⊢
    clear g1 e1
    show ∃ d u, _
    refine ⟨D, _, e2, trivial, fun od2 => ?_⟩
    refine ⟨_, rfl, ⟨D, od2, rfl, .inl ⟨_, upd_same, ?_⟩⟩⟩
    have g3 := g2.updD hD (.frz od2 (.dK (fd ks fun _ => .bl true)))
    have e3 : upd H2 D (.frz od2 (.dK (fd ks fun _ => .bl true))) D = some (.frz od2 (.dK (fd ks fun _ => .bl true))) := upd_same
    generalize upd H2 D (.frz od2 (.dK (fd ks fun _ => .bl true))) = H3 at g3 e3 ⊢
    clear g2 e2
    refine for_it walk_keys (fun i σ' H' => ∃ x2, σ' = [some (.ref D), some (.ref B), x2] ∧ Ins D H H' ks ad B (vsAt ks i) ∧ H' D = some (.frz od2 (.dK (fd ks fun _ => .bl true)))) ⟨_, rfl, g3, e3⟩ (fun i σ' H' _ h => let ⟨_, _, _, e⟩ := h; e) ?_ ?_
    · clear g3 e3
      rintro i x σ' H4 H5 hi ⟨x2, rfl, g4, e4⟩ ⟨rfl, key, v, hkv, rfl⟩
      obtain ⟨t, ht, rfl, rfl⟩ := key_at hkv
      have htm := List.mem_of_getElem? ht
      refine ⟨_, rfl, ?_⟩
      refine ⟨rfl, ?_⟩
      refine ⟨_, rfl, ?_⟩
      have et : decide (kV (skey t) = V.str "") = decide (t = []) := decide_eq_decide.mpr ⟨fun q => S_inj (V.str.inj q), fun q => by rw [q]; rfl⟩
      rw [et]
      by_cases c : t = []
      · subst c
        rw [decide_eq_true rfl]
        refine iteF ?_
        exact ⟨_, rfl, g4.congr fun s _ => (vs_skip ht s).symm, e4⟩
      · rw [decide_eq_false c]
        refine iteT ?_
        refine ⟨_, rfl, ⟨_, rfl, ⟨_, rfl, ?_⟩⟩⟩
        refine ⟨_, rfl, ?_⟩
        refine ⟨_, rfl, ?_⟩
        have hlt : t.length ≤ n := kn.fit t htm
        refine ⟨SX.S t, rfl, szl (by rw [sx_len]; omega), ?_⟩
        rw [show (-(1 : Int)) = -1 from rfl, cut_last t c]
        have hpar : M.par ks t ∈ ks := (M.lg_is kn.all).mem
        refine lb_go (g := fun _ => .bl true) (.inr ⟨_, e4⟩) kn.all (by rw [List.length_dropLast]; omega) fun H6 s6 => ?_
        have g6 := g4.to s6
        have e6 := s6 _ _ e4
        refine ⟨B, .ref (ad (M.par ks t)), rfl, .inl ⟨_, skey (M.par ks t), .inl g6.dict, rfl, by rw [fd_val, if_pos hpar]⟩, ?_⟩
        have g7 := g6.lst _ hpar
        refine ⟨.inl ⟨rfl, _, SqL.of g7⟩, ?_⟩
        refine ⟨_, rfl, ?_⟩
        refine ⟨_, _, _, rfl, rfl, g7, szt (by rw [List.length_map]; have := vs_len ks i (M.par ks t); omega), ?_⟩
        have g8 := (g6.push hpar (vsAt ks i (M.par ks t) ++ [t])).congr (vs' := vsAt ks (i + 1)) fun s _ => vs_more ht c s
        rw [List.map_append] at g8
        exact ⟨_, rfl, g8, updn (nonn (g6.new _ hpar) hD) e6⟩
    · rintro σ' H4 ⟨x2, rfl, g4, e4⟩
      refine ⟨e4, ?_⟩
      rw [fd_len] at g4
      have g5 := (g4.updD hD (.dK (fd ks fun _ => .bl true))).congr (vs' := M.ch ks) fun s _ => by
        unfold vsAt M.ch
        rw [List.take_length]
      refine ⟨_, rfl, ?_⟩
      exact k B ad _ g5 upd_same
end
open PySem PySem.Spec PyProof.Rows
open L2 hiding pass0
abbrev s_cell : Stmt := top 40
theorem sc_cell : FnScope ["width", "stretch", "inner", "many", "place", "part"] ["width", "stretch", "inner"] (defScope s_cell) := ⟨rfl, rfl, rfl, by decide +kernel, rfl, by decide +kernel, by decide +kernel⟩
theorem bp_cell : BndP "_cell" s_cell ["width", "stretch", "inner"] := fun _ _ _ _ _ _ us h => match us, h with | [_, _, _], _ => rfl
theorem num_bn (l : List Nat) : B2.num l = M.bn l := by
  unfold B2.num
  rw [M.bn_foldl, Nat.zero_mul, Nat.zero_add]
def oA : Option (List Nat) → V
  | some a => sx a
  | none => .non
def cellS (w : Nat) (s : List Nat) (cs : List (List Nat)) : List V :=
  [sx s, .int ((M.size w s - (cs.map (M.size w)).sum : Nat) : Int), oA (if M.size w s - (cs.map (M.size w)).sum = 0 then none else some (M.adr w (M.scan w (M.lo w s) cs)))]
@[irreducible] def spCell : Sp := fun vs H Q _ => ∃ (n : Nat) (s : List Nat) (a : Addr) (cs : List (List Nat)), vs = [.int n, sx s, .ref a] ∧ 1 ≤ n ∧ n ≤ 100 ∧ M.BL s ∧ s.length ≤ n ∧ H a = some (.lst (cs.map sx)) ∧ cs.length ≤ 1001 ∧ Fits n cs ∧ (cs.map (M.size n)).sum ≤ M.size n s ∧
  (M.size n s - (cs.map (M.size n)).sum ≠ 0 → M.scan n (M.lo n s) cs < 2 ^ n) ∧ ∀ t H', Same H H' → H t = none → H' t = some (.tup (cellS n s cs)) → Q (.ref t) H'
theorem cell_go {n : Nat} {s : List Nat} {a : Addr} {cs : List (List Nat)} {H : Hp} {Q : VK} {E : XK} (h0 : 1 ≤ n) (h1 : n ≤ 100) (hb : M.BL s) (hl : s.length ≤ n) (ha : H a = some (.lst (cs.map sx))) (hc : cs.length ≤ 1001) (hf : Fits n cs) (hs : (cs.map (M.size n)).sum ≤ M.size n s)
    (hp : M.size n s - (cs.map (M.size n)).sum ≠ 0 → M.scan n (M.lo n s) cs < 2 ^ n) (k : ∀ t H', Same H H' → H t = none → H' t = some (.tup (cellS n s cs)) → Q (.ref t) H') : spCell [.int n, sx s, .ref a] H Q E := by
  unfold spCell
  exact ⟨n, s, a, cs, rfl, h0, h1, hb, hl, ha, hc, hf, hs, hp, k⟩
theorem sum_cast {α : Type} (g : α → Nat) : ∀ l : List α, (l.map fun x => ((g x : Nat) : Int)).sum = (((l.map g).sum : Nat) : Int)
  | [] => rfl
  | x :: l => by rw [List.map_cons, List.sum_cons, sum_cast g l, List.map_cons, List.sum_cons]; omega
theorem zf_eq {n v : Nat} (h : (M.dg v).length ≤ n) : Txt.zfill ⟨(FB.dg v).toArray⟩ (n : Int) = SX.S (M.adr n v) := by
  have e : FB.dg v = M.dg v := rfl
  rw [e]
  have hb := (M.dg_ok v).1
  unfold Txt.zfill M.adr
  show (if (n : Int) ≤ (((M.dg v).toArray.size : Nat) : Int) then _ else _) = _
  rw [List.size_toArray]
  split
  · rename_i c
    rw [show n - (M.dg v).length = 0 by omega, List.replicate_zero, List.nil_append]
  · rename_i c
    rw [Int.toNat_natCast]
    show zfilled ⟨(M.dg v).toArray⟩ (n - (M.dg v).toArray.size) = _
    rw [List.size_toArray]
    generalize n - (M.dg v).length = m
    cases e2 : M.dg v with
    | nil =>
      unfold zfilled PySem.Builtin.Str.padded SX.S
      simp
    | cons d r =>
      rw [e2] at hb
      rcases hb.hd with q | q <;> (subst q; unfold zfilled PySem.Builtin.Str.padded SX.S; simp)
section
variable {P : Program} {w : World} {K : PySem.W.Frag} {mg : Str → Option Value} {base : Heap} {f : Addr} {fd' : FuncData}
theorem ok_cell (F : Fun K "_cell" "_cell" s_cell f fd') (hm : mg "_cell" = some (.ref f)) (T : Txt K mg) (c_number : Nm P w K mg base CX0 6 "number" s_number ["width", "stretch"] (spNum)) (c_first : Nm P w K mg base CX0 6 "first" s_first ["width", "stretch"] (spFirst)) : Nm P w K mg base CX0 7 "_cell" s_cell ["width", "stretch", "inner"] (spCell) := by
  refine nm_of0 F hm sc_cell (fun vs H Q E h => ?_) fun cdv A outer s H vs Q E hr h => ?_
  · unfold spCell at h
    obtain ⟨n, s0, a, cs, rfl, h0, h1, hb, hl, ha, hc, hf, hs, hp, k⟩ := h
    subst_vars
    rfl
  unfold spCell at h
  obtain ⟨n, s0, a, cs, rfl, h0, h1, hb, hl, ha, hc, hf, hs, hp, k⟩ := h
  refine ⟨_, (pss_cons (ps_set (i := 3) sc_cell.nd rfl (by first | exact Or.inl rfl | exact Or.inr rfl) (pe_op op_sub (pe_g c_number hr (by decide) L2.pass0 bp_number (by rfl) (pa_cons (pv 0) (pa_cons (pv 1) pa_nil))) (pe_callB (cr_sum rfl) (by rfl) T.b_sum (by decide +kernel) (pa_cons (pe_lc (own := [("part", 5)]) (g := (gName 5)) (by rfl) sc_cell.nd (pi_listK (K := K) rfl (pv 2)) (blkOk_by (own := [("part", 5)]) (N := ["width", "stretch", "inner", "many", "place", "part"]) (sc := defScope s_cell) (by decide +kernel)) (fun _ _ _ _ _ => (pg_name (i := 5) sc_cell.nd rfl (by first | exact Or.inl rfl | exact Or.inr rfl))) (fun _ _ _ _ _ => pts_nil) (fun _ _ _ _ _ => (pe_g c_number hr (by decide) L2.pass0 bp_number (by rfl) (pa_cons (pv 0) (pa_cons (pv 5) pa_nil))))) pa_nil))))
      (pss_cons (ps_if (pt_cmpR op_eq (pv 3) pe_int (nomark _)) (pss_one (ps_ret (pe_tup (pa_cons (pv 1) (pa_cons pe_int (pa_cons pe_non pa_nil)))))) pss_nil)
      (pss_cons (ps_set (i := 4) sc_cell.nd rfl (by first | exact Or.inl rfl | exact Or.inr rfl) (pe_callTy call_intB (by rfl) T.b_int (by decide +kernel) (pa_cons (pe_g c_first hr (by decide) L2.pass0 bp_first (by rfl) (pa_cons (pv 0) (pa_cons (pv 1) pa_nil))) (pa_cons pe_int pa_nil))))
      (C8.pss_cut (ps_for PassesOwn.never rfl (pi_listK (K := K) rfl (pv 2)) (pg_name (i := 5) sc_cell.nd rfl (by first | exact Or.inl rfl | exact Or.inr rfl)) (pss_cons (ps_if (pt_cmpR op_ne (pe_callTy call_intB (by rfl) T.b_int (by decide +kernel) (pa_cons (pe_g c_first hr (by decide) L2.pass0 bp_first (by rfl) (pa_cons (pv 0) (pa_cons (pv 5) pa_nil))) (pa_cons pe_int pa_nil))) (pv 4) (nomark _)) (pss_one ps_break) pss_nil)
      (pss_one (ps_set (i := 4) sc_cell.nd rfl (by first | exact Or.inl rfl | exact Or.inr rfl) (pe_op op_add (pv 4) (pe_g c_number hr (by decide) L2.pass0 bp_number (by rfl) (pa_cons (pv 0) (pa_cons (pv 5) pa_nil))))))))
      (pss_one (ps_ret (pe_tup (pa_cons (pv 1) (pa_cons (pv 3) (pa_cons (pe_bm PySem.F.plainAttrs_str PySem.F.slot_str_zfill PySem.F.type_str_zfill mt_zfill (pe_joined1 (pe_fmtB (pv 4))) (pa_cons (pv 0) pa_nil)) pa_nil)))))))))), ?_⟩
  refine ⟨_, rfl, ⟨_, rfl, ?_⟩⟩
  refine num_go h0 h1 hb hl fun H1 sm1 => ?_
  have ha1 := sm1 _ _ ha
  refine ⟨_, rfl, ⟨a, rfl, ⟨_, SqL.of ha1⟩, fun B nB => ?_⟩⟩
  refine lc_it (walk_list (xs := cs.map sx)) (fun i H' => H' B = some (.lst (((cs.take i).map fun c => ((M.size n c : Nat) : Int)).map V.int)) ∧ Same H1 H') ⟨upd_same, fun b o e => updn (nonn nB e) e⟩ (fun i H' _ h => SqL.of (h.2 _ _ ha1)) ?_ ?_
  · rintro i x H2 H3 hi ⟨hB, sm⟩ ⟨rfl, hx⟩
    obtain ⟨c, hcm, rfl⟩ : ∃ c, cs[i]? = some c ∧ x = sx c := by
      rw [List.getElem?_map] at hx
      cases e : cs[i]? with
      | none => rw [e] at hx; cases hx
      | some z => rw [e] at hx; exact ⟨z, rfl, (Option.some.inj hx).symm⟩
    obtain ⟨cb, cl⟩ := hf c (List.mem_of_getElem? hcm)
    refine ⟨rfl, ?_⟩
    dsimp only [tYes]
    rw [if_pos rfl]
    refine ⟨_, rfl, ⟨_, rfl, ?_⟩⟩
    refine num_go h0 h1 cb cl fun H4 s4 => ?_
    refine ⟨_, s4 _ _ hB, szt (by rw [List.length_map, List.length_map, List.length_take]; omega), ?_, fun b o e => updn (nonn nB e) (s4 _ _ (sm _ _ e))⟩
    rw [upd_same, List.take_add_one, hcm, List.map_append, List.map_append]
    rfl
  rintro H2 ⟨hB, sm2⟩
  rw [List.length_map, List.take_length] at hB
  refine ⟨B, _, rfl, SqL.of hB, ?_⟩
  rw [sum_cast (M.size n)]
  refine ⟨_, _, rfl, rfl, ?_⟩
  have sm : Same H H2 := sm1.trans sm2
  clear hB sm2 nB ha1 sm1
  rw [show ((fun i j : Int => V.int (i - j)) ((M.size n s0 : Nat) : Int) (((cs.map (M.size n)).sum : Nat) : Int)) = V.int ((M.size n s0 - (cs.map (M.size n)).sum : Nat) : Int) from congrArg V.int (by omega)]
  have k' := k
  unfold cellS at k'
  generalize M.size n s0 - (cs.map (M.size n)).sum = many at hp k' ⊢
  refine ⟨_, rfl, ⟨rfl, ⟨_, rfl, ?_⟩⟩⟩
  have em : decide (V.int (many : Int) = V.int 0) = decide (many = 0) := decide_eq_decide.mpr ⟨fun q => by have := V.int.inj q; omega, fun q => by rw [q]; rfl⟩
  rw [em]
  by_cases c0 : many = 0
  · subst c0
    rw [decide_eq_true rfl]
    refine iteT ?_
    refine ⟨_, rfl, ⟨szl (by show 3 ≤ 1000000; decide), fun t nT => ?_⟩⟩
    refine k' t _ (fun b o e => updn (nonn nT (sm b o e)) (sm b o e)) ?_ upd_same
    cases e : H t with
    | none => rfl
    | some o => rw [sm _ _ e] at nT; cases nT
  rw [decide_eq_false c0]
  refine iteF ?_
  rw [if_neg c0] at k'
  have hp' := hp c0
  refine ⟨_, rfl, ⟨_, rfl, ?_⟩⟩
  refine first_go h0 h1 hb hl fun H3 s3 => ?_
  have fb := hb.app (M.BL.rep (n - s0.length))
  have fl : (s0 ++ List.replicate (n - s0.length) 48).length = n := by rw [List.length_append, List.length_replicate]; omega
  refine ⟨SX.S (s0 ++ List.replicate (n - s0.length) 48), rfl, (by rw [tl_S]; intro q; rw [q] at fl; simp at fl; omega), by rw [sx_len]; omega, by rw [tl_S]; exact fb, ?_⟩
  rw [tl_S, num_bn, M.lo_first]
  have sm3 := sm.trans s3
  clear s3 sm hp fb fl em
  generalize hG : M.scan n (M.lo n s0) cs = G at hp' k'
  refine ⟨fun σ' H' => ∃ x5, σ' = [some (.int n), some (sx s0), some (.ref a), some (.int many), some (.int (G : Int)), x5] ∧ Same H H', ?_, ?_⟩
  · refine ⟨_, rfl, ⟨a, rfl, ⟨_, SqL.of (sm3 _ _ ha)⟩, ?_⟩⟩
    refine for_it (walk_list (xs := cs.map sx)) (fun i σ' H' => ∃ (p : Nat) (x5 : Option V), σ' = [some (.int n), some (sx s0), some (.ref a), some (.int many), some (.int p), x5] ∧ Same H H' ∧ M.scan n p (cs.drop i) = G) ⟨_, _, rfl, sm3, hG⟩ (fun i σ' H' _ h => let ⟨_, _, _, s, _⟩ := h; SqL.of (s _ _ ha)) ?_ ?_
    · clear sm3
      rintro i x σ' H4 H5 hi ⟨p, x5, rfl, sm, hsc⟩ ⟨rfl, hx⟩
      obtain ⟨c, hcm, rfl⟩ : ∃ c, cs[i]? = some c ∧ x = sx c := by
        rw [List.getElem?_map] at hx
        cases e : cs[i]? with
        | none => rw [e] at hx; cases hx
        | some z => rw [e] at hx; exact ⟨z, rfl, (Option.some.inj hx).symm⟩
      obtain ⟨cb, cl⟩ := hf c (List.mem_of_getElem? hcm)
      have ed : cs.drop i = c :: cs.drop (i + 1) := by
        obtain ⟨hlt, e⟩ := List.getElem?_eq_some_iff.mp hcm
        rw [List.drop_eq_getElem_cons hlt, e]
      rw [ed] at hsc
      unfold M.scan at hsc
      refine ⟨_, rfl, ⟨_, rfl, ?_⟩⟩
      refine first_go h0 h1 cb cl fun H6 s6 => ?_
      have fb := cb.app (M.BL.rep (n - c.length))
      have fl : (c ++ List.replicate (n - c.length) 48).length = n := by rw [List.length_append, List.length_replicate]; omega
      refine ⟨SX.S (c ++ List.replicate (n - c.length) 48), rfl, (by rw [tl_S]; intro q; rw [q] at fl; simp at fl; omega), by rw [sx_len]; omega, by rw [tl_S]; exact fb, ?_⟩
      rw [tl_S, num_bn, M.lo_first]
      refine ⟨_, rfl, ⟨rfl, ⟨_, rfl, ?_⟩⟩⟩
      have em : decide (V.int ((M.lo n c : Nat) : Int) = V.int (p : Int)) = decide (M.lo n c = p) := decide_eq_decide.mpr ⟨fun q => by have := V.int.inj q; omega, fun q => by rw [q]⟩
      rw [em]
      by_cases c1 : M.lo n c = p
      · rw [decide_eq_true c1]
        rw [if_pos c1] at hsc
        refine iteF ?_
        refine ⟨_, rfl, ⟨_, rfl, ⟨_, rfl, ?_⟩⟩⟩
        refine num_go h0 h1 cb cl fun H7 s7 => ?_
        refine ⟨_, _, rfl, rfl, ?_⟩
        rw [show ((fun i j : Int => V.int (i + j)) (p : Int) ((M.size n c : Nat) : Int)) = V.int ((p + M.size n c : Nat) : Int) from congrArg V.int (by omega)]
        exact ⟨_, _, rfl, (sm.trans s6).trans s7, hsc⟩
      · rw [decide_eq_false c1]
        rw [if_neg c1] at hsc
        refine iteT ?_
        refine ⟨some (sx c), ?_, sm.trans s6⟩
        rw [← hsc]
        rfl
    · rintro σ' H4 ⟨p, x5, rfl, sm, hsc⟩
      rw [List.length_map, List.drop_length] at hsc
      exact ⟨x5, by rw [← hsc]; rfl, sm⟩
  · rintro σ' H4 ⟨x5, rfl, sm⟩
    refine ⟨_, rfl, ⟨_, rfl, ?_⟩⟩
    have hd := (M.dg_ok G).2.2 n h0 hp'
    refine ⟨_, rfl, ⟨G, rfl, (by show (M.dg G).length ≤ 1000; omega), ?_⟩⟩
    refine ⟨rfl, ⟨_, rfl, ⟨_, n, rfl, rfl, pad_ok h1, ?_⟩⟩⟩
    rw [zf_eq hd]
    refine ⟨szl (by show 3 ≤ 1000000; decide), fun t nT => ?_⟩
    refine k' t _ (fun b o e => updn (nonn nT (sm b o e)) (sm b o e)) ?_ upd_same
    cases e : H t with
    | none => rfl
    | some o => rw [sm _ _ e] at nT; cases nT
end
open PySem PySem.Spec PyProof.Rows
open L2 hiding pass0
abbrev s_cells : Stmt := top 35
theorem sc_cells : FnScope ["width", "stretches", "inside", "stretch", "inner"] ["width", "stretches"] (defScope s_cells) := ⟨rfl, rfl, rfl, by decide +kernel, rfl, by decide +kernel, by decide +kernel⟩
theorem bp_cells : BndP "cells" s_cells ["width", "stretches"] := fun _ _ _ _ _ _ us h => match us, h with | [_, _], _ => rfl
/-- the tuples of cells at these places -/
inductive Tc (H : Hp) (w : Nat) (ks : List (List Nat)) : List Addr → List (List Nat) → Prop
  | nil : Tc H w ks [] []
  | cons {a : Addr} {s : List Nat} {as : List Addr} {ss : List (List Nat)} : H a = some (.tup [sx s, .int ((M.many w ks s : Nat) : Int), oA (M.cellA w ks s)]) → Tc H w ks as ss → Tc H w ks (a :: as) (s :: ss)
theorem Tc.mono {H H' : Hp} {w : Nat} {ks : List (List Nat)} (k : ∀ a l, H a = some (.tup l) → H' a = some (.tup l)) : ∀ {as : List Addr} {ss : List (List Nat)}, Tc H w ks as ss → Tc H' w ks as ss
  | _, _, .nil => .nil
  | _, _, .cons h r => .cons (k _ _ h) (r.mono k)
theorem Tc.snoc {H : Hp} {w : Nat} {ks : List (List Nat)} {a : Addr} {s : List Nat} (u : H a = some (.tup [sx s, .int ((M.many w ks s : Nat) : Int), oA (M.cellA w ks s)])) : ∀ {as : List Addr} {ss : List (List Nat)}, Tc H w ks as ss → Tc H w ks (as ++ [a]) (ss ++ [s])
  | _, _, .nil => .cons u .nil
  | _, _, .cons h r => .cons h (r.snoc u)
theorem Tc.len {H : Hp} {w : Nat} {ks : List (List Nat)} : ∀ {as : List Addr} {ss : List (List Nat)}, Tc H w ks as ss → as.length = ss.length
  | _, _, .nil => rfl
  | _, _, .cons _ r => congrArg (· + 1) r.len
/-- the cells told at L -/
def Told (H : Hp) (w : Nat) (ks : List (List Nat)) (L : Addr) : Prop := ∃ as : List Addr, H L = some (.lst (as.map V.ref)) ∧ Tc H w ks as ks
@[irreducible] def spCells : Sp := fun vs H Q _ => ∃ (n : Nat) (a : Addr) (ts : List (List Nat)), vs = [.int n, .ref a] ∧ 1 ≤ n ∧ n ≤ 100 ∧ ArgAt H a ts ∧ Fits n ts ∧ ts.length ≤ 1000 ∧ ∀ L H', Same H H' → H L = none → Told H' n (ksOf ts) L → Q (.ref L) H'
@[irreducible] def spCellOf : Sp := fun vs H Q _ => ∃ (n : Nat) (a : Addr) (ts : List (List Nat)) (z : List Nat), vs = [.int n, .ref a, sx z] ∧ 1 ≤ n ∧ n ≤ 100 ∧ ArgAt H a ts ∧ Fits n ts ∧ ts.length ≤ 1000 ∧ M.BL z ∧ z.length = n ∧ ∀ H', Same H H' → Q (sx (M.lg (ksOf ts) z)) H'
theorem cells_go {n : Nat} {a : Addr} {ts : List (List Nat)} {H : Hp} {Q : VK} {E : XK} (h0 : 1 ≤ n) (h1 : n ≤ 100) (ha : ArgAt H a ts) (hf : Fits n ts) (hl : ts.length ≤ 1000) (k : ∀ L H', Same H H' → H L = none → Told H' n (ksOf ts) L → Q (.ref L) H') : spCells [.int n, .ref a] H Q E := by
  unfold spCells
  exact ⟨n, a, ts, rfl, h0, h1, ha, hf, hl, k⟩
theorem cellof_go {n : Nat} {a : Addr} {ts : List (List Nat)} {z : List Nat} {H : Hp} {Q : VK} {E : XK} (h0 : 1 ≤ n) (h1 : n ≤ 100) (ha : ArgAt H a ts) (hf : Fits n ts) (hl : ts.length ≤ 1000) (hz : M.BL z) (lz : z.length = n) (k : ∀ H', Same H H' → Q (sx (M.lg (ksOf ts) z)) H') : spCellOf [.int n, .ref a, sx z] H Q E := by
  unfold spCellOf
  exact ⟨n, a, ts, z, rfl, h0, h1, ha, hf, hl, hz, lz, k⟩
section
variable {P : Program} {w : World} {K : PySem.W.Frag} {mg : Str → Option Value} {base : Heap} {f : Addr} {fd' : FuncData}
theorem ok_cells (F : Fun K "cells" "cells" s_cells f fd') (hm : mg "cells" = some (.ref f)) (T : Txt K mg) (c_check_stretches : Nm P w K mg base CX0 5 "check_stretches" s_check_stretches ["width", "stretches"] (spCS)) (c_with_all : Nm P w K mg base CX0 1 "_with_all" s_with_all ["stretches"] (spWA)) (c_widest_inside : Nm P w K mg base CX0 2 "_widest_inside" s_widest_inside ["known"] (spWI)) (c_cell : Nm P w K mg base CX0 7 "_cell" s_cell ["width", "stretch", "inner"] (spCell)) : Nm P w K mg base CX0 8 "cells" s_cells ["width", "stretches"] (spCells) := by
  refine nm_of F hm sc_cells (fun vs H Q E h => ?_) fun cdv A outer s H vs Q E hr h => ?_
  · unfold spCells at h
    obtain ⟨n, a, ts, rfl, h0, h1, ha, hf, hl, k⟩ := h
    subst_vars
    rfl
  unfold spCells at h
  obtain ⟨n, a, ts, rfl, h0, h1, ha, hf, hl, k⟩ := h
  refine ⟨_, (pss_cons (ps_expr (pe_g c_check_stretches hr (by decide) L2.pass0 bp_check_stretches (by rfl) (pa_cons (pv 0) (pa_cons (pv 1) pa_nil))))
      (pss_cons (ps_set (i := 2) sc_cells.nd rfl (by first | exact Or.inl rfl | exact Or.inr rfl) (pe_g c_widest_inside hr (by decide) L2.pass0 bp_widest_inside (by rfl) (pa_cons (pe_g c_with_all hr (by decide) L2.pass0 bp_with_all (by rfl) (pa_cons (pv 1) pa_nil)) pa_nil)))
      (pss_one (ps_ret (pe_lock (pe_lc (own := [("stretch", 3), ("inner", 4)]) (g := (gTup K 2 (gCons (gName 3) (gCons (gName 4) gNil)))) (by rfl) sc_cells.nd (pi_items (pv 2)) (blkOk_by (own := [("stretch", 3), ("inner", 4)]) (N := ["width", "stretches", "inside", "stretch", "inner"]) (sc := defScope s_cells) (by decide +kernel)) (fun _ _ _ _ _ => (pg_tup (by rfl) (pgs_cons (pg_name (i := 3) sc_cells.nd rfl (by first | exact Or.inl rfl | exact Or.inr rfl)) (pgs_cons (pg_name (i := 4) sc_cells.nd rfl (by first | exact Or.inl rfl | exact Or.inr rfl)) pgs_nil)))) (fun _ _ _ _ _ => pts_nil) (fun _ _ _ _ _ => (pe_g c_cell hr (by decide) L2.pass0 bp_cell (by rfl) (pa_cons (pv 0) (pa_cons (pv 3) (pa_cons (pv 4) pa_nil))))))))))), ?_⟩
  refine ⟨_, rfl, ⟨_, rfl, ?_⟩⟩
  refine cs_go h0 h1 ha hf fun H1 sm1 => ?_
  refine ⟨_, rfl, ?_⟩
  refine wa_go (ha.same sm1) hl fun D H2 nD sm2 hD => ?_
  have kn := ks_known hf
  have kl := ks_len ts
  refine wi_go hD kn h1 (by omega) fun B ad H3 g3 hD3 => ?_
  have sm3 : Same H H3 := (sm1.trans sm2).trans (g3.all hD hD3)
  show ∃ d u, _
  refine ⟨B, _, g3.dict, trivial, fun od => ?_⟩
  refine ⟨_, rfl, ⟨B, od, _, rfl, upd_same, fun L nL => ?_⟩⟩
  have eB : upd H3 B (.frz od (.dK (fd (ksOf ts) fun t => .ref (ad t)))) B = some (.frz od (.dK (fd (ksOf ts) fun t => .ref (ad t)))) := upd_same
  have nLB : B ≠ L := nonn nL eB
  have nL3 : H3 L = none := by rw [upd_ne nLB.symm] at nL; exact nL
  have hB2 : H2 B = none := g3.newB
  have hB0 : H B = none := by
    cases e : H B with
    | none => rfl
    | some o => rw [(sm1.trans sm2) _ _ e] at hB2; cases hB2
  have lists : ∀ s ∈ ksOf ts, upd H3 B (.frz od (.dK (fd (ksOf ts) fun t => .ref (ad t)))) (ad s) = some (.lst ((M.ch (ksOf ts) s).map sx)) := fun s hs => updn (g3.offB s hs) (g3.lst s hs)
  have keep : ∀ b o, b ≠ B → H3 b = some o → upd H3 B (.frz od (.dK (fd (ksOf ts) fun t => .ref (ad t)))) b = some o := fun b o n e => updn n e
  have k0 : ∀ L H', Same H H' → H L = none → Told H' n (ksOf ts) L → Q (.ref L) H' := k
  generalize ksOf ts = ks at *
  generalize upd H3 B (.frz od (.dK (fd ks fun t => .ref (ad t)))) = H4 at nL eB lists keep ⊢
  refine lc_it walk_items (fun i H' => ∃ as : List Addr, H' L = some (.lst (as.map V.ref)) ∧ Tc H' n ks as (ks.take i) ∧ Same H4 H') ⟨[], upd_same, .nil, fun b o e => updn (nonn nL e) e⟩ (fun _ H' _ h => let ⟨_, _, _, s⟩ := h; s _ _ eB) ?_ ?_
  · rintro i x H5 H6 hi ⟨as, hL, hT, sm⟩ ⟨t, x1, x2, rfl, nt, rfl, e1, e2⟩
    obtain ⟨s0, hs0, rfl, rfl⟩ : ∃ s0, ks[i]? = some s0 ∧ x1 = sx s0 ∧ x2 = .ref (ad s0) := by
      dsimp only at e1 e2
      rw [fd_get] at e1 e2
      cases hx : ks[i]? with
      | none => rw [hx] at e1; cases e1
      | some s0 =>
        rw [hx] at e1 e2
        exact ⟨s0, rfl, (Option.some.inj e1).symm, (Option.some.inj e2).symm⟩
    have hm := List.mem_of_getElem? hs0
    have nLt : L ≠ t := nonn nt hL
    have smt : Same H4 (upd H5 t (.tup [sx s0, .ref (ad s0)])) := fun c o e => updn (nonn nt (sm c o e)) (sm c o e)
    refine ⟨t, [sx s0, .ref (ad s0)], rfl, SqT.of upd_same, rfl, ?_⟩
    refine ⟨_, _, rfl, ?_⟩
    refine ⟨_, _, rfl, ?_⟩
    refine ⟨rfl, rfl, ?_⟩
    dsimp only [tYes]
    rw [if_pos rfl]
    refine ⟨_, rfl, ⟨_, rfl, ⟨_, rfl, ?_⟩⟩⟩
    have cm := M.cnt_many kn hm
    have fc := M.find_cell kn hm
    refine cell_go h0 h1 (kn.bits _ hm) (kn.fit _ hm) (smt _ _ (lists s0 hm)) ?_ (fun c hc => ⟨kn.bits c (M.mem_ch.mp hc).1, kn.fit c (M.mem_ch.mp hc).1⟩) cm.2 (fun q => (fc.2 q).1) fun T H7 s7 nT hT7 => ?_
    · have : (M.ch ks s0).length ≤ ks.length := List.length_filter_le _ _
      omega
    have hL7 : H7 L = some (.lst (as.map V.ref)) := s7 _ _ (updn nLt hL)
    have la := hT.len
    refine ⟨_, hL7, szt (by rw [List.length_map, la, List.length_take]; omega), as ++ [T], ?_, ?_, fun b o e => updn (nonn nL e) (s7 _ _ (smt _ _ e))⟩
    · rw [upd_same, List.map_append]
      rfl
    · rw [List.take_add_one, hs0]
      have mono : ∀ b l, H5 b = some (.tup l) → upd H7 L (.lst (as.map V.ref ++ [.ref T])) b = some (.tup l) := fun b l e => by
        have e1 : H7 b = some (.tup l) := s7 _ _ (updn (nonn nt e) e)
        refine updn (fun q => ?_) e1
        rw [q, hL7] at e1
        cases e1
      refine (hT.mono mono).snoc (updn (fun q => ?_) hT7)
      rw [q, hL7] at hT7
      cases hT7
  · rintro H5 ⟨as, hL, hT, sm⟩
    rw [fd_len, List.take_length] at hT
    refine ⟨sm _ _ eB, ?_⟩
    refine k0 L _ (fun b o e => ?_) ?_ ⟨as, updn nLB.symm hL, hT.mono fun b l e => updn (fun q => ?_) e⟩
    · have nb : b ≠ B := fun q => by rw [q, hB0] at e; cases e
      exact updn nb (sm _ _ (keep b o nb (sm3 b o e)))
    · cases e : H L with
      | none => rfl
      | some o => rw [sm3 _ _ e] at nL3; cases nL3
    · rw [q, sm _ _ eB] at e
      cases e
end
open PySem PySem.Spec PyProof.Rows
open L2 hiding pass0
abbrev s_is_row : Stmt := top 43
theorem sc_is_row : FnScope ["width", "value"] ["width", "value"] (defScope s_is_row) := ⟨rfl, rfl, rfl, by decide +kernel, rfl, by decide +kernel, by decide +kernel⟩
theorem bp_is_row : BndP "is_row" s_is_row ["width", "value"] := fun _ _ _ _ _ _ us h => match us, h with | [_, _], _ => rfl
abbrev s_is_rows : Stmt := top 44
theorem sc_is_rows : FnScope ["width", "value", "stretch", "goal"] ["width", "value"] (defScope s_is_rows) := ⟨rfl, rfl, rfl, by decide +kernel, rfl, by decide +kernel, by decide +kernel⟩
theorem bp_is_rows : BndP "is_rows" s_is_rows ["width", "value"] := fun _ _ _ _ _ _ us h => match us, h with | [_, _], _ => rfl
abbrev s_Tableinit : Stmt := inClass (top 42) 1
theorem sc_Tableinit : FnScope ["self", "width", "rows", "stretch"] ["self", "width", "rows"] (defScope s_Tableinit) := ⟨rfl, rfl, rfl, by decide +kernel, rfl, by decide +kernel, by decide +kernel⟩
abbrev s_Table_row : Stmt := inClass (top 42) 5
theorem sc_Table_row : FnScope ["self", "address"] ["self", "address"] (defScope s_Table_row) := ⟨rfl, rfl, rfl, by decide +kernel, rfl, by decide +kernel, by decide +kernel⟩
theorem bm_Table_row : BndMP "row" "Table.row" s_Table_row ["self", "address"] := fun _ _ _ _ _ _ us h => match us, h with | [_, _], _ => rfl
abbrev s_Table__call__ : Stmt := inClass (top 42) 7
theorem sc_Table__call__ : FnScope ["self", "address", "stretch"] ["self", "address"] (defScope s_Table__call__) := ⟨rfl, rfl, rfl, by decide +kernel, rfl, by decide +kernel, by decide +kernel⟩
theorem bm_Table__call__ : BndMP "__call__" "Table.__call__" s_Table__call__ ["self", "address"] := fun _ _ _ _ _ _ us h => match us, h with | [_, _], _ => rfl
abbrev s_Table__len__ : Stmt := inClass (top 42) 10
theorem sc_Table__len__ : FnScope ["self"] ["self"] (defScope s_Table__len__) := ⟨rfl, rfl, rfl, by decide +kernel, rfl, by decide +kernel, by decide +kernel⟩
theorem bm_Table__len__ : BndMP "__len__" "Table.__len__" s_Table__len__ ["self"] := fun _ _ _ _ _ _ us h => match us, h with | [_], _ => rfl
abbrev s_Table__contains__ : Stmt := inClass (top 42) 11
theorem sc_Table__contains__ : FnScope ["self", "x"] ["self", "x"] (defScope s_Table__contains__) := ⟨rfl, rfl, rfl, by decide +kernel, rfl, by decide +kernel, by decide +kernel⟩
theorem bm_Table__contains__ : BndMP "__contains__" "Table.__contains__" s_Table__contains__ ["self", "x"] := fun _ _ _ _ _ _ us h => match us, h with | [_, _], _ => rfl
abbrev s_Table__add__ : Stmt := inClass (top 42) 12
theorem sc_Table__add__ : FnScope ["self", "other"] ["self", "other"] (defScope s_Table__add__) := ⟨rfl, rfl, rfl, by decide +kernel, rfl, by decide +kernel, by decide +kernel⟩
theorem bm_Table__add__ : BndMP "__add__" "Table.__add__" s_Table__add__ ["self", "other"] := fun _ _ _ _ _ _ us h => match us, h with | [_, _], _ => rfl
abbrev s_Table__sub__ : Stmt := inClass (top 42) 14
theorem sc_Table__sub__ : FnScope ["self", "other", "stretch", "goal"] ["self", "other"] (defScope s_Table__sub__) := ⟨rfl, rfl, rfl, by decide +kernel, rfl, by decide +kernel, by decide +kernel⟩
theorem bm_Table__sub__ : BndMP "__sub__" "Table.__sub__" s_Table__sub__ ["self", "other"] := fun _ _ _ _ _ _ us h => match us, h with | [_, _], _ => rfl
abbrev s_check_same_width : Stmt := top 32
theorem sc_check_same_width : FnScope ["one", "other"] ["one", "other"] (defScope s_check_same_width) := ⟨rfl, rfl, rfl, by decide +kernel, rfl, by decide +kernel, by decide +kernel⟩
theorem bp_check_same_width : BndP "check_same_width" s_check_same_width ["one", "other"] := fun _ _ _ _ _ _ us h => match us, h with | [_, _], _ => rfl
abbrev s_Table_width : Stmt := inClass (top 42) 3
theorem sc_Table_width : FnScope ["self"] ["self"] (defScope s_Table_width) := ⟨rfl, rfl, rfl, by decide +kernel, rfl, by decide +kernel, by decide +kernel⟩
theorem bm_Table_width : BndMP "width" "Table.width" s_Table_width ["self"] := fun _ _ _ _ _ _ us h => match us, h with | [_], _ => rfl
abbrev s_Table_rows : Stmt := inClass (top 42) 4
theorem sc_Table_rows : FnScope ["self"] ["self"] (defScope s_Table_rows) := ⟨rfl, rfl, rfl, by decide +kernel, rfl, by decide +kernel, by decide +kernel⟩
theorem bm_Table_rows : BndMP "rows" "Table.rows" s_Table_rows ["self"] := fun _ _ _ _ _ _ us h => match us, h with | [_], _ => rfl
abbrev s_Table__radd__ : Stmt := inClass (top 42) 13
theorem sc_Table__radd__ : FnScope ["self", "other"] ["self", "other"] (defScope s_Table__radd__) := ⟨rfl, rfl, rfl, by decide +kernel, rfl, by decide +kernel, by decide +kernel⟩
theorem bm_Table__radd__ : BndMP "__radd__" "Table.__radd__" s_Table__radd__ ["self", "other"] := fun _ _ _ _ _ _ us h => match us, h with | [_, _], _ => rfl
abbrev s_Table__or__ : Stmt := inClass (top 42) 15
theorem sc_Table__or__ : FnScope ["self", "other"] ["self", "other"] (defScope s_Table__or__) := ⟨rfl, rfl, rfl, by decide +kernel, rfl, by decide +kernel, by decide +kernel⟩
theorem bm_Table__or__ : BndMP "__or__" "Table.__or__" s_Table__or__ ["self", "other"] := fun _ _ _ _ _ _ us h => match us, h with | [_, _], _ => rfl
abbrev s_Table__le__ : Stmt := inClass (top 42) 16
theorem sc_Table__le__ : FnScope ["self", "other", "stretch", "goal"] ["self", "other"] (defScope s_Table__le__) := ⟨rfl, rfl, rfl, by decide +kernel, rfl, by decide +kernel, by decide +kernel⟩
theorem bm_Table__le__ : BndMP "__le__" "Table.__le__" s_Table__le__ ["self", "other"] := fun _ _ _ _ _ _ us h => match us, h with | [_, _], _ => rfl
abbrev s_Table__ge__ : Stmt := inClass (top 42) 17
theorem sc_Table__ge__ : FnScope ["self", "other"] ["self", "other"] (defScope s_Table__ge__) := ⟨rfl, rfl, rfl, by decide +kernel, rfl, by decide +kernel, by decide +kernel⟩
theorem bm_Table__ge__ : BndMP "__ge__" "Table.__ge__" s_Table__ge__ ["self", "other"] := fun _ _ _ _ _ _ us h => match us, h with | [_, _], _ => rfl
abbrev s_Table__eq__ : Stmt := inClass (top 42) 18
theorem sc_Table__eq__ : FnScope ["self", "other"] ["self", "other"] (defScope s_Table__eq__) := ⟨rfl, rfl, rfl, by decide +kernel, rfl, by decide +kernel, by decide +kernel⟩
theorem bm_Table__eq__ : BndMP "__eq__" "Table.__eq__" s_Table__eq__ ["self", "other"] := fun _ _ _ _ _ _ us h => match us, h with | [_, _], _ => rfl
/-- a dict of texts -/
def tk (m : List (Str × Str)) : List (Key × V) := m.map fun p => (Sum.inr p.1, V.str p.2)
/-- a row of the width: its stretch, its goal -/
def RowOk (n : Int) (p : Str × Str) : Prop := Bits p.1 ∧ (p.1.length : Int) ≤ n ∧ goalB p.2 = true ∧ Low p.2 ∧ p.2.length ≤ 200
@[irreducible] def spRow : Sp := fun vs H Q _ => ∃ (n : Int) (b : Addr) (p : Str × Str), vs = [.int n, .ref b] ∧ 1 ≤ n ∧ n ≤ 100 ∧ H b = some (.tup [.str p.1, .str p.2]) ∧ RowOk n p ∧ ∀ H', Same H H' → Q (.bl true) H'
@[irreducible] def spRows : Sp := fun vs H Q _ => ∃ (n : Int) (b : Addr) (m : List (Str × Str)), vs = [.int n, .ref b] ∧ 1 ≤ n ∧ n ≤ 100 ∧ H b = some (.dK (tk m)) ∧ (∀ p ∈ m, RowOk n p) ∧ m.length ≤ 1000 ∧ ∀ H', Same H H' → Q (.bl true) H'
theorem strB_ok {n : Int} {z : Str} (h : Bits z) (l : (z.length : Int) ≤ n) : strB n z = true := by
  show (bitsB z && decide ((z.length : Int) ≤ n)) = true
  rw [bitsB_of h, decide_eq_true l]
  rfl
theorem len200 {n : Int} {z : Str} (h1 : n ≤ 100) (l : (z.length : Int) ≤ n) : z.length ≤ 200 := by omega
section
variable {P : Program} {w : World} {K : PySem.W.Frag} {mg : Str → Option Value} {base : Heap} {f : Addr} {fd : FuncData}
theorem ok_is_row (F : Fun K "is_row" "is_row" s_is_row f fd) (hm : mg "is_row" = some (.ref f)) (T : Txt K mg) (c_is_stretch : Nm P w K mg base CX0 4 "is_stretch" s_is_stretch ["width", "value"] (spIT strB)) (c_is_goal : Nm P w K mg base CX0 2 "is_goal" s_is_goal ["value"] (spT goalB)) :
    Nm P w K mg base CX0 5 "is_row" s_is_row ["width", "value"] spRow := by
  refine nm_of F hm sc_is_row (fun vs H Q E h => ?_) fun cdv A outer s H vs Q E hr h => ?_
  · unfold spRow at h
    obtain ⟨n, b, p, rfl, _⟩ := h
    rfl
  · unfold spRow at h
    obtain ⟨n, b, p, rfl, h0, h1, hb, ⟨hp1, hp2, hp3, hp4, hp5⟩, k⟩ := h
    refine ⟨_, (pss_cons (ps_if (PW.pt (pw_or (pt_not (pt_val (pe_callB (call_isiK' (K := K) rfl) (by rfl) T.b_isinstance (by decide +kernel) (pa_cons (pv 1) (pa_cons (pe_ty "tuple" (by rfl) T.b_tuple (by decide +kernel)) pa_nil))))) (pw_or1 (pt_cmpR op_ne (pe_callB (call_lenK (K := K) rfl) (by rfl) T.b_len PySem.boot_len (pa_cons (pv 1) pa_nil)) pe_int (nomark _))))) (pss_one (ps_ret pe_bl)) pss_nil)
      (pss_one (ps_ret (pe_and (pe_g c_is_stretch hr (by decide) L2.pass0 bp_is_stretch (by rfl) (pa_cons (pv 0) (pa_cons (pe_ix (ix_seqK (K := K) rfl) (pv 1) pe_int (fun _ _ => rfl)) pa_nil))) (pe_one (pe_g c_is_goal hr (by decide) L2.pass0 bp_is_goal (by rfl) (pa_cons (pe_ix (ix_seqK (K := K) rfl) (pv 1) pe_int (fun _ _ => rfl)) pa_nil))))))), ?_⟩
    repeat walk_at "s1"
    refine ⟨_, _, _, _, _, rfl, .ty _, .base (.tup hb), kit_ty (show kitB "tuple" "tuple" = some true by decide +kernel), ?_⟩
    refine ⟨_, rfl, ?_⟩
    refine iteF ?_
    repeat walk_at "s1"
    refine it_go h0 h1 (Nat.le_trans (len200 h1 hp2) (by decide)) fun H1 sm => ?_
    rw [strB_ok hp1 hp2]
    refine ⟨_, rfl, ?_⟩
    refine iteT ?_
    have hb1 := sm _ _ hb
    repeat walk_at "s1"
    refine t_go (Nat.le_trans hp5 (by decide)) fun H2 sm2 => ?_
    rw [hp3]
    exact k H2 fun c o e => sm2 c o (sm c o e)
theorem ok_is_rows (F : Fun K "is_rows" "is_rows" s_is_rows f fd) (hm : mg "is_rows" = some (.ref f)) (T : Txt K mg) (c_is_stretch : Nm P w K mg base CX0 4 "is_stretch" s_is_stretch ["width", "value"] (spIT strB)) (c_is_goal : Nm P w K mg base CX0 2 "is_goal" s_is_goal ["value"] (spT goalB)) :
    Nm P w K mg base CX0 5 "is_rows" s_is_rows ["width", "value"] spRows := by
  refine nm_of F hm sc_is_rows (fun vs H Q E h => ?_) fun cdv A outer s H vs Q E hr h => ?_
  · unfold spRows at h
    obtain ⟨n, b, p, rfl, _⟩ := h
    rfl
  · unfold spRows at h
    obtain ⟨n, b, m, rfl, h0, h1, hb, hp, hz, k⟩ := h
    refine ⟨_, (pss_cons (ps_if (pt_not (pt_val (pe_callB (call_isiK' (K := K) rfl) (by rfl) T.b_isinstance (by decide +kernel) (pa_cons (pv 1) (pa_cons (pe_ty "dict" (by rfl) T.b_dict (by decide +kernel)) pa_nil))))) (pss_one (ps_ret pe_bl)) pss_nil)
      (pss_one (ps_ret (pe_callB (call_allK (K := K) rfl rfl) (by rfl) T.b_all (by decide +kernel) (pa_cons (pe_lock (pe_lc (own := [("stretch", 2), ("goal", 3)]) (g := (gTup K 2 (gCons (gName 2) (gCons (gName 3) gNil)))) (by rfl) sc_is_rows.nd (pi_items (pv 1)) (blkOk_by (own := [("stretch", 2), ("goal", 3)]) (N := ["width", "value", "stretch", "goal"]) (sc := defScope s_is_rows) (by decide +kernel)) (fun _ _ _ _ _ => (pg_tup (by rfl) (pgs_cons (pg_name (i := 2) sc_is_rows.nd rfl (by first | exact Or.inl rfl | exact Or.inr rfl)) (pgs_cons (pg_name (i := 3) sc_is_rows.nd rfl (by first | exact Or.inl rfl | exact Or.inr rfl)) pgs_nil)))) (fun _ _ _ _ _ => pts_nil) (fun _ _ _ _ _ => (pe_and (pe_g c_is_stretch hr (by decide) L2.pass0 bp_is_stretch (by rfl) (pa_cons (pv 0) (pa_cons (pv 2) pa_nil))) (pe_one (pe_g c_is_goal hr (by decide) L2.pass0 bp_is_goal (by rfl) (pa_cons (pv 3) pa_nil))))))) pa_nil))))), ?_⟩
    repeat walk_at "s1"
    refine ⟨_, _, _, _, _, rfl, .ty _, .base (.dK hb), kit_ty (show kitB "dict" "dict" = some true by decide +kernel), ?_⟩
    refine ⟨_, rfl, ?_⟩
    refine iteF ?_
    show ∃ d u, _
    refine ⟨b, _, hb, trivial, fun od => ?_⟩
    refine ⟨_, rfl, ?_⟩
    refine ⟨b, od, _, rfl, upd_same, fun D nD => ?_⟩
    have hDb : D ≠ b := fun z => by rw [z, upd_same] at nD; cases nD
    refine lc_it walk_items (fun i H1 => H1 D = some (.lst ((List.replicate i true).map V.bl)) ∧ Same (upd H b (.frz od (.dK (tk m)))) H1) ⟨upd_same, fun c o e => updn (nonn nD e) e⟩ (fun _ H1 _ h => h.2 _ _ upd_same) ?_ ?_
    · rintro i x H1 H2 hi ⟨hD, sm⟩ ⟨t, x1, x2, rfl, nt, rfl, e1, e2⟩
      obtain ⟨p, hm1, rfl, rfl⟩ : ∃ p, m[i]? = some p ∧ x1 = .str p.1 ∧ x2 = .str p.2 := by
        dsimp only at e1 e2
        unfold tk at e1 e2
        rw [List.getElem?_map] at e1 e2
        cases hx : m[i]? with
        | none => rw [hx] at e1; cases e1
        | some p =>
          rw [hx] at e1 e2
          exact ⟨p, rfl, (Option.some.inj e1).symm, (Option.some.inj e2).symm⟩
      obtain ⟨hp1, hp2, hp3, hp4, hp5⟩ := hp p (List.mem_of_getElem? hm1)
      have hi' : i < m.length := by unfold tk at hi; rw [List.length_map] at hi; exact hi
      have nDt : D ≠ t := nonn nt hD
      have smt : Same (upd H b (.frz od (.dK (tk m)))) (upd H1 t (.tup [.str p.1, .str p.2])) := fun c o e => updn (nonn nt (sm c o e)) (sm c o e)
      refine ⟨t, [.str p.1, .str p.2], rfl, SqT.of upd_same, rfl, ?_⟩
      refine ⟨_, _, rfl, ?_⟩
      refine ⟨_, _, rfl, ?_⟩
      refine ⟨rfl, rfl, ?_⟩
      dsimp only [tYes]
      rw [if_pos rfl]
      repeat walk_at "s1"
      refine it_go h0 h1 (Nat.le_trans (len200 h1 hp2) (by decide)) fun H3 sm3 => ?_
      rw [strB_ok hp1 hp2]
      refine ⟨_, rfl, ?_⟩
      refine iteT ?_
      repeat walk_at "s1"
      refine t_go (Nat.le_trans hp5 (by decide)) fun H4 sm4 => ?_
      rw [hp3]
      have hD4 : H4 D = some (.lst ((List.replicate i true).map V.bl)) := sm4 _ _ (sm3 _ _ (updn nDt hD))
      have sm5 : Same (upd H b (.frz od (.dK (tk m)))) H4 := fun c o e => sm4 c o (sm3 c o (smt c o e))
      refine ⟨_, hD4, szt (by rw [List.length_map, List.length_replicate]; omega), ?_, fun c o e => updn (nonn nD e) (sm5 c o e)⟩
      rw [upd_same, List.replicate_succ', List.map_append]
      rfl
    · rintro H1 ⟨hD, sm⟩
      refine ⟨sm _ _ upd_same, ?_⟩
      refine ⟨_, _, rfl, SqL.of (updn hDb hD), ?_⟩
      have e : (List.replicate (tk m).length true).all id = true := by
        rw [List.all_eq_true]
        intro x hx
        exact List.eq_of_mem_replicate hx
      rw [e]
      refine k _ fun c o e => ?_
      by_cases hc : c = b
      · rw [hc] at e ⊢
        rw [hb] at e
        rw [upd_same]
        exact e
      · exact updn hc (sm c o (updn hc e))
end
open PySem PySem.Spec PyProof.Rows
open L2 hiding pass0
/-- what of the text is known of the class -/
structure TabC (K : PySem.W.Frag) (C : Addr) : Prop where
  cl : Cls K C
  n1 : NoAttr K C "_width"
  n2 : NoAttr K C "_rows"
  con : ∃ u, Con K C "MOST_ROWS" (.int 40) u
  sf : PySem.W.selfFirst K C = true
/-- the value of a key -/
def getT (m : List (Str × Str)) (k : Str) : Str := ((m.find? fun p => decide (p.1 = k)).map (·.2)).getD Str.empty
/-- the rows in order -/
def srt (m : List (Str × Str)) : List (Str × Str) := (tsort (m.map (·.1))).map fun k => (k, getT m k)
/-- the table at a: its width, its rows m -/
def TabAt (C : Addr) (H : Hp) (a : Addr) (n : Int) (m : List (Str × Str)) : Prop := ∃ dx D, H a = some (.ins C dx [("_width", .int n), ("_rows", .ref D)]) ∧ H D = some (.dK (tk m)) ∧ D ≠ a
@[irreducible] def spInit (C : Addr) : Sp := fun vs H Q _ => ∃ (a dx : Addr) (n : Int) (b : Addr) (m : List (Str × Str)), vs = [.ref a, .int n, .ref b] ∧ H a = some (.ins C dx []) ∧ H b = some (.dK (tk m)) ∧ 1 ≤ n ∧ n ≤ 100 ∧ (∀ p ∈ m, RowOk n p) ∧ (m.map (·.1)).Nodup ∧ m.length ≤ 40 ∧
  ∀ H', (∀ c o, c ≠ a → H c = some o → H' c = some o) → TabAt C H' a n (srt m) → Q .non H'
theorem rows_go {n : Int} {b : Addr} {m : List (Str × Str)} {H : Hp} {Q : VK} {E : XK} (h0 : 1 ≤ n) (h1 : n ≤ 100) (hb : H b = some (.dK (tk m))) (hp : ∀ p ∈ m, RowOk n p) (hz : m.length ≤ 1000) (k : ∀ H', Same H H' → Q (.bl true) H') : spRows [.int n, .ref b] H Q E := by
  unfold spRows
  exact ⟨n, b, m, rfl, h0, h1, hb, hp, hz, k⟩
theorem tk_keys (m : List (Str × Str)) : (tk m).map (·.1) = (m.map (·.1)).map Sum.inr := by
  unfold tk
  rw [List.map_map, List.map_map]
  rfl
theorem tk_len (m : List (Str × Str)) : (tk m).length = m.length := by unfold tk; rw [List.length_map]
theorem tk_val (m : List (Str × Str)) {k : Str} (h : k ∈ m.map (·.1)) : valV (tk m) (Sum.inr k) = some (.str (getT m k)) := by
  induction m with
  | nil => cases h
  | cons p m ih =>
    unfold tk getT valV at *
    by_cases e : p.1 = k
    · rw [List.map_cons, List.find?_cons_of_pos (by simp [e]), List.find?_cons_of_pos (by simp [e])]
      rfl
    · rw [List.map_cons, List.find?_cons_of_neg (by simpa using e), List.find?_cons_of_neg (by simpa using e)]
      refine ih ?_
      rcases List.mem_cons.mp h with q | q
      · exact absurd q.symm e
      · exact q
theorem tk_snoc {m : List (Str × Str)} {k g : Str} (h : k ∉ m.map (·.1)) : putK (tk m) (Sum.inr k) (.str g) = tk (m ++ [(k, g)]) := by
  unfold putK
  rw [if_neg]
  · unfold tk
    rw [List.map_append]
    rfl
  · intro hh
    obtain ⟨q, hq, e⟩ := List.any_eq_true.mp hh
    have e' : q.1 = Sum.inr k := of_decide_eq_true e
    have : (Sum.inr k : Key) ∈ (tk m).map (·.1) := e' ▸ List.mem_map_of_mem hq
    rw [tk_keys] at this
    obtain ⟨z, hz, e2⟩ := List.mem_map.mp this
    cases e2
    exact h hz
section
variable {P : Program} {w : World} {K : PySem.W.Frag} {mg : Str → Option Value} {base : Heap} {f C : Addr} {fd : FuncData}
theorem ok_init {params : Arguments} {dvs : List V} {kws : List (Str × V)} (F : FunD K "__init__" "Table.__init__" params (defBody s_Tableinit) (defScope s_Tableinit) dvs kws f fd) (T : Txt K mg) (TC : TabC K C) (c_check_width : Nm P w K mg base CX0 3 "check_width" s_check_width ["width"] spCW)
    (c_is_rows : Nm P w K mg base CX0 5 "is_rows" s_is_rows ["width", "value"] spRows) : FnG P w K mg base CX0 6 f fd ["self", "width", "rows"] (spInit C) := by
  obtain ⟨oc, od, dV, kV, doc, pm, an, cdv, ct, osl, rfl, lk, hcd, _, _⟩ := F.ex
  refine fnG_core lk hcd sc_Tableinit (fun vs H Q E h => ?_) fun A outer s H vs Q E hr h => ?_
  · unfold spInit at h
    obtain ⟨a, dx, n, b, m, rfl, _⟩ := h
    rfl
  · unfold spInit at h
    obtain ⟨a, dx, n, b, m, rfl, ha, hb, h0, h1, hp, hnd, hz, k⟩ := h
    refine ⟨_, (pss_cons (ps_expr (pe_g c_check_width hr (by decide) L2.pass0 bp_check_width (by rfl) (pa_cons (pv 1) pa_nil)))
      (pss_cons (ps_if (pt_cmpR op_isN (pv 2) pe_non (nomark _)) (pss_one (ps_set (i := 2) sc_Tableinit.nd rfl (by first | exact Or.inl rfl | exact Or.inr rfl) pe_dnewK)) pss_nil)
      (pss_cons (ps_if (pt_not (pt_val (pe_g c_is_rows hr (by decide) L2.pass0 bp_is_rows (by rfl) (pa_cons (pv 1) (pa_cons (pv 2) pa_nil))))) (pss_one ps_never) pss_nil)
      (pss_cons (ps_if (pt_cmpR op_gt (pe_callB call_lenD (by rfl) T.b_len PySem.boot_len (pa_cons (pv 2) pa_nil)) (pe_con (pv 0) (by rfl)) (nomark _)) (pss_one ps_never) pss_nil)
      (pss_cons (ps_fld (pv 0) (pv 1) rfl)
      (pss_one (ps_fld (pv 0) (pe_dc (own := [("stretch", 3)]) (g := (gName 3)) (by rfl) sc_Tableinit.nd (pi_listK (K := K) rfl (pe_callBK (cr_sortKD hr.u rfl) (by rfl) T.b_sorted (by decide +kernel) (pa_cons (pv 2) pa_nil) (pk_cons (pe_ty "str" (by rfl) T.b_str (by decide +kernel)) pk_nil))) (blkOk_by (own := [("stretch", 3)]) (N := ["self", "width", "rows", "stretch"]) (sc := defScope s_Tableinit) (by decide +kernel)) (fun _ _ _ _ _ => (pg_name (i := 3) sc_Tableinit.nd rfl (by first | exact Or.inl rfl | exact Or.inr rfl))) (fun _ _ _ _ _ => pts_nil) (fun _ _ _ _ _ => (pv 3)) (fun _ _ _ _ _ => (pe_dget hr.u1 (pv 2) (pv 3) (fun _ _ => rfl)))) rfl))))))), ?_⟩
    repeat walk_at "s1"
    refine cw_go h0 h1 fun H1 sm1 => ?_
    have ha1 := sm1 _ _ ha
    have hb1 := sm1 _ _ hb
    show tSeq _ _ _ _ _
    refine ⟨_, rfl, ?_⟩
    refine ⟨rfl, ?_⟩
    refine ⟨_, rfl, ?_⟩
    refine iteF ?_
    show tSeq _ _ _ _ _
    refine ⟨_, rfl, ?_⟩
    refine ⟨_, rfl, ?_⟩
    refine rows_go h0 h1 hb1 hp (by omega) fun H2 sm2 => ?_
    have ha2 := sm2 _ _ ha1
    have hb2 := sm2 _ _ hb1
    refine ⟨_, rfl, ?_⟩
    refine iteF ?_
    show tSeq _ _ _ _ _
    refine ⟨_, rfl, ?_⟩
    refine ⟨b, tk m, rfl, hb2, ?_⟩
    refine ⟨_, rfl, ?_⟩
    obtain ⟨u, hcon⟩ := TC.con
    refine ⟨a, C, dx, [], .int 40, u, rfl, ha2, TC.cl, hcon, rfl, ?_⟩
    refine ⟨_, _, rfl, rfl, ?_⟩
    refine ⟨_, rfl, ?_⟩
    rw [show decide ((40 : Int) < ((tk m).length : Int)) = false from decide_eq_false (by rw [tk_len]; omega)]
    refine iteF ?_
    show tSeq _ _ _ _ _
    refine ⟨_, rfl, ?_⟩
    refine ⟨_, rfl, ?_⟩
    refine ⟨a, C, dx, [], rfl, ha2, TC.cl, TC.n1, by decide, ?_⟩
    have hba : b ≠ a := fun z => by rw [z, ha2] at hb2; cases hb2
    have hb3 : upd H2 a (.ins C dx (putF "_width" (.int n) [])) b = some (.dK (tk m)) := updn hba hb2
    dsimp only
    refine ⟨_, rfl, ?_⟩
    refine ⟨b, tk m, m.map (·.1), rfl, rfl, .inl hb3, tk_keys m, fun L nL => ?_⟩
    refine ⟨L, rfl, ⟨_, SqL.of upd_same⟩, fun D nD => ?_⟩
    generalize hT : tsort (m.map (·.1)) = ts at nL nD ⊢
    have hperm : ts.Perm (m.map (·.1)) := by rw [← hT]; exact tsort_perm _
    have htn : ts.Nodup := hperm.nodup_iff.mpr hnd
    have htl : ts.length ≤ 40 := by rw [hperm.length_eq, List.length_map]; exact hz
    have hLa : L ≠ a := fun z => by rw [z, upd_same] at nL; cases nL
    have hDL : D ≠ L := fun z => by rw [z, upd_same] at nD; cases nD
    have hDa : D ≠ a := fun z => by rw [z, upd_ne (Ne.symm hLa), upd_same] at nD; cases nD
    have hLb : b ≠ L := nonn nL hb3
    have nD2 : H2 D = none := by
      rw [upd_ne hDL, upd_ne hDa] at nD
      exact nD
    have hDb : b ≠ D := nonn nD (updn hLb hb3)
    refine dc_it walk_list (fun i H4 => H4 D = some (.dK (tk ((ts.take i).map fun k => (k, getT m k)))) ∧ H4 L = some (.lst (ts.map V.str)) ∧ H4 a = some (.ins C dx [("_width", .int n)]) ∧ (∀ c o, c ≠ a → H2 c = some o → H4 c = some o)) ?_ (fun i H4 _ h => SqL.of h.2.1) ?_ ?_
    · refine ⟨upd_same, updn (Ne.symm hDL) upd_same, updn (Ne.symm hDa) (updn (Ne.symm hLa) upd_same), fun c o hc e => ?_⟩
      have e1 : upd H2 a (.ins C dx (putF "_width" (.int n) [])) c = some o := updn hc e
      have e2 := updn (o := .lst (ts.map V.str)) (nonn nL e1) e1
      exact updn (nonn nD e2) e2
    · rintro i x H4 H5 hi ⟨hD, hL, hA, hk⟩ ⟨rfl, hx⟩
      obtain ⟨key, hkey, rfl⟩ : ∃ key, ts[i]? = some key ∧ x = .str key := by
        rw [List.getElem?_map] at hx
        cases e : ts[i]? with
        | none => rw [e] at hx; cases hx
        | some z => rw [e] at hx; exact ⟨z, rfl, (Option.some.inj hx).symm⟩
      refine ⟨rfl, ?_⟩
      dsimp only [tYes]
      rw [if_pos rfl]
      refine ⟨_, rfl, ?_⟩
      have hbH : H5 b = some (.dK (tk m)) := hk b _ hba hb2
      have hmem : key ∈ m.map (·.1) := hperm.mem_iff.mp (List.mem_of_getElem? hkey)
      have hnew : key ∉ ((ts.take i).map fun k => (k, getT m k)).map (·.1) := by
        have e0 : ((ts.take i).map fun k => (k, getT m k)).map (·.1) = ts.take i := by
          rw [List.map_map]
          exact List.map_id' _
        rw [e0]
        intro hin
        have hn : (ts.take (i + 1)).Nodup := (List.take_sublist _ _).nodup htn
        rw [List.take_add_one, hkey] at hn
        exact (List.nodup_append.mp hn).2.2 key hin key (List.mem_singleton.mpr rfl) rfl
      refine ⟨_, rfl, ⟨_, rfl, ⟨b, .str (getT m key), rfl, .inl ⟨tk m, Sum.inr key, .inl hbH, rfl, (tk_val m hmem).symm⟩, ?_⟩⟩⟩
      refine ⟨_, Sum.inr key, rfl, hD, szt (by rw [tk_len, List.length_map, List.length_take]; omega), ?_, updn (Ne.symm hDL) hL, updn (Ne.symm hDa) hA, fun c o hc e => updn (nonn nD2 e) (hk c o hc e)⟩
      rw [upd_same, tk_snoc hnew, List.take_add_one, hkey, List.map_append]
      rfl
    · rintro H4 ⟨hD, hL, hA, hk⟩
      rw [List.length_map, List.take_length] at hD
      refine ⟨_, rfl, ⟨a, C, dx, _, rfl, hA, TC.cl, TC.n2, Nat.le_of_ble_eq_true rfl, ?_⟩⟩
      refine k _ (fun c o hc e => updn hc (hk c o hc (sm2 c o (sm1 c o e)))) ⟨dx, D, upd_same, updn hDa ?_, hDa⟩
      rw [hD]
      unfold srt
      rw [hT]
end
open PySem PySem.Spec PyProof.Rows
open L2 hiding pass0
theorem tk_none (m : List (Str × Str)) {k : Str} (h : k ∉ m.map (·.1)) : valV (tk m) (Sum.inr k) = none := by
  unfold valV
  rw [List.find?_eq_none.mpr]
  · rfl
  · intro q hq e
    have e' : q.1 = Sum.inr k := of_decide_eq_true e
    have : (Sum.inr k : Key) ∈ (tk m).map (·.1) := e' ▸ List.mem_map_of_mem hq
    rw [tk_keys] at this
    obtain ⟨z, hz, e2⟩ := List.mem_map.mp this
    cases e2
    exact h hz
theorem tk_has (m : List (Str × Str)) (k : Str) : (valV (tk m) (Sum.inr k)).isSome = decide (k ∈ m.map (·.1)) := by
  by_cases h : k ∈ m.map (·.1)
  · rw [tk_val m h, decide_eq_true h]
    rfl
  · rw [tk_none m h, decide_eq_false h]
    rfl
@[irreducible] def spWidth (C : Addr) : Sp := fun vs H Q _ => ∃ (a : Addr) (n : Int) (m : List (Str × Str)), vs = [.ref a] ∧ TabAt C H a n m ∧ Q (.int n) H
@[irreducible] def spTRows (C : Addr) : Sp := fun vs H Q _ => ∃ (a : Addr) (n : Int) (m : List (Str × Str)), vs = [.ref a] ∧ TabAt C H a n m ∧ ∀ p, H p = none → Q (.ref p) (upd H p (.dK (tk m)))
@[irreducible] def spTLen (C : Addr) : Sp := fun vs H Q _ => ∃ (a : Addr) (n : Int) (m : List (Str × Str)), vs = [.ref a] ∧ TabAt C H a n m ∧ Q (.int m.length) H
@[irreducible] def spHas (C : Addr) : Sp := fun vs H Q _ => ∃ (a : Addr) (n : Int) (m : List (Str × Str)) (z : Str), vs = [.ref a, .str z] ∧ TabAt C H a n m ∧ Q (.bl (decide (z ∈ m.map (·.1)))) H
section
variable {P : Program} {w : World} {K : PySem.W.Frag} {mg : Str → Option Value} {base : Heap} {f C p0 : Addr} {fd : FuncData}
theorem ok_tlen (F : Fun K "__len__" "Table.__len__" s_Table__len__ f fd) (hm : Meth K C "__len__" f) (T : Txt K mg) (TC : TabC K C) : Mth P w K mg base CX0 1 C "__len__" "Table.__len__" s_Table__len__ ["self"] (spTLen C) := by
  refine mth_of F hm sc_Table__len__ (fun vs H Q E h => ?_) fun cdv A outer s H vs Q E hr h => ?_
  · unfold spTLen at h
    obtain ⟨a, n, m, rfl, _⟩ := h
    rfl
  · unfold spTLen at h
    obtain ⟨a, n, m, rfl, ⟨dx, D, ha, hD, hne⟩, k⟩ := h
    refine ⟨_, (pss_one (ps_ret (pe_callB call_lenD (by rfl) T.b_len PySem.boot_len (pa_cons (pe_fld (pv 0) (by rfl)) pa_nil)))), ?_⟩
    refine ⟨_, rfl, ⟨a, C, dx, _, .ref D, rfl, ha, TC.cl, TC.n2, rfl, ?_⟩⟩
    refine ⟨D, tk m, rfl, hD, ?_⟩
    rw [tk_len]
    exact k
theorem ok_thas (F : Fun K "__contains__" "Table.__contains__" s_Table__contains__ f fd) (hm : Meth K C "__contains__" f) (T : Txt K mg) (TC : TabC K C) : Mth P w K mg base CX0 1 C "__contains__" "Table.__contains__" s_Table__contains__ ["self", "x"] (spHas C) := by
  refine mth_of F hm sc_Table__contains__ (fun vs H Q E h => ?_) fun cdv A outer s H vs Q E hr h => ?_
  · unfold spHas at h
    obtain ⟨a, n, m, z, rfl, _⟩ := h
    rfl
  · unfold spHas at h
    obtain ⟨a, n, m, z, rfl, ⟨dx, D, ha, hD, hne⟩, k⟩ := h
    refine ⟨_, (pss_one (ps_ret (pe_and (pe_callB (call_isiK' (K := K) rfl) (by rfl) T.b_isinstance (by decide +kernel) (pa_cons (pv 1) (pa_cons (pe_ty "str" (by rfl) T.b_str (by decide +kernel)) pa_nil))) (pe_one (pe_cmp (pc_din hr.u1 (pv 1) (pe_fld (pv 0) (by rfl)))))))), ?_⟩
    repeat walk_at "s1"
    refine ⟨_, _, _, _, _, rfl, .ty _, .base (.str z), kit_ty (k_ss), ?_⟩
    refine ⟨_, rfl, ?_⟩
    refine iteT ?_
    refine ⟨_, rfl, ?_⟩
    refine ⟨_, rfl, ⟨a, C, dx, _, .ref D, rfl, ha, TC.cl, TC.n2, rfl, ?_⟩⟩
    refine ⟨D, _, rfl, .inl ⟨tk m, Sum.inr z, .inl hD, rfl, rfl⟩, ?_⟩
    rw [tk_has]
    exact k
end
open PySem PySem.Spec PyProof.Rows
open L2 hiding pass0
/-- a row put -/
def putT (m : List (Str × Str)) (k g : Str) : List (Str × Str) := if (m.any fun p => decide (p.1 = k)) = true then m.map (fun p => if p.1 = k then (p.1, g) else p) else m ++ [(k, g)]
theorem tk_put (m : List (Str × Str)) (k g : Str) : putK (tk m) (Sum.inr k) (.str g) = tk (putT m k g) := by
  unfold putK putT
  have e : ((tk m).any fun kv => decide (kv.1 = Sum.inr k)) = m.any fun p => decide (p.1 = k) := by
    unfold tk
    rw [List.any_map]
    congr 1
    funext p
    simp
  rw [e]
  split
  · unfold tk
    rw [List.map_map, List.map_map]
    refine List.map_congr_left fun p _ => ?_
    by_cases h : p.1 = k
    · simp [h]
    · simp [h]
  · unfold tk
    rw [List.map_append]
    rfl
theorem put_nodup {m : List (Str × Str)} {k g : Str} (h : (m.map (·.1)).Nodup) : ((putT m k g).map (·.1)).Nodup := by
  unfold putT
  split
  · have e : (m.map fun p => if p.1 = k then (p.1, g) else p).map (·.1) = m.map (·.1) := by
      rw [List.map_map]
      refine List.map_congr_left fun p _ => ?_
      by_cases h : p.1 = k <;> simp [h]
    rw [e]
    exact h
  · rename_i hn
    rw [List.map_append, List.nodup_append]
    refine ⟨h, by simp, fun x hx y hy => ?_⟩
    obtain rfl := List.mem_singleton.mp hy
    rintro rfl
    refine hn (List.any_eq_true.mpr ?_)
    obtain ⟨p, hp, e⟩ := List.mem_map.mp hx
    exact ⟨p, hp, decide_eq_true e⟩
theorem put_ok {n : Int} {m : List (Str × Str)} {k g : Str} (h : ∀ p ∈ m, RowOk n p) (h2 : RowOk n (k, g)) : ∀ p ∈ putT m k g, RowOk n p := by
  unfold putT
  split
  · intro p hp
    obtain ⟨q, hq, rfl⟩ := List.mem_map.mp hp
    by_cases e : q.1 = k
    · rw [if_pos e, e]
      exact h2
    · rw [if_neg e]
      exact h q hq
  · intro p hp
    rcases List.mem_append.mp hp with hp | hp
    · exact h p hp
    · rw [List.mem_singleton.mp hp]
      exact h2
/-- merging a dict into the empty one -/
theorem mrg_app : ∀ (m acc : List (Str × Str)), ((acc ++ m).map (·.1)).Nodup → mergeK (tk acc) (tk m) = tk (acc ++ m)
  | [], acc, _ => by rw [List.append_nil]; rfl
  | p :: m, acc, h => by
    have hf : p.1 ∉ acc.map (·.1) := fun hin => by
      rw [List.map_append, List.nodup_append] at h
      exact h.2.2 p.1 hin p.1 (List.mem_cons_self ..) rfl
    have e : mergeK (tk acc) (tk (p :: m)) = mergeK (putK (tk acc) (Sum.inr p.1) (.str p.2)) (tk m) := rfl
    rw [e, tk_snoc hf, mrg_app m (acc ++ [(p.1, p.2)]) (by rw [List.append_assoc]; exact h), List.append_assoc]
    rfl
theorem mrg_nil {m : List (Str × Str)} (h : (m.map (·.1)).Nodup) : mergeK [] (tk m) = tk m := mrg_app m [] h
structure TabOk (n : Int) (m : List (Str × Str)) : Prop where
  w0 : 1 ≤ n
  w1 : n ≤ 100
  rows : ∀ p ∈ m, RowOk n p
  nd : (m.map (·.1)).Nodup
  few : m.length ≤ 40
theorem init_go {C a dx b : Addr} {n : Int} {m : List (Str × Str)} {H : Hp} {Q : VK} {E : XK} (ha : H a = some (.ins C dx [])) (hb : H b = some (.dK (tk m))) (ok : TabOk n m) (k : ∀ H', (∀ c o, c ≠ a → H c = some o → H' c = some o) → TabAt C H' a n (srt m) → Q .non H') : spInit C [.ref a, .int n, .ref b] H Q E := by
  unfold spInit
  exact ⟨a, dx, n, b, m, rfl, ha, hb, ok.w0, ok.w1, ok.rows, ok.nd, ok.few, k⟩
theorem row_go {n : Int} {b : Addr} {p : Str × Str} {H : Hp} {Q : VK} {E : XK} (h0 : 1 ≤ n) (h1 : n ≤ 100) (hb : H b = some (.tup [.str p.1, .str p.2])) (hp : RowOk n p) (k : ∀ H', Same H H' → Q (.bl true) H') : spRow [.int n, .ref b] H Q E := by
  unfold spRow
  exact ⟨n, b, p, rfl, h0, h1, hb, hp, k⟩
@[irreducible] def spAdd (C : Addr) : Sp := fun vs H Q _ => ∃ (a t : Addr) (n : Int) (m : List (Str × Str)) (p : Str × Str), vs = [.ref a, .ref t] ∧ TabAt C H a n m ∧ H t = some (.tup [.str p.1, .str p.2]) ∧ TabOk n m ∧ RowOk n p ∧ (putT m p.1 p.2).length ≤ 40 ∧
  ∀ a' H', Same H H' → H a' = none → TabAt C H' a' n (srt (putT m p.1 p.2)) → Q (.ref a') H'
section
variable {P : Program} {w : World} {K : PySem.W.Frag} {mg : Str → Option Value} {base : Heap} {f C : Addr} {fd : FuncData}
theorem ok_add (F : Fun K "__add__" "Table.__add__" s_Table__add__ f fd) (hm : Meth K C "__add__" f) (T : Txt K mg) (TC : TabC K C) (c_is_row : Nm P w K mg base CX0 5 "is_row" s_is_row ["width", "value"] spRow)
    (b_Table : BndI P w K mg base CX0 6 "Table" C ["self", "width", "rows"] (spInit C) 2 [] (fun us _ => us)) : Mth P w K mg base CX0 8 C "__add__" "Table.__add__" s_Table__add__ ["self", "other"] (spAdd C) := by
  refine mth_of F hm sc_Table__add__ (fun vs H Q E h => ?_) fun cdv A outer s H vs Q E hr h => ?_
  · unfold spAdd at h
    obtain ⟨a, t, n, m, p, rfl, _⟩ := h
    rfl
  · unfold spAdd at h
    obtain ⟨a, t, n, m, p, rfl, ⟨dx, D, ha, hD, hne⟩, ht, ok, hp, hz, k⟩ := h
    refine ⟨_, (pss_cons (ps_if (pt_not (pt_val (pe_g c_is_row hr (by decide) L2.pass0 bp_is_row (by rfl) (pa_cons (pe_fld (pv 0) (by rfl)) (pa_cons (pv 1) pa_nil))))) (pss_one ps_never) pss_nil)
      (pss_one (ps_ret (pe_mk b_Table hr (by decide) L2.pass0 (by rfl) (pa_cons (pe_fld (pv 0) (by rfl)) (pa_cons (pe_star1 (pe_fld (pv 0) (by rfl)) (pe_ix (ix_seqK (K := K) rfl) (pv 1) pe_int (fun _ _ => rfl)) (pe_ix (ix_seqK (K := K) rfl) (pv 1) pe_int (fun _ _ => rfl))) pa_nil)) pk_nil)))), ?_⟩
    repeat walk_at "s1"
    refine ⟨a, C, dx, _, .int n, rfl, ha, TC.cl, TC.n1, rfl, ?_⟩
    refine ⟨_, rfl, ?_⟩
    refine row_go ok.w0 ok.w1 ht hp fun H1 sm1 => ?_
    refine ⟨_, rfl, ?_⟩
    refine iteF ?_
    have ha1 := sm1 _ _ ha
    have hD1 := sm1 _ _ hD
    have ht1 := sm1 _ _ ht
    refine ⟨_, rfl, ⟨a, C, dx, _, .int n, rfl, ha1, TC.cl, TC.n1, rfl, ?_⟩⟩
    intro d nd
    have had : a ≠ d := nonn nd ha1
    have hDd : D ≠ d := nonn nd hD1
    have htd : t ≠ d := nonn nd ht1
    refine ⟨_, rfl, ⟨a, C, dx, _, .ref D, rfl, updn had ha1, TC.cl, TC.n2, rfl, ?_⟩⟩
    refine ⟨D, tk m, rfl, Ne.symm hDd, upd_same, .inl (updn hDd hD1), fun e ne => ?_⟩
    have hde : d ≠ e := nonn ne upd_same
    have hte : t ≠ e := nonn ne (updn htd (updn htd ht1))
    have ht3 : upd (upd (upd H1 d (.dK [])) d (.dK (mergeK [] (tk m)))) e (.dK []) t = some (.tup [.str p.1, .str p.2]) := updn hte (updn htd (updn htd ht1))
    refine ⟨_, rfl, Or.inr (Or.inl ⟨t, [.str p.1, .str p.2], 0, .str p.1, rfl, rfl, SqT.of ht3, rfl, ?_⟩)⟩
    refine ⟨_, rfl, Or.inr (Or.inl ⟨t, [.str p.1, .str p.2], 1, .str p.2, rfl, rfl, SqT.of ht3, rfl, ?_⟩)⟩
    refine ⟨Sum.inr p.1, .str p.2, tk m, rfl, upd_same, ?_, ?_, ?_⟩
    · rw [upd_ne hde, upd_same, mrg_nil ok.nd]
    · rw [tk_len]
      have := ok.few
      exact szl (by omega)
    · refine ⟨rfl, rfl, fun x dx' hx hdx hxx => ?_⟩
      have up : ∀ c o, H c = some o → upd (upd (upd (upd (upd H1 d (.dK [])) d (.dK (mergeK [] (tk m)))) e (.dK [])) e (.dK [(Sum.inr p.1, .str p.2)])) d (.dK (putK (tk m) (Sum.inr p.1) (.str p.2))) c = some o := fun c o h0 => by
        have h1 := sm1 _ _ h0
        have hc := nonn nd h1
        have h2 := updn (o := .dK (mergeK [] (tk m))) hc (updn (o := .dK []) hc h1)
        have hce := nonn ne h2
        exact updn hc (updn hce (updn hce h2))
      have hdx2 : d ≠ x := nonn hx upd_same
      have hdd : d ≠ dx' := nonn hdx upd_same
      refine init_go upd_same (updn hdx2 (updn hdd (by rw [upd_same, tk_put]))) ⟨ok.w0, ok.w1, put_ok ok.rows hp, put_nodup ok.nd, hz⟩ fun H' kp tb => ⟨rfl, k x H' (fun c o h0 => ?_) ?_ tb⟩
      · have h1 := up c o h0
        have hcx := nonn hx h1
        exact kp c o hcx (updn hcx (updn (nonn hdx h1) h1))
      · cases hh : H x with
        | none => rfl
        | some o => exact absurd (up x o hh) (by rw [hx]; intro z; cases z)
end
theorem b_table {P : Program} {w : World} {K : PySem.W.Frag} {mg : Str → Option Value} {base : Heap} {f C : Addr} {fd : FuncData} (F : FunD K "__init__" "Table.__init__" (defArgs s_Tableinit) (defBody s_Tableinit) (defScope s_Tableinit) [.non] [] f fd) (M : Mk K C f) (hm : mg "Table" = some (.ref C))
    (ok : FnG P w K mg base CX0 6 f fd ["self", "width", "rows"] (spInit C)) : BndI P w K mg base CX0 6 "Table" C ["self", "width", "rows"] (spInit C) 2 [] (fun us _ => us) := by
  obtain ⟨its, hb⟩ := F.kbindsD (ps := ["self", "width", "rows"]) 3 [] (fun us _ _ => us) (by simp) (fun r _ _ => r) (fun T kV doc pm an cdv ct us its ws h1 h2 h3 => by
    match us, its, ws, h1, h2, h3 with
    | [a, b, c], [d], [], _, _, _ => exact ⟨_, rfl, rfl⟩)
  exact ⟨f, fd, _, M, hm, ok, hb⟩
open PySem PySem.Spec PyProof.Rows
open L2 hiding pass0
/-! ### the row of an address -/
def px (z : Str) (k : Nat) : Str := SX.S (z.cps.toList.take k)
theorem cut_px (z : Str) {d : Int} {k : Nat} (h : d = k) : cutS z none (some d) = px z k := by
  subst h
  show SX.S _ = SX.S _
  refine congrArg SX.S ?_
  show (z.cps.toList.drop 0).take (HT.sIx z.length z.length (some (k : Int)) - 0) = z.cps.toList.take k
  rw [HT.sIx_nat, List.drop_zero, Nat.sub_zero]
  have hl : z.cps.toList.length = z.length := Array.length_toList
  by_cases c : k ≤ z.length
  · rw [Nat.min_eq_left c]
  · rw [List.take_of_length_le (by omega), List.take_of_length_le (by omega)]
theorem px_len (z : Str) (k : Nat) : (px z k).length = min k z.length := by
  unfold px
  rw [SX.S_len, List.length_take, Array.length_toList]
  rfl
def look (m : List (Str × Str)) (k : Str) : Option Str := (m.find? fun p => decide (p.1 = k)).map (·.2)
theorem look_get (m : List (Str × Str)) (k : Str) : getT m k = (look m k).getD Str.empty := rfl
theorem look_key {m : List (Str × Str)} {k : Str} : (look m k).isSome = decide (k ∈ m.map (·.1)) := by
  unfold look
  rw [Option.isSome_map]
  by_cases h : k ∈ m.map (·.1)
  · rw [decide_eq_true h]
    obtain ⟨p, hp, e⟩ := List.mem_map.mp h
    exact List.find?_isSome.mpr ⟨p, hp, decide_eq_true e⟩
  · rw [decide_eq_false h]
    refine Option.isSome_eq_false_iff.mpr ?_
    rw [Option.isNone_iff_eq_none]
    exact List.find?_eq_none.mpr fun p hp e => h (List.mem_map.mpr ⟨p, hp, of_decide_eq_true e⟩)
/-- the longest beginning with fewer than so many signs that is told -/
def lbP (f : Str → Option Str) (z : Str) : Nat → Option Str
  | 0 => none
  | i + 1 => if (f (px z i)).isSome = true then some (px z i) else lbP f z i
theorem lbP_no {f : Str → Option Str} {z : Str} {i : Nat} (h : (f (px z i)).isSome = false) : lbP f z (i + 1) = lbP f z i := by
  show (if _ then _ else _) = _
  rw [h]
  rfl
theorem lbP_yes {f : Str → Option Str} {z : Str} {i : Nat} (h : (f (px z i)).isSome = true) : lbP f z (i + 1) = some (px z i) := by
  show (if _ then _ else _) = _
  rw [h]
  rfl
theorem lbP_some {f : Str → Option Str} {z x : Str} : ∀ {i : Nat}, lbP f z i = some x → (f x).isSome = true ∧ ∃ j, j < i ∧ x = px z j
  | i + 1, h => by
    by_cases c : (f (px z i)).isSome = true
    · rw [lbP_yes c] at h
      cases h
      exact ⟨c, i, Nat.lt_succ_self _, rfl⟩
    · rw [lbP_no (by simpa using c)] at h
      obtain ⟨a, j, hj, e⟩ := lbP_some h
      exact ⟨a, j, by omega, e⟩
def lb (f : Str → Option Str) (z : Str) : Option Str := lbP f z (z.length + 1)
def oV : Option Str → V
  | some x => .str x
  | none => .non
def goalT (f : Str → Option Str) (z : Str) : Str := match lb f z with
  | some x => (f x).getD Str.empty
  | none => "hole"
/-! ### what a changed table tells -/
theorem look_put (m : List (Str × Str)) (k g x : Str) : look (putT m k g) x = if x = k then some g else look m x := by
  unfold putT look
  split
  · rename_i h
    rw [List.find?_map, Option.map_map]
    have e : ((fun p : Str × Str => decide (p.1 = x)) ∘ fun p => if p.1 = k then (p.1, g) else p) = fun p => decide (p.1 = x) := by
      funext p
      by_cases q : p.1 = k <;> simp [q]
    rw [e]
    cases hf : m.find? (fun p => decide (p.1 = x)) with
    | none =>
      by_cases q : x = k
      · subst q
        obtain ⟨p, hp, e⟩ := List.any_eq_true.mp h
        exact absurd e (List.find?_eq_none.mp hf p hp)
      · rw [if_neg q]
        rfl
    | some p =>
      have e1 : p.1 = x := by simpa using List.find?_some hf
      by_cases q : x = k
      · rw [if_pos q]
        show some (if p.1 = k then (p.1, g) else p).2 = some g
        rw [if_pos (e1.trans q)]
      · rw [if_neg q]
        show some (if p.1 = k then (p.1, g) else p).2 = some p.2
        rw [if_neg (fun r => q (e1.symm.trans r))]
  · rename_i h
    rw [List.find?_append]
    by_cases q : x = k
    · subst q
      have e : m.find? (fun p => decide (p.1 = x)) = none := List.find?_eq_none.mpr fun p hp e => h (List.any_eq_true.mpr ⟨p, hp, e⟩)
      rw [e, if_pos rfl]
      simp
    · rw [if_neg q]
      have e : [(k, g)].find? (fun p => decide (p.1 = x)) = none := by
        simp [Ne.symm q]
      rw [e, Option.or_none]
theorem look_less (m : List (Str × Str)) (k x : Str) : look (m.filter fun p => !decide (p.1 = k)) x = if x = k then none else look m x := by
  unfold look
  rw [List.find?_filter]
  by_cases q : x = k
  · subst q
    rw [if_pos rfl, List.find?_eq_none.mpr]
    · rfl
    · intro p _
      simp
  · rw [if_neg q]
    congr 2
    funext p
    by_cases e : p.1 = x
    · simp [e, q]
    · simp [e]
theorem look_srt {m : List (Str × Str)} (k : Str) : look (srt m) k = look m k := by
  unfold look srt
  rw [List.find?_map, Option.map_map]
  show ((tsort (m.map (·.1))).find? (fun x => decide (x = k))).map (fun x => getT m x) = _
  by_cases h : k ∈ m.map (·.1)
  · have h2 : k ∈ tsort (m.map (·.1)) := (tsort_perm _).mem_iff.mpr h
    have e : (tsort (m.map (·.1))).find? (fun x => decide (x = k)) = some k := by
      cases hf : (tsort (m.map (·.1))).find? (fun x => decide (x = k)) with
      | none => exact absurd (decide_eq_true rfl) (List.find?_eq_none.mp hf k h2)
      | some y => rw [show y = k by simpa using List.find?_some hf]
    rw [e]
    show some (getT m k) = look m k
    have := look_key (m := m) (k := k)
    rw [decide_eq_true h] at this
    rw [look_get]
    cases hl : look m k with
    | none => rw [hl] at this; cases this
    | some v => rfl
  · have e : (tsort (m.map (·.1))).find? (fun x => decide (x = k)) = none := List.find?_eq_none.mpr fun x hx e => h (by rw [← of_decide_eq_true e]; exact (tsort_perm _).mem_iff.mp hx)
    have := look_key (m := m) (k := k)
    rw [decide_eq_false h] at this
    rw [e]
    show none = look m k
    cases hl : look m k with
    | none => rfl
    | some v => rw [hl] at this; cases this
theorem look_has (m : List (Str × Str)) (k : Str) : (valV (tk m) (Sum.inr k)).isSome = (look m k).isSome := by rw [tk_has, look_key]
@[irreducible] def spLong : Sp := fun vs H Q _ => ∃ (D : Addr) (z : Str) (m : List (Str × Str)), vs = [.ref D, .str z] ∧ H D = some (.dK (tk m)) ∧ z.length ≤ 1000 ∧ ∀ H', Same H H' → Q (oV (lb (look m) z)) H'
@[irreducible] def spRowOf (C : Addr) : Sp := fun vs H Q _ => ∃ (a : Addr) (n : Nat) (m : List (Str × Str)) (z : Str), vs = [.ref a, .str z] ∧ TabAt C H a n m ∧ 1 ≤ n ∧ n ≤ 100 ∧ Bits z ∧ z.length = n ∧ ∀ H', Same H H' → Q (oV (lb (look m) z)) H'
@[irreducible] def spCall (C : Addr) : Sp := fun vs H Q _ => ∃ (a : Addr) (n : Nat) (m : List (Str × Str)) (z : Str), vs = [.ref a, .str z] ∧ TabAt C H a n m ∧ 1 ≤ n ∧ n ≤ 100 ∧ Bits z ∧ z.length = n ∧ ∀ H', Same H H' → Q (.str (goalT (look m) z)) H'
theorem adr_ok {n : Nat} {z : Str} (hz : Bits z) (lz : z.length = n) : adrB n z = true := by
  show (bitsB z && decide ((z.length : Int) = n)) = true
  rw [bitsB_of hz, lz, decide_eq_true rfl]
  rfl
theorem long_go {D : Addr} {z : Str} {m : List (Str × Str)} {H : Hp} {Q : VK} {E : XK} (hD : H D = some (.dK (tk m))) (hz : z.length ≤ 1000) (k : ∀ H', Same H H' → Q (oV (lb (look m) z)) H') : spLong [.ref D, .str z] H Q E := by
  unfold spLong
  exact ⟨D, z, m, rfl, hD, hz, k⟩
theorem rowof_go {C a : Addr} {z : Str} {n : Nat} {m : List (Str × Str)} {H : Hp} {Q : VK} {E : XK} (ht : TabAt C H a n m) (h0 : 1 ≤ n) (h1 : n ≤ 100) (hz : Bits z) (lz : z.length = n) (k : ∀ H', Same H H' → Q (oV (lb (look m) z)) H') : spRowOf C [.ref a, .str z] H Q E := by
  unfold spRowOf
  exact ⟨a, n, m, z, rfl, ht, h0, h1, hz, lz, k⟩
theorem call_go {C a : Addr} {z : Str} {n : Nat} {m : List (Str × Str)} {H : Hp} {Q : VK} {E : XK} (ht : TabAt C H a n m) (h0 : 1 ≤ n) (h1 : n ≤ 100) (hz : Bits z) (lz : z.length = n) (k : ∀ H', Same H H' → Q (.str (goalT (look m) z)) H') : spCall C [.ref a, .str z] H Q E := by
  unfold spCall
  exact ⟨a, n, m, z, rfl, ht, h0, h1, hz, lz, k⟩
section
variable {P : Program} {w : World} {K : PySem.W.Frag} {mg : Str → Option Value} {base : Heap} {f C : Addr} {fd : FuncData}
theorem ok_long (F : Fun K "longest_beginning" "longest_beginning" s_longest_beginning f fd) (hm : mg "longest_beginning" = some (.ref f)) (T : Txt K mg) : Nm P w K mg base CX0 1 "longest_beginning" s_longest_beginning ["known", "bits"] (spLong) := by
  refine nm_of0 F hm sc_longest_beginning (fun vs H Q E h => ?_) fun cdv A outer s H vs Q E hr h => ?_
  · unfold spLong at h
    obtain ⟨D, z, m, rfl, hD, hz, k⟩ := h
    subst_vars
    rfl
  unfold spLong at h
  obtain ⟨D, z, m, rfl, hD, hz, k⟩ := h
  refine ⟨_, (pss_cons (ps_for PassesOwn.never rfl (pi_range3 (by rfl) T.b_range (pa_cons (pe_callB (call_lenK (K := K) rfl) (by rfl) T.b_len PySem.boot_len (pa_cons (pv 1) pa_nil)) (pa_cons (pe_un un_neg pe_int) (pa_cons (pe_un un_neg pe_int) pa_nil)))) (pg_name (i := 2) sc_longest_beginning.nd rfl (by first | exact Or.inl rfl | exact Or.inr rfl)) (pss_one (ps_if (pt_cmp (pc_din hr.u1 (pe_slice sl_str (pv 1) po_none (po_some (pv 2))) (pv 0))) (pss_one (ps_ret (pe_slice sl_str (pv 1) po_none (po_some (pv 2))))) pss_nil)))
      (pss_one (ps_ret pe_non))), ?_⟩
  have en : ((z.length : Int) - (-1)).toNat = z.length + 1 := by omega
  repeat walk_at "s1"
  refine ⟨_, _, _, _, rfl, RgC.neg (by omega) (by omega) (by omega) (by omega), ?_⟩
  rw [en]
  refine for_it walk_rangeC (fun i σ' H' => ∃ x2, σ' = [some (.ref D), some (.str z), x2] ∧ Same H H' ∧ lb (look m) z = lbP (look m) z (z.length + 1 - i)) ⟨_, rfl, Same.refl H, rfl⟩ (fun _ _ _ _ _ => trivial) ?_ ?_
  · rintro i x σ' H1 H2 hi ⟨x2, rfl, sm, hl⟩ ⟨rfl, rfl⟩
    repeat walk_at "s1"
    rw [cut_px z (k := z.length - i) (by omega)]
    refine ⟨D, _, rfl, .inl ⟨tk m, Sum.inr (px z (z.length - i)), .inl (sm _ _ hD), rfl, rfl⟩, ?_⟩
    rw [look_has]
    rw [show z.length + 1 - i = (z.length - i) + 1 by omega] at hl
    cases hc : (look m (px z (z.length - i))).isSome with
    | true =>
      rw [lbP_yes hc] at hl
      refine ⟨_, rfl, iteT ?_⟩
      repeat walk_at "s1"
      rw [cut_px z (k := z.length - i) (by omega)]
      have hk := k _ sm
      rw [hl] at hk
      exact hk
    | false =>
      rw [lbP_no hc] at hl
      refine ⟨_, rfl, iteF ?_⟩
      refine ⟨_, rfl, sm, ?_⟩
      rw [show z.length + 1 - (i + 1) = z.length - i by omega]
      exact hl
  · rintro σ' H1 ⟨x2, rfl, sm, hl⟩
    rw [Nat.sub_self] at hl
    have hk := k _ sm
    rw [hl] at hk
    exact hk
theorem ok_rowof (F : Fun K "row" "Table.row" s_Table_row f fd) (hm : Meth K C "row" f) (T : Txt K mg) (TC : TabC K C) (c_check_address : Nm P w K mg base CX0 6 "check_address" s_check_address ["width", "address"] (spCT adrB)) (c_longest_beginning : Nm P w K mg base CX0 1 "longest_beginning" s_longest_beginning ["known", "bits"] spLong) :
    Mth P w K mg base CX0 7 C "row" "Table.row" s_Table_row ["self", "address"] (spRowOf C) := by
  refine mth_of0 F hm sc_Table_row (fun vs H Q E h => ?_) fun cdv A outer s H vs Q E hr h => ?_
  · unfold spRowOf at h
    obtain ⟨a, n, m, z, rfl, _⟩ := h
    rfl
  · unfold spRowOf at h
    obtain ⟨a, n, m, z, rfl, ⟨dx, D, ha, hD, hne⟩, h0, h1, hz, lz, k⟩ := h
    refine ⟨_, (pss_cons (ps_expr (pe_g c_check_address hr (by decide) L2.pass0 bp_check_address (by rfl) (pa_cons (pe_fld (pv 0) (by rfl)) (pa_cons (pv 1) pa_nil))))
      (pss_one (ps_ret (pe_g c_longest_beginning hr (by decide) L2.pass0 bp_longest_beginning (by rfl) (pa_cons (pe_fld (pv 0) (by rfl)) (pa_cons (pv 1) pa_nil)))))), ?_⟩
    repeat walk_at "s1"
    refine ⟨a, C, dx, _, .int n, rfl, ha, TC.cl, TC.n1, rfl, ?_⟩
    repeat walk_at "s1"
    refine ct_go (by omega) (by omega) (by omega) (adr_ok hz lz) fun H1 sm1 => ?_
    refine ⟨_, rfl, ⟨a, C, dx, _, .ref D, rfl, sm1 _ _ ha, TC.cl, TC.n2, rfl, ?_⟩⟩
    repeat walk_at "s1"
    refine long_go (sm1 _ _ hD) (by omega) fun H2 sm2 => ?_
    exact k _ (sm1.trans sm2)
theorem ok_call (F : Fun K "__call__" "Table.__call__" s_Table__call__ f fd) (hm : Meth K C "__call__" f) (T : Txt K mg) (TC : TabC K C) (c_Table_row : Mth P w K mg base CX0 7 C "row" "Table.row" s_Table_row ["self", "address"] (spRowOf C)) :
    Mth P w K mg base CX0 8 C "__call__" "Table.__call__" s_Table__call__ ["self", "address"] (spCall C) := by
  refine mth_of0 F hm sc_Table__call__ (fun vs H Q E h => ?_) fun cdv A outer s H vs Q E hr h => ?_
  · unfold spCall at h
    obtain ⟨a, n, m, z, rfl, _⟩ := h
    rfl
  · unfold spCall at h
    obtain ⟨a, n, m, z, rfl, ⟨dx, D, ha, hD, hne⟩, h0, h1, hz, lz, k⟩ := h
    refine ⟨_, (pss_cons (ps_set (i := 2) sc_Table__call__.nd rfl (by first | exact Or.inl rfl | exact Or.inr rfl) (pe_m c_Table_row TC.cl hr (by decide) L2.pass0 bm_Table_row (pv 0) (pa_cons (pv 1) pa_nil)))
      (pss_cons (ps_if (pt_cmpR op_isN (pv 2) pe_non (nomark _)) (pss_one (ps_ret pe_str)) pss_nil)
      (pss_one (ps_ret (pe_dget hr.u1 (pe_fld (pv 0) (by rfl)) (pv 2) (fun _ _ => rfl)))))), ?_⟩
    refine ⟨_, rfl, ⟨⟨a, dx, _, rfl, ha, rfl⟩, ?_⟩⟩
    repeat walk_at "s1"
    refine rowof_go ⟨dx, D, ha, hD, hne⟩ h0 h1 hz lz fun H1 sm1 => ?_
    have ha1 := sm1 _ _ ha
    have hD1 := sm1 _ _ hD
    have hk := k _ sm1
    unfold goalT at hk
    cases hl : lb (look m) z with
    | none =>
      rw [hl] at hk
      repeat walk_at "s1"
      refine iteT ?_
      exact hk
    | some x =>
      rw [hl] at hk
      repeat walk_at "s1"
      refine ⟨a, C, dx, _, .ref D, rfl, ha1, TC.cl, TC.n2, rfl, ?_⟩
      have hx := (lbP_some hl).1
      rw [look_key] at hx
      refine ⟨_, rfl, ⟨D, .str (getT m x), rfl, .inl ⟨tk m, Sum.inr x, .inl hD1, rfl, (tk_val m (of_decide_eq_true hx)).symm⟩, ?_⟩⟩
      exact hk
end
open PySem PySem.Spec PyProof.Rows
open L2 hiding pass0
def lessT (m : List (Str × Str)) (k : Str) : List (Str × Str) := m.filter fun p => !decide (p.1 = k)
theorem less_sub (m : List (Str × Str)) (k : Str) : ((lessT m k).map (·.1)).Sublist (m.map (·.1)) := List.filter_sublist.map _
theorem TabOk.less {n : Int} {m : List (Str × Str)} (ok : TabOk n m) (k : Str) : TabOk n (lessT m k) :=
  ⟨ok.w0, ok.w1, fun p hp => ok.rows p ((List.mem_filter.mp hp).1), (less_sub m k).nodup ok.nd, Nat.le_trans (List.length_filter_le _ _) ok.few⟩
@[irreducible] def spSub (C : Addr) : Sp := fun vs H Q _ => ∃ (a : Addr) (n : Int) (m : List (Str × Str)) (z : Str), vs = [.ref a, .str z] ∧ TabAt C H a n m ∧ TabOk n m ∧ z ∈ m.map (·.1) ∧
  ∀ a' H', Same H H' → H a' = none → TabAt C H' a' n (srt (lessT m z)) → Q (.ref a') H'
theorem sub_go {C a : Addr} {n : Int} {z : Str} {m : List (Str × Str)} {H : Hp} {Q : VK} {E : XK} (ht : TabAt C H a n m) (ok : TabOk n m) (hz : z ∈ m.map (·.1)) (k : ∀ a' H', Same H H' → H a' = none → TabAt C H' a' n (srt (lessT m z)) → Q (.ref a') H') : spSub C [.ref a, .str z] H Q E := by
  unfold spSub
  exact ⟨a, n, m, z, rfl, ht, ok, hz, k⟩
theorem has_go {C a : Addr} {n : Int} {z : Str} {m : List (Str × Str)} {H : Hp} {Q : VK} {E : XK} (ht : TabAt C H a n m) (k : Q (.bl (decide (z ∈ m.map (·.1)))) H) : spHas C [.ref a, .str z] H Q E := by
  unfold spHas
  exact ⟨a, n, m, z, rfl, ht, k⟩
section
variable {P : Program} {w : World} {K : PySem.W.Frag} {mg : Str → Option Value} {base : Heap} {f C : Addr} {fd : FuncData}
theorem ok_sub (F : Fun K "__sub__" "Table.__sub__" s_Table__sub__ f fd) (hm : Meth K C "__sub__" f) (T : Txt K mg) (TC : TabC K C) (c_Table__contains__ : Mth P w K mg base CX0 1 C "__contains__" "Table.__contains__" s_Table__contains__ ["self", "x"] (spHas C))
    (b_Table : BndI P w K mg base CX0 6 "Table" C ["self", "width", "rows"] (spInit C) 2 [] (fun us _ => us)) : Mth P w K mg base CX0 8 C "__sub__" "Table.__sub__" s_Table__sub__ ["self", "other"] (spSub C) := by
  refine mth_of F hm sc_Table__sub__ (fun vs H Q E h => ?_) fun cdv A outer s H vs Q E hr h => ?_
  · unfold spSub at h
    obtain ⟨a, n, m, z, rfl, _⟩ := h
    rfl
  · unfold spSub at h
    obtain ⟨a, n, m, z, rfl, ⟨dx, D, ha, hD, hne⟩, ok, hz, k⟩ := h
    refine ⟨_, (pss_cons (ps_if (pt_cmpR (op_notInO c_Table__contains__ hr (by decide) L2.pass0 bm_Table__contains__) (pv 1) (pv 0) (by rfl)) (pss_one ps_never) pss_nil)
      (pss_one (ps_ret (pe_mk b_Table hr (by decide) L2.pass0 (by rfl) (pa_cons (pe_fld (pv 0) (by rfl)) (pa_cons (pe_lock (pe_dc (own := [("stretch", 2), ("goal", 3)]) (g := (gTup K 2 (gCons (gName 2) (gCons (gName 3) gNil)))) (by rfl) sc_Table__sub__.nd (pi_items (pe_fld (pv 0) (by rfl))) (blkOk_by (own := [("stretch", 2), ("goal", 3)]) (N := ["self", "other", "stretch", "goal"]) (sc := defScope s_Table__sub__) (by decide +kernel)) (fun _ _ _ _ _ => (pg_tup (by rfl) (pgs_cons (pg_name (i := 2) sc_Table__sub__.nd rfl (by first | exact Or.inl rfl | exact Or.inr rfl)) (pgs_cons (pg_name (i := 3) sc_Table__sub__.nd rfl (by first | exact Or.inl rfl | exact Or.inr rfl)) pgs_nil)))) (fun _ _ _ _ _ => (pts_one (pt_cmpR op_ne (pv 2) (pv 1) (nomark _)))) (fun _ _ _ _ _ => (pv 2)) (fun _ _ _ _ _ => (pv 3)))) pa_nil)) pk_nil)))), ?_⟩
    repeat walk_at "s1"
    refine ⟨⟨a, dx, _, rfl, ha⟩, ?_⟩
    refine has_go ⟨dx, D, ha, hD, hne⟩ ?_
    rw [decide_eq_true hz]
    refine ⟨_, rfl, ?_⟩
    refine ⟨_, rfl, ?_⟩
    refine iteF ?_
    repeat walk_at "s1"
    refine ⟨a, C, dx, _, .int n, rfl, ha, TC.cl, TC.n1, rfl, ?_⟩
    show ∃ d u, _
    refine ⟨D, _, hD, trivial, fun od => ?_⟩
    have haD : a ≠ D := Ne.symm hne
    refine ⟨_, rfl, ⟨a, C, dx, _, .ref D, rfl, updn haD ha, TC.cl, TC.n2, rfl, ?_⟩⟩
    refine ⟨D, od, _, rfl, upd_same, fun B nB => ?_⟩
    have hBD : B ≠ D := fun z => by rw [z, upd_same] at nB; cases nB
    have hm40 := ok.few
    refine dc_it walk_items (fun i H1 => H1 B = some (.dK (tk (lessT (m.take i) z))) ∧ Same (upd H D (.frz od (.dK (tk m)))) H1) ⟨upd_same, fun c o e => updn (nonn nB e) e⟩ (fun _ H1 _ h => h.2 _ _ upd_same) ?_ ?_
    · rintro i x H1 H2 hi ⟨hB, sm⟩ ⟨t, x1, x2, rfl, nt, rfl, e1, e2⟩
      obtain ⟨p, hm1, rfl, rfl⟩ : ∃ p, m[i]? = some p ∧ x1 = .str p.1 ∧ x2 = .str p.2 := by
        dsimp only at e1 e2
        unfold tk at e1 e2
        rw [List.getElem?_map] at e1 e2
        cases hx : m[i]? with
        | none => rw [hx] at e1; cases e1
        | some p =>
          rw [hx] at e1 e2
          exact ⟨p, rfl, (Option.some.inj e1).symm, (Option.some.inj e2).symm⟩
      have nBt : B ≠ t := nonn nt hB
      have smt : Same (upd H D (.frz od (.dK (tk m)))) (upd H1 t (.tup [.str p.1, .str p.2])) := fun c o e => updn (nonn nt (sm c o e)) (sm c o e)
      have hBt : upd H1 t (.tup [.str p.1, .str p.2]) B = some (.dK (tk (lessT (m.take i) z))) := updn nBt hB
      refine ⟨t, [.str p.1, .str p.2], rfl, SqT.of upd_same, rfl, ?_⟩
      refine ⟨_, _, rfl, ?_⟩
      refine ⟨_, _, rfl, ?_⟩
      refine ⟨rfl, rfl, ?_⟩
      have etk : lessT (m.take (i + 1)) z = lessT (m.take i) z ++ (if p.1 = z then [] else [p]) := by
        rw [List.take_add_one, hm1]
        unfold lessT
        rw [List.filter_append]
        congr 1
        by_cases q : p.1 = z <;> simp [q]
      repeat walk_at "s1"
      refine ite2 (fun hq => ?_) fun hq => ?_
      · have q : ¬ p.1 = z := fun q => by simp [q] at hq
        rw [if_neg q] at etk
        have hnew : p.1 ∉ (lessT (m.take i) z).map (·.1) := by
          intro hin
          have h1 : p.1 ∈ (m.take i).map (·.1) := (less_sub _ _).subset hin
          have hn : ((m.take (i + 1)).map (·.1)).Nodup := ((List.take_sublist _ _).map _).nodup ok.nd
          rw [List.take_add_one, hm1, List.map_append] at hn
          exact (List.nodup_append.mp hn).2.2 p.1 h1 p.1 (List.mem_singleton.mpr rfl) rfl
        have hl : (tk (lessT (m.take i) z)).length ≤ 40 := by
          rw [tk_len]
          refine Nat.le_trans (List.length_filter_le _ _) ?_
          rw [List.length_take]
          omega
        refine ⟨_, rfl, ⟨_, rfl, ⟨_, Sum.inr p.1, rfl, hBt, szt (by omega), ?_, fun c o e => updn (nonn nB e) (smt c o e)⟩⟩⟩
        rw [upd_same, tk_snoc hnew, etk]
      · have q : p.1 = z := by
          refine Decidable.byContradiction fun q => hq ?_
          simp [q]
        rw [if_pos q, List.append_nil] at etk
        rw [etk]
        exact ⟨hBt, smt⟩
    · rintro H1 ⟨hB, sm⟩
      rw [tk_len, List.take_length] at hB
      refine ⟨sm _ _ upd_same, ?_⟩
      refine ⟨rfl, rfl, fun x dx' hx hdx hxx => ?_⟩
      have up : ∀ c o, H c = some o → upd H1 D (.dK (tk m)) c = some o := fun c o h0 => by
        by_cases q : c = D
        · rw [q] at h0 ⊢
          rw [hD] at h0
          rw [upd_same]
          exact h0
        · exact updn q (sm c o (updn q h0))
      have hB' : upd H1 D (.dK (tk m)) B = some (.dK (tk (lessT m z))) := updn hBD hB
      have hBx : B ≠ x := nonn hx hB'
      have hBd : B ≠ dx' := nonn hdx hB'
      refine init_go upd_same (updn hBx (updn hBd hB')) (ok.less z) fun H' kp tb => ⟨rfl, k x H' (fun c o h0 => ?_) ?_ tb⟩
      · have h1 := up c o h0
        have hcx := nonn hx h1
        exact kp c o hcx (updn hcx (updn (nonn hdx h1) h1))
      · cases hh : H x with
        | none => rfl
        | some o => exact absurd (up x o hh) (by rw [hx]; intro z; cases z)
end
open PySem PySem.Spec PyProof.Rows
open L2 hiding pass0
theorem RoomG.u0 {k : Nat} {A : Around} (x : RoomG k A) : A.units < cLine := by have := x.u1; omega
theorem fns_tuple_add : fillsNumberSlot (.type "tuple") (Operator.info .Add).2 = pure false := by
  unfold fillsNumberSlot
  simp only [typeLookup_type, builtinLookup_eq_fast]
  kernel_rfl
theorem fns_str_sub : fillsNumberSlot (.type "str") (Operator.info .Sub).2 = pure false := by
  unfold fillsNumberSlot
  simp only [typeLookup_type, builtinLookup_eq_fast]
  kernel_rfl
def mrgT (m r : List (Str × Str)) : List (Str × Str) := r.foldl (fun acc q => putT acc q.1 q.2) m
theorem mrgT_tk : ∀ (r m : List (Str × Str)), mergeK (tk m) (tk r) = tk (mrgT m r)
  | [], _ => rfl
  | q :: r, m => by
    have e : mergeK (tk m) (tk (q :: r)) = mergeK (putK (tk m) (Sum.inr q.1) (.str q.2)) (tk r) := rfl
    rw [e, tk_put, mrgT_tk r]
    rfl
theorem mrgT_ok {n : Int} : ∀ {r m : List (Str × Str)}, (∀ p ∈ m, RowOk n p) → (∀ p ∈ r, RowOk n p) → ∀ p ∈ mrgT m r, RowOk n p
  | [], _, h, _ => h
  | q :: r, m, h, h2 => mrgT_ok (r := r) (put_ok h (h2 q List.mem_cons_self)) fun p hp => h2 p (List.mem_cons_of_mem _ hp)
theorem mrgT_nd : ∀ {r m : List (Str × Str)}, (m.map (·.1)).Nodup → ((mrgT m r).map (·.1)).Nodup
  | [], _, h => h
  | q :: r, m, h => mrgT_nd (r := r) (put_nodup h)
theorem look_mrg : ∀ (r m : List (Str × Str)) (x : Str), (r.map (·.1)).Nodup → look (mrgT m r) x = (look r x).or (look m x)
  | [], m, x, _ => rfl
  | q :: r, m, x, h => by
    have hn := List.nodup_cons.mp h
    have e : mrgT m (q :: r) = mrgT (putT m q.1 q.2) r := rfl
    rw [e, look_mrg r _ x hn.2, look_put]
    by_cases c : x = q.1
    · subst c
      have hz : look r q.1 = none := by
        have := look_key (m := r) (k := q.1)
        rw [decide_eq_false hn.1] at this
        cases hl : look r q.1 with
        | none => rfl
        | some v => rw [hl] at this; cases this
      rw [hz, if_pos rfl]
      unfold look
      rw [List.find?_cons_of_pos (by simp)]
      rfl
    · rw [if_neg c]
      have e2 : look (q :: r) x = look r x := by
        unfold look
        rw [List.find?_cons_of_neg (by simpa using Ne.symm c)]
      rw [e2]
@[irreducible] def spSame : Sp := fun vs H Q _ => ∃ n : Int, vs = [.int n, .int n] ∧ Q .non H
@[irreducible] def spOr (C : Addr) : Sp := fun vs H Q _ => ∃ (a b : Addr) (n : Int) (m r : List (Str × Str)), vs = [.ref a, .ref b] ∧ TabAt C H a n m ∧ TabAt C H b n r ∧ TabOk n m ∧ TabOk n r ∧ (mrgT m r).length ≤ 40 ∧
  ∀ a' H', Same H H' → H a' = none → TabAt C H' a' n (srt (mrgT m r)) → Q (.ref a') H'
def eqB (n1 : Int) (m1 : List (Str × Str)) (n2 : Int) (m2 : List (Str × Str)) : Bool := decide (n1 = n2) && (m1.length == m2.length && allEq (tk m1) (tk m2))
@[irreducible] def spEq (C : Addr) : Sp := fun vs H Q _ => ∃ (a b : Addr) (n1 n2 : Int) (m1 m2 : List (Str × Str)), vs = [.ref a, .ref b] ∧ TabAt C H a n1 m1 ∧ TabAt C H b n2 m2 ∧ Q (.bl (eqB n1 m1 n2 m2)) H
theorem same_go {n : Int} {H : Hp} {Q : VK} {E : XK} (k : Q .non H) : spSame [.int n, .int n] H Q E := by
  unfold spSame
  exact ⟨n, rfl, k⟩
theorem tk_flat (m : List (Str × Str)) : ∀ p ∈ tk m, flatV p.2 = true := fun p hp => by
  obtain ⟨q, _, rfl⟩ := List.mem_map.mp hp
  rfl
section
variable {P : Program} {w : World} {K : PySem.W.Frag} {mg : Str → Option Value} {base : Heap} {f C p0 : Addr} {fd : FuncData}
theorem ok_width (F : Fun K "width" "Table.width" s_Table_width f fd) (hp : PropOf K C "width" p0 f) (T : Txt K mg) (TC : TabC K C) : Prp P w K mg base CX0 1 C "width" "Table.width" s_Table_width ["self"] (spWidth C) := by
  refine prp_of F hp sc_Table_width (fun vs H Q E h => ?_) fun cdv A outer s H vs Q E hr h => ?_
  · unfold spWidth at h
    obtain ⟨a, n, m, rfl, _⟩ := h
    rfl
  · unfold spWidth at h
    obtain ⟨a, n, m, rfl, ⟨dx, D, ha, hD, hne⟩, k⟩ := h
    refine ⟨_, (pss_one (ps_ret (pe_fld (pv 0) (by rfl)))), ?_⟩
    exact ⟨_, rfl, ⟨a, C, dx, _, .int n, rfl, ha, TC.cl, TC.n1, rfl, k⟩⟩
theorem ok_trows (F : Fun K "rows" "Table.rows" s_Table_rows f fd) (hm : Meth K C "rows" f) (T : Txt K mg) (TC : TabC K C) : Mth P w K mg base CX0 1 C "rows" "Table.rows" s_Table_rows ["self"] (spTRows C) := by
  refine mth_of F hm sc_Table_rows (fun vs H Q E h => ?_) fun cdv A outer s H vs Q E hr h => ?_
  · unfold spTRows at h
    obtain ⟨a, n, m, rfl, _⟩ := h
    rfl
  · unfold spTRows at h
    obtain ⟨a, n, m, rfl, ⟨dx, D, ha, hD, hne⟩, k⟩ := h
    refine ⟨_, (pss_one (ps_ret (pe_callTy call_dictD (by rfl) T.b_dict (by decide +kernel) (pa_cons (pe_fld (pv 0) (by rfl)) pa_nil)))), ?_⟩
    refine ⟨_, rfl, ⟨a, C, dx, _, .ref D, rfl, ha, TC.cl, TC.n2, rfl, ?_⟩⟩
    exact ⟨D, tk m, rfl, .inl hD, k⟩
theorem ok_radd (F : Fun K "__radd__" "Table.__radd__" s_Table__radd__ f fd) (hm : Meth K C "__radd__" f) (T : Txt K mg) (TC : TabC K C) (c_Table__add__ : Mth P w K mg base CX0 8 C "__add__" "Table.__add__" s_Table__add__ ["self", "other"] (spAdd C)) :
    Mth P w K mg base CX0 9 C "__radd__" "Table.__radd__" s_Table__radd__ ["self", "other"] (spAdd C) := by
  refine mth_of F hm sc_Table__radd__ (fun vs H Q E h => ?_) fun cdv A outer s H vs Q E hr h => ?_
  · unfold spAdd at h
    obtain ⟨a, t, n, m, p, rfl, _⟩ := h
    rfl
  · unfold spAdd at h
    obtain ⟨a, t, n, m, p, rfl, ⟨dx, D, ha, hD, hne⟩, ht, hr0⟩ := h
    have h' : spAdd C [.ref a, .ref t] H Q E0 := by
      unfold spAdd
      exact ⟨a, t, n, m, p, rfl, ⟨dx, D, ha, hD, hne⟩, ht, hr0⟩
    refine ⟨_, (pss_one (ps_ret (pe_op (op_binL (op := .Add) (T := "tuple") c_Table__add__ TC.sf hr (by decide) L2.pass0 bm_Table__add__ fns_tuple_add) (pv 0) (pv 1)))), ?_⟩
    repeat walk_at "s1"
    exact ⟨⟨a, dx, _, rfl, ha⟩, Or.inr ⟨rfl, _, _, rfl, ht⟩, h'⟩
theorem ok_same (F : Fun K "check_same_width" "check_same_width" s_check_same_width f fd) (hm : mg "check_same_width" = some (.ref f)) (T : Txt K mg) : Nm P w K mg base CX0 1 "check_same_width" s_check_same_width ["one", "other"] (spSame) := by
  refine nm_of F hm sc_check_same_width (fun vs H Q E h => ?_) fun cdv A outer s H vs Q E hr h => ?_
  · unfold spSame at h
    obtain ⟨n, rfl, k⟩ := h
    subst_vars
    rfl
  unfold spSame at h
  obtain ⟨n, rfl, k⟩ := h
  refine ⟨_, (pss_one (ps_if (pt_cmpR op_ne (pv 0) (pv 1) (nomark _)) (pss_one ps_never) pss_nil)), ?_⟩
  refine ⟨_, rfl, ⟨_, rfl, ⟨rfl, ?_⟩⟩⟩
  refine ⟨_, rfl, ?_⟩
  rw [decide_eq_true rfl]
  exact iteF k
theorem ok_or (F : Fun K "__or__" "Table.__or__" s_Table__or__ f fd) (hm : Meth K C "__or__" f) (T : Txt K mg) (TC : TabC K C) (c_check_same_width : Nm P w K mg base CX0 1 "check_same_width" s_check_same_width ["one", "other"] spSame)
    (b_Table : BndI P w K mg base CX0 6 "Table" C ["self", "width", "rows"] (spInit C) 2 [] (fun us _ => us)) : Mth P w K mg base CX0 8 C "__or__" "Table.__or__" s_Table__or__ ["self", "other"] (spOr C) := by
  refine mth_of F hm sc_Table__or__ (fun vs H Q E h => ?_) fun cdv A outer s H vs Q E hr h => ?_
  · unfold spOr at h
    obtain ⟨a, b, n, m, r, rfl, _⟩ := h
    rfl
  · unfold spOr at h
    obtain ⟨a, b, n, m, r, rfl, ⟨dx, D, ha, hD, hne⟩, ⟨dy, D2, hb, hD2, hne2⟩, ok1, ok2, hz, k⟩ := h
    refine ⟨_, (pss_cons (ps_expr (pe_g c_check_same_width hr (by decide) L2.pass0 bp_check_same_width (by rfl) (pa_cons (pe_fld (pv 0) (by rfl)) (pa_cons (pe_fld (pv 1) (by rfl)) pa_nil))))
      (pss_one (ps_ret (pe_mk b_Table hr (by decide) L2.pass0 (by rfl) (pa_cons (pe_fld (pv 0) (by rfl)) (pa_cons (pe_star2 (pe_fld (pv 0) (by rfl)) (pe_fld (pv 1) (by rfl))) pa_nil)) pk_nil)))), ?_⟩
    refine ⟨_, rfl, ⟨a, C, dx, _, .int n, rfl, ha, TC.cl, TC.n1, rfl, ?_⟩⟩
    refine ⟨_, rfl, ⟨b, C, dy, _, .int n, rfl, hb, TC.cl, TC.n1, rfl, ?_⟩⟩
    refine same_go ?_
    refine ⟨_, rfl, ⟨a, C, dx, _, .int n, rfl, ha, TC.cl, TC.n1, rfl, ?_⟩⟩
    intro d nd
    have had : a ≠ d := nonn nd ha
    have hDd : D ≠ d := nonn nd hD
    have hbd : b ≠ d := nonn nd hb
    have hD2d : D2 ≠ d := nonn nd hD2
    refine ⟨_, rfl, ⟨a, C, dx, _, .ref D, rfl, updn had ha, TC.cl, TC.n2, rfl, ?_⟩⟩
    refine ⟨D, tk m, rfl, Ne.symm hDd, upd_same, .inl (updn hDd hD), ?_⟩
    refine ⟨_, rfl, ⟨b, C, dy, _, .ref D2, rfl, updn hbd (updn hbd hb), TC.cl, TC.n2, rfl, ?_⟩⟩
    refine ⟨D2, tk m, tk r, rfl, Ne.symm hD2d, by rw [upd_same, mrg_nil ok1.nd], .inl (updn hD2d (updn hD2d hD2)), szl (by rw [tk_len, tk_len]; have := ok1.few; have := ok2.few; omega), ?_⟩
    rw [mrgT_tk]
    refine ⟨rfl, rfl, fun x dx' hx hdx hxx => ?_⟩
    have up : ∀ c o, H c = some o → upd (upd (upd H d (.dK [])) d (.dK (mergeK [] (tk m)))) d (.dK (tk (mrgT m r))) c = some o := fun c o h0 => by
      have hc := nonn nd h0
      exact updn hc (updn hc (updn hc h0))
    have hd3 : upd (upd (upd H d (.dK [])) d (.dK (mergeK [] (tk m)))) d (.dK (tk (mrgT m r))) d = some (.dK (tk (mrgT m r))) := upd_same
    have hdx2 : d ≠ x := nonn hx hd3
    have hdd : d ≠ dx' := nonn hdx hd3
    refine init_go upd_same (updn hdx2 (updn hdd hd3)) ⟨ok1.w0, ok1.w1, mrgT_ok ok1.rows ok2.rows, mrgT_nd ok1.nd, hz⟩ fun H' kp tb => ⟨rfl, k x H' (fun c o h0 => ?_) ?_ tb⟩
    · have h1 := up c o h0
      have hcx := nonn hx h1
      exact kp c o hcx (updn hcx (updn (nonn hdx h1) h1))
    · cases hh : H x with
      | none => rfl
      | some o => exact absurd (up x o hh) (by rw [hx]; intro z; cases z)
theorem ok_eq (F : Fun K "__eq__" "Table.__eq__" s_Table__eq__ f fd) (hm : Meth K C "__eq__" f) (T : Txt K mg) (TC : TabC K C) (IC : C8.InsC K C) (gC : ∃ u, mg "Table" = some u ∧ RelV (.ref C) u) : Mth P w K mg base CX0 1 C "__eq__" "Table.__eq__" s_Table__eq__ ["self", "other"] (spEq C) := by
  refine mth_of F hm sc_Table__eq__ (fun vs H Q E h => ?_) fun cdv A outer s H vs Q E hr h => ?_
  · unfold spEq at h
    obtain ⟨a, b, n1, n2, m1, m2, rfl, _⟩ := h
    rfl
  · unfold spEq at h
    obtain ⟨a, b, n1, n2, m1, m2, rfl, ⟨dx, D, ha, hD, hne⟩, ⟨dy, D2, hb, hD2, hne2⟩, k⟩ := h
    refine ⟨_, (pss_one (ps_ret (pe_and (pe_callB (C8.call_isC IC) (by rfl) T.b_isinstance (by decide +kernel) (pa_cons (pv 1) (pa_cons (C8.pe_gc (by rfl) gC) pa_nil))) (pe_and (pe_cmpR op_eq (pe_fld (pv 0) (by rfl)) (pe_fld (pv 1) (by rfl)) (nomark _)) (pe_one (pe_cmpR (op_eq_dictT hr.u0) (pe_fld (pv 0) (by rfl)) (pe_fld (pv 1) (by rfl)) (nomark _))))))), ?_⟩
    refine ⟨_, rfl, ⟨b, dy, _, rfl, hb, ?_⟩⟩
    refine ⟨_, rfl, iteT ?_⟩
    refine ⟨_, rfl, ⟨a, C, dx, _, .int n1, rfl, ha, TC.cl, TC.n1, rfl, ?_⟩⟩
    refine ⟨_, rfl, ⟨b, C, dy, _, .int n2, rfl, hb, TC.cl, TC.n1, rfl, ?_⟩⟩
    refine ⟨rfl, ?_⟩
    unfold eqB at k
    by_cases q : n1 = n2
    · rw [decide_eq_true q, Bool.true_and] at k
      rw [decide_eq_true (show V.int n1 = V.int n2 from congrArg V.int q)]
      refine ⟨_, rfl, iteT ?_⟩
      refine ⟨_, rfl, ⟨a, C, dx, _, .ref D, rfl, ha, TC.cl, TC.n2, rfl, ?_⟩⟩
      refine ⟨_, rfl, ⟨b, C, dy, _, .ref D2, rfl, hb, TC.cl, TC.n2, rfl, ?_⟩⟩
      refine ⟨D, D2, tk m1, tk m2, rfl, rfl, hD, hD2, tk_flat m1, tk_flat m2, ?_⟩
      rw [tk_len, tk_len]
      exact k
    · rw [decide_eq_false q, Bool.false_and] at k
      rw [decide_eq_false (fun e : V.int n1 = V.int n2 => q (V.int.inj e))]
      exact ⟨_, rfl, iteF k⟩
end
open PySem PySem.Spec PyProof.Rows
open L2 hiding pass0
def dO : Option Str → PyData
  | some x => .str x
  | none => .none
theorem dp_row {K : PySem.W.Frag} {H : Hp} (o : Option Str) : Dp K H (oV o) (dO o) := by
  cases o with
  | none => exact .non
  | some x => exact .str x
theorem px_low {z : Str} {k : Nat} (h : Bits z) : Low (px z k) := fun c hc => h.low c (List.mem_of_mem_take (show c ∈ z.cps.toList.take k from hc))
theorem px_bits {z : Str} {k : Nat} (h : Bits z) : Bits (px z k) := fun c hc => h c (List.mem_of_mem_take (show c ∈ z.cps.toList.take k from hc))
theorem look_mem {m : List (Str × Str)} {x g : Str} (h : look m x = some g) : ∃ p ∈ m, p.1 = x ∧ p.2 = g := by
  unfold look at h
  cases hf : m.find? (fun p => decide (p.1 = x)) with
  | none => rw [hf] at h; cases h
  | some p =>
    rw [hf] at h
    exact ⟨p, List.mem_of_find?_eq_some hf, by simpa using List.find?_some hf, Option.some.inj h⟩
theorem goal_low {n : Int} {m : List (Str × Str)} {z : Str} (h : ∀ p ∈ m, RowOk n p) : Low (goalT (look m) z) ∧ (goalT (look m) z).length ≤ 200 := by
  unfold goalT
  cases e : lb (look m) z with
  | none => exact ⟨by show ∀ c ∈ ("hole" : Str).cps.toList, c < 128; decide +kernel, by show ("hole" : Str).length ≤ 200; decide +kernel⟩
  | some x =>
    have hx := (lbP_some e).1
    obtain ⟨g, hg⟩ := Option.isSome_iff_exists.mp hx
    obtain ⟨p, hp, _, rfl⟩ := look_mem hg
    show Low ((look m x).getD Str.empty) ∧ ((look m x).getD Str.empty).length ≤ 200
    rw [hg]
    exact ⟨(h p hp).2.2.2.1, (h p hp).2.2.2.2⟩
theorem Go.of {p : Addr} {H H' : Hp} (h : PotAt H p) (s : Same H H') : Go p H H' := by
  obtain ⟨a, b, e, r⟩ := h
  exact ⟨⟨a, b, s _ _ e, r⟩, fun c o e _ => s c o e⟩
theorem str_nil {z : Str} (h : z.length = 0) : z = "" := by
  rw [← SX.S_tl z]
  have : z.cps.toList = [] := List.eq_nil_of_length_eq_zero (by rw [Array.length_toList]; exact h)
  rw [this]
  rfl
theorem cat_bits {a b : Str} (ha : Bits a) (hb : Bits b) : Bits (a ++ b) ∧ (a ++ b).length = a.length + b.length := by
  have e : a ++ b = SX.S (a.cps.toList ++ b.cps.toList) := by rw [← SX.S_cat, SX.S_tl, SX.S_tl]
  rw [e]
  refine ⟨fun c hc => ?_, ?_⟩
  · have hc' : c ∈ a.cps.toList ++ b.cps.toList := hc
    rcases List.mem_append.mp hc' with h | h
    · exact ha c h
    · exact hb c h
  · rw [SX.S_len, List.length_append, Array.length_toList, Array.length_toList]
    rfl
theorem Go.dk {p M : Addr} {H H' : Hp} {kvs : List (Key × V)} (hp : PotAt H p) (g : Go p H H') (h : H M = some (.dK kvs)) : H' M = some (.dK kvs) := by
  refine g.kp h fun q => ?_
  obtain ⟨a, b, e, _⟩ := hp
  rw [q, e] at h
  cases h
theorem Go.tp {p t : Addr} {H H' : Hp} {xs : List V} (hp : PotAt H p) (g : Go p H H') (h : H t = some (.tup xs)) : H' t = some (.tup xs) := by
  refine g.kp h fun q => ?_
  obtain ⟨a, b, e, _⟩ := hp
  rw [q, e] at h
  cases h
theorem Go.tab {p C a : Addr} {n : Int} {m : List (Str × Str)} {H H' : Hp} (hp : PotAt H p) (g : Go p H H') (h : TabAt C H a n m) : TabAt C H' a n m := by
  obtain ⟨dx, D, ha, hD, hne⟩ := h
  refine ⟨dx, D, g.kp ha fun q => ?_, g.dk hp hD, hne⟩
  obtain ⟨x, y, e, _⟩ := hp
  rw [q, e] at ha
  cases ha
theorem look_of {m : List (Str × Str)} : ∀ {q : Str × Str}, (m.map (·.1)).Nodup → q ∈ m → look m q.1 = some q.2 := by
  induction m with
  | nil => intro q _ h; cases h
  | cons p r ih =>
    intro q hn hq
    have hn' := List.nodup_cons.mp hn
    unfold look
    rcases List.mem_cons.mp hq with h | h
    · rw [h, List.find?_cons_of_pos (by simp)]
      rfl
    · have hne : ¬ p.1 = q.1 := fun e => hn'.1 (List.mem_map.mpr ⟨q, h, e.symm⟩)
      rw [List.find?_cons_of_neg (by simpa using hne)]
      exact ih hn'.2 h
theorem get_of {m : List (Str × Str)} {q : Str × Str} (hn : (m.map (·.1)).Nodup) (hq : q ∈ m) : getT m q.1 = q.2 := by
  rw [look_get, look_of hn hq]
  rfl
theorem srt_keys (m : List (Str × Str)) : (srt m).map (·.1) = tsort (m.map (·.1)) := by
  unfold srt
  rw [List.map_map]
  exact List.map_id' _
theorem srt_ok {n : Int} {m : List (Str × Str)} (ok : TabOk n m) : TabOk n (srt m) := by
  refine ⟨ok.w0, ok.w1, fun p hp => ?_, ?_, ?_⟩
  · obtain ⟨k, hk, rfl⟩ := List.mem_map.mp hp
    have hk2 := (tsort_perm _).mem_iff.mp hk
    obtain ⟨q, hq, rfl⟩ := List.mem_map.mp hk2
    rw [get_of ok.nd hq]
    exact ok.rows q hq
  · rw [srt_keys]
    exact (tsort_perm _).nodup_iff.mpr ok.nd
  · unfold srt
    rw [List.length_map, (tsort_perm _).length_eq, List.length_map]
    exact ok.few
theorem srt_len (m : List (Str × Str)) : (srt m).length = m.length := by
  unfold srt
  rw [List.length_map, (tsort_perm _).length_eq, List.length_map]
theorem put_len (m : List (Str × Str)) (k g : Str) : (putT m k g).length ≤ m.length + 1 := by
  unfold putT
  split
  · rw [List.length_map]; omega
  · rw [List.length_append]; exact Nat.le_refl _
theorem tk_app (m r : List (Str × Str)) : tk (m ++ r) = tk m ++ tk r := by unfold tk; rw [List.map_append]
theorem mrg_more {m : List (Str × Str)} {k g : Str} (h : (m.map (·.1)).Nodup) : mergeK [] (tk (m ++ [(k, g)])) = tk (putT m k g) := by
  rw [tk_app]
  unfold mergeK
  rw [List.foldl_append]
  have e := mrg_nil h
  unfold mergeK at e
  rw [e, ← tk_put]
  rfl
/-- tuples of two texts at these places -/
inductive Tq (H : Hp) : List Addr → List (Str × Str) → Prop
  | nil : Tq H [] []
  | cons {a : Addr} {q : Str × Str} {ts : List Addr} {m : List (Str × Str)} : H a = some (.tup [.str q.1, .str q.2]) → Tq H ts m → Tq H (a :: ts) (q :: m)
theorem Tq.mono {H H' : Hp} (k : ∀ a l, H a = some (.tup l) → H' a = some (.tup l)) : ∀ {ts : List Addr} {m : List (Str × Str)}, Tq H ts m → Tq H' ts m
  | _, _, .nil => .nil
  | _, _, .cons h r => .cons (k _ _ h) (r.mono k)
theorem Tq.app {H : Hp} {us : List Addr} {qs : List (Str × Str)} (u : Tq H us qs) : ∀ {ts : List Addr} {m : List (Str × Str)}, Tq H ts m → Tq H (ts ++ us) (m ++ qs)
  | _, _, .nil => u
  | _, _, .cons h r => .cons h (Tq.app u r)
theorem Tq.len {H : Hp} : ∀ {ts : List Addr} {m : List (Str × Str)}, Tq H ts m → ts.length = m.length
  | _, _, .nil => rfl
  | _, _, .cons _ r => congrArg (· + 1) r.len
theorem Tq.pair {K : PySem.W.Frag} {H : Hp} : ∀ {ts : List Addr} {m : List (Str × Str)}, Tq H ts m → Paired (fun p (kv : Key × V) => SqT K H p [kV kv.1, kv.2]) ts (tk m)
  | _, _, .nil => .nil
  | _, _, .cons h r => .cons (SqT.of h) r.pair
theorem Tq.of {H : Hp} : ∀ {ts : List Addr} {m : List (Str × Str)}, Paired (fun (t : Addr) (q : Key × V) => H t = some (.tup [kV q.1, q.2])) ts (tk m) → Tq H ts m
  | [], [], _ => .nil
  | a :: ts, q :: m, h => by
    cases h with
    | cons h r => exact .cons h (Tq.of r)
  | [], q :: m, h => by cases h
  | a :: ts, [], h => by cases h
theorem rowOk_of {n : Int} {x g : Str} (hb : Bits x) (hl : (x.length : Int) ≤ n) (h : goalB g = true ∧ (∀ c ∈ g.cps.toList, c < 128) ∧ g.length ≤ 200) : RowOk n (x, g) := ⟨hb, hl, h.1, h.2.1, h.2.2⟩
theorem g_a : goalB "a" = true ∧ (∀ c ∈ ("a" : Str).cps.toList, c < 128) ∧ ("a" : Str).length ≤ 200 := by decide +kernel
theorem g_b : goalB "b" = true ∧ (∀ c ∈ ("b" : Str).cps.toList, c < 128) ∧ ("b" : Str).length ≤ 200 := by decide +kernel
theorem g_home : goalB "home" = true ∧ (∀ c ∈ ("home" : Str).cps.toList, c < 128) ∧ ("home" : Str).length ≤ 200 := by decide +kernel
theorem g_hole : goalB "hole" = true ∧ (∀ c ∈ ("hole" : Str).cps.toList, c < 128) ∧ ("hole" : Str).length ≤ 200 := by decide +kernel
theorem S_app (a b : List Nat) : SX.S a ++ SX.S b = SX.S (a ++ b) := by
  show (⟨a.toArray ++ b.toArray⟩ : Str) = ⟨(a ++ b).toArray⟩
  simp
/-- a new list of texts -/
def NewL (H H' : Hp) (L : Addr) (ts : List (List Nat)) : Prop := Same H H' ∧ H L = none ∧ H' L = some (.lst (ts.map sx))
theorem two_le (n : Nat) (h : n ≤ 7) : 2 ^ n ≤ 128 := by
  have : ∀ m : Fin 8, 2 ^ m.val ≤ 128 := by decide
  exact this ⟨n, by omega⟩
theorem tk_kV (m : List (Str × Str)) : (tk m).map (fun kv => kV kv.1) = (m.map (·.1)).map V.str := by
  unfold tk
  rw [List.map_map, List.map_map]
  rfl
theorem dps {K : PySem.W.Frag} {H : Hp} : ∀ zs : List Str, DpAll K H (zs.map V.str) (zs.map PyData.str)
  | [] => .nil
  | z :: zs => .cons (.str z) (dps zs)
theorem strs_fit {N : Nat} {zs : List Str} (h : ∀ z ∈ zs, Low z ∧ z.length ≤ N) : Fit ((N + 1) * zs.length) 1 (.list (zs.map PyData.str)) := by
  have := Fit.list (N := N) (D := 0) (ds := zs.map PyData.str) fun d hd => by
    obtain ⟨z, hz, rfl⟩ := List.mem_map.mp hd
    exact .str (h z hz).1 (h z hz).2
  rw [List.length_map] at this
  exact this
theorem eqv_nil (ps : List Str) : PyData.eqv (.list (ps.map PyData.str)) (.list []) = decide (ps = []) := by
  cases ps with
  | nil => rfl
  | cons a r => rfl
theorem sx_tl (z : Str) : sx z.cps.toList = V.str z := by unfold sx; rw [SX.S_tl]
theorem bits_BL {z : Str} (h : Bits z) : M.BL z.cps.toList := h
theorem len_tl (z : Str) : z.cps.toList.length = z.length := Array.length_toList
theorem map_sx (ts : List (List Nat)) : ts.map sx = (ts.map SX.S).map V.str := by
  rw [List.map_map]
  rfl
/-- the stretches of rows -/
def kz (m : List (Str × Str)) : List (List Nat) := m.map fun q => q.1.cps.toList
theorem kz_V (m : List (Str × Str)) : (kz m).map sx = (m.map (·.1)).map V.str := by
  unfold kz
  rw [List.map_map, List.map_map]
  exact List.map_congr_left fun q _ => sx_tl q.1
theorem kz_len (m : List (Str × Str)) : (kz m).length = m.length := List.length_map ..
theorem kz_fits {n : Nat} {m : List (Str × Str)} (h : ∀ q ∈ m, RowOk n q) : Fits n (kz m) := fun t ht => by
  obtain ⟨q, hq, rfl⟩ := List.mem_map.mp ht
  have := h q hq
  exact ⟨this.1, by rw [len_tl]; have := this.2.1; omega⟩
theorem kz_mem {m : List (Str × Str)} {x : Str} : x.cps.toList ∈ kz m ↔ x ∈ m.map (·.1) := by
  unfold kz
  rw [List.mem_map, List.mem_map]
  constructor
  · rintro ⟨q, hq, e⟩
    exact ⟨q, hq, by rw [← SX.S_tl q.1, ← SX.S_tl x, e]⟩
  · rintro ⟨q, hq, rfl⟩
    exact ⟨q, hq, rfl⟩
section
variable {X : Cx} {CX : CXT} {k j : Nat} {st : Stmt} {ps : List Str} {sp : Sp} {E : XK} {x y : Str} {p pos : Pos} {e : Expr} {es : List Expr} {t : TA}
/-- y(e, ..), y another name of the def x -/
theorem pe_gA (c : Nm X.prog X.w X.K X.mg X.base CX k x st ps sp) (al : X.mg y = X.mg x) (hr : RoomG j X.A) (hk : k ≤ j) (hx : Passes CX X E) (b : BndP x st ps) (hg : Gl X y) (ha : PA X (e :: es) t)
    (hdb : (y == ("__debug__" : Str)) = false := by decide) (he : starEach (e :: es) X.env = (false, eval e X.env) :: starEach es X.env := by rfl) (hpl : (backTo pos (starEach es X.env)).any (·.1) = false := by rfl) :
    PE X (.Call (.Name y p) (e :: es) [] pos) (tG sp E t) := by
  obtain ⟨f, fd, F, hm, G⟩ := c.ex
  have kp := F.kp
  obtain ⟨oc, od, kV, doc, pm, an, cdv, ct, osl, rfl, lk, hcd⟩ := F.ex
  refine ⟨fun pins s σ H Q I h => wpAny_Call_Name_kw (ld_glob I hg (al.trans hm) (PySem.W.callWith_K (h₀ := X.base) I.ok.mod.kin kp (thn (ha.run pos pins s σ H _ I h) fun us s1 ⟨vs, H1, I1, r, q⟩ => ⟨I1.kIn, ?_⟩) he hpl) hdb)⟩
  have q' : sp vs H1 Q E := q
  have h0 := r.length
  have h1 := G.len _ _ _ _ q'
  exact run_g (kw := []) G (hr.mono hk) (.of_eq (b kV doc pm cdv ct an us (by omega))) hx I1 r q'
end
theorem TabAt.to {C a : Addr} {n : Int} {m : List (Str × Str)} {H H' : Hp} (h : TabAt C H a n m) (s : Same H H') : TabAt C H' a n m := by
  obtain ⟨dx, D, ha, hD, hne⟩ := h
  exact ⟨dx, D, s _ _ ha, s _ _ hD, hne⟩
theorem tc_at {H : Hp} {w : Nat} {ks : List (List Nat)} : ∀ {as : List Addr} {ss : List (List Nat)} {i : Nat} {a : Addr}, Tc H w ks as ss → as[i]? = some a → ∃ s, ss[i]? = some s ∧ H a = some (.tup [sx s, .int ((M.many w ks s : Nat) : Int), oA (M.cellA w ks s)])
  | _, _, _, _, .nil, h => by simp at h
  | _, _, 0, _, .cons (s := s) e _, h => ⟨s, rfl, by cases h; exact e⟩
  | _, _, i + 1, _, .cons _ t, h => tc_at (i := i) t h
theorem small_int {m : Nat} (h : m ≤ 128) : (PyData.shown (.int (m : Int))).length ≤ 13 ∧ (m : Int).natAbs < 2 ^ 1000 := by
  constructor
  · have : ∀ k : Fin 129, (PyData.shown (.int ((k.val : Nat) : Int))).length ≤ 13 := by decide +kernel
    exact this ⟨m, by omega⟩
  · have : m < 2 ^ 1000 := Nat.lt_of_le_of_lt h (by decide)
    simpa using this
theorem lbP_is (f : Str → Option Str) (z : Str) : ∀ i, (∀ x, lbP f z i = some x → ∃ j, j < i ∧ x = px z j ∧ (f x).isSome = true ∧ ∀ j', j < j' → j' < i → (f (px z j')).isSome = false) ∧ (lbP f z i = none → ∀ j, j < i → (f (px z j)).isSome = false)
  | 0 => ⟨(fun x h => by cases h), fun _ j h => by omega⟩
  | i + 1 => by
    have ih := lbP_is f z i
    cases c : (f (px z i)).isSome with
    | true =>
      rw [lbP_yes c]
      refine ⟨fun x h => ?_, fun h => by cases h⟩
      cases h
      exact ⟨i, by omega, rfl, c, fun j' h1 h2 => by omega⟩
    | false =>
      rw [lbP_no c]
      refine ⟨fun x h => ?_, fun h j hj => ?_⟩
      · obtain ⟨j, h1, h2, h3, h4⟩ := ih.1 x h
        refine ⟨j, by omega, h2, h3, fun j' h5 h6 => ?_⟩
        by_cases e : j' = i
        · rw [e]; exact c
        · exact h4 j' h5 (by omega)
      · by_cases e : j = i
        · rw [e]; exact c
        · exact ih.2 h j (by omega)
theorem look_kz {m : List (Str × Str)} {t : List Nat} : (look m (SX.S t)).isSome = decide (t ∈ kz m) := by
  rw [look_key]
  exact decide_eq_decide.mpr (by rw [← kz_mem, tl_S])
theorem px_S (z : List Nat) (j : Nat) : px (SX.S z) j = SX.S (z.take j) := by
  unfold px
  rw [tl_S]
/-- the row of an address by its cell -/
theorem lb_lg {m : List (Str × Str)} (z : List Nat) : lb (look m) (SX.S z) = if M.lg (ksOf (kz m)) z ∈ kz m then some (SX.S (M.lg (ksOf (kz m)) z)) else none := by
  have h0 : ([] : List Nat) ∈ ksOf (kz m) := ks_mem.mpr (.inl rfl)
  have hp := lbP_is (look m) (SX.S z) ((SX.S z).length + 1)
  show lbP (look m) (SX.S z) ((SX.S z).length + 1) = _
  cases e : lbP (look m) (SX.S z) ((SX.S z).length + 1) with
  | some x =>
    obtain ⟨j, h1, rfl, h3, h4⟩ := hp.1 x e
    rw [sx_len] at h1 h4
    rw [px_S, look_kz] at h3
    have hk := of_decide_eq_true h3
    have el : M.lg (ksOf (kz m)) z = z.take j := M.lg_eq h0 ⟨ks_mem.mpr (.inr hk), List.take_prefix _ _, fun q hq hqz => by
      rw [List.length_take]
      rcases ks_mem.mp hq with rfl | hq
      · exact Nat.zero_le _
      · have lq := hqz.length_le
        refine Decidable.byContradiction fun c => ?_
        have hj : j < q.length := by omega
        have := h4 q.length hj (by omega)
        rw [px_S, look_kz, ← List.prefix_iff_eq_take.mp hqz] at this
        exact of_decide_eq_false this hq⟩
    rw [el, if_pos hk, px_S]
  | none =>
    have hn := hp.2 e
    rw [if_neg]
    intro hk
    have hl := M.lg_is (a := z) h0
    have lq := hl.pre.length_le
    have := hn (M.lg (ksOf (kz m)) z).length (by rw [sx_len]; omega)
    rw [px_S, look_kz, ← List.prefix_iff_eq_take.mp hl.pre] at this
    exact of_decide_eq_false this hk
theorem scal_oV (o o' : Option Str) : scal (oV o) (oV o') = true := by cases o <;> cases o' <;> rfl
theorem all_true : ∀ k : Nat, (List.replicate k true).all id = true
  | 0 => rfl
  | k + 1 => by rw [List.replicate_succ, List.all_cons, all_true k]; rfl
theorem ks_srt (m : List (Str × Str)) : ksOf (kz (srt m)) = ksOf (kz m) := ks_eq fun t => by
  have h : ∀ x : Str, x ∈ (srt m).map (·.1) ↔ x ∈ m.map (·.1) := fun x => by rw [srt_keys]; exact (tsort_perm _).mem_iff
  rw [← tl_S t, kz_mem, kz_mem, h]
section
variable {P : Program} {w : World} {K : PySem.W.Frag} {mg : Str → Option Value} {base : Heap} {f : Addr} {fd' : FuncData}
end
section
variable {P : Program} {w : World} {K : PySem.W.Frag} {mg : Str → Option Value} {base : Heap} {f C : Addr} {fd : FuncData}
end
open PySem PySem.Spec PyProof.Rows
open L2 hiding pass0
abbrev s_check_free : Stmt := top 47
theorem sc_check_free : FnScope ["width", "free", "position", "stretch"] ["width", "free"] (defScope s_check_free) := ⟨rfl, rfl, rfl, by decide +kernel, rfl, by decide +kernel, by decide +kernel⟩
theorem bp_check_free : BndP "check_free" s_check_free ["width", "free"] := fun _ _ _ _ _ _ us h => match us, h with | [_, _], _ => rfl
abbrev s_is_free : Stmt := top 48
theorem sc_is_free : FnScope ["free", "bits", "stretch"] ["free", "bits"] (defScope s_is_free) := ⟨rfl, rfl, rfl, by decide +kernel, rfl, by decide +kernel, by decide +kernel⟩
theorem bp_is_free : BndP "is_free" s_is_free ["free", "bits"] := fun _ _ _ _ _ _ us h => match us, h with | [_, _], _ => rfl
/-! ### free stretches -/
def KT (K : PySem.W.Frag) (a : Addr) : Prop := ∃ (o : Obj) (its : Array Value) (n : Nat), K.lookup a = some o ∧ o.cls = .type "tuple" ∧ o.data = .seq its n ∧ its.size ≤ sizeLine ∧ Vals [] its.toList
def FrA (K : PySem.W.Frag) (H : Hp) (a : Addr) (fs : List (List Nat)) : Prop := H a = some (.lst (fs.map sx)) ∨ H a = some (.tup (fs.map sx)) ∨ (fs = [] ∧ KT K a)
theorem FrA.same {K : PySem.W.Frag} {H H' : Hp} {a : Addr} {fs : List (List Nat)} (h : FrA K H a fs) (s : Same H H') : FrA K H' a fs := by
  rcases h with h | h | h
  · exact .inl (s _ _ h)
  · exact .inr (.inl (s _ _ h))
  · exact .inr (.inr h)
theorem FrA.seq {K : PySem.W.Frag} {H : Hp} {a : Addr} {fs : List (List Nat)} (h : FrA K H a fs) : (∀ H', Same H H' → SqL K H' a (fs.map sx)) ∨ (∀ H', Same H H' → SqT K H' a (fs.map sx)) := by
  rcases h with h | h | ⟨rfl, h⟩
  · exact .inl fun H' s => SqL.of (s _ _ h)
  · exact .inr fun H' s => SqT.of (s _ _ h)
  · exact .inr fun H' _ => .inr h
theorem FrA.ty {K : PySem.W.Frag} {H : Hp} {a : Addr} {fs : List (List Nat)} (h : FrA K H a fs) : ∃ t, TyX K H (.ref a) t ∧ PySem.W.kitAny K t [.type "list", .type "tuple"] = some true := by
  have e2 : kitB "tuple" "list" = some false := by decide +kernel
  have e3 : kitB "tuple" "tuple" = some true := by decide +kernel
  have e1 : kitB "list" "list" = some true := by decide +kernel
  rcases h with e | e | ⟨_, o, its, n, e, c, _⟩
  · exact ⟨_, .base (.lst e), kitAny_cons (kit_ty e1) (fun z => nomatch z) fun _ => rfl⟩
  · exact ⟨_, .base (.tup e), kitAny_cons (kit_ty e2) (fun _ => kitAny_cons (kit_ty e3) (fun z => nomatch z) fun _ => rfl) fun z => nomatch z⟩
  · exact ⟨_, .kTuple e c, kitAny_cons (kit_ty e2) (fun _ => kitAny_cons (kit_ty e3) (fun z => nomatch z) fun _ => rfl) fun z => nomatch z⟩
theorem cutV_to (xs : List V) {k : Nat} : cutV xs none (some (k : Int)) = xs.take k := by
  unfold cutV
  rw [HT.sIx_none, HT.sIx_nat, Nat.sub_zero, List.drop_zero]
  by_cases h : k ≤ xs.length
  · rw [Nat.min_eq_left h]
  · rw [Nat.min_eq_right (by omega), List.take_length, List.take_of_length_le (by omega)]
theorem any_sx (t : List Nat) (ts : List (List Nat)) : inV (sx t) (ts.map sx) = decide (t ∈ ts) := by
  unfold inV
  rw [List.any_map]
  induction ts with
  | nil => rfl
  | cons a r ih =>
    rw [List.any_cons, ih]
    by_cases e : t = a
    · subst e
      have : ((fun y => eqV y (sx t)) ∘ sx) t = true := by show decide (SX.S t = SX.S t) = true; simp
      rw [this]
      simp
    · have : ((fun y => eqV y (sx t)) ∘ sx) a = false := by
        show decide (SX.S a = SX.S t) = false
        exact decide_eq_false fun q => e (S_inj q).symm
      rw [this]
      simp [e]
theorem flat_sx (ts : List (List Nat)) : (ts.map sx).all flatV = true := by
  rw [List.all_eq_true]
  intro v hv
  obtain ⟨t, _, rfl⟩ := List.mem_map.mp hv
  rfl
theorem starts_S (z f : List Nat) : Txt.startswith (SX.S z) (SX.S f) = decide (f <+: z) := by
  show (decide (0 + (SX.S f).length ≤ (SX.S z).length) && ((z.toArray.extract 0 (0 + (SX.S f).length)) == f.toArray)) = _
  rw [sx_len, sx_len, Nat.zero_add]
  have e : (z.toArray.extract 0 f.length == f.toArray) = decide (z.take f.length = f) := by
    rw [Bool.eq_iff_iff]
    simp
  rw [e, Bool.eq_iff_iff, Bool.and_eq_true, decide_eq_true_iff, decide_eq_true_iff, decide_eq_true_iff]
  constructor
  · rintro ⟨_, h⟩
    rw [← h]
    exact List.take_prefix _ _
  · intro h
    exact ⟨h.length_le, (List.prefix_iff_eq_take.mp h).symm⟩
@[irreducible] def spCF (K : PySem.W.Frag) : Sp := fun vs H Q _ => ∃ (n : Nat) (a : Addr) (fs : List (List Nat)), vs = [.int n, .ref a] ∧ 1 ≤ n ∧ n ≤ 100 ∧ FrA K H a fs ∧ Fits n fs ∧ fs.Nodup ∧ fs.length ≤ 20 ∧ ∀ H', Same H H' → Q .non H'
theorem cf_go {K : PySem.W.Frag} {n : Nat} {a : Addr} {fs : List (List Nat)} {H : Hp} {Q : VK} {E : XK} (h0 : 1 ≤ n) (h1 : n ≤ 100) (ha : FrA K H a fs) (hf : Fits n fs) (nd : fs.Nodup) (hl : fs.length ≤ 20) (k : ∀ H', Same H H' → Q .non H') : spCF K [.int n, .ref a] H Q E := by
  unfold spCF
  exact ⟨n, a, fs, rfl, h0, h1, ha, hf, nd, hl, k⟩
@[irreducible] def spIF (K : PySem.W.Frag) : Sp := fun vs H Q _ => ∃ (a : Addr) (fs : List (List Nat)) (z : List Nat), vs = [.ref a, sx z] ∧ FrA K H a fs ∧ fs.length ≤ 1000 ∧ z.length ≤ 1000 ∧ ∀ H', Same H H' → Q (.bl (M.frB fs z)) H'
theorem if_go {K : PySem.W.Frag} {a : Addr} {fs : List (List Nat)} {z : List Nat} {H : Hp} {Q : VK} {E : XK} (ha : FrA K H a fs) (hl : fs.length ≤ 1000) (hz : z.length ≤ 1000) (k : ∀ H', Same H H' → Q (.bl (M.frB fs z)) H') : spIF K [.ref a, sx z] H Q E := by
  unfold spIF
  exact ⟨a, fs, z, rfl, ha, hl, hz, k⟩
section
variable {P : Program} {w : World} {K : PySem.W.Frag} {mg : Str → Option Value} {base : Heap} {f C : Addr} {fd : FuncData}
theorem ok_check_free (F : Fun K "check_free" "check_free" s_check_free f fd) (hm : mg "check_free" = some (.ref f)) (T : Txt K mg) (cF : ∃ u, mg "MOST_FREE" = some u ∧ RelV (.int 20) u) (c_check_width : Nm P w K mg base CX0 3 "check_width" s_check_width ["width"] (spCW)) (c_is_stretch : Nm P w K mg base CX0 4 "is_stretch" s_is_stretch ["width", "value"] (spIT strB)) : Nm P w K mg base CX0 5 "check_free" s_check_free ["width", "free"] (spCF K) := by
  refine nm_of0 F hm sc_check_free (fun vs H Q E h => ?_) fun cdv A outer s H vs Q E hr h => ?_
  · unfold spCF at h
    obtain ⟨n, a, fs, rfl, h0, h1, ha, hf, nd, hl, k⟩ := h
    subst_vars
    rfl
  unfold spCF at h
  obtain ⟨n, a, fs, rfl, h0, h1, ha, hf, nd, hl, k⟩ := h
  refine ⟨_, (pss_cons (ps_expr (pe_g c_check_width hr (by decide) L2.pass0 bp_check_width (by rfl) (pa_cons (pv 0) pa_nil)))
      (pss_cons (ps_if (pt_not (pt_val (pe_callB call_isiT (by rfl) T.b_isinstance (by decide +kernel) (pa_cons (pv 1) (pa_cons (pe_tup (pa_cons (pe_ty "list" (by rfl) T.b_list (by decide +kernel)) (pa_cons (pe_ty "tuple" (by rfl) T.b_tuple (by decide +kernel)) pa_nil))) pa_nil))))) (pss_one ps_never) pss_nil)
      (pss_cons (ps_for PassesOwn.never rfl (pi_enumA (by rfl) T.b_enumerate (pa_cons (pv 1) pa_nil)) (pg_tup (by rfl) (pgs_cons (pg_name (i := 2) sc_check_free.nd rfl (by first | exact Or.inl rfl | exact Or.inr rfl)) (pgs_cons (pg_name (i := 3) sc_check_free.nd rfl (by first | exact Or.inl rfl | exact Or.inr rfl)) pgs_nil))) (pss_one (ps_if (PW.pt (pw_or (pt_not (pt_val (pe_g c_is_stretch hr (by decide) L2.pass0 bp_is_stretch (by rfl) (pa_cons (pv 0) (pa_cons (pv 3) pa_nil))))) (pw_or1 (pt_cmpR (op_inK (K := K) rfl) (pv 3) (pe_slice (sl_list.or sl_tup) (pv 1) po_none (po_some (pv 2))) rfl)))) (pss_one ps_never) pss_nil)))
      (pss_one (ps_if (pt_cmpR op_gt (pe_callB (call_lenK (K := K) rfl) (by rfl) T.b_len PySem.boot_len (pa_cons (pv 1) pa_nil)) (pe_cst (by rfl) cF) (nomark _)) (pss_one ps_never) pss_nil))))), ?_⟩
  repeat walk_at "s1"
  refine cw_go (by omega) (by omega) fun H1 sm1 => ?_
  have ha1 := ha.same sm1
  refine ⟨_, rfl, ?_⟩
  refine ⟨szl (by show 2 ≤ 1000000; decide), fun T nT => ?_⟩
  have sm2 : Same H (upd H1 T (.tup [.ty "list", .ty "tuple"])) := fun b o e => updn (nonn nT (sm1 b o e)) (sm1 b o e)
  obtain ⟨ty, hty, hk⟩ := (ha.same sm2).ty
  refine ⟨_, T, _, ty, _, true, rfl, upd_same, .cons (.ty _) (.cons (.ty _) .nil), hty, hk, ?_⟩
  refine ⟨_, rfl, ?_⟩
  refine iteF ?_
  generalize upd H1 T (.tup [.ty "list", .ty "tuple"]) = H2 at sm2 hty ⊢
  clear hty hk nT ha1
  have ha2 := (ha.same sm2).seq
  refine ⟨_, rfl, ?_⟩
  have lim : (decide ((20 : Int) < ((fs.map sx).length : Nat))) = false := decide_eq_false (by rw [List.length_map]; omega)
  rcases ha2 with e | e
  · refine ⟨a, fs.map sx, rfl, .inl ⟨e _ (Same.refl _), ?_⟩⟩
    refine for_it (walk_enum (xs := fs.map sx)) (fun i σ' H' => ∃ x2 x3, σ' = [some (.int n), some (.ref a), x2, x3] ∧ Same H2 H') ⟨_, _, rfl, Same.refl H2⟩ (fun i σ' H' _ h => let ⟨_, _, _, s⟩ := h; e _ s) ?_ ?_
    · rintro i x σ' H3 H4 hi ⟨x2, x3, rfl, sm⟩ ⟨T2, y, z, rfl, nT2, rfl, e5, e6⟩
      obtain rfl : y = .int (i : Nat) := (Option.some.inj e5).symm
      obtain ⟨t, ht, rfl⟩ : ∃ t, fs[i]? = some t ∧ z = sx t := by
        dsimp only at e6
        rw [List.getElem?_map] at e6
        cases q : fs[i]? with
        | none => rw [q] at e6; cases e6
        | some t => rw [q] at e6; exact ⟨t, rfl, (Option.some.inj e6).symm⟩
      obtain ⟨hb, hl2⟩ := hf t (List.mem_of_getElem? ht)
      have sm3 : Same H2 (upd H3 T2 (.tup [.int (i : Nat), sx t])) := fun b o q => updn (nonn nT2 (sm b o q)) (sm b o q)
      refine ⟨T2, [.int (i : Nat), sx t], rfl, SqT.of upd_same, rfl, ?_⟩
      refine ⟨_, _, rfl, ?_⟩
      refine ⟨_, _, rfl, ?_⟩
      refine ⟨rfl, ?_⟩
      refine ⟨_, rfl, ?_⟩
      refine ⟨_, rfl, ?_⟩
      refine it_go (by omega) (by omega) (by rw [sx_len]; omega) fun H5 sm5 => ?_
      rw [str_ok hb hl2]
      refine ⟨_, rfl, iteF ?_⟩
      refine ⟨_, rfl, ⟨_, rfl, ⟨_, rfl, ⟨_, rfl, ?_⟩⟩⟩⟩
      refine .inl ⟨a, fs.map sx, rfl, e _ (sm3.trans sm5), fun p np => ?_⟩
      rw [cutV_to]
      refine ⟨p, _, rfl, .inl (SqL.of upd_same), rfl, ?_, ?_⟩
      · rw [← List.map_take]; exact flat_sx _
      rw [← List.map_take, any_sx, decide_eq_false (take_new nd ht)]
      refine ⟨_, rfl, iteF ?_⟩
      have sm6 := sm3.trans sm5
      exact ⟨_, _, rfl, fun b o q => updn (nonn np (sm6 b o q)) (sm6 b o q)⟩
    · rintro σ' H3 ⟨x2, x3, rfl, sm⟩
      refine ⟨_, rfl, ⟨_, _, rfl, .inl ⟨_, e _ sm, rfl⟩, ?_⟩⟩
      refine ⟨_, _, rfl, rfl, ?_⟩
      refine ⟨_, rfl, ?_⟩
      rw [lim]
      exact iteF (k _ fun b o q => sm b o (sm2 b o q))
  · refine ⟨a, fs.map sx, rfl, .inr ⟨e _ (Same.refl _), ?_⟩⟩
    refine for_it (walk_enumT (xs := fs.map sx)) (fun i σ' H' => ∃ x2 x3, σ' = [some (.int n), some (.ref a), x2, x3] ∧ Same H2 H') ⟨_, _, rfl, Same.refl H2⟩ (fun i σ' H' _ h => let ⟨_, _, _, s⟩ := h; e _ s) ?_ ?_
    · rintro i x σ' H3 H4 hi ⟨x2, x3, rfl, sm⟩ ⟨T2, y, z, rfl, nT2, rfl, e5, e6⟩
      obtain rfl : y = .int (i : Nat) := (Option.some.inj e5).symm
      obtain ⟨t, ht, rfl⟩ : ∃ t, fs[i]? = some t ∧ z = sx t := by
        dsimp only at e6
        rw [List.getElem?_map] at e6
        cases q : fs[i]? with
        | none => rw [q] at e6; cases e6
        | some t => rw [q] at e6; exact ⟨t, rfl, (Option.some.inj e6).symm⟩
      obtain ⟨hb, hl2⟩ := hf t (List.mem_of_getElem? ht)
      have li : i < fs.length := (List.getElem?_eq_some_iff.mp ht).1
      have sm3 : Same H2 (upd H3 T2 (.tup [.int (i : Nat), sx t])) := fun b o q => updn (nonn nT2 (sm b o q)) (sm b o q)
      refine ⟨T2, [.int (i : Nat), sx t], rfl, SqT.of upd_same, rfl, ?_⟩
      refine ⟨_, _, rfl, ?_⟩
      refine ⟨_, _, rfl, ?_⟩
      refine ⟨rfl, ?_⟩
      refine ⟨_, rfl, ?_⟩
      refine ⟨_, rfl, ?_⟩
      refine it_go (by omega) (by omega) (by rw [sx_len]; omega) fun H5 sm5 => ?_
      rw [str_ok hb hl2]
      refine ⟨_, rfl, iteF ?_⟩
      refine ⟨_, rfl, ⟨_, rfl, ⟨_, rfl, ⟨_, rfl, ?_⟩⟩⟩⟩
      refine .inr ⟨a, fs.map sx, rfl, e _ (sm3.trans sm5), (fun q => by
        have q2 := q.2
        rw [HT.sIx_nat, List.length_map] at q2
        omega), fun p np => ?_⟩
      rw [cutV_to]
      refine ⟨p, _, rfl, .inr (SqT.of upd_same), rfl, ?_, ?_⟩
      · rw [← List.map_take]; exact flat_sx _
      rw [← List.map_take, any_sx, decide_eq_false (take_new nd ht)]
      refine ⟨_, rfl, iteF ?_⟩
      have sm6 := sm3.trans sm5
      exact ⟨_, _, rfl, fun b o q => updn (nonn np (sm6 b o q)) (sm6 b o q)⟩
    · rintro σ' H3 ⟨x2, x3, rfl, sm⟩
      refine ⟨_, rfl, ⟨_, _, rfl, .inr ⟨_, e _ sm, rfl⟩, ?_⟩⟩
      refine ⟨_, _, rfl, rfl, ?_⟩
      refine ⟨_, rfl, ?_⟩
      rw [lim]
      exact iteF (k _ fun b o q => sm b o (sm2 b o q))
theorem ok_is_free (F : Fun K "is_free" "is_free" s_is_free f fd) (hm : mg "is_free" = some (.ref f)) (T : Txt K mg) : Nm P w K mg base CX0 1 "is_free" s_is_free ["free", "bits"] (spIF K) := by
  refine nm_of F hm sc_is_free (fun vs H Q E h => ?_) fun cdv A outer s H vs Q E hr h => ?_
  · unfold spIF at h
    obtain ⟨a, fs, z, rfl, ha, hl, hz, k⟩ := h
    subst_vars
    rfl
  unfold spIF at h
  obtain ⟨a, fs, z, rfl, ha, hl, hz, k⟩ := h
  refine ⟨_, (pss_one (ps_ret (pe_callB (cr_any rfl) (by rfl) T.b_any (by decide +kernel) (pa_cons (pe_lc (own := [("stretch", 2)]) (g := (gName 2)) (by rfl) sc_is_free.nd (pi_seqAK (K := K) rfl (pv 0)) (blkOk_by (own := [("stretch", 2)]) (N := ["free", "bits", "stretch"]) (sc := defScope s_is_free) (by decide +kernel)) (fun _ _ _ _ _ => (pg_name (i := 2) sc_is_free.nd rfl (by first | exact Or.inl rfl | exact Or.inr rfl))) (fun _ _ _ _ _ => pts_nil) (fun _ _ _ _ _ => (pe_bmK (K := K) rfl PySem.F.plainAttrs_str PySem.F.slot_str_startswith PySem.F.type_str_startswith mt_startswith (pv 1) (pa_cons (pv 2) pa_nil)))) pa_nil)))), ?_⟩
  refine ⟨_, rfl, ?_⟩
  have ee := ha.seq
  refine ⟨a, fs.map sx, rfl, ?_⟩
  rcases ee with e | e
  · refine .inl ⟨e _ (Same.refl _), fun B nB => ?_⟩
    refine lc_it (walk_list (xs := fs.map sx)) (fun i H' => H' B = some (.lst (((fs.take i).map fun t => decide (t <+: z)).map V.bl)) ∧ Same H H') ⟨upd_same, fun b o e => updn (nonn nB e) e⟩ (fun i H' _ h => e _ h.2) ?_ ?_
    · rintro i x H1 H2 hi ⟨hB, sm⟩ ⟨rfl, hx⟩
      obtain ⟨t, ht, rfl⟩ : ∃ t, fs[i]? = some t ∧ x = sx t := by
        rw [List.getElem?_map] at hx
        cases q : fs[i]? with
        | none => rw [q] at hx; cases hx
        | some t => rw [q] at hx; exact ⟨t, rfl, (Option.some.inj hx).symm⟩
      have li : i < fs.length := (List.getElem?_eq_some_iff.mp ht).1
      refine ⟨rfl, ?_⟩
      refine ⟨_, rfl, ⟨rfl, ⟨_, rfl, ⟨_, _, rfl, rfl, ?_⟩⟩⟩⟩
      rw [starts_S]
      refine ⟨_, hB, szt (by rw [List.length_map, List.length_map, List.length_take]; omega), ?_, fun b o q => updn (nonn nB q) (sm b o q)⟩
      rw [upd_same, List.take_add_one, ht, List.map_append, List.map_append]
      rfl
    · rintro H1 ⟨hB, sm⟩
      rw [List.length_map, List.take_length] at hB
      refine ⟨_, _, rfl, SqL.of hB, ?_⟩
      have eB : (fs.map fun t => decide (t <+: z)).any id = M.frB fs z := by rw [List.any_map]; rfl
      rw [eB]
      exact k _ sm
  · refine .inr ⟨e _ (Same.refl _), fun B nB => ?_⟩
    refine lc_it (walk_tup (xs := fs.map sx)) (fun i H' => H' B = some (.lst (((fs.take i).map fun t => decide (t <+: z)).map V.bl)) ∧ Same H H') ⟨upd_same, fun b o e => updn (nonn nB e) e⟩ (fun i H' _ h => e _ h.2) ?_ ?_
    · rintro i x H1 H2 hi ⟨hB, sm⟩ ⟨rfl, hx⟩
      obtain ⟨t, ht, rfl⟩ : ∃ t, fs[i]? = some t ∧ x = sx t := by
        rw [List.getElem?_map] at hx
        cases q : fs[i]? with
        | none => rw [q] at hx; cases hx
        | some t => rw [q] at hx; exact ⟨t, rfl, (Option.some.inj hx).symm⟩
      have li : i < fs.length := (List.getElem?_eq_some_iff.mp ht).1
      refine ⟨rfl, ?_⟩
      refine ⟨_, rfl, ⟨rfl, ⟨_, rfl, ⟨_, _, rfl, rfl, ?_⟩⟩⟩⟩
      rw [starts_S]
      refine ⟨_, hB, szt (by rw [List.length_map, List.length_map, List.length_take]; omega), ?_, fun b o q => updn (nonn nB q) (sm b o q)⟩
      rw [upd_same, List.take_add_one, ht, List.map_append, List.map_append]
      rfl
    · rintro H1 ⟨hB, sm⟩
      rw [List.length_map, List.take_length] at hB
      refine ⟨_, _, rfl, SqL.of hB, ?_⟩
      have eB : (fs.map fun t => decide (t <+: z)).any id = M.frB fs z := by rw [List.any_map]; rfl
      rw [eB]
      exact k _ sm
end
open PySem PySem.Spec PyProof.Rows
open L2 hiding pass0
abbrev s_used_cells : Stmt := top 53
theorem sc_used_cells : FnScope ["width", "stretches", "free", "told", "stretch", "many", "address"] ["width", "stretches", "free"] (defScope s_used_cells) := ⟨rfl, rfl, rfl, by decide +kernel, rfl, by decide +kernel, by decide +kernel⟩
theorem bp_used_cells : BndP "_used_cells" s_used_cells ["width", "stretches", "free"] := fun _ _ _ _ _ _ us h => match us, h with | [_, _, _], _ => rfl
abbrev s_first_address : Stmt := top 54
theorem sc_first_address : FnScope ["parts", "_", "address"] ["parts"] (defScope s_first_address) := ⟨rfl, rfl, rfl, by decide +kernel, rfl, by decide +kernel, by decide +kernel⟩
theorem bp_first_address : BndP "_first_address" s_first_address ["parts"] := fun _ _ _ _ _ _ us h => match us, h with | [_], _ => rfl
/-! ### cells that are used -/
/-- the goal of an address, as codes -/
def gS (m : List (Str × Str)) (z : List Nat) : List Nat := (goalT (look m) (SX.S z)).cps.toList
theorem gS_V (m : List (Str × Str)) (z : List Nat) : V.str (goalT (look m) (SX.S z)) = sx (gS m z) := (sx_tl _).symm
theorem gS_lg {m : List (Str × Str)} {ks : List (List Nat)} (sub : ∀ t ∈ ksOf (kz m), t ∈ ks) (h0 : [] ∈ ks) (z : List Nat) : gS m z = gS m (M.lg ks z) := by
  have h : lb (look m) (SX.S z) = lb (look m) (SX.S (M.lg ks z)) := by
    rw [lb_lg, lb_lg, M.lg_lg (ks_mem.mpr (.inl rfl)) h0 sub]
  unfold gS goalT
  rw [h]
/-- the cells that hold an address outside of the free stretches -/
def uc (n : Nat) (ks fs : List (List Nat)) : List (List Nat) := ks.filter fun s => decide (0 < M.many n ks s) && !M.frB fs s
inductive Tu (H : Hp) (w : Nat) (ks : List (List Nat)) : List Addr → List (List Nat) → Prop
  | nil : Tu H w ks [] []
  | cons {a : Addr} {s : List Nat} {as : List Addr} {ss : List (List Nat)} : H a = some (.tup [.int ((M.many w ks s : Nat) : Int), oA (M.cellA w ks s)]) → Tu H w ks as ss → Tu H w ks (a :: as) (s :: ss)
theorem Tu.mono {H H' : Hp} {w : Nat} {ks : List (List Nat)} (k : ∀ a l, H a = some (.tup l) → H' a = some (.tup l)) : ∀ {as : List Addr} {ss : List (List Nat)}, Tu H w ks as ss → Tu H' w ks as ss
  | _, _, .nil => .nil
  | _, _, .cons h r => .cons (k _ _ h) (r.mono k)
theorem Tu.snoc {H : Hp} {w : Nat} {ks : List (List Nat)} {a : Addr} {s : List Nat} (u : H a = some (.tup [.int ((M.many w ks s : Nat) : Int), oA (M.cellA w ks s)])) : ∀ {as : List Addr} {ss : List (List Nat)}, Tu H w ks as ss → Tu H w ks (as ++ [a]) (ss ++ [s])
  | _, _, .nil => .cons u .nil
  | _, _, .cons h r => .cons h (Tu.snoc u r)
theorem Tu.len {H : Hp} {w : Nat} {ks : List (List Nat)} : ∀ {as : List Addr} {ss : List (List Nat)}, Tu H w ks as ss → as.length = ss.length
  | _, _, .nil => rfl
  | _, _, .cons _ r => congrArg (· + 1) r.len
theorem tu_at {H : Hp} {w : Nat} {ks : List (List Nat)} : ∀ {as : List Addr} {ss : List (List Nat)} {i : Nat} {a : Addr}, Tu H w ks as ss → as[i]? = some a → ∃ s, ss[i]? = some s ∧ H a = some (.tup [.int ((M.many w ks s : Nat) : Int), oA (M.cellA w ks s)])
  | _, _, _, _, .nil, h => by simp at h
  | _, _, 0, _, .cons (s := s) e _, h => ⟨s, rfl, by cases h; exact e⟩
  | _, _, i + 1, _, .cons _ t, h => tu_at (i := i) t h
/-- a list at R of such tuples -/
def UsedAt (H : Hp) (n : Nat) (ks : List (List Nat)) (R : Addr) (us : List (List Nat)) : Prop := ∃ as : List Addr, H R = some (.lst (as.map V.ref)) ∧ Tu H n ks as us
theorem UsedAt.same {H H' : Hp} {n : Nat} {ks : List (List Nat)} {R : Addr} {us : List (List Nat)} (h : UsedAt H n ks R us) (s : Same H H') : UsedAt H' n ks R us := by
  obtain ⟨as, e, t⟩ := h
  exact ⟨as, s _ _ e, t.mono fun a l q => s _ _ q⟩
/-- one more of them -/
theorem UsedAt.more {H H0 : Hp} {n : Nat} {ks : List (List Nat)} {B t : Addr} {us : List (List Nat)} {s : List Nat} (h : UsedAt H n ks B us) (nt : H t = none) (sm : Same H0 H) (nB : H0 B = none) (hl : us.length ≤ 100000) :
    ∃ acc, upd H t (.tup [.int ((M.many n ks s : Nat) : Int), oA (M.cellA n ks s)]) B = some (.lst acc) ∧ acc.length < sizeLine ∧ UsedAt (upd (upd H t (.tup [.int ((M.many n ks s : Nat) : Int), oA (M.cellA n ks s)])) B (.lst (acc ++ [.ref t]))) n ks B (us ++ [s]) ∧
      Same H0 (upd (upd H t (.tup [.int ((M.many n ks s : Nat) : Int), oA (M.cellA n ks s)])) B (.lst (acc ++ [.ref t]))) := by
  obtain ⟨as, e, tu⟩ := h
  have nBt : B ≠ t := nonn nt e
  refine ⟨_, updn nBt e, szt (by rw [List.length_map, tu.len]; omega), ⟨as ++ [t], by rw [upd_same, List.map_append]; rfl, ?_⟩, fun b o q => updn (nonn nB q) (updn (nonn nt (sm _ _ q)) (sm _ _ q))⟩
  have t2 : Tu (upd H t (.tup [.int ((M.many n ks s : Nat) : Int), oA (M.cellA n ks s)])) n ks (as ++ [t]) (us ++ [s]) := Tu.snoc upd_same (tu.mono fun a l q => updn (nonn nt q) q)
  refine t2.mono fun a l q => updn (fun z => ?_) q
  rw [z, updn nBt e] at q
  cases q
@[irreducible] def spUC (K : PySem.W.Frag) : Sp := fun vs H Q _ => ∃ (n : Nat) (L F : Addr) (ts fs : List (List Nat)), vs = [.int n, .ref L, .ref F] ∧ 1 ≤ n ∧ n ≤ 100 ∧ H L = some (.lst (ts.map sx)) ∧ FrA K H F fs ∧ Fits n ts ∧ Fits n fs ∧ ts.length ≤ 100 ∧ fs.length ≤ 100 ∧
  ∀ R H', Same H H' → H R = none → UsedAt H' n (ksOf (ts ++ fs)) R (uc n (ksOf (ts ++ fs)) fs) → Q (.ref R) H'
def uc' (n : Nat) (ks fs : List (List Nat)) (i : Nat) : List (List Nat) := (ks.take i).filter fun s => decide (0 < M.many n ks s) && !M.frB fs s
theorem uc_go {K : PySem.W.Frag} {n : Nat} {L F : Addr} {ts fs : List (List Nat)} {H : Hp} {Q : VK} {E : XK} (h0 : 1 ≤ n) (h1 : n ≤ 100) (hL : H L = some (.lst (ts.map sx))) (hF : FrA K H F fs) (ft : Fits n ts) (ff : Fits n fs) (lt : ts.length ≤ 100) (lf : fs.length ≤ 100)
    (k : ∀ R H', Same H H' → H R = none → UsedAt H' n (ksOf (ts ++ fs)) R (uc n (ksOf (ts ++ fs)) fs) → Q (.ref R) H') : spUC K [.int n, .ref L, .ref F] H Q E := by
  unfold spUC
  exact ⟨n, L, F, ts, fs, rfl, h0, h1, hL, hF, ft, ff, lt, lf, k⟩
section
variable {P : Program} {w : World} {K : PySem.W.Frag} {mg : Str → Option Value} {base : Heap} {f C : Addr} {fd : FuncData}
theorem ok_used (F : Fun K "_used_cells" "_used_cells" s_used_cells f fd) (hm : mg "_used_cells" = some (.ref f)) (T : Txt K mg) (c_cells : Nm P w K mg base CX0 8 "cells" s_cells ["width", "stretches"] (spCells)) (c_is_free : Nm P w K mg base CX0 1 "is_free" s_is_free ["free", "bits"] (spIF K)) (al : mg "cells_stretches" = mg "cells") : Nm P w K mg base CX0 9 "_used_cells" s_used_cells ["width", "stretches", "free"] (spUC K) := by
  refine nm_of F hm sc_used_cells (fun vs H Q E h => ?_) fun cdv A outer s H vs Q E hr h => ?_
  · unfold spUC at h
    obtain ⟨n, L, F, ts, fs, rfl, h0, h1, hL, hF, ft, ff, lt, lf, k⟩ := h
    subst_vars
    rfl
  unfold spUC at h
  obtain ⟨n, L, F, ts, fs, rfl, h0, h1, hL, hF, ft, ff, lt, lf, k⟩ := h
  refine ⟨_, (pss_cons (ps_set (i := 3) sc_used_cells.nd rfl (by first | exact Or.inl rfl | exact Or.inr rfl) (pe_gA c_cells al hr (by decide) L2.pass0 bp_cells (by rfl) (pa_cons (pv 0) (pa_cons (pe_lst (StX.pa_star (pv 1) (StX.pa_star (pv 2) pa_nil))) pa_nil))))
      (pss_one (ps_ret (pe_lc (own := [("stretch", 4), ("many", 5), ("address", 6)]) (g := (gTup K 3 (gCons (gName 4) (gCons (gName 5) (gCons (gName 6) gNil))))) (by rfl) sc_used_cells.nd (pi_listK (K := K) rfl (pv 3)) (blkOk_by (own := [("stretch", 4), ("many", 5), ("address", 6)]) (N := ["width", "stretches", "free", "told", "stretch", "many", "address"]) (sc := defScope s_used_cells) (by decide +kernel)) (fun _ _ _ _ _ => (pg_tup (by rfl) (pgs_cons (pg_name (i := 4) sc_used_cells.nd rfl (by first | exact Or.inl rfl | exact Or.inr rfl)) (pgs_cons (pg_name (i := 5) sc_used_cells.nd rfl (by first | exact Or.inl rfl | exact Or.inr rfl)) (pgs_cons (pg_name (i := 6) sc_used_cells.nd rfl (by first | exact Or.inl rfl | exact Or.inr rfl)) pgs_nil))))) (fun _ _ _ _ _ => (pts_one (PW.pt (pw_and (pt_cmpR op_gt (pv 5) pe_int (nomark _)) (pw_and1 (pt_not (pt_val (pe_g c_is_free hr (by decide) L2.pass0 bp_is_free (by rfl) (pa_cons (pv 2) (pa_cons (pv 4) pa_nil)))))))))) (fun _ _ _ _ _ => (pe_tup (pa_cons (pv 5) (pa_cons (pv 6) pa_nil)))))))), ?_⟩
  refine ⟨_, rfl, ⟨_, rfl, ⟨L, ts.map sx, rfl, .inr (SqL.of hL), ?_⟩⟩⟩
  have hF2 : SqT K H F (fs.map sx) ∨ SqL K H F (fs.map sx) := hF.seq.elim (fun e => .inr (e _ (Same.refl _))) fun e => .inl (e _ (Same.refl _))
  refine ⟨_, rfl, ⟨F, fs.map sx, rfl, hF2, ?_⟩⟩
  have eL : (ts.map sx ++ (fs.map sx ++ [])) = (ts ++ fs).map sx := by rw [List.append_nil, List.map_append]
  refine ⟨szl (by rw [eL, List.length_map, List.length_append]; omega), fun W nW => ?_⟩
  rw [eL]
  have fit : Fits n (ts ++ fs) := fun t ht => (List.mem_append.mp ht).elim (ft t) (ff t)
  have s1 : Same H (upd H W (.lst ((ts ++ fs).map sx))) := fun b o e => updn (nonn nW e) e
  refine cells_go h0 h1 (.inl upd_same) fit (by rw [List.length_append]; omega) fun L2 H2 s2 n2 t2 => ?_
  have s12 := s1.trans s2
  have nL2 : H L2 = none := by
    cases e : H L2 with
    | none => rfl
    | some o => rw [s1 _ _ e] at n2; cases n2
  have kn := ks_known fit
  have kl := ks_len (ts ++ fs)
  rw [List.length_append] at kl
  obtain ⟨as, eL2, tas⟩ := t2
  have la := tas.len
  generalize ksOf (ts ++ fs) = ks at kn kl tas la k
  refine ⟨_, rfl, ⟨L2, rfl, ⟨_, SqL.of eL2⟩, fun B nB => ?_⟩⟩
  have nB0 : H B = none := by
    cases e : H B with
    | none => rfl
    | some o => rw [s12 _ _ e] at nB; cases nB
  refine lc_it (walk_list (xs := as.map V.ref)) (fun i H' => UsedAt H' n ks B (uc' n ks fs i) ∧ Same H2 H') ⟨⟨[], upd_same, .nil⟩, fun b o e => updn (nonn nB e) e⟩ (fun i H' _ h => SqL.of (h.2 _ _ eL2)) ?_ ?_
  · rintro i x H3 H3' hi ⟨hU, s3⟩ ⟨rfl, hx⟩
    obtain ⟨c, hc, rfl⟩ : ∃ c, as[i]? = some c ∧ x = .ref c := by
      rw [List.getElem?_map] at hx
      cases e : as[i]? with
      | none => rw [e] at hx; cases hx
      | some t => rw [e] at hx; exact ⟨t, rfl, (Option.some.inj hx).symm⟩
    obtain ⟨s, hs, ec⟩ := tc_at tas hc
    have hsm := List.mem_of_getElem? hs
    refine ⟨c, _, rfl, SqT.of (s3 _ _ ec), rfl, ?_⟩
    refine ⟨_, _, rfl, ?_⟩
    refine ⟨_, _, rfl, ?_⟩
    refine ⟨_, _, rfl, ?_⟩
    refine ⟨rfl, ?_⟩
    have estep : uc' n ks fs (i + 1) = uc' n ks fs i ++ if (decide (0 < M.many n ks s) && !M.frB fs s) = true then [s] else [] := by
      unfold uc'
      rw [List.take_add_one, hs, List.filter_append]
      congr 1
      by_cases q : (decide (0 < M.many n ks s) && !M.frB fs s) = true
      · rw [if_pos q]; exact List.filter_cons_of_pos q
      · rw [if_neg q]; exact List.filter_cons_of_neg q
    have lu : (uc' n ks fs i).length ≤ 100000 := by
      refine Nat.le_trans (List.length_filter_le _ _) ?_
      rw [List.length_take]
      omega
    have e0 : decide ((0 : Int) < ((M.many n ks s : Nat) : Int)) = decide (0 < M.many n ks s) := decide_eq_decide.mpr (by omega)
    refine ⟨rfl, ?_⟩
    refine ⟨_, rfl, ⟨_, _, rfl, rfl, ⟨_, rfl, ?_⟩⟩⟩
    rw [e0]
    by_cases hm0 : 0 < M.many n ks s
    · rw [decide_eq_true hm0]
      rw [decide_eq_true hm0, Bool.true_and] at estep
      refine iteT ?_
      refine ⟨_, rfl, ⟨_, rfl, ?_⟩⟩
      refine if_go ((hF.same s12).same s3) (by omega) (by have := kn.fit s hsm; omega) fun H4 s4 => ?_
      refine ⟨_, rfl, ?_⟩
      cases hfr : M.frB fs s with
      | true =>
        rw [hfr] at estep
        rw [if_neg (by decide), List.append_nil] at estep
        refine iteF ?_
        rw [estep]
        exact ⟨hU.same s4, s3.trans s4⟩
      | false =>
        rw [hfr] at estep
        rw [if_pos (by decide)] at estep
        refine iteT ?_
        refine ⟨_, rfl, ⟨_, rfl, ⟨szl (by show 2 ≤ 1000000; decide), fun t nt => ?_⟩⟩⟩
        rw [estep]
        exact (hU.same s4).more nt (s3.trans s4) nB lu
    · rw [decide_eq_false hm0]
      rw [decide_eq_false hm0, Bool.false_and, if_neg (by decide), List.append_nil] at estep
      refine iteF ?_
      refine iteF ?_
      rw [estep]
      exact ⟨hU, s3⟩
  · rintro H3 ⟨hU, s3⟩
    have eu : uc' n ks fs (as.map V.ref).length = uc n ks fs := by
      unfold uc' uc
      rw [List.length_map, la, List.take_length]
    rw [eu] at hU
    exact k B H3 (s12.trans s3) nB0 hU
end
open PySem PySem.Spec PyProof.Rows
open L2 hiding pass0
theorem width_go {C a : Addr} {n : Int} {m : List (Str × Str)} {H : Hp} {Q : VK} {E : XK} (ht : TabAt C H a n m) (k : Q (.int n) H) : spWidth C [.ref a] H Q E := by
  unfold spWidth
  exact ⟨a, n, m, rfl, ht, k⟩
theorem trows_go {C a : Addr} {n : Int} {m : List (Str × Str)} {H : Hp} {Q : VK} {E : XK} (ht : TabAt C H a n m) (k : ∀ p, H p = none → Q (.ref p) (upd H p (.dK (tk m)))) : spTRows C [.ref a] H Q E := by
  unfold spTRows
  exact ⟨a, n, m, rfl, ht, k⟩
theorem _root_.L2.Same.new {H H' : Hp} {a : Addr} {o : HO} (s : Same H H') (n : H' a = none) : Same H (upd H' a o) := fun b u e => updn (nonn n (s _ _ e)) (s _ _ e)
theorem _root_.L2.Same.back {H H' : Hp} {a : Addr} (s : Same H H') (n : H' a = none) : H a = none := by
  cases e : H a with
  | none => rfl
  | some o => rw [s _ _ e] at n; cases n
theorem sum_pos (g : List Nat → Nat) (q : List Nat → Bool) : ∀ ks : List (List Nat), ((ks.filter fun s => decide (0 < g s) && q s).map g).sum = (ks.map fun s => if q s = true then g s else 0).sum
  | [] => rfl
  | s :: ks => by
    rw [List.map_cons, List.sum_cons, ← sum_pos g q ks]
    by_cases h : 0 < g s
    · cases hq : q s with
      | true => rw [List.filter_cons_of_pos (by simp [h, hq]), List.map_cons, List.sum_cons, if_pos rfl]
      | false => rw [List.filter_cons_of_neg (by simp [hq]), if_neg (by decide), Nat.zero_add]
    · rw [List.filter_cons_of_neg (by simp [h])]
      have : g s = 0 := by omega
      rw [this]
      simp
def adrOf (n : Nat) (ks : List (List Nat)) (s : List Nat) : List Nat := (M.cellA n ks s).getD []
@[irreducible] def spFA : Sp := fun vs H Q _ => ∃ (R : Addr) (n : Nat) (ks us : List (List Nat)), vs = [.ref R] ∧ UsedAt H n ks R us ∧ us.length ≤ 1000 ∧ (∀ s ∈ us, ∃ z, M.cellA n ks s = some z) ∧ (us = [] → ∀ H', Same H H' → Q .non H') ∧
  (∀ y, (∃ s ∈ us, M.cellA n ks s = some y) → (∀ s ∈ us, ∀ z, M.cellA n ks s = some z → tLt (SX.S z) (SX.S y) = false) → ∀ H', Same H H' → Q (sx y) H')
theorem fa_go {R : Addr} {n : Nat} {ks us : List (List Nat)} {H : Hp} {Q : VK} {E : XK} (hU : UsedAt H n ks R us) (hl : us.length ≤ 1000) (ha : ∀ s ∈ us, ∃ z, M.cellA n ks s = some z) (k0 : us = [] → ∀ H', Same H H' → Q .non H')
    (k1 : ∀ y, (∃ s ∈ us, M.cellA n ks s = some y) → (∀ s ∈ us, ∀ z, M.cellA n ks s = some z → tLt (SX.S z) (SX.S y) = false) → ∀ H', Same H H' → Q (sx y) H') : spFA [.ref R] H Q E := by
  unfold spFA
  exact ⟨R, n, ks, us, rfl, hU, hl, ha, k0, k1⟩
section
variable {P : Program} {w : World} {K : PySem.W.Frag} {mg : Str → Option Value} {base : Heap} {f C : Addr} {fd : FuncData}
theorem ok_first_address (F : Fun K "_first_address" "_first_address" s_first_address f fd) (hm : mg "_first_address" = some (.ref f)) (T : Txt K mg) : Nm P w K mg base CX0 1 "_first_address" s_first_address ["parts"] (spFA) := by
  refine nm_of F hm sc_first_address (fun vs H Q E h => ?_) fun cdv A outer s H vs Q E hr h => ?_
  · unfold spFA at h
    obtain ⟨R, n, ks, us, rfl, hU, hl, ha, k0, k1⟩ := h
    subst_vars
    rfl
  unfold spFA at h
  obtain ⟨R, n, ks, us, rfl, hU, hl, ha, k0, k1⟩ := h
  refine ⟨_, (pss_one (ps_ret (pe_callBK (cr_minK rfl) (by rfl) T.b_min (by decide +kernel) (pa_cons (pe_lc (own := [("_", 1), ("address", 2)]) (g := (gTup K 2 (gCons (gName 1) (gCons (gName 2) gNil)))) (by rfl) sc_first_address.nd (pi_listK (K := K) rfl (pv 0)) (blkOk_by (own := [("_", 1), ("address", 2)]) (N := ["parts", "_", "address"]) (sc := defScope s_first_address) (by decide +kernel)) (fun _ _ _ _ _ => (pg_tup (by rfl) (pgs_cons (pg_name (i := 1) sc_first_address.nd rfl (by first | exact Or.inl rfl | exact Or.inr rfl)) (pgs_cons (pg_name (i := 2) sc_first_address.nd rfl (by first | exact Or.inl rfl | exact Or.inr rfl)) pgs_nil)))) (fun _ _ _ _ _ => pts_nil) (fun _ _ _ _ _ => (pv 2))) pa_nil) (pk_cons (pe_ty "str" (by rfl) T.b_str (by decide +kernel)) (pk_cons pe_non pk_nil))))), ?_⟩
  obtain ⟨as, eR, tu⟩ := hU
  have la := tu.len
  have ead : ∀ s ∈ us, oA (M.cellA n ks s) = sx (adrOf n ks s) := fun s hs => by
    obtain ⟨z, ez⟩ := ha s hs
    unfold adrOf
    rw [ez]
    rfl
  refine ⟨_, rfl, ⟨R, rfl, ⟨_, SqL.of eR⟩, fun B nB => ?_⟩⟩
  refine lc_it (walk_list (xs := as.map V.ref)) (fun i H' => H' B = some (.lst ((us.take i).map fun s => sx (adrOf n ks s))) ∧ Same H H') ⟨upd_same, fun b o e => updn (nonn nB e) e⟩ (fun i H' _ h => SqL.of (h.2 _ _ eR)) ?_ ?_
  · rintro i x H1 H2 hi ⟨hB, sm⟩ ⟨rfl, hx⟩
    obtain ⟨c, hc, rfl⟩ : ∃ c, as[i]? = some c ∧ x = .ref c := by
      rw [List.getElem?_map] at hx
      cases e : as[i]? with
      | none => rw [e] at hx; cases hx
      | some t => rw [e] at hx; exact ⟨t, rfl, (Option.some.inj hx).symm⟩
    obtain ⟨s, hs, ec⟩ := tu_at tu hc
    rw [ead s (List.mem_of_getElem? hs)] at ec
    refine ⟨c, _, rfl, SqT.of (sm _ _ ec), rfl, ?_⟩
    refine ⟨_, _, rfl, ?_⟩
    refine ⟨_, _, rfl, ?_⟩
    refine ⟨rfl, ?_⟩
    refine ⟨rfl, ?_⟩
    refine ⟨_, rfl, ?_⟩
    refine ⟨_, hB, szt (by rw [List.length_map, List.length_take]; omega), ?_, fun b o q => updn (nonn nB q) (sm b o q)⟩
    rw [upd_same, List.take_add_one, hs, List.map_append]
    rfl
  · rintro H1 ⟨hB, sm⟩
    rw [List.length_map, la, List.take_length] at hB
    have eV : (us.map fun s => sx (adrOf n ks s)) = (us.map fun s => SX.S (adrOf n ks s)).map V.str := by rw [List.map_map]; rfl
    rw [eV] at hB
    refine ⟨B, us.map fun s => SX.S (adrOf n ks s), .non, rfl, rfl, SqL.of hB, fun e => ?_, fun y hy hmin => ?_⟩
    · exact k0 (by simpa using e) H1 sm
    · obtain ⟨s, hs, rfl⟩ := List.mem_map.mp hy
      refine k1 (adrOf n ks s) ⟨s, hs, ?_⟩ (fun s2 hs2 z ez => ?_) H1 sm
      · obtain ⟨z, ez⟩ := ha s hs
        unfold adrOf
        rw [ez]
        rfl
      · have := hmin _ (List.mem_map_of_mem hs2)
        unfold adrOf at this ⊢
        rw [ez] at this
        exact this
end
open PySem PySem.Spec PyProof.Rows
open L2 hiding pass0
abbrev s_numbers : Stmt := top 51
theorem sc_numbers : FnScope ["table", "free", "told", "many", "address", "goal"] ["table", "free"] (defScope s_numbers) := ⟨rfl, rfl, rfl, by decide +kernel, rfl, by decide +kernel, by decide +kernel⟩
theorem bp_numbers : BndP "numbers" s_numbers ["table", "free"] := fun _ _ _ _ _ _ us h => match us, h with | [_, _], _ => rfl
/-- how many addresses outside of the free stretches lead to g -/
def cn (n : Nat) (m : List (Str × Str)) (fs : List (List Nat)) (g : List Nat) : Nat := (M.addrs n).countP fun z => !M.frB fs z && decide (gS m z = g)
def CntAt (H : Hp) (D : Addr) (n : Nat) (m : List (Str × Str)) (fs : List (List Nat)) : Prop := ∃ gs : List (List Nat), gs.Pairwise (· < ·) ∧ (∀ g, g ∈ gs ↔ cn n m fs g ≠ 0) ∧ H D = some (.dK (fd gs fun g => .int ((cn n m fs g : Nat) : Int)))
/-- sorted texts, each once -/
theorem tsort_ord {gs : List (List Nat)} (nd : gs.Nodup) : ((tsort (gs.map SX.S)).map fun z => z.cps.toList).Pairwise (· < ·) ∧ ∀ g, g ∈ ((tsort (gs.map SX.S)).map fun z => z.cps.toList) ↔ g ∈ gs := by
  have hp := tsort_perm (gs.map SX.S)
  constructor
  · rw [List.pairwise_map]
    have h1 := tsort_ts (gs.map SX.S)
    have h2 : (tsort (gs.map SX.S)).Pairwise (· ≠ ·) := hp.nodup_iff.mpr (by
      have : ∀ l : List (List Nat), l.Nodup → (l.map SX.S).Nodup := fun l h => by
        unfold List.Nodup at h ⊢
        rw [List.pairwise_map]
        exact h.imp fun {a b} ne e => ne (S_inj e)
      exact this gs nd)
    refine (h1.and h2).imp fun {a b} h => ?_
    by_cases c : tLt a b = true
    · exact of_decide_eq_true c
    · exact absurd (tLt_tot (by simpa using c) h.1) h.2
  · intro g
    rw [List.mem_map]
    constructor
    · rintro ⟨z, hz, rfl⟩
      obtain ⟨t, ht, rfl⟩ := List.mem_map.mp (hp.mem_iff.mp hz)
      rw [tl_S]
      exact ht
    · intro h
      exact ⟨SX.S g, hp.mem_iff.mpr (List.mem_map_of_mem h), tl_S g⟩
/-- of the first i cells -/
def wg (n : Nat) (ks : List (List Nat)) (m : List (Str × Str)) (us : List (List Nat)) (g : List Nat) : Nat := ((us.filter fun s => decide (gS m s = g)).map (M.many n ks)).sum
theorem wg_more {n : Nat} {ks : List (List Nat)} {m : List (Str × Str)} {us : List (List Nat)} {s : List Nat} (g : List Nat) : wg n ks m (us ++ [s]) g = wg n ks m us g + if gS m s = g then M.many n ks s else 0 := by
  unfold wg
  rw [List.filter_append, List.map_append, List.sum_append]
  congr 1
  by_cases q : gS m s = g
  · rw [if_pos q, List.filter_cons_of_pos (by simpa using q)]
    simp
  · rw [if_neg q, List.filter_cons_of_neg (by simpa using q)]
    simp
theorem wg_zero {n : Nat} {ks : List (List Nat)} {m : List (Str × Str)} {us : List (List Nat)} {g : List Nat} (h : ∀ s ∈ us, gS m s ≠ g) : wg n ks m us g = 0 := by
  unfold wg
  rw [List.filter_eq_nil_iff.mpr fun s hs => by simpa using h s hs]
  rfl
theorem wg_ne {n : Nat} {ks : List (List Nat)} {m : List (Str × Str)} {s : List Nat} (hm : M.many n ks s ≠ 0) : ∀ {us : List (List Nat)}, s ∈ us → wg n ks m us (gS m s) ≠ 0
  | u :: us, h => by
    have e : wg n ks m (u :: us) (gS m s) = (if gS m u = gS m s then M.many n ks u else 0) + wg n ks m us (gS m s) := by
      unfold wg
      by_cases q : gS m u = gS m s
      · rw [if_pos q, List.filter_cons_of_pos (by simpa using q), List.map_cons, List.sum_cons]
      · rw [if_neg q, List.filter_cons_of_neg (by simpa using q), Nat.zero_add]
    rw [e]
    rcases List.mem_cons.mp h with rfl | h
    · rw [if_pos rfl]
      omega
    · have := wg_ne (m := m) hm h
      omega
theorem wg_all {n : Nat} {m : List (Str × Str)} {ks fs : List (List Nat)} (kn : M.Known n ks) (s1 : ∀ t ∈ ksOf (kz m), t ∈ ks) (s3 : ∀ t ∈ fs, t ∈ ks) (g : List Nat) : wg n ks m (uc n ks fs) g = cn n m fs g := by
  have e : (uc n ks fs).filter (fun s => decide (gS m s = g)) = ks.filter fun s => decide (0 < M.many n ks s) && (!M.frB fs s && decide (gS m s = g)) := by
    unfold uc
    rw [List.filter_filter]
    refine List.filter_congr fun s _ => ?_
    cases decide (gS m s = g) <;> cases M.frB fs s <;> simp
  unfold wg cn
  rw [e, sum_pos, M.cnt_by kn]
  exact List.countP_congr fun z _ => by rw [← M.fr_lg kn.all s3 z, ← gS_lg s1 kn.all z]
@[irreducible] def spNb (K : PySem.W.Frag) (C : Addr) : Sp := fun vs H Q _ => ∃ (n : Nat) (a F : Addr) (m : List (Str × Str)) (fs : List (List Nat)), vs = [.ref a, .ref F] ∧ TabAt C H a n m ∧ TabOk n m ∧ FrA K H F fs ∧ Fits n fs ∧ fs.Nodup ∧ fs.length ≤ 20 ∧
  ∀ D H', Same H H' → H D = none → CntAt H' D n m fs → Q (.ref D) H'
theorem nb_go {K : PySem.W.Frag} {C : Addr} {n : Nat} {a F : Addr} {m : List (Str × Str)} {fs : List (List Nat)} {H : Hp} {Q : VK} {E : XK} (ht : TabAt C H a n m) (ok : TabOk n m) (hF : FrA K H F fs) (ff : Fits n fs) (nd : fs.Nodup) (lf : fs.length ≤ 20)
    (k : ∀ D H', Same H H' → H D = none → CntAt H' D n m fs → Q (.ref D) H') : spNb K C [.ref a, .ref F] H Q E := by
  unfold spNb
  exact ⟨n, a, F, m, fs, rfl, ht, ok, hF, ff, nd, lf, k⟩
section
variable {P : Program} {w : World} {K : PySem.W.Frag} {mg : Str → Option Value} {base : Heap} {f C : Addr} {fd' : FuncData}
theorem ok_numbers {params : Arguments} {dvs : List V} {kws : List (Str × V)} (F : FunD K "numbers" "numbers" params (defBody s_numbers) (defScope s_numbers) dvs kws f fd') (T : Txt K mg) (TC : TabC K C) (c_check_free : Nm P w K mg base CX0 5 "check_free" s_check_free ["width", "free"] (spCF K)) (c_used_cells : Nm P w K mg base CX0 9 "_used_cells" s_used_cells ["width", "stretches", "free"] (spUC K))
    (c_Table_width : Prp P w K mg base CX0 1 C "width" "Table.width" s_Table_width ["self"] (spWidth C)) (c_Table_rows : Mth P w K mg base CX0 1 C "rows" "Table.rows" s_Table_rows ["self"] (spTRows C))
    (c_Table__call__ : Mth P w K mg base CX0 8 C "__call__" "Table.__call__" s_Table__call__ ["self", "address"] (spCall C)) : FnG P w K mg base CX0 10 f fd' ["table", "free"] (spNb K C) := by
  obtain ⟨oc, od, dV, kV, doc, pm, an, cdv, ct, osl, rfl, lk, hcd, _, _⟩ := F.ex
  refine fnG_core0 lk hcd sc_numbers (fun vs H Q E h => ?_) fun A outer s H vs Q E hr h => ?_
  · unfold spNb at h
    obtain ⟨n, a, F, m, fs, rfl, _⟩ := h
    rfl
  unfold spNb at h
  obtain ⟨n, a, F, m, fs, rfl, ht, ok, hF, ff, nd, lf, k⟩ := h
  refine ⟨_, (pss_cons (ps_expr (pe_g c_check_free hr (by decide) L2.pass0 bp_check_free (by rfl) (pa_cons (pe_p c_Table_width TC.cl hr (by decide) L2.pass0 bm_Table_width (pv 0)) (pa_cons (pv 1) pa_nil))))
      (pss_cons (ps_set (i := 2) sc_numbers.nd rfl (by first | exact Or.inl rfl | exact Or.inr rfl) pe_dnewK)
      (C8.pss_cut (ps_for PassesOwn.never rfl (pi_listK (K := K) rfl (pe_g c_used_cells hr (by decide) L2.pass0 bp_used_cells (by rfl) (pa_cons (pe_p c_Table_width TC.cl hr (by decide) L2.pass0 bm_Table_width (pv 0)) (pa_cons (pe_callTy (call_listD rfl) (by rfl) T.b_list (by decide +kernel) (pa_cons (pe_m0 c_Table_rows TC.cl hr (by decide) L2.pass0 bm_Table_rows (pv 0)) pa_nil)) (pa_cons (pv 1) pa_nil))))) (pg_tup (by rfl) (pgs_cons (pg_name (i := 3) sc_numbers.nd rfl (by first | exact Or.inl rfl | exact Or.inr rfl)) (pgs_cons (pg_name (i := 4) sc_numbers.nd rfl (by first | exact Or.inl rfl | exact Or.inr rfl)) pgs_nil))) (pss_cons (ps_set (i := 5) sc_numbers.nd rfl (by first | exact Or.inl rfl | exact Or.inr rfl) (pe_o c_Table__call__ hr (by decide) L2.pass0 bm_Table__call__ (pv 0) (pa_cons (pv 4) pa_nil)))
      (pss_one (ps_asg (pe_op op_add (pe_dget2 hr.u1 (pv 2) (pv 5) pe_int ⟨by rfl, by rfl, by rfl, by rfl⟩) (pv 3)) (pg_sub (pv 2) (pv 5) (set_dict hr.u1))))))
      (pss_one (ps_ret (pe_dc (own := [("goal", 5)]) (g := (gName 5)) (by rfl) sc_numbers.nd (pi_listK (K := K) rfl (pe_callBK (cr_sortKD hr.u rfl) (by rfl) T.b_sorted (by decide +kernel) (pa_cons (pv 2) pa_nil) (pk_cons (pe_ty "str" (by rfl) T.b_str (by decide +kernel)) pk_nil))) (blkOk_by (own := [("goal", 5)]) (N := ["table", "free", "told", "many", "address", "goal"]) (sc := defScope s_numbers) (by decide +kernel)) (fun _ _ _ _ _ => (pg_name (i := 5) sc_numbers.nd rfl (by first | exact Or.inl rfl | exact Or.inr rfl))) (fun _ _ _ _ _ => pts_nil) (fun _ _ _ _ _ => (pv 5)) (fun _ _ _ _ _ => (pe_dget hr.u1 (pv 2) (pv 5) (fun _ _ => rfl))))))))), ?_⟩
  have w0 := ok.w0
  have w1 := ok.w1
  have h0 : 1 ≤ n := by omega
  have h1 : n ≤ 100 := by omega
  obtain ⟨dx, Dm, ha, hDm, hne⟩ := ht
  have tt : TabAt C H a n m := ⟨dx, Dm, ha, hDm, hne⟩
  refine ⟨_, rfl, ⟨a, dx, _, rfl, ha, width_go tt ?_⟩⟩
  refine ⟨_, rfl, ?_⟩
  refine cf_go h0 h1 hF ff nd lf fun H1 s1 => ?_
  intro D nD
  have s2 := s1.new (o := HO.dK []) nD
  have nD0 := s1.back nD
  have eD : upd H1 D (.dK []) D = some (.dK []) := upd_same
  generalize upd H1 D (.dK []) = H2 at s2 eD ⊢
  have fit : Fits n (kz m ++ fs) := fun t ht => (List.mem_append.mp ht).elim (kz_fits ok.rows t) (ff t)
  have kn := ks_known fit
  have kl := ks_len (kz m ++ fs)
  have lm := ok.few
  rw [List.length_append, kz_len] at kl
  have sub1 : ∀ t ∈ ksOf (kz m), t ∈ ksOf (kz m ++ fs) := fun t ht => ks_mem.mpr ((ks_mem.mp ht).imp id fun h => List.mem_append_left _ h)
  have sub3 : ∀ t ∈ fs, t ∈ ksOf (kz m ++ fs) := fun t ht => ks_mem.mpr (.inr (List.mem_append_right _ ht))
  have eall : ∀ g, wg n (ksOf (kz m ++ fs)) m (uc n (ksOf (kz m ++ fs)) fs) g = cn n m fs g := fun g => wg_all kn sub1 sub3 g
  refine ⟨fun σ' H' => ∃ x3 x4 x5 gs, σ' = [some (.ref a), some (.ref F), some (.ref D), x3, x4, x5] ∧ Same H H' ∧ gs.Nodup ∧ gs.length ≤ 100 ∧ (∀ g, g ∈ gs ↔ cn n m fs g ≠ 0) ∧ H' D = some (.dK (fd gs fun g => .int ((cn n m fs g : Nat) : Int))), ?_, ?_⟩
  · refine ⟨_, rfl, ⟨a, dx, _, rfl, s2 _ _ ha, width_go (tt.to s2) ?_⟩⟩
    refine ⟨_, rfl, ⟨⟨a, dx, _, rfl, s2 _ _ ha, rfl⟩, ?_⟩⟩
    refine trows_go (tt.to s2) fun p np => ?_
    have s3 := s2.new (o := HO.dK (tk m)) np
    have eD3 := updn (o := HO.dK (tk m)) (nonn np eD) eD
    refine ⟨p, tk m, rfl, .inl upd_same, fun W nW => ?_⟩
    rw [tk_kV, ← kz_V]
    have s4 := s3.new (o := HO.lst ((kz m).map sx)) nW
    have eD4 := updn (o := HO.lst ((kz m).map sx)) (nonn nW eD3) eD3
    have eW : upd (upd H2 p (.dK (tk m))) W (.lst ((kz m).map sx)) W = some (.lst ((kz m).map sx)) := upd_same
    generalize upd (upd H2 p (.dK (tk m))) W (.lst ((kz m).map sx)) = H4 at s4 eW eD4 ⊢
    refine ⟨_, rfl, ?_⟩
    refine uc_go h0 h1 eW (hF.same s4) (kz_fits ok.rows) ff (by rw [kz_len]; omega) (by omega) fun R H5 s5 nR hU => ?_
    have s45 := s4.trans s5
    have eD5 := s5 _ _ eD4
    generalize ksOf (kz m ++ fs) = ks at kn kl sub1 sub3 eall hU
    have eus : ∀ s ∈ uc n ks fs, s ∈ ks ∧ M.many n ks s ≠ 0 := fun s hs => by
      have h := List.mem_filter.mp hs
      have h3 := of_decide_eq_true ((Bool.and_eq_true _ _).mp h.2).1
      exact ⟨h.1, by omega⟩
    have lu : (uc n ks fs).length ≤ 90 := Nat.le_trans (List.length_filter_le _ _) (by omega)
    generalize uc n ks fs = us at hU eus lu eall
    obtain ⟨as, eR, tu⟩ := hU
    have la := tu.len
    have nRD : R ≠ D := fun q => by rw [q, eD4] at nR; cases nR
    refine ⟨R, rfl, ⟨_, SqL.of eR⟩, ?_⟩
    have base0 : Same H5 H5 := Same.refl _
    refine for_it (walk_list (xs := as.map V.ref)) (fun i σ' H' => ∃ x3 x4 x5 gs, σ' = [some (.ref a), some (.ref F), some (.ref D), x3, x4, x5] ∧ (∀ b o, b ≠ D → H5 b = some o → H' b = some o) ∧ gs.Nodup ∧ gs.length ≤ i ∧ (∀ g, g ∈ gs ↔ ∃ s ∈ us.take i, gS m s = g) ∧ H' D = some (.dK (fd gs fun g => .int ((wg n ks m (us.take i) g : Nat) : Int)))) ⟨_, _, _, [], rfl, (fun b o _ e => e), .nil, Nat.le_refl _, (fun g => by simp), eD5⟩ (fun i σ' H' _ h => by
      obtain ⟨_, _, _, _, _, k5, _⟩ := h
      exact SqL.of (k5 _ _ nRD eR)) ?_ ?_
    · rintro i x σ' H6 H6' hi ⟨x3, x4, x5, gs, rfl, k6, ndg, lg, mg', eD6⟩ ⟨rfl, hx⟩
      obtain ⟨c, hc, rfl⟩ : ∃ c, as[i]? = some c ∧ x = .ref c := by
        rw [List.getElem?_map] at hx
        cases e : as[i]? with
        | none => rw [e] at hx; cases hx
        | some t => rw [e] at hx; exact ⟨t, rfl, (Option.some.inj hx).symm⟩
      obtain ⟨s, hs, ec⟩ := tu_at tu hc
      obtain ⟨hsk, hsm⟩ := eus s (List.mem_of_getElem? hs)
      obtain ⟨z, ez, hz, hlg, _⟩ := M.cell_first h0 kn hsk hsm
      obtain ⟨zb, zl⟩ := M.addr_ok hz
      rw [ez] at ec
      have li : i < us.length := (List.getElem?_eq_some_iff.mp hs).1
      have ncD : c ≠ D := fun q => by rw [q, eD5] at ec; cases ec
      have naD : a ≠ D := nonn nD0 ha
      have nmD : Dm ≠ D := nonn nD0 hDm
      have g1 : gS m z = gS m s := by rw [gS_lg sub1 kn.all z, hlg]
      have lz : (SX.S z).length = n := by rw [sx_len, zl]
      refine ⟨c, _, rfl, SqT.of (k6 _ _ ncD ec), rfl, ?_⟩
      refine ⟨_, _, rfl, ?_⟩
      refine ⟨_, _, rfl, ?_⟩
      refine ⟨rfl, ?_⟩
      have t6 : TabAt C H6' a n m := ⟨dx, Dm, k6 _ _ naD (s45 _ _ ha), k6 _ _ nmD (s45 _ _ hDm), hne⟩
      refine ⟨_, rfl, ⟨a, rfl, ⟨_, rfl, ⟨⟨dx, _, k6 _ _ naD (s45 _ _ ha)⟩, ?_⟩⟩⟩⟩
      refine call_go (z := SX.S z) t6 h0 h1 (sx_bits zb) lz fun H7 s7 => ?_
      rw [gS_V, g1]
      have eD7 := s7 _ _ eD6
      have eg : valV (fd gs fun g => V.int ((wg n ks m (us.take i) g : Nat) : Int)) (skey (gS m s)) = if gS m s ∈ gs then some (V.int ((wg n ks m (us.take i) (gS m s) : Nat) : Int)) else none := fd_val
      refine ⟨_, rfl, ⟨D, rfl, .inl ⟨_, .inl eD7⟩, ⟨_, rfl, ⟨_, .inl ⟨_, skey (gS m s), .inl eD7, rfl, rfl⟩, ?_⟩⟩⟩⟩
      have ev : ((valV (fd gs fun g => V.int ((wg n ks m (us.take i) g : Nat) : Int)) (skey (gS m s))).getD (V.int 0)) = V.int ((wg n ks m (us.take i) (gS m s) : Nat) : Int) := by
        rw [eg]
        by_cases q : gS m s ∈ gs
        · rw [if_pos q]; rfl
        · rw [if_neg q, wg_zero fun s' hs' e => q ((mg' _).mpr ⟨s', hs', e⟩)]; rfl
      rw [ev]
      have et : us.take (i + 1) = us.take i ++ [s] := by rw [List.take_add_one, hs]; rfl
      refine ⟨_, rfl, ⟨_, _, rfl, rfl, ?_⟩⟩
      refine ⟨_, rfl, ⟨_, rfl, ?_⟩⟩
      refine ⟨D, _, rfl, .inl ⟨_, skey (gS m s), eD7, rfl, szt (by rw [fd_len]; omega), rfl⟩, ?_⟩
      refine ⟨_, _, _, if gS m s ∈ gs then gs else gs ++ [gS m s], rfl, fun b o nb e => updn nb (s7 _ _ (k6 b o nb e)), ?_, ?_, fun g => ?_, ?_⟩
      · by_cases q : gS m s ∈ gs
        · rw [if_pos q]; exact ndg
        · rw [if_neg q]
          exact List.nodup_append.mpr ⟨ndg, by simp, fun a ha b hb => by rw [List.mem_singleton] at hb; subst hb; exact fun e => q (e ▸ ha)⟩
      · by_cases q : gS m s ∈ gs
        · rw [if_pos q]; omega
        · rw [if_neg q, List.length_append]; show gs.length + 1 ≤ _; omega
      · rw [et]
        have e1 : (∃ s', s' ∈ us.take i ++ [s] ∧ gS m s' = g) ↔ (g ∈ gs ∨ gS m s = g) := by
          rw [mg']
          constructor
          · rintro ⟨s', h, e⟩
            rcases List.mem_append.mp h with h | h
            · exact .inl ⟨s', h, e⟩
            · rw [List.mem_singleton] at h
              exact .inr (h ▸ e)
          · rintro (⟨s', h, e⟩ | e)
            · exact ⟨s', List.mem_append_left _ h, e⟩
            · exact ⟨s, List.mem_append_right _ List.mem_cons_self, e⟩
        rw [e1]
        by_cases q : gS m s ∈ gs
        · rw [if_pos q]
          exact ⟨.inl, fun h => h.elim id fun e => e ▸ q⟩
        · rw [if_neg q, List.mem_append, List.mem_singleton]
          exact ⟨fun h => h.imp id Eq.symm, fun h => h.imp id Eq.symm⟩
      · rw [upd_same, fd_put, et]
        refine congrArg (fun z => some (HO.dK z)) (fd_congr fun g _ => ?_)
        rw [wg_more]
        by_cases q : g = gS m s
        · rw [q, fup_at, if_pos rfl]
          exact congrArg V.int (by omega)
        · rw [fup_ne q, if_neg fun e => q e.symm, Nat.add_zero]
    · rintro σ' H6 ⟨x3, x4, x5, gs, rfl, k6, ndg, lg, mg', eD6⟩
      rw [List.length_map, la, List.take_length] at eD6 mg'
      rw [List.length_map, la] at lg
      refine ⟨x3, x4, x5, gs, rfl, fun b o e => k6 b o (nonn nD0 e) (s45 _ _ e), ndg, by omega, fun g => ?_, ?_⟩
      · rw [mg', ← eall]
        constructor
        · rintro ⟨s, hs, rfl⟩
          exact wg_ne (eus s hs).2 hs
        · intro q
          refine Decidable.byContradiction fun c => q (wg_zero fun s hs e => c ⟨s, hs, e⟩)
      · rw [eD6]
        exact congrArg (fun z => some (HO.dK z)) (fd_congr fun g _ => by rw [eall])
  · rintro σ' H3 ⟨x3, x4, x5, gs, rfl, s3, ndg, lg, mg', eD3⟩
    have nDL : ∀ L, H3 L = none → D ≠ L := fun L nL => nonn nL eD3
    refine ⟨_, rfl, ?_⟩
    refine ⟨D, _, gs.map SX.S, rfl, rfl, .inl eD3, fd_keys _ _, fun L nL => ?_⟩
    have to := tsort_ord ndg
    have tl : (tsort (gs.map SX.S)).length ≤ 100 := by rw [(tsort_perm _).length_eq, List.length_map]; exact lg
    have eD4 : upd H3 L (.lst ((tsort (gs.map SX.S)).map V.str)) D = _ := updn (nDL L nL) eD3
    have s4 := s3.new (o := HO.lst ((tsort (gs.map SX.S)).map V.str)) nL
    have eL : upd H3 L (.lst ((tsort (gs.map SX.S)).map V.str)) L = some (.lst ((tsort (gs.map SX.S)).map V.str)) := upd_same
    generalize upd H3 L (.lst ((tsort (gs.map SX.S)).map V.str)) = H4 at eD4 s4 eL
    generalize tsort (gs.map SX.S) = ts at to tl eL
    refine ⟨L, rfl, ⟨_, SqL.of eL⟩, fun D2 nD2 => ?_⟩
    have nD20 := s4.back nD2
    refine dc_it (walk_list (xs := ts.map V.str)) (fun i H' => H' D2 = some (.dK (fd ((ts.take i).map fun z => z.cps.toList) fun g => .int ((cn n m fs g : Nat) : Int))) ∧ Same H4 H') ⟨upd_same, fun b o e => updn (nonn nD2 e) e⟩ (fun i H' _ h => SqL.of (h.2 _ _ eL)) ?_ ?_
    · rintro i x H5 H6 hi ⟨hD, sm⟩ ⟨rfl, hx⟩
      obtain ⟨key, hkey, rfl⟩ : ∃ key, ts[i]? = some key ∧ x = .str key := by
        rw [List.getElem?_map] at hx
        cases e : ts[i]? with
        | none => rw [e] at hx; cases hx
        | some z => rw [e] at hx; exact ⟨z, rfl, (Option.some.inj hx).symm⟩
      have hg : key.cps.toList ∈ gs := (to.2 _).mp (List.mem_map_of_mem (List.mem_of_getElem? hkey))
      have hv : valV (fd gs fun g => V.int ((cn n m fs g : Nat) : Int)) (skey key.cps.toList) = some (.int ((cn n m fs key.cps.toList : Nat) : Int)) := by rw [fd_val, if_pos hg]
      have ek : (Sum.inr key : Key) = skey key.cps.toList := by unfold skey; rw [SX.S_tl]
      rw [← ek] at hv
      refine ⟨rfl, ?_⟩
      dsimp only [tYes]
      rw [if_pos rfl]
      refine ⟨_, rfl, ?_⟩
      refine ⟨_, rfl, ⟨_, rfl, ⟨D, _, rfl, .inl ⟨_, Sum.inr key, .inl (sm _ _ eD4), rfl, hv.symm⟩, ?_⟩⟩⟩
      refine ⟨_, Sum.inr key, rfl, hD, szt (by rw [fd_len, List.length_map, List.length_take]; omega), ?_, fun b o q => updn (nonn nD2 q) (sm b o q)⟩
      have hnew : key.cps.toList ∉ (ts.take i).map fun z => z.cps.toList := by
        have hn : (ts.map fun z => z.cps.toList).Nodup := nd_of_ord to.1
        have := take_new hn (i := i) (t := key.cps.toList) (by rw [List.getElem?_map, hkey]; rfl)
        rwa [← List.map_take] at this
      rw [upd_same, ek, fd_put, if_neg hnew, List.take_add_one, hkey, List.map_append]
      refine congrArg (fun z => some (HO.dK z)) (fd_congr fun g _ => ?_)
      by_cases q : g = key.cps.toList
      · rw [q, fup_at]
      · rw [fup_ne q]
    · rintro H5 ⟨hD, sm⟩
      rw [List.length_map, List.take_length] at hD
      exact k D2 H5 (s4.trans sm) nD20 ⟨_, to.1, fun g => by rw [to.2 g, mg'], hD⟩
end
open PySem PySem.Spec PyProof.Rows
open L2 hiding pass0
abbrev s_law_goals : Stmt := top 60
theorem sc_law_goals : FnScope ["_law_pot_here", "_law_letters", "_law_label", "_law_turn"] ["_law_pot_here"] (defScope s_law_goals) := ⟨rfl, rfl, rfl, by decide +kernel, rfl, by decide +kernel, by decide +kernel⟩
theorem bp_law_goals : BndP "_law_goals" s_law_goals ["_law_pot_here"] := fun _ _ _ _ _ _ us h => match us, h with | [_], _ => rfl
theorem TabOk.put {n : Int} {m : List (Str × Str)} {k g : Str} (h : TabOk n m) (hr : RowOk n (k, g)) (l : m.length + 1 ≤ 40) : TabOk n (putT m k g) :=
  ⟨h.w0, h.w1, put_ok h.rows hr, put_nodup h.nd, Nat.le_trans (put_len m k g) l⟩
def GoalOk (g : Str) : Prop := goalB g = true ∧ (∀ c ∈ g.cps.toList, c < 128) ∧ g.length ≤ 200
theorem inV_strs (y : Str) (ps : List Str) : inV (.str y) (ps.map V.str) = decide (y ∈ ps) := by
  unfold inV
  rw [List.any_map]
  induction ps with
  | nil => rfl
  | cons a r ih =>
    rw [List.any_cons, ih]
    have e : ((fun z => eqV z (V.str y)) ∘ V.str) a = decide (a = y) := rfl
    rw [e]
    by_cases q : a = y
    · simp [q]
    · have : ¬ y = a := fun h => q h.symm
      simp [q, this]
def abc : List Nat := ("abcdefghijklmnopqrstuvwxyz" : Str).cps.toList
theorem label_ok {zs : List Nat} (h : ∀ c ∈ zs, c ∈ abc) (l0 : 1 ≤ zs.length) (l1 : zs.length ≤ 6) (hn : SX.S zs ∉ [("ring" : Str), "all", "none"]) : GoalOk (SX.S zs) := by
  have hl : (SX.S zs).length = zs.length := SX.S_len zs
  refine ⟨?_, fun c hc => ?_, by omega⟩
  · unfold goalB
    cases hh : inV (.str (SX.S zs)) [.str "home", .str "hole"] with
    | true => rw [Bool.or_true]
    | false =>
      have hh2 : inV (.str (SX.S zs)) ([("home" : Str), "hole"].map V.str) = false := hh
      rw [inV_strs] at hh2
      have n1 := of_decide_eq_false hh2
      rw [Bool.or_false]
      unfold nameB
      rw [hl, decide_eq_true (by omega), decide_eq_true (by omega)]
      have n2 : inV (.str (SX.S zs)) [.str "home", .str "hole", .str "ring", .str "all", .str "none"] = false := by
        show inV (.str (SX.S zs)) ([("home" : Str), "hole", "ring", "all", "none"].map V.str) = false
        rw [inV_strs]
        refine decide_eq_false fun q => ?_
        simp only [List.mem_cons, List.not_mem_nil, or_false] at q n1 hn
        rcases q with q | q | q
        · exact n1 (.inl q)
        · exact n1 (.inr q)
        · exact hn q
      rw [n2]
      refine Bool.and_eq_true_iff.mpr ⟨rfl, ?_⟩
      rw [List.all_eq_true]
      intro c hc
      rw [tl_S] at hc
      exact decide_eq_true (h c hc)
  · rw [tl_S] at hc
    have hall : ∀ c ∈ abc, c < 128 := by decide +kernel
    exact hall c (h c hc)
@[irreducible] def spGoals : Sp := fun vs H Q _ => ∃ p, vs = [.ref p] ∧ PotAt H p ∧ ∀ (L : Addr) (gs : List Str) H', H L = none → Go p H H' → H' L = some (.lst (gs.map V.str)) → 0 < gs.length → gs.length ≤ 5 → (∀ g ∈ gs, GoalOk g) → Q (.ref L) H'
theorem goals_go {p : Addr} {H : Hp} {Q : VK} {E : XK} (h : PotAt H p) (k : ∀ (L : Addr) (gs : List Str) H', H L = none → Go p H H' → H' L = some (.lst (gs.map V.str)) → 0 < gs.length → gs.length ≤ 5 → (∀ g ∈ gs, GoalOk g) → Q (.ref L) H') : spGoals [.ref p] H Q E := by
  unfold spGoals
  exact ⟨p, rfl, h, k⟩
section
variable {P : Program} {w : World} {K : PySem.W.Frag} {mg : Str → Option Value} {base : Heap} {f C : Addr} {fd' : FuncData}
theorem ok_goals (F : Fun K "_law_goals" "_law_goals" s_law_goals f fd') (hm : mg "_law_goals" = some (.ref f)) (T : Txt K mg) (c_law_draw : Nm P w K mg base CX0 1 "_law_draw" s_law_draw ["_law_pot_here", "_law_many"] (spDraw)) (c_law_pick : Nm P w K mg base CX0 2 "_law_pick" s_law_pick ["_law_pot_here", "_law_some_here"] (spAmong K)) : Nm P w K mg base CX0 3 "_law_goals" s_law_goals ["_law_pot_here"] (spGoals) := by
  refine nm_of F hm sc_law_goals (fun vs H Q E h => ?_) fun cdv A outer s H vs Q E hr h => ?_
  · unfold spGoals at h
    obtain ⟨p, rfl, hp, k⟩ := h
    subst_vars
    rfl
  unfold spGoals at h
  obtain ⟨p, rfl, hp, k⟩ := h
  refine ⟨_, (pss_cons (ps_set (i := 1) sc_law_goals.nd rfl (by first | exact Or.inl rfl | exact Or.inr rfl) pe_str)
      (pss_cons (ps_set (i := 2) sc_law_goals.nd rfl (by first | exact Or.inl rfl | exact Or.inr rfl) (pe_join pe_str (pe_lc (own := [("_law_turn", 3)]) (g := (gName 3)) (by rfl) sc_law_goals.nd (pi_range1 (by rfl) T.b_range (pa_cons (pe_op op_add pe_int (pe_g c_law_draw hr (by decide) L2.pass0 bp_law_draw (by rfl) (pa_cons (pv 0) (pa_cons pe_int pa_nil)))) pa_nil)) (blkOk_by (own := [("_law_turn", 3)]) (N := ["_law_pot_here", "_law_letters", "_law_label", "_law_turn"]) (sc := defScope s_law_goals) (by decide +kernel)) (fun _ _ _ _ _ => (pg_name (i := 3) sc_law_goals.nd rfl (by first | exact Or.inl rfl | exact Or.inr rfl))) (fun _ _ _ _ _ => pts_nil) (fun _ _ _ _ _ => (pe_g c_law_pick hr (by decide) L2.pass0 bp_law_pick (by rfl) (pa_cons (pv 0) (pa_cons (pv 1) pa_nil)))))))
      (pss_one (ps_ret (pe_op op_cat (pe_lst (pa_cons pe_str (pa_cons pe_str (pa_cons pe_str (pa_cons pe_str pa_nil))))) (pe_lc (own := [("_law_turn", 3)]) (g := (gName 3)) (by rfl) sc_law_goals.nd (pi_range1 (by rfl) T.b_range (pa_cons pe_int pa_nil)) (blkOk_by (own := [("_law_turn", 3)]) (N := ["_law_pot_here", "_law_letters", "_law_label", "_law_turn"]) (sc := defScope s_law_goals) (by decide +kernel)) (fun _ _ _ _ _ => (pg_name (i := 3) sc_law_goals.nd rfl (by first | exact Or.inl rfl | exact Or.inr rfl))) (fun _ _ _ _ _ => (pts_one (pt_cmpR (op_notInK (K := K) rfl) (pv 2) (pe_tup (pa_cons pe_str (pa_cons pe_str (pa_cons pe_str pa_nil)))) rfl))) (fun _ _ _ _ _ => (pv 2)))))))), ?_⟩
  refine ⟨⟨_, rfl⟩, ?_⟩
  refine ⟨_, rfl, ?_⟩
  refine draw_go hp (by decide) (by decide) fun d H1 d0 d1 g1 => ?_
  obtain ⟨j, rfl⟩ := Int.eq_ofNat_of_zero_le d0
  refine ⟨_, _, rfl, rfl, ?_⟩
  refine ⟨_, rfl, by omega, by omega, fun D nD => ?_⟩
  have nDp : D ≠ p := g1.pot.ne nD
  refine lc_it walk_range (fun i H' => ∃ zs : List Nat, H' D = some (.lst ((zs.map sg).map V.str)) ∧ zs.length = i ∧ (∀ c ∈ zs, c ∈ abc) ∧ Go p H1 H') ⟨[], upd_same, rfl, (fun c hc => by cases hc), (Go.refl g1.pot).new nD⟩ (fun _ _ _ _ => trivial) ?_ ?_
  · rintro i x H2 H3 hi ⟨zs, hD, hl, hz, g2⟩ ⟨rfl, rfl⟩
    have li : i ≤ 10 := by omega
    refine ⟨rfl, ?_⟩
    dsimp only [tYes]
    rw [if_pos rfl]
    refine ⟨_, rfl, ⟨_, rfl, ?_⟩⟩
    refine among_s g2.pot (by decide) (by decide) fun c hc H4 g3 => ?_
    refine ⟨_, g3.kp hD nDp, szt (by rw [List.length_map, List.length_map, hl]; omega), zs ++ [c], ?_, ?_, ?_, (g2.trans g3).mut nD nDp⟩
    · rw [upd_same, List.map_append, List.map_append]; rfl
    · rw [List.length_append, hl]; rfl
    · intro e he
      rcases List.mem_append.mp he with he | he
      · exact hz e he
      · rw [List.mem_singleton] at he
        subst he
        exact hc
  rintro H2 ⟨zs, hD, hl, hz, g2⟩
  have hl2 : zs.length = 1 + j := by omega
  refine ⟨_, _, zs.map sg, rfl, rfl, Or.inl (SqL.of hD), ?_, ?_⟩
  · rw [sum_sg, List.length_map]
    show zs.length + zs.length * 0 ≤ _
    omega
  rw [join_sg]
  have g12 := g1.trans g2
  refine ⟨szl (by show 4 ≤ 1000000; decide), fun L1 nL1 => ?_⟩
  have g3 := g12.new (o := HO.lst [.str "a", .str "b", .str "hole", .str "home"]) nL1
  have e3 : upd H2 L1 (.lst [.str "a", .str "b", .str "hole", .str "home"]) L1 = some (.lst [.str "a", .str "b", .str "hole", .str "home"]) := upd_same
  generalize upd H2 L1 (.lst [.str "a", .str "b", .str "hole", .str "home"]) = H3 at g3 e3 ⊢
  have hL1p : L1 ≠ p := g12.pot.ne nL1
  refine ⟨_, rfl, by omega, by omega, fun B nB => ?_⟩
  have nBp : B ≠ p := g3.pot.ne nB
  refine lc_it walk_range (fun i H' => ∃ gs : List Str, H' B = some (.lst (gs.map V.str)) ∧ gs.length ≤ i ∧ (∀ g ∈ gs, GoalOk g) ∧ Go p H3 H') ⟨[], upd_same, Nat.le_refl _, (fun c hc => by cases hc), (Go.refl g3.pot).new nB⟩ (fun _ _ _ _ => trivial) ?_ ?_
  · rintro i x H4 H5 hi ⟨gs, hB, hlg, hg, g4⟩ ⟨rfl, rfl⟩
    refine ⟨rfl, ?_⟩
    refine ⟨_, rfl, ⟨szl (by show 3 ≤ 1000000; decide), fun t nt => ?_⟩⟩
    have g5 := g4.new (o := HO.tup [.str "ring", .str "all", .str "none"]) nt
    have nBt : B ≠ t := nonn nt hB
    refine ⟨t, _, rfl, .inr (SqT.of upd_same), rfl, rfl, ?_⟩
    have ei : inV (.str (SX.S zs)) [.str "ring", .str "all", .str "none"] = decide (SX.S zs ∈ [("ring" : Str), "all", "none"]) := inV_strs (SX.S zs) [("ring" : Str), "all", "none"]
    rw [ei]
    by_cases q : SX.S zs ∈ [("ring" : Str), "all", "none"]
    · rw [decide_eq_true q]
      refine ⟨_, rfl, ?_⟩
      refine iteF ?_
      exact ⟨gs, updn nBt hB, by omega, hg, g5⟩
    · rw [decide_eq_false q]
      refine ⟨_, rfl, ?_⟩
      refine iteT ?_
      refine ⟨_, rfl, ?_⟩
      refine ⟨_, updn nBt hB, szt (by rw [List.length_map]; omega), gs ++ [SX.S zs], by rw [upd_same, List.map_append]; rfl, by rw [List.length_append]; show gs.length + 1 ≤ _; omega, fun g h => ?_, ?_⟩
      · rcases List.mem_append.mp h with h | h
        · exact hg g h
        · rw [List.mem_singleton] at h
          subst h
          exact label_ok hz (by omega) (by omega) q
      · exact (Go.refl g3.pot).trans (g5.mut nB nBp)
  rintro H4 ⟨gs, hB, hlg, hg, g4⟩
  have hlg1 : gs.length ≤ 1 := hlg
  have e4 := g4.kp e3 hL1p
  refine ⟨L1, B, _, _, rfl, rfl, e4, hB, szl (by rw [List.length_map]; show 4 + _ ≤ _; omega), fun L nL => ?_⟩
  have g34 := g3.trans g4
  refine k L ([("a" : Str), "b", "hole", "home"] ++ gs) _ (g34.fresh hp nL) (g34.new nL) (by rw [upd_same, List.map_append]; rfl) (by rw [List.length_append]; show 0 < 4 + _; omega) (by rw [List.length_append]; show 4 + _ ≤ 5; omega) fun g h => ?_
  rcases List.mem_append.mp h with h | h
  · simp only [List.mem_cons, List.not_mem_nil, or_false] at h
    rcases h with rfl | rfl | rfl | rfl
    · exact g_a
    · exact g_b
    · exact g_hole
    · exact g_home
  · exact hg g h
end
open PySem PySem.Spec PyProof.Rows
open L2 hiding pass0
abbrev s_used_number : Stmt := top 50
theorem sc_used_number : FnScope ["width", "free", "many", "_"] ["width", "free"] (defScope s_used_number) := ⟨rfl, rfl, rfl, by decide +kernel, rfl, by decide +kernel, by decide +kernel⟩
theorem bp_used_number : BndP "used_number" s_used_number ["width", "free"] := fun _ _ _ _ _ _ us h => match us, h with | [_, _], _ => rfl
abbrev s_is_used : Stmt := top 49
theorem sc_is_used : FnScope ["width", "free", "address"] ["width", "free", "address"] (defScope s_is_used) := ⟨rfl, rfl, rfl, by decide +kernel, rfl, by decide +kernel, by decide +kernel⟩
theorem bp_is_used : BndP "is_used" s_is_used ["width", "free", "address"] := fun _ _ _ _ _ _ us h => match us, h with | [_, _, _], _ => rfl
/-! ### cells for which something holds -/
section
variable {n : Nat} {ks : List (List Nat)} {q : List Nat → Bool}
def selW (n : Nat) (ks : List (List Nat)) (q : List Nat → Bool) : List (List Nat) := ks.filter fun s => decide (0 < M.many n ks s) && q s
theorem sel_sum (kn : M.Known n ks) (hq : ∀ z, q z = q (M.lg ks z)) : ((selW n ks q).map (M.many n ks)).sum = ((M.addrs n).filter q).length := by
  unfold selW
  rw [sum_pos, M.cnt_by kn, ← List.countP_eq_length_filter]
  exact List.countP_congr fun z _ => by rw [← hq z]
theorem sel_in {s : List Nat} (h : s ∈ selW n ks q) : s ∈ ks ∧ M.many n ks s ≠ 0 ∧ q s = true := by
  have h' := List.mem_filter.mp h
  have h2 := (Bool.and_eq_true _ _).mp h'.2
  have := of_decide_eq_true h2.1
  exact ⟨h'.1, by omega, h2.2⟩
theorem sel_nil (kn : M.Known n ks) (hq : ∀ z, q z = q (M.lg ks z)) (h : selW n ks q = []) : (M.addrs n).filter q = [] := by
  have hs := sel_sum kn hq
  rw [h] at hs
  exact List.eq_nil_of_length_eq_zero hs.symm
theorem sel_head (h0 : 1 ≤ n) (kn : M.Known n ks) (hq : ∀ z, q z = q (M.lg ks z)) {y : List Nat} (hy : ∃ s ∈ selW n ks q, M.cellA n ks s = some y) (hl : ∀ s ∈ selW n ks q, ∀ z, M.cellA n ks s = some z → tLt (SX.S z) (SX.S y) = false) : ((M.addrs n).filter q).head? = some y := by
  obtain ⟨s, hs, ey⟩ := hy
  obtain ⟨k1, k2, k3⟩ := sel_in hs
  obtain ⟨y', ey', hy', ly, ymin⟩ := M.cell_first h0 kn k1 k2
  rw [ey] at ey'
  cases ey'
  refine M.head_least hy' (by rw [hq y, ly]; exact k3) fun z hz qz => ?_
  have hs2 : M.lg ks z ∈ selW n ks q := by
    refine List.mem_filter.mpr ⟨(M.lg_is (a := z) kn.all).mem, ?_⟩
    have := M.many_pos kn hz
    rw [← hq z, qz, Bool.and_true]
    exact decide_eq_true (by omega)
  obtain ⟨j1, j2, j3⟩ := sel_in hs2
  obtain ⟨a, ea, ha, la, amin⟩ := M.cell_first h0 kn j1 j2
  have h1 := amin z hz rfl
  have h2 := hl _ hs2 a ea
  have oa := M.addr_ok ha
  have oy := M.addr_ok hy'
  have h3 : ¬ a < y := by
    have : decide ((SX.S a).cps.toList < (SX.S y).cps.toList) = false := h2
    rw [tl_S, tl_S] at this
    exact of_decide_eq_false this
  have h4 : M.bn y ≤ M.bn a := by
    rcases Decidable.em (y < a) with q | q
    · exact Nat.le_of_lt (M.lt_bn oy.1 oa.1 (by rw [oy.2, oa.2]) q)
    · have : a = y := List.le_antisymm (List.not_lt.mp q) (List.not_lt.mp h3)
      rw [this]
      exact Nat.le_refl _
  omega
end
/-- how many addresses no free stretch holds -/
def frN (n : Nat) (fs : List (List Nat)) : Nat := ((M.addrs n).filter fun z => !M.frB fs z).length
@[irreducible] def spUN (K : PySem.W.Frag) : Sp := fun vs H Q _ => ∃ (n : Nat) (F : Addr) (fs : List (List Nat)), vs = [.int n, .ref F] ∧ 1 ≤ n ∧ n ≤ 100 ∧ FrA K H F fs ∧ Fits n fs ∧ fs.Nodup ∧ fs.length ≤ 20 ∧ ∀ H', Same H H' → Q (.int ((frN n fs : Nat) : Int)) H'
theorem un_go {K : PySem.W.Frag} {n : Nat} {F : Addr} {fs : List (List Nat)} {H : Hp} {Q : VK} {E : XK} (h0 : 1 ≤ n) (h1 : n ≤ 100) (hF : FrA K H F fs) (ff : Fits n fs) (nd : fs.Nodup) (lf : fs.length ≤ 20) (k : ∀ H', Same H H' → Q (.int ((frN n fs : Nat) : Int)) H') : spUN K [.int n, .ref F] H Q E := by
  unfold spUN
  exact ⟨n, F, fs, rfl, h0, h1, hF, ff, nd, lf, k⟩
@[irreducible] def spIU (K : PySem.W.Frag) : Sp := fun vs H Q _ => ∃ (n : Nat) (F : Addr) (fs : List (List Nat)) (z : List Nat), vs = [.int n, .ref F, sx z] ∧ 1 ≤ n ∧ n ≤ 100 ∧ FrA K H F fs ∧ Fits n fs ∧ fs.Nodup ∧ fs.length ≤ 20 ∧ z ∈ M.addrs n ∧ ∀ H', Same H H' → Q (.bl (!M.frB fs z)) H'
theorem iu_go {K : PySem.W.Frag} {n : Nat} {F : Addr} {fs : List (List Nat)} {z : List Nat} {H : Hp} {Q : VK} {E : XK} (h0 : 1 ≤ n) (h1 : n ≤ 100) (hF : FrA K H F fs) (ff : Fits n fs) (nd : fs.Nodup) (lf : fs.length ≤ 20) (hz : z ∈ M.addrs n) (k : ∀ H', Same H H' → Q (.bl (!M.frB fs z)) H') : spIU K [.int n, .ref F, sx z] H Q E := by
  unfold spIU
  exact ⟨n, F, fs, z, rfl, h0, h1, hF, ff, nd, lf, hz, k⟩
section
variable {P : Program} {w : World} {K : PySem.W.Frag} {mg : Str → Option Value} {base : Heap} {f C : Addr} {fd' : FuncData}
theorem ok_used_number (F : Fun K "used_number" "used_number" s_used_number f fd') (hm : mg "used_number" = some (.ref f)) (T : Txt K mg) (c_check_free : Nm P w K mg base CX0 5 "check_free" s_check_free ["width", "free"] (spCF K)) (c_used_cells : Nm P w K mg base CX0 9 "_used_cells" s_used_cells ["width", "stretches", "free"] (spUC K)) : Nm P w K mg base CX0 10 "used_number" s_used_number ["width", "free"] (spUN K) := by
  refine nm_of F hm sc_used_number (fun vs H Q E h => ?_) fun cdv A outer s H vs Q E hr h => ?_
  · unfold spUN at h
    obtain ⟨n, F, fs, rfl, h0, h1, hF, ff, nd, lf, k⟩ := h
    subst_vars
    rfl
  unfold spUN at h
  obtain ⟨n, F, fs, rfl, h0, h1, hF, ff, nd, lf, k⟩ := h
  refine ⟨_, (pss_cons (ps_expr (pe_g c_check_free hr (by decide) L2.pass0 bp_check_free (by rfl) (pa_cons (pv 0) (pa_cons (pv 1) pa_nil))))
      (pss_one (ps_ret (pe_callB (cr_sum rfl) (by rfl) T.b_sum (by decide +kernel) (pa_cons (pe_lc (own := [("many", 2), ("_", 3)]) (g := (gTup K 2 (gCons (gName 2) (gCons (gName 3) gNil)))) (by rfl) sc_used_number.nd (pi_listK (K := K) rfl (pe_g c_used_cells hr (by decide) L2.pass0 bp_used_cells (by rfl) (pa_cons (pv 0) (pa_cons (pe_lst pa_nil) (pa_cons (pv 1) pa_nil))))) (blkOk_by (own := [("many", 2), ("_", 3)]) (N := ["width", "free", "many", "_"]) (sc := defScope s_used_number) (by decide +kernel)) (fun _ _ _ _ _ => (pg_tup (by rfl) (pgs_cons (pg_name (i := 2) sc_used_number.nd rfl (by first | exact Or.inl rfl | exact Or.inr rfl)) (pgs_cons (pg_name (i := 3) sc_used_number.nd rfl (by first | exact Or.inl rfl | exact Or.inr rfl)) pgs_nil)))) (fun _ _ _ _ _ => pts_nil) (fun _ _ _ _ _ => (pv 2))) pa_nil))))), ?_⟩
  refine ⟨_, rfl, ⟨_, rfl, ?_⟩⟩
  refine cf_go h0 h1 hF ff nd lf fun H1 s1 => ?_
  refine ⟨_, rfl, ⟨szl (Nat.zero_le _), fun Z nZ => ⟨_, rfl, ?_⟩⟩⟩
  have s2 := s1.new (o := HO.lst ([] : List V)) nZ
  refine uc_go (ts := []) h0 h1 upd_same (hF.same s2) (fun t h => by cases h) ff (by decide) (by omega) fun R H3 s3 nR hU => ?_
  have s13 := s2.trans s3
  rw [List.nil_append] at hU
  have kn := ks_known (n := n) (ts := fs) ff
  have kl := ks_len fs
  have s4 : ∀ t ∈ fs, t ∈ ksOf fs := fun t ht => ks_mem.mpr (.inr ht)
  have hq : ∀ z, (!M.frB fs z) = (!M.frB fs (M.lg (ksOf fs) z)) := fun z => by rw [M.fr_lg kn.all s4 z]
  have es : ((uc n (ksOf fs) fs).map (M.many n (ksOf fs))).sum = frN n fs := sel_sum (q := fun s => !M.frB fs s) kn hq
  have lu : (uc n (ksOf fs) fs).length ≤ 1000 := Nat.le_trans (List.length_filter_le _ _) (by omega)
  generalize uc n (ksOf fs) fs = us at hU es lu
  generalize ksOf fs = ks at hU es
  obtain ⟨as, eR, tu⟩ := hU
  have la := tu.len
  refine ⟨R, rfl, ⟨_, SqL.of eR⟩, fun B nB => ?_⟩
  refine lc_it (walk_list (xs := as.map V.ref)) (fun i H' => H' B = some (.lst ((us.take i).map fun s => V.int ((M.many n ks s : Nat) : Int))) ∧ Same H3 H') ⟨upd_same, fun b o e => updn (nonn nB e) e⟩ (fun i H' _ h => SqL.of (h.2 _ _ eR)) ?_ ?_
  · rintro i x H4 H5 hi ⟨hB, sm⟩ ⟨rfl, hx⟩
    obtain ⟨c, hc, rfl⟩ : ∃ c, as[i]? = some c ∧ x = .ref c := by
      rw [List.getElem?_map] at hx
      cases e : as[i]? with
      | none => rw [e] at hx; cases hx
      | some t => rw [e] at hx; exact ⟨t, rfl, (Option.some.inj hx).symm⟩
    obtain ⟨s, hs, ec⟩ := tu_at tu hc
    refine ⟨c, _, rfl, SqT.of (sm _ _ ec), rfl, ?_⟩
    refine ⟨_, _, rfl, ?_⟩
    refine ⟨_, _, rfl, ?_⟩
    refine ⟨rfl, ?_⟩
    refine ⟨rfl, ?_⟩
    refine ⟨_, rfl, ?_⟩
    refine ⟨_, hB, szt (by rw [List.length_map, List.length_take]; omega), ?_, fun b o q => updn (nonn nB q) (sm b o q)⟩
    rw [upd_same, List.take_add_one, hs, List.map_append]
    rfl
  · rintro H4 ⟨hB, sm⟩
    rw [List.length_map, la, List.take_length] at hB
    have eV : (us.map fun s => V.int ((M.many n ks s : Nat) : Int)) = (us.map fun s => ((M.many n ks s : Nat) : Int)).map V.int := by rw [List.map_map]; rfl
    rw [eV] at hB
    refine ⟨B, _, rfl, SqL.of hB, ?_⟩
    rw [sum_cast, es]
    exact k H4 (s13.trans sm)
theorem ok_is_used (F : Fun K "is_used" "is_used" s_is_used f fd') (hm : mg "is_used" = some (.ref f)) (T : Txt K mg) (c_check_free : Nm P w K mg base CX0 5 "check_free" s_check_free ["width", "free"] (spCF K)) (c_check_address : Nm P w K mg base CX0 6 "check_address" s_check_address ["width", "address"] (spCT adrB)) (c_is_free : Nm P w K mg base CX0 1 "is_free" s_is_free ["free", "bits"] (spIF K)) : Nm P w K mg base CX0 7 "is_used" s_is_used ["width", "free", "address"] (spIU K) := by
  refine nm_of F hm sc_is_used (fun vs H Q E h => ?_) fun cdv A outer s H vs Q E hr h => ?_
  · unfold spIU at h
    obtain ⟨n, F, fs, z, rfl, h0, h1, hF, ff, nd, lf, hz, k⟩ := h
    subst_vars
    rfl
  unfold spIU at h
  obtain ⟨n, F, fs, z, rfl, h0, h1, hF, ff, nd, lf, hz, k⟩ := h
  refine ⟨_, (pss_cons (ps_expr (pe_g c_check_free hr (by decide) L2.pass0 bp_check_free (by rfl) (pa_cons (pv 0) (pa_cons (pv 1) pa_nil))))
      (pss_cons (ps_expr (pe_g c_check_address hr (by decide) L2.pass0 bp_check_address (by rfl) (pa_cons (pv 0) (pa_cons (pv 2) pa_nil))))
      (pss_one (ps_ret (pe_not (pe_g c_is_free hr (by decide) L2.pass0 bp_is_free (by rfl) (pa_cons (pv 1) (pa_cons (pv 2) pa_nil)))))))), ?_⟩
  obtain ⟨zb, zl⟩ := M.addr_ok hz
  have lz : (SX.S z).length = n := by rw [sx_len, zl]
  refine ⟨_, rfl, ⟨_, rfl, ?_⟩⟩
  refine cf_go h0 h1 hF ff nd lf fun H1 s1 => ?_
  refine ⟨_, rfl, ⟨_, rfl, ?_⟩⟩
  refine ct_go (by omega) (by omega) (by omega) (adr_ok (sx_bits zb) lz) fun H2 s2 => ?_
  refine ⟨_, rfl, ⟨_, rfl, ?_⟩⟩
  refine if_go (hF.same (s1.trans s2)) (by omega) (by omega) fun H3 s3 => ?_
  refine ⟨_, rfl, ?_⟩
  exact k H3 ((s1.trans s2).trans s3)
end
open PySem PySem.Spec PyProof.Rows
open L2 hiding pass0
abbrev s_first_with : Stmt := top 52
theorem sc_first_with : FnScope ["table", "goal", "free", "parts", "many", "address"] ["table", "goal", "free"] (defScope s_first_with) := ⟨rfl, rfl, rfl, by decide +kernel, rfl, by decide +kernel, by decide +kernel⟩
theorem bp_first_with : BndP "first_with" s_first_with ["table", "goal", "free"] := fun _ _ _ _ _ _ us h => match us, h with | [_, _, _], _ => rfl
/-- used, and led to g -/
def qw (m : List (Str × Str)) (fs : List (List Nat)) (g : Str) (z : List Nat) : Bool := !M.frB fs z && decide (gS m z = g.cps.toList)
def fw (n : Nat) (m : List (Str × Str)) (fs : List (List Nat)) (g : Str) : List (List Nat) := (M.addrs n).filter (qw m fs g)
@[irreducible] def spFW (K : PySem.W.Frag) (C : Addr) : Sp := fun vs H Q _ => ∃ (n : Nat) (a F : Addr) (g : Str) (m : List (Str × Str)) (fs : List (List Nat)), vs = [.ref a, .str g, .ref F] ∧ goalB g = true ∧ g.length ≤ 200 ∧ TabAt C H a n m ∧ TabOk n m ∧ FrA K H F fs ∧ Fits n fs ∧ fs.Nodup ∧ fs.length ≤ 20 ∧
  ∀ H', Same H H' → Q (oA (fw n m fs g).head?) H'
theorem fw_go {K : PySem.W.Frag} {C : Addr} {n : Nat} {a F : Addr} {g : Str} {m : List (Str × Str)} {fs : List (List Nat)} {H : Hp} {Q : VK} {E : XK} (hg : goalB g = true) (lg : g.length ≤ 200) (ht : TabAt C H a n m) (ok : TabOk n m) (hF : FrA K H F fs) (ff : Fits n fs) (nd : fs.Nodup) (lf : fs.length ≤ 20)
    (k : ∀ H', Same H H' → Q (oA (fw n m fs g).head?) H') : spFW K C [.ref a, .str g, .ref F] H Q E := by
  unfold spFW
  exact ⟨n, a, F, g, m, fs, rfl, hg, lg, ht, ok, hF, ff, nd, lf, k⟩
section
variable {P : Program} {w : World} {K : PySem.W.Frag} {mg : Str → Option Value} {base : Heap} {f C : Addr} {fd' : FuncData}
theorem ok_first_with {params : Arguments} {dvs : List V} {kws : List (Str × V)} (F : FunD K "first_with" "first_with" params (defBody s_first_with) (defScope s_first_with) dvs kws f fd') (T : Txt K mg) (TC : TabC K C) (c_is_goal : Nm P w K mg base CX0 2 "is_goal" s_is_goal ["value"] (spT goalB)) (c_check_free : Nm P w K mg base CX0 5 "check_free" s_check_free ["width", "free"] (spCF K)) (c_used_cells : Nm P w K mg base CX0 9 "_used_cells" s_used_cells ["width", "stretches", "free"] (spUC K)) (c_first_address : Nm P w K mg base CX0 1 "_first_address" s_first_address ["parts"] (spFA))
    (c_Table_width : Prp P w K mg base CX0 1 C "width" "Table.width" s_Table_width ["self"] (spWidth C)) (c_Table_rows : Mth P w K mg base CX0 1 C "rows" "Table.rows" s_Table_rows ["self"] (spTRows C))
    (c_Table__call__ : Mth P w K mg base CX0 8 C "__call__" "Table.__call__" s_Table__call__ ["self", "address"] (spCall C)) : FnG P w K mg base CX0 10 f fd' ["table", "goal", "free"] (spFW K C) := by
  obtain ⟨oc, od, dV, kV, doc, pm, an, cdv, ct, osl, rfl, lk, hcd, _, _⟩ := F.ex
  refine fnG_core0 lk hcd sc_first_with (fun vs H Q E h => ?_) fun A outer s H vs Q E hr h => ?_
  · unfold spFW at h
    obtain ⟨n, a, F, g, m, fs, rfl, _⟩ := h
    rfl
  unfold spFW at h
  obtain ⟨n, a, F, g, m, fs, rfl, hg, lg, ht, ok, hF, ff, nd, lf, k⟩ := h
  refine ⟨_, (pss_cons (ps_if (pt_not (pt_val (pe_g c_is_goal hr (by decide) L2.pass0 bp_is_goal (by rfl) (pa_cons (pv 1) pa_nil)))) (pss_one ps_never) pss_nil)
      (pss_cons (ps_expr (pe_g c_check_free hr (by decide) L2.pass0 bp_check_free (by rfl) (pa_cons (pe_p c_Table_width TC.cl hr (by decide) L2.pass0 bm_Table_width (pv 0)) (pa_cons (pv 2) pa_nil))))
      (pss_cons (ps_set (i := 3) sc_first_with.nd rfl (by first | exact Or.inl rfl | exact Or.inr rfl) (pe_g c_used_cells hr (by decide) L2.pass0 bp_used_cells (by rfl) (pa_cons (pe_p c_Table_width TC.cl hr (by decide) L2.pass0 bm_Table_width (pv 0)) (pa_cons (pe_callTy (call_listD rfl) (by rfl) T.b_list (by decide +kernel) (pa_cons (pe_m0 c_Table_rows TC.cl hr (by decide) L2.pass0 bm_Table_rows (pv 0)) pa_nil)) (pa_cons (pv 2) pa_nil)))))
      (pss_one (ps_ret (pe_g c_first_address hr (by decide) L2.pass0 bp_first_address (by rfl) (pa_cons (pe_lc (own := [("many", 4), ("address", 5)]) (g := (gTup K 2 (gCons (gName 4) (gCons (gName 5) gNil)))) (by rfl) sc_first_with.nd (pi_listK (K := K) rfl (pv 3)) (blkOk_by (own := [("many", 4), ("address", 5)]) (N := ["table", "goal", "free", "parts", "many", "address"]) (sc := defScope s_first_with) (by decide +kernel)) (fun _ _ _ _ _ => (pg_tup (by rfl) (pgs_cons (pg_name (i := 4) sc_first_with.nd rfl (by first | exact Or.inl rfl | exact Or.inr rfl)) (pgs_cons (pg_name (i := 5) sc_first_with.nd rfl (by first | exact Or.inl rfl | exact Or.inr rfl)) pgs_nil)))) (fun _ _ _ _ _ => (pts_one (pt_cmpR op_eq (pe_o c_Table__call__ hr (by decide) L2.pass0 bm_Table__call__ (pv 0) (pa_cons (pv 5) pa_nil)) (pv 1) (nomark _)))) (fun _ _ _ _ _ => (pe_tup (pa_cons (pv 4) (pa_cons (pv 5) pa_nil))))) pa_nil))))))), ?_⟩
  have w0 := ok.w0
  have w1 := ok.w1
  have h0 : 1 ≤ n := by omega
  have h1 : n ≤ 100 := by omega
  obtain ⟨dx, Dm, ha, hDm, hne⟩ := ht
  have tt : TabAt C H a n m := ⟨dx, Dm, ha, hDm, hne⟩
  refine ⟨_, rfl, ?_⟩
  refine t_go (Nat.le_trans lg (by decide)) fun H0 s0 => ?_
  rw [hg]
  refine ⟨_, rfl, iteF ?_⟩
  refine ⟨_, rfl, ⟨a, dx, _, rfl, s0 _ _ ha, width_go (tt.to s0) ?_⟩⟩
  refine ⟨_, rfl, ?_⟩
  refine cf_go h0 h1 (hF.same s0) ff nd lf fun H1 s1 => ?_
  have s2 := s0.trans s1
  refine ⟨_, rfl, ⟨a, dx, _, rfl, s2 _ _ ha, width_go (tt.to s2) ?_⟩⟩
  refine ⟨_, rfl, ⟨⟨a, dx, _, rfl, s2 _ _ ha, rfl⟩, ?_⟩⟩
  refine trows_go (tt.to s2) fun p np => ?_
  have s3 := s2.new (o := HO.dK (tk m)) np
  refine ⟨p, tk m, rfl, .inl upd_same, fun W nW => ?_⟩
  rw [tk_kV, ← kz_V]
  have s4 := s3.new (o := HO.lst ((kz m).map sx)) nW
  have eW : upd (upd H1 p (.dK (tk m))) W (.lst ((kz m).map sx)) W = some (.lst ((kz m).map sx)) := upd_same
  generalize upd (upd H1 p (.dK (tk m))) W (.lst ((kz m).map sx)) = H4 at s4 eW ⊢
  refine ⟨_, rfl, ?_⟩
  have lm := ok.few
  refine uc_go h0 h1 eW (hF.same s4) (kz_fits ok.rows) ff (by rw [kz_len]; omega) (by omega) fun R H5 s5 nR hU => ?_
  have s45 := s4.trans s5
  have fit : Fits n (kz m ++ fs) := fun t ht => (List.mem_append.mp ht).elim (kz_fits ok.rows t) (ff t)
  have kn := ks_known fit
  have kl := ks_len (kz m ++ fs)
  rw [List.length_append, kz_len] at kl
  have sub1 : ∀ t ∈ ksOf (kz m), t ∈ ksOf (kz m ++ fs) := fun t ht => ks_mem.mpr ((ks_mem.mp ht).imp id fun h => List.mem_append_left _ h)
  have sub3 : ∀ t ∈ fs, t ∈ ksOf (kz m ++ fs) := fun t ht => ks_mem.mpr (.inr (List.mem_append_right _ ht))
  have hq : ∀ z, qw m fs g z = qw m fs g (M.lg (ksOf (kz m ++ fs)) z) := fun z => by
    unfold qw
    rw [M.fr_lg kn.all sub3 z, gS_lg sub1 kn.all z]
  generalize ksOf (kz m ++ fs) = ks at kn kl sub1 sub3 hq hU
  have esel : selW n ks (qw m fs g) = (uc n ks fs).filter fun s => decide (gS m s = g.cps.toList) := by
    unfold selW uc qw
    rw [List.filter_filter]
    refine List.filter_congr fun s _ => ?_
    cases decide (gS m s = g.cps.toList) <;> cases M.frB fs s <;> simp
  have eus : ∀ s ∈ uc n ks fs, s ∈ ks ∧ M.many n ks s ≠ 0 := fun s hs => by
    have h := List.mem_filter.mp hs
    have h3 := of_decide_eq_true ((Bool.and_eq_true _ _).mp h.2).1
    exact ⟨h.1, by omega⟩
  have lu : (uc n ks fs).length ≤ 90 := Nat.le_trans (List.length_filter_le _ _) (by omega)
  generalize uc n ks fs = us at hU eus lu esel
  obtain ⟨as, eR, tu⟩ := hU
  have la := tu.len
  refine ⟨_, rfl, ⟨R, rfl, ⟨_, SqL.of eR⟩, fun B nB => ?_⟩⟩
  have nB0 := s45.back nB
  refine lc_it (walk_list (xs := as.map V.ref)) (fun i H' => UsedAt H' n ks B ((us.take i).filter fun s => decide (gS m s = g.cps.toList)) ∧ Same H5 H') ⟨⟨[], upd_same, .nil⟩, fun b o e => updn (nonn nB e) e⟩ (fun i H' _ h => SqL.of (h.2 _ _ eR)) ?_ ?_
  · rintro i x H6 H6' hi ⟨hU, s6⟩ ⟨rfl, hx⟩
    obtain ⟨c, hc, rfl⟩ : ∃ c, as[i]? = some c ∧ x = .ref c := by
      rw [List.getElem?_map] at hx
      cases e : as[i]? with
      | none => rw [e] at hx; cases hx
      | some t => rw [e] at hx; exact ⟨t, rfl, (Option.some.inj hx).symm⟩
    obtain ⟨s, hs, ec⟩ := tu_at tu hc
    obtain ⟨hsk, hsm⟩ := eus s (List.mem_of_getElem? hs)
    obtain ⟨z, ez, hz, hlg, _⟩ := M.cell_first h0 kn hsk hsm
    obtain ⟨zb, zl⟩ := M.addr_ok hz
    have g1 : gS m z = gS m s := by rw [gS_lg sub1 kn.all z, hlg]
    have lz : (SX.S z).length = n := by rw [sx_len, zl]
    have ec2 := ec
    rw [ez] at ec2
    refine ⟨c, _, rfl, SqT.of (s6 _ _ ec2), rfl, ?_⟩
    refine ⟨_, _, rfl, ?_⟩
    refine ⟨_, _, rfl, ?_⟩
    refine ⟨rfl, ?_⟩
    refine ⟨rfl, ?_⟩
    refine ⟨_, rfl, ⟨a, rfl, ⟨_, rfl, ⟨⟨dx, _, s6 _ _ (s45 _ _ ha)⟩, ?_⟩⟩⟩⟩
    refine call_go (z := SX.S z) ((tt.to s45).to s6) h0 h1 (sx_bits zb) lz fun H7 s7 => ?_
    rw [gS_V, g1]
    refine ⟨_, rfl, ?_⟩
    have ed : decide (sx (gS m s) = V.str g) = decide (gS m s = g.cps.toList) := decide_eq_decide.mpr ⟨fun e => by
        have e2 : SX.S (gS m s) = g := V.str.inj e
        rw [← e2, tl_S], fun e => by
        show V.str (SX.S (gS m s)) = V.str g
        rw [e, SX.S_tl]⟩
    refine ⟨rfl, ⟨_, rfl, ?_⟩⟩
    rw [ed]
    have estep : ((us.take (i + 1)).filter fun s => decide (gS m s = g.cps.toList)) = ((us.take i).filter fun s => decide (gS m s = g.cps.toList)) ++ if decide (gS m s = g.cps.toList) = true then [s] else [] := by
      rw [List.take_add_one, hs, List.filter_append]
      congr 1
      by_cases q : decide (gS m s = g.cps.toList) = true
      · rw [if_pos q]; exact List.filter_cons_of_pos q
      · rw [if_neg q]; exact List.filter_cons_of_neg q
    have lu' : ((us.take i).filter fun s => decide (gS m s = g.cps.toList)).length ≤ 100000 := by
      refine Nat.le_trans (List.length_filter_le _ _) ?_
      rw [List.length_take]
      omega
    rw [estep]
    cases hd : decide (gS m s = g.cps.toList) with
    | true =>
      rw [if_pos rfl]
      refine iteT ?_
      refine ⟨_, rfl, ⟨_, rfl, ⟨szl (by show 2 ≤ 1000000; decide), fun t nt => ?_⟩⟩⟩
      rw [← ez]
      exact (hU.same s7).more nt (s6.trans s7) nB lu'
    | false =>
      rw [if_neg (by decide), List.append_nil]
      refine iteF ?_
      exact ⟨hU.same s7, s6.trans s7⟩
  · rintro H6 ⟨hU, s6⟩
    rw [List.length_map, la, List.take_length, ← esel] at hU
    have ls : (selW n ks (qw m fs g)).length ≤ 1000 := by
      rw [esel]
      exact Nat.le_trans (List.length_filter_le _ _) (by omega)
    refine fa_go hU ls (fun s hs => ?_) (fun e H7 s7 => ?_) fun y hy hl H7 s7 => ?_
    · obtain ⟨k1, k2, _⟩ := sel_in hs
      obtain ⟨z, ez, _⟩ := M.cell_first h0 kn k1 k2
      exact ⟨z, ez⟩
    · have := k H7 ((s45.trans s6).trans s7)
      unfold fw at this
      rw [sel_nil kn hq e] at this
      exact this
    · have := k H7 ((s45.trans s6).trans s7)
      unfold fw at this
      rw [sel_head h0 kn hq hy hl] at this
      exact this
end
open PySem PySem.Spec PyProof.Rows
open L2 hiding pass0
theorem tl_inj {x y : Str} (h : x.cps.toList = y.cps.toList) : x = y := by rw [← SX.S_tl x, ← SX.S_tl y, h]
theorem tl_cat (x y : Str) : (x ++ y).cps.toList = x.cps.toList ++ y.cps.toList := by
  show (x.cps ++ y.cps).toList = _
  simp
theorem len_cat (x y : Str) : (x ++ y).length = x.length + y.length := by
  show (x.cps ++ y.cps).size = _
  simp; rfl
theorem mrg_nd : ∀ {r m : List (Str × Str)}, (m.map (·.1)).Nodup → ((mrgT m r).map (·.1)).Nodup
  | [], _, h => h
  | q :: r, m, h => mrg_nd (r := r) (m := putT m q.1 q.2) (put_nodup h)
theorem mrg_rows {n : Int} : ∀ {r m : List (Str × Str)}, (∀ p ∈ m, RowOk n p) → (∀ p ∈ r, RowOk n p) → ∀ p ∈ mrgT m r, RowOk n p
  | [], _, h, _ => h
  | q :: r, m, h, h2 => mrg_rows (r := r) (m := putT m q.1 q.2) (put_ok h (h2 q List.mem_cons_self)) fun p hp => h2 p (List.mem_cons_of_mem _ hp)
theorem mrg_len1 : ∀ {r m : List (Str × Str)}, (mrgT m r).length ≤ m.length + r.length
  | [], _ => Nat.le_refl _
  | q :: r, m => by
    have h1 := mrg_len1 (r := r) (m := putT m q.1 q.2)
    have h2 := put_len m q.1 q.2
    show (mrgT (putT m q.1 q.2) r).length ≤ _
    rw [List.length_cons]
    omega
theorem look_mem_key {m : List (Str × Str)} {k : Str} : k ∈ m.map (·.1) ↔ (look m k).isSome = true := by
  rw [look_key, decide_eq_true_iff]
theorem perm_nd : ∀ {a b : List Str}, a.Nodup → b.Nodup → (∀ x, x ∈ a ↔ x ∈ b) → a.Perm b
  | [], b, _, _, h => by
    cases b with
    | nil => exact .nil
    | cons x r => exact absurd ((h x).mpr (List.mem_cons_self ..)) List.not_mem_nil
  | x :: a, b, ha, hb, h => by
    have hx : x ∈ b := (h x).mp (List.mem_cons_self ..)
    have ha' := List.nodup_cons.mp ha
    refine List.Perm.trans (List.Perm.cons x (perm_nd ha'.2 (hb.erase x) fun y => ?_)) (List.perm_cons_erase hx).symm
    rw [hb.mem_erase_iff]
    constructor
    · intro hy
      exact ⟨fun e => ha'.1 (e ▸ hy), (h y).mp (List.mem_cons_of_mem _ hy)⟩
    · rintro ⟨hne, hy⟩
      exact (List.mem_cons.mp ((h y).mpr hy)).resolve_left hne
theorem srt_eq {X m : List (Str × Str)} (h1 : (X.map (·.1)).Nodup) (h2 : (m.map (·.1)).Nodup) (h : ∀ k, look X k = look m k) : srt X = srt m := by
  have hp : (X.map (·.1)).Perm (m.map (·.1)) := perm_nd h1 h2 fun x => by rw [look_mem_key, look_mem_key, h x]
  have hk : tsort (X.map (·.1)) = tsort (m.map (·.1)) := tsort_uniq ((tsort_perm _).trans hp) (tsort_ts _)
  unfold srt
  rw [hk]
  refine List.map_congr_left fun k _ => ?_
  rw [look_get, look_get, h k]
open PySem PySem.Spec PyProof.Rows
open L2 hiding pass0
abbrev s_law_size : Stmt := top 63
theorem sc_law_size : FnScope ["_law_pot_here"] ["_law_pot_here"] (defScope s_law_size) := ⟨rfl, rfl, rfl, by decide +kernel, rfl, by decide +kernel, by decide +kernel⟩
theorem bp_law_size : BndP "_law_size" s_law_size ["_law_pot_here"] := fun _ _ _ _ _ _ us h => match us, h with | [_], _ => rfl
abbrev s_law_some : Stmt := top 62
theorem sc_law_some : FnScope ["_law_pot_here", "_law_parts", "_law_many", "_law_left", "_law_found", "_law_turn"] ["_law_pot_here", "_law_parts", "_law_many"] (defScope s_law_some) := ⟨rfl, rfl, rfl, by decide +kernel, rfl, by decide +kernel, by decide +kernel⟩
theorem bp_law_some : BndP "_law_some" s_law_some ["_law_pot_here", "_law_parts", "_law_many"] := fun _ _ _ _ _ _ us h => match us, h with | [_, _, _], _ => rfl
theorem seq_nat {n j : Nat} (h : j < n) : seqIndex? (j : Int) n = some j := by
  unfold seqIndex?
  have h1 : ¬ ((j : Int) < 0) := by omega
  have h2 : (0 : Int) ≤ j := by omega
  have h3 : (j : Int) < n := by omega
  simp [h1, h2, h3]
theorem erase_map {α β : Type} (f : α → β) : ∀ (l : List α) (j : Nat), (l.map f).eraseIdx j = (l.eraseIdx j).map f
  | [], _ => rfl
  | _ :: _, 0 => rfl
  | a :: l, j + 1 => congrArg (f a :: ·) (erase_map f l j)
theorem cons_erase {α : Type} : ∀ (l : List α) (j : Nat) (h : j < l.length), (l[j] :: l.eraseIdx j).Perm l
  | a :: l, 0, _ => .refl _
  | a :: l, j + 1, h => (List.Perm.swap a (l[j]'(by simpa using h)) (l.eraseIdx j)).trans ((cons_erase l j (by simpa using h)).cons a)
@[irreducible] def spSz : Sp := fun vs H Q _ => ∃ p, vs = [.ref p] ∧ PotAt H p ∧ ∀ (n : Nat) H', 1 ≤ n → n ≤ 100 → Go p H H' → Q (.int n) H'
theorem sz_go {p : Addr} {H : Hp} {Q : VK} {E : XK} (hp : PotAt H p) (k : ∀ (n : Nat) H', 1 ≤ n → n ≤ 100 → Go p H H' → Q (.int n) H') : spSz [.ref p] H Q E := by
  unfold spSz
  exact ⟨p, rfl, hp, k⟩
@[irreducible] def spSm (K : PySem.W.Frag) : Sp := fun vs H Q _ => ∃ (p L : Addr) (c : Nat) (ts : List (List Nat)), vs = [.ref p, .ref L, .int c] ∧ PotAt H p ∧ L ≠ p ∧ H L = some (.lst (ts.map sx)) ∧ ts.length ≤ 1000 ∧ c ≤ 1000 ∧
  ∀ (F : Addr) (us ls : List (List Nat)) H', H F = none → Go p H H' → H' F = some (.lst (us.map sx)) → (us ++ ls).Perm ts → us.length ≤ c → Q (.ref F) H'
theorem sm_go {K : PySem.W.Frag} {p L : Addr} {c : Nat} {ts : List (List Nat)} {H : Hp} {Q : VK} {E : XK} (hp : PotAt H p) (np : L ≠ p) (hL : H L = some (.lst (ts.map sx))) (lt : ts.length ≤ 1000) (hc : c ≤ 1000)
    (k : ∀ (F : Addr) (us ls : List (List Nat)) H', H F = none → Go p H H' → H' F = some (.lst (us.map sx)) → (us ++ ls).Perm ts → us.length ≤ c → Q (.ref F) H') : spSm K [.ref p, .ref L, .int c] H Q E := by
  unfold spSm
  exact ⟨p, L, c, ts, rfl, hp, np, hL, lt, hc, k⟩
section
variable {P : Program} {w : World} {K : PySem.W.Frag} {mg : Str → Option Value} {base : Heap} {f : Addr} {fd : FuncData}
theorem ok_size (F : Fun K "_law_size" "_law_size" s_law_size f fd) (hm : mg "_law_size" = some (.ref f)) (T : Txt K mg) (c_law_draw : Nm P w K mg base CX0 1 "_law_draw" s_law_draw ["_law_pot_here", "_law_many"] (spDraw)) (c_law_pick : Nm P w K mg base CX0 2 "_law_pick" s_law_pick ["_law_pot_here", "_law_some_here"] (spAmong K)) : Nm P w K mg base CX0 3 "_law_size" s_law_size ["_law_pot_here"] (spSz) := by
  refine nm_of F hm sc_law_size (fun vs H Q E h => ?_) fun cdv A outer s H vs Q E hr h => ?_
  · unfold spSz at h
    obtain ⟨p, rfl, hp, k⟩ := h
    subst_vars
    rfl
  unfold spSz at h
  obtain ⟨p, rfl, hp, k⟩ := h
  refine ⟨_, (pss_one (ps_ret (pe_g c_law_pick hr (by decide) L2.pass0 bp_law_pick (by rfl) (pa_cons (pv 0) (pa_cons (pe_lst (pa_cons pe_int (pa_cons pe_int (pa_cons pe_int (pa_cons pe_int (pa_cons pe_int (pa_cons pe_int (pa_cons pe_int (pa_cons pe_int (pa_cons (pe_op op_add pe_int (pe_g c_law_draw hr (by decide) L2.pass0 bp_law_draw (by rfl) (pa_cons (pv 0) (pa_cons pe_int pa_nil)))) pa_nil)))))))))) pa_nil))))), ?_⟩
  refine ⟨_, rfl, ⟨_, rfl, ?_⟩⟩
  refine draw_go hp (by decide) (by decide) fun d H1 d0 d1 g1 => ?_
  obtain ⟨j, rfl⟩ := Int.eq_ofNat_of_zero_le d0
  refine ⟨_, _, rfl, rfl, ?_⟩
  refine ⟨szl (by show 9 ≤ 1000000; decide), fun L nL => ?_⟩
  have g2 := g1.new (o := HO.lst [.int 1, .int 2, .int 7, .int 31, .int 64, .int 99, .int 100, .int 100, .int (1 + (j : Int))]) nL
  refine among_l g2.pot (g1.pot.ne nL) (SqL.of upd_same) (by show 0 < 9; decide) (by show 9 ≤ 1000; decide) fun v hv H3 g3 => ?_
  have hv' : ∃ n : Nat, v = .int n ∧ 1 ≤ n ∧ n ≤ 100 := by
    simp only [List.mem_cons, List.not_mem_nil, or_false] at hv
    rcases hv with h | h | h | h | h | h | h | h | h
    · exact ⟨1, h, by decide, by decide⟩
    · exact ⟨2, h, by decide, by decide⟩
    · exact ⟨7, h, by decide, by decide⟩
    · exact ⟨31, h, by decide, by decide⟩
    · exact ⟨64, h, by decide, by decide⟩
    · exact ⟨99, h, by decide, by decide⟩
    · exact ⟨100, h, by decide, by decide⟩
    · exact ⟨100, h, by decide, by decide⟩
    · exact ⟨1 + j, by rw [h]; exact congrArg V.int (by omega), by omega, by omega⟩
  obtain ⟨n, rfl, h1, h2⟩ := hv'
  exact k n H3 h1 h2 (g2.trans g3)
theorem ok_some (F : Fun K "_law_some" "_law_some" s_law_some f fd) (hm : mg "_law_some" = some (.ref f)) (T : Txt K mg) (c_law_draw : Nm P w K mg base CX0 1 "_law_draw" s_law_draw ["_law_pot_here", "_law_many"] (spDraw)) : Nm P w K mg base CX0 2 "_law_some" s_law_some ["_law_pot_here", "_law_parts", "_law_many"] (spSm K) := by
  refine nm_of0 F hm sc_law_some (fun vs H Q E h => ?_) fun cdv A outer s H vs Q E hr h => ?_
  · unfold spSm at h
    obtain ⟨p, L, c, ts, rfl, hp, np, hL, lt, hc, k⟩ := h
    subst_vars
    rfl
  unfold spSm at h
  obtain ⟨p, L, c, ts, rfl, hp, np, hL, lt, hc, k⟩ := h
  refine ⟨_, (pss_cons (ps_par (i := 3) (j := 4) (by rfl) sc_law_some.nd rfl rfl (by decide) rfl rfl (pa_cons (pe_callTy call_list_of (by rfl) T.b_list (by decide +kernel) (pa_cons (pv 1) pa_nil)) (pa_cons (pe_lst pa_nil) pa_nil)) (by rfl))
      (pss_cons (ps_for PassesOwn.never rfl (pi_range1 (by rfl) T.b_range (pa_cons (pe_callB (call_min2 rfl) (by rfl) T.b_min (by decide +kernel) (pa_cons (pv 2) (pa_cons (pe_callB (call_lenK (K := K) rfl) (by rfl) T.b_len PySem.boot_len (pa_cons (pv 3) pa_nil)) pa_nil))) pa_nil)) (pg_name (i := 5) sc_law_some.nd rfl (by first | exact Or.inl rfl | exact Or.inr rfl)) (pss_one (ps_expr (pe_bm PySem.F.plainAttrs_list PySem.F.slot_list_append PySem.F.type_list_append mt_append (pv 4) (pa_cons (pe_bm PySem.F.plainAttrs_list PySem.F.slot_list_pop PySem.F.type_list_pop mt_popAt (pv 3) (pa_cons (pe_g c_law_draw hr (by decide) L2.pass0 bp_law_draw (by rfl) (pa_cons (pv 0) (pa_cons (pe_callB (call_lenK (K := K) rfl) (by rfl) T.b_len PySem.boot_len (pa_cons (pv 3) pa_nil)) pa_nil))) pa_nil)) pa_nil)))))
      (pss_one (ps_ret (pv 4))))), ?_⟩
  refine ⟨_, rfl, ⟨L, _, rfl, .inl (SqL.of hL), fun A nA => ?_⟩⟩
  have hpA := hp.ne nA
  have g1 := (Go.refl hp).new (o := HO.lst (ts.map sx)) nA
  have eA : upd H A (.lst (ts.map sx)) A = some (.lst (ts.map sx)) := upd_same
  generalize upd H A (.lst (ts.map sx)) = H1 at g1 eA ⊢
  refine ⟨szl (Nat.zero_le _), fun F nF => ?_⟩
  have nF0 := g1.fresh hp nF
  have nAF : A ≠ F := nonn nF eA
  have hpF := hp.ne nF0
  have g2 := g1.new (o := HO.lst ([] : List V)) nF
  have eA2 := updn (o := HO.lst ([] : List V)) nAF eA
  have eF2 : upd H1 F (.lst ([] : List V)) F = some (.lst ([] : List V)) := upd_same
  generalize upd H1 F (.lst ([] : List V)) = H2 at g2 eA2 eF2 ⊢
  refine ⟨_, _, rfl, ?_⟩
  have elen : ((ts.map sx).length : Int) = (ts.length : Int) := by rw [List.length_map]
  refine ⟨_, rfl, ⟨_, rfl, ⟨_, _, rfl, .inl ⟨_, SqL.of eA2, rfl⟩, ?_⟩⟩⟩
  refine ⟨_, _, rfl, ?_⟩
  obtain ⟨N, eN, hN1, hN2⟩ : ∃ N : Nat, (if ((ts.map sx).length : Int) < (c : Int) then ((ts.map sx).length : Int) else (c : Int)) = (N : Int) ∧ N ≤ c ∧ N ≤ ts.length := by
    rw [elen]
    split
    · exact ⟨ts.length, rfl, by omega, Nat.le_refl _⟩
    · exact ⟨c, rfl, Nat.le_refl _, by omega⟩
  rw [eN]
  refine ⟨_, rfl, by omega, by omega, ?_⟩
  refine for_it walk_range (fun i σ' H' => ∃ (x5 : Option V) (us ls : List (List Nat)), σ' = [some (.ref p), some (.ref L), some (.int c), some (.ref A), some (.ref F), x5] ∧ Go p H H' ∧ H' A = some (.lst (ls.map sx)) ∧ H' F = some (.lst (us.map sx)) ∧ (us ++ ls).Perm ts ∧ us.length = i) ⟨_, [], ts, rfl, g2, eA2, eF2, .refl _, rfl⟩ (fun _ _ _ _ _ => trivial) ?_ ?_
  · rintro i x σ' H3 H3' hi ⟨x5, us, ls, rfl, g3, eA3, eF3, pm, lu⟩ ⟨rfl, rfl⟩
    have hi' : i < N := by omega
    have pl := pm.length_eq
    rw [List.length_append] at pl
    refine ⟨_, rfl, ⟨.inl ⟨rfl, _, SqL.of eF3⟩, ?_⟩⟩
    refine ⟨_, rfl, ⟨.inl ⟨rfl, _, SqL.of eA3⟩, ?_⟩⟩
    refine ⟨_, rfl, ⟨_, rfl, ⟨_, _, rfl, .inl ⟨_, SqL.of eA3, rfl⟩, ?_⟩⟩⟩
    rw [List.length_map]
    refine draw_go g3.pot (by omega) (by omega) fun d H4 d0 d1 g4 => ?_
    obtain ⟨j, rfl⟩ := Int.eq_ofNat_of_zero_le d0
    have hj : j < ls.length := by omega
    have eA4 := g4.kp eA3 hpA
    have eF4 := g4.kp eF3 hpF
    have g34 := g3.trans g4
    refine ⟨A, ls.map sx, j, j, sx ls[j], rfl, rfl, eA4, by omega, by omega, ?_, by rw [List.getElem?_map, List.getElem?_eq_getElem hj]; rfl, ?_⟩
    · rw [List.length_map]
      exact seq_nat hj
    refine ⟨F, us.map sx, _, rfl, rfl, updn (Ne.symm nAF) eF4, szt (by rw [List.length_map]; omega), ?_⟩
    refine ⟨_, us ++ [ls[j]], ls.eraseIdx j, rfl, ((g34.mut nA hpA).mut nF0 hpF), ?_, ?_, ?_, by rw [List.length_append]; show _ + 1 = _; omega⟩
    · refine updn nAF ?_
      rw [upd_same]
      exact congrArg (fun z => some (HO.lst z)) (erase_map sx ls j)
    · rw [upd_same, List.map_append]
      rfl
    · rw [List.append_assoc]
      exact ((List.Perm.append_left us (cons_erase ls j hj)).trans pm)
  · rintro σ' H3 ⟨x5, us, ls, rfl, g3, eA3, eF3, pm, lu⟩
    refine ⟨_, rfl, ?_⟩
    exact k F us ls H3 nF0 g3 eF3 pm (by omega)
end
open PySem PySem.Spec PyProof.Rows
open L2 hiding pass0
abbrev s_law_grown : Stmt := top 61
theorem sc_law_grown : FnScope ["_law_pot_here", "_law_size_here", "_law_many", "_law_found", "_law_turn", "_law_base", "_law_way", "_law_fresh"] ["_law_pot_here", "_law_size_here", "_law_many"] (defScope s_law_grown) := ⟨rfl, rfl, rfl, by decide +kernel, rfl, by decide +kernel, by decide +kernel⟩
theorem bp_law_grown : BndP "_law_grown" s_law_grown ["_law_pot_here", "_law_size_here", "_law_many"] := fun _ _ _ _ _ _ us h => match us, h with | [_, _, _], _ => rfl
theorem atI_last (b : List Nat) (y : Nat) : atI (SX.S (b ++ [y])).cps.toList (-1) = some y := by
  have e : (SX.S (b ++ [y])).cps.toList = b ++ [y] := by unfold SX.S; simp
  rw [e]
  unfold atI ixN
  rw [List.length_append, if_neg (by decide), if_pos (by show -((b.length + 1 : Nat) : Int) ≤ -1; omega)]
  show (b ++ [y])[_]? = some y
  rw [show (-1 + ((b.length + [y].length : Nat) : Int)).toNat = b.length by show (-1 + ((b.length + 1 : Nat) : Int)).toNat = _; omega]
  simp
@[irreducible] def spGr : Sp := fun vs H Q _ => ∃ (p : Addr) (n c : Nat), vs = [.ref p, .int n, .int c] ∧ PotAt H p ∧ 1 ≤ n ∧ n ≤ 100 ∧ c ≤ 100 ∧
  ∀ (L : Addr) (ts : List (List Nat)) H', H L = none → Go p H H' → H' L = some (.lst ((([] : List Nat) :: ts).map sx)) → Fits n ([] :: ts) → (([] : List Nat) :: ts).Nodup → ts.length ≤ c → Q (.ref L) H'
theorem gr_go {p : Addr} {n c : Nat} {H : Hp} {Q : VK} {E : XK} (hp : PotAt H p) (h0 : 1 ≤ n) (h1 : n ≤ 100) (hc : c ≤ 100)
    (k : ∀ (L : Addr) (ts : List (List Nat)) H', H L = none → Go p H H' → H' L = some (.lst ((([] : List Nat) :: ts).map sx)) → Fits n ([] :: ts) → (([] : List Nat) :: ts).Nodup → ts.length ≤ c → Q (.ref L) H') : spGr [.ref p, .int n, .int c] H Q E := by
  unfold spGr
  exact ⟨p, n, c, rfl, hp, h0, h1, hc, k⟩
section
variable {P : Program} {w : World} {K : PySem.W.Frag} {mg : Str → Option Value} {base : Heap} {f : Addr} {fd : FuncData}
theorem ok_grown (F : Fun K "_law_grown" "_law_grown" s_law_grown f fd) (hm : mg "_law_grown" = some (.ref f)) (T : Txt K mg) (c_law_draw : Nm P w K mg base CX0 1 "_law_draw" s_law_draw ["_law_pot_here", "_law_many"] (spDraw)) (c_law_pick : Nm P w K mg base CX0 2 "_law_pick" s_law_pick ["_law_pot_here", "_law_some_here"] (spAmong K)) (c_law_bits : Nm P w K mg base CX0 3 "_law_bits" s_law_bits ["_law_pot_here", "_law_size_here"] (spBitsN)) : Nm P w K mg base CX0 4 "_law_grown" s_law_grown ["_law_pot_here", "_law_size_here", "_law_many"] (spGr) := by
  refine nm_of0 F hm sc_law_grown (fun vs H Q E h => ?_) fun cdv A outer s H vs Q E hr h => ?_
  · unfold spGr at h
    obtain ⟨p, n, c, rfl, hp, h0, h1, hc, k⟩ := h
    subst_vars
    rfl
  unfold spGr at h
  obtain ⟨p, n, c, rfl, hp, h0, h1, hc, k⟩ := h
  refine ⟨_, (pss_cons (ps_set (i := 3) sc_law_grown.nd rfl (by first | exact Or.inl rfl | exact Or.inr rfl) (pe_lst (pa_cons pe_str pa_nil)))
      (pss_cons (ps_for PassesOwn.never rfl (pi_range1 (by rfl) T.b_range (pa_cons (pv 2) pa_nil)) (pg_name (i := 4) sc_law_grown.nd rfl (by first | exact Or.inl rfl | exact Or.inr rfl)) (C8.pss_cut (ps_par (i := 5) (j := 6) (by rfl) sc_law_grown.nd rfl rfl (by decide) rfl rfl (pa_cons (pe_g c_law_pick hr (by decide) L2.pass0 bp_law_pick (by rfl) (pa_cons (pv 0) (pa_cons (pv 3) pa_nil))) (pa_cons (pe_g c_law_draw hr (by decide) L2.pass0 bp_law_draw (by rfl) (pa_cons (pv 0) (pa_cons pe_int pa_nil))) pa_nil)) (by rfl))
      (C8.pss_cut (ps_set (i := 7) sc_law_grown.nd rfl (by first | exact Or.inl rfl | exact Or.inr rfl) (pe_op op_add_str (pv 5) (pe_g c_law_bits hr (by decide) L2.pass0 bp_law_bits (by rfl) (pa_cons (pv 0) (pa_cons (pe_g c_law_draw hr (by decide) L2.pass0 bp_law_draw (by rfl) (pa_cons (pv 0) (pa_cons (pe_op op_add (pe_op op_sub (pv 1) (pe_callB (call_lenK (K := K) rfl) (by rfl) T.b_len PySem.boot_len (pa_cons (pv 5) pa_nil))) pe_int) pa_nil))) pa_nil)))))
      (C8.pss_cut (ps_if (pt_cmpR op_eq (pv 6) pe_int (nomark _)) (pss_one (ps_set (i := 7) sc_law_grown.nd rfl (by first | exact Or.inl rfl | exact Or.inr rfl) (pe_slice sl_str (pv 5) po_none (po_some (pe_g c_law_draw hr (by decide) L2.pass0 bp_law_draw (by rfl) (pa_cons (pv 0) (pa_cons (pe_op op_add (pe_callB (call_lenK (K := K) rfl) (by rfl) T.b_len PySem.boot_len (pa_cons (pv 5) pa_nil)) pe_int) pa_nil))))))) pss_nil)
      (C8.pss_cut (ps_if (PW.pt (pw_and (pt_cmpR op_eq (pv 6) pe_int (nomark _)) (pw_and1 (pt_cmpR op_ne (pv 5) pe_str (nomark _))))) (pss_one (ps_set (i := 7) sc_law_grown.nd rfl (by first | exact Or.inl rfl | exact Or.inr rfl) (pe_op op_add_str (pe_slice sl_str (pv 5) po_none (po_some (pe_un un_neg pe_int))) (pe_callTy call_str_int (by rfl) T.b_str (by decide +kernel) (pa_cons (pe_op op_sub pe_int (pe_callTy call_int_str (by rfl) T.b_int (by decide +kernel) (pa_cons (pe_ix (ix_seqK (K := K) rfl) (pv 5) (pe_un un_neg pe_int) (fun _ _ => rfl)) pa_nil))) pa_nil))))) pss_nil)
      (C8.pss_cut (ps_if (pt_cmpR op_eq (pv 6) pe_int (nomark _)) (pss_one (ps_set (i := 7) sc_law_grown.nd rfl (by first | exact Or.inl rfl | exact Or.inr rfl) (pe_op op_add_str (pv 5) (pe_g c_law_bits hr (by decide) L2.pass0 bp_law_bits (by rfl) (pa_cons (pv 0) (pa_cons (pe_op op_sub (pv 1) (pe_callB (call_lenK (K := K) rfl) (by rfl) T.b_len PySem.boot_len (pa_cons (pv 5) pa_nil))) pa_nil)))))) pss_nil)
      (pss_one (ps_if (pt_cmpR (op_notInK (K := K) rfl) (pv 7) (pv 3) rfl) (pss_one (ps_expr (pe_bm PySem.F.plainAttrs_list PySem.F.slot_list_append PySem.F.type_list_append mt_append (pv 3) (pa_cons (pv 7) pa_nil)))) pss_nil))))))))
      (pss_one (ps_ret (pv 3))))), ?_⟩
  refine ⟨szl (by show 1 ≤ 1000000; decide), fun L nL => ?_⟩
  have npL := hp.ne nL
  have g1 := (Go.refl hp).new (o := HO.lst [.str ""]) nL
  have eL : upd H L (.lst [.str ""]) L = some (.lst ((([] : List Nat) :: []).map sx)) := upd_same
  generalize upd H L (.lst [.str ""]) = H1 at g1 eL ⊢
  refine ⟨_, rfl, ⟨_, rfl, by omega, by omega, ?_⟩⟩
  refine for_it walk_range (fun i σ' H' => ∃ (x4 x5 x6 x7 : Option V) (ts : List (List Nat)), σ' = [some (.ref p), some (.int n), some (.int c), some (.ref L), x4, x5, x6, x7] ∧ Go p H H' ∧ H' L = some (.lst ((([] : List Nat) :: ts).map sx)) ∧ Fits n ([] :: ts) ∧ (([] : List Nat) :: ts).Nodup ∧ ts.length ≤ i) ⟨_, _, _, _, [], rfl, g1, eL, (fun t h => by rw [List.mem_singleton] at h; subst h; exact ⟨(fun c h => by cases h), Nat.zero_le _⟩), by simp, Nat.le_refl _⟩ (fun _ _ _ _ _ => trivial) ?_ ?_
  · rintro i x σ' Hz H3 hi ⟨x4, x5, x6, x7, ts, rfl, g3, eL3, ff, nd, lt⟩ ⟨rfl, rfl⟩
    have frame : ∀ {H' : Hp}, Go p H3 H' → Go p H H' ∧ H' L = some (.lst ((([] : List Nat) :: ts).map sx)) := fun g => ⟨g3.trans g, g.kp eL3 npL⟩
    refine ⟨fun σ' H' => ∃ (t : List Nat) (w : Int), σ' = [some (.ref p), some (.int n), some (.int c), some (.ref L), some (.int (0 + (i : Int))), some (sx t), some (.int w), x7] ∧ Go p H3 H' ∧ M.BL t ∧ t.length ≤ n, ?_, ?_⟩
    · refine ⟨_, rfl, ⟨_, rfl, ?_⟩⟩
      refine among_l g3.pot npL (SqL.of eL3) (by simp) (by rw [List.length_map, List.length_cons]; omega) fun v hv H4 g4 => ?_
      obtain ⟨t, ht, rfl⟩ := List.mem_map.mp hv
      refine ⟨_, rfl, ?_⟩
      refine draw_go g4.pot (by decide) (by decide) fun d H5 d0 d1 g5 => ?_
      refine ⟨_, _, rfl, ?_⟩
      exact ⟨t, d, rfl, g4.trans g5, (ff t ht).1, (ff t ht).2⟩
    rintro σ' H4 ⟨t, w, rfl, g4, tb, tl⟩
    have lt5 : (SX.S t).length = t.length := sx_len t
    refine ⟨fun σ' H' => ∃ (u : List Nat), σ' = [some (.ref p), some (.int n), some (.int c), some (.ref L), some (.int (0 + (i : Int))), some (sx t), some (.int w), some (sx u)] ∧ Go p H3 H' ∧ M.BL u ∧ u.length ≤ n, ?_, ?_⟩
    · refine ⟨_, rfl, ⟨_, rfl, ⟨_, rfl, ⟨_, rfl, ⟨_, rfl, ⟨_, _, rfl, ⟨szl (by omega), rfl⟩, ?_⟩⟩⟩⟩⟩⟩
      refine ⟨_, _, rfl, rfl, ⟨_, _, rfl, rfl, ?_⟩⟩
      refine draw_go g4.pot (by omega) (by omega) fun d H5 d0 d1 g5 => ?_
      obtain ⟨j, rfl⟩ := Int.eq_ofNat_of_zero_le d0
      refine bitsn_go g5.pot (by omega) fun z H6 hz lz g6 => ?_
      refine ⟨_, _, rfl, rfl, szl (by omega), ?_⟩
      refine ⟨t ++ z.cps.toList, by rw [show SX.S t ++ z = SX.S (t ++ z.cps.toList) from by rw [← S_app, SX.S_tl]]; rfl, (g4.trans g5).trans g6, tb.app hz, ?_⟩
      rw [List.length_append, len_tl]
      omega
    rintro σ' H5 ⟨u, rfl, g5, ub, ul⟩
    clear g4
    refine ⟨fun σ' H' => ∃ (u : List Nat), σ' = [some (.ref p), some (.int n), some (.int c), some (.ref L), some (.int (0 + (i : Int))), some (sx t), some (.int w), some (sx u)] ∧ Go p H3 H' ∧ M.BL u ∧ u.length ≤ n, ?_, ?_⟩
    · refine ⟨_, rfl, ?_⟩
      refine ⟨rfl, ⟨_, rfl, ?_⟩⟩
      refine ite2 (fun cw => ?_) fun cw => ?_
      · refine ⟨_, rfl, ⟨_, rfl, ⟨_, rfl, ⟨_, _, rfl, ⟨szl (by omega), rfl⟩, ?_⟩⟩⟩⟩
        refine ⟨_, _, rfl, rfl, ?_⟩
        refine draw_go g5.pot (by omega) (by omega) fun d H6 d0 d1 g6 => ?_
        obtain ⟨j, rfl⟩ := Int.eq_ofNat_of_zero_le d0
        refine ⟨_, rfl, ⟨_, rfl, szl (by omega), ?_⟩⟩
        rw [cut_S t (k := j) rfl]
        exact ⟨t.take j, rfl, g5.trans g6, fun y hy => tb y (List.mem_of_mem_take hy), by rw [List.length_take]; omega⟩
      · exact ⟨u, rfl, g5, ub, ul⟩
    rintro σ' H6 ⟨u, rfl, g6, ub, ul⟩
    clear g5
    refine ⟨fun σ' H' => ∃ (u : List Nat), σ' = [some (.ref p), some (.int n), some (.int c), some (.ref L), some (.int (0 + (i : Int))), some (sx t), some (.int w), some (sx u)] ∧ Go p H3 H' ∧ M.BL u ∧ u.length ≤ n, ?_, ?_⟩
    · refine ⟨_, rfl, ?_⟩
      refine ⟨rfl, ⟨_, rfl, ?_⟩⟩
      refine ite2 (fun c1 => ?_) fun c1 => ?_
      · refine ⟨_, rfl, ?_⟩
        refine ⟨rfl, ⟨_, rfl, ?_⟩⟩
        refine ite2 (fun c2 => ?_) fun c2 => ?_
        · have hne : t ≠ [] := fun e => by rw [e] at c2; cases c2
          refine ⟨_, rfl, ⟨_, rfl, ⟨_, rfl, ⟨_, rfl, szl (by omega), ?_⟩⟩⟩⟩
          rw [cut_last t hne]
          obtain ⟨b, y, rfl⟩ : ∃ b y, t = b ++ [y] := ⟨t.dropLast, t.getLast hne, (List.dropLast_concat_getLast hne).symm⟩
          have hy := tb y (List.mem_append_right _ (List.mem_singleton.mpr rfl))
          rw [List.dropLast_concat]
          rw [List.length_append] at tl lt5
          have bl : (SX.S b).length = b.length := sx_len b
          have hb1 : b.length + 1 ≤ n := tl
          refine ⟨_, rfl, ⟨_, rfl, ?_⟩⟩
          refine .inr (.inr ⟨SX.S (b ++ [y]), _, y, rfl, rfl, szl (by omega), atI_last b y, ?_⟩)
          rcases hy with rfl | rfl
          · refine ⟨_, 0, rfl, by decide +kernel, by decide +kernel, ?_⟩
            refine ⟨_, _, rfl, rfl, ?_⟩
            refine ⟨_, rfl, by decide +kernel, ?_⟩
            refine ⟨_, _, rfl, rfl, szl (by rw [bl]; show b.length + 1 ≤ _; omega), ?_⟩
            refine ⟨b ++ [49], ?_, g6, tb.l.app (fun q hq => by rw [List.mem_singleton] at hq; exact .inr hq), by rw [List.length_append]; exact hb1⟩
            rw [show SX.S b ++ Str.ofString (toString ((1 : Int) - 0)) = SX.S (b ++ [49]) from by rw [← S_app]; congr 1]
            rfl
          · refine ⟨_, 1, rfl, by decide +kernel, by decide +kernel, ?_⟩
            refine ⟨_, _, rfl, rfl, ?_⟩
            refine ⟨_, rfl, by decide +kernel, ?_⟩
            refine ⟨_, _, rfl, rfl, szl (by rw [bl]; show b.length + 1 ≤ _; omega), ?_⟩
            refine ⟨b ++ [48], ?_, g6, tb.l.app (fun q hq => by rw [List.mem_singleton] at hq; exact .inl hq), by rw [List.length_append]; exact hb1⟩
            rw [show SX.S b ++ Str.ofString (toString ((1 : Int) - 1)) = SX.S (b ++ [48]) from by rw [← S_app]; congr 1]
            rfl
        · exact ⟨u, rfl, g6, ub, ul⟩
      · exact iteF ⟨u, rfl, g6, ub, ul⟩
    rintro σ' H7 ⟨u, rfl, g7, ub, ul⟩
    clear g6
    refine ⟨fun σ' H' => ∃ (u : List Nat), σ' = [some (.ref p), some (.int n), some (.int c), some (.ref L), some (.int (0 + (i : Int))), some (sx t), some (.int w), some (sx u)] ∧ Go p H3 H' ∧ M.BL u ∧ u.length ≤ n, ?_, ?_⟩
    · refine ⟨_, rfl, ?_⟩
      refine ⟨rfl, ⟨_, rfl, ?_⟩⟩
      refine ite2 (fun cw => ?_) fun cw => ?_
      · refine ⟨_, rfl, ⟨_, rfl, ⟨_, rfl, ⟨_, rfl, ⟨_, _, rfl, ⟨szl (by omega), rfl⟩, ?_⟩⟩⟩⟩⟩
        refine ⟨_, _, rfl, rfl, ?_⟩
        rw [show ((fun i j : Int => V.int (i - j)) (n : Int) ((SX.S t).length : Int)) = V.int ((n - t.length : Nat) : Int) from congrArg V.int (by omega)]
        refine bitsn_go g7.pot (by omega) fun z H8 hz lz g8 => ?_
        refine ⟨_, _, rfl, rfl, szl (by omega), ?_⟩
        refine ⟨t ++ z.cps.toList, by rw [show SX.S t ++ z = SX.S (t ++ z.cps.toList) from by rw [← S_app, SX.S_tl]]; rfl, g7.trans g8, tb.app hz, ?_⟩
        rw [List.length_append, len_tl]
        omega
      · exact ⟨u, rfl, g7, ub, ul⟩
    rintro σ' H8 ⟨u, rfl, g8, ub, ul⟩
    clear g7
    have eL8 := g8.kp eL3 npL
    refine ⟨_, rfl, ⟨_, rfl, ?_⟩⟩
    refine ⟨L, _, rfl, .inl (SqL.of eL8), rfl, flat_sx _, ?_⟩
    rw [if_pos rfl, any_sx]
    refine ⟨_, rfl, ?_⟩
    by_cases q : u ∈ ([] : List Nat) :: ts
    · rw [decide_eq_true q]
      refine iteF ?_
      exact ⟨_, _, _, _, ts, rfl, g3.trans g8, eL8, ff, nd, by omega⟩
    · rw [decide_eq_false q]
      refine iteT ?_
      refine ⟨_, rfl, ⟨.inl ⟨rfl, _, SqL.of eL8⟩, ⟨_, rfl, ⟨_, _, _, rfl, rfl, eL8, szt (by rw [List.length_map, List.length_cons]; omega), ?_⟩⟩⟩⟩
      refine ⟨_, _, _, _, ts ++ [u], rfl, (g3.trans g8).mut nL npL, ?_, fun y hy => ?_, ?_, by rw [List.length_append]; show _ + 1 ≤ _; omega⟩
      · rw [upd_same, ← List.cons_append, List.map_append]
        rfl
      · rw [← List.cons_append] at hy
        rcases List.mem_append.mp hy with h | h
        · exact ff y h
        · rw [List.mem_singleton] at h
          subst h
          exact ⟨ub, ul⟩
      · rw [← List.cons_append]
        exact List.nodup_append.mpr ⟨nd, by simp, fun a ha b hb => by rw [List.mem_singleton] at hb; subst hb; exact fun e => q (e ▸ ha)⟩
  · rintro σ' H3 ⟨x4, x5, x6, x7, ts, rfl, g3, eL3, ff, nd, lt⟩
    refine ⟨_, rfl, ?_⟩
    exact k L ts H3 nL g3 eL3 ff nd (by omega)
end
open PySem PySem.Spec PyProof.Rows
open L2 hiding pass0
/-- what the longest beginning is led to -/
def gv (f : Str → Option Str) (z : Str) (i : Nat) : Option Str := (lbP f z i).bind f
theorem goal_gv (f : Str → Option Str) (z : Str) : goalT f z = (gv f z (z.length + 1)).getD "hole" := by
  unfold goalT gv lb
  cases h : lbP f z (z.length + 1) with
  | none => rfl
  | some x =>
    have := (lbP_some h).1
    obtain ⟨g, hg⟩ := Option.isSome_iff_exists.mp this
    show (f x).getD _ = (f x).getD _
    rw [hg]
    rfl
theorem gv_succ (f : Str → Option Str) (z : Str) (i : Nat) : gv f z (i + 1) = (f (px z i)).or (gv f z i) := by
  unfold gv
  cases h : f (px z i) with
  | none => rw [lbP_no (by rw [h]; rfl)]; rfl
  | some g => rw [lbP_yes (by rw [h]; rfl)]; show f (px z i) = _; rw [h]; rfl
theorem nd_len : ∀ {gs L : List (List Nat)}, gs.Nodup → (∀ g ∈ gs, g ∈ L) → gs.length ≤ L.length
  | [], _, _, _ => Nat.zero_le _
  | g :: gs, L, h, s => by
    have hn := List.nodup_cons.mp h
    have hg := s g List.mem_cons_self
    have := nd_len (gs := gs) (L := L.erase g) hn.2 fun x hx => (List.mem_erase_of_ne (fun e : x = g => hn.1 (e ▸ hx))).mpr (s x (List.mem_cons_of_mem _ hx))
    rw [List.length_erase_of_mem hg] at this
    have pos : 0 < L.length := List.length_pos_of_mem hg
    rw [List.length_cons]
    omega
def gsN (n : Nat) (m : List (Str × Str)) (fs : List (List Nat)) : List (List Nat) := (dd (tsort (((M.addrs n).filter fun z => !M.frB fs z).map fun z => SX.S (gS m z)))).map fun z => z.cps.toList
theorem gsN_ord (n : Nat) (m : List (Str × Str)) (fs : List (List Nat)) : (gsN n m fs).Pairwise (· < ·) := by
  unfold gsN
  rw [List.pairwise_map]
  generalize (((M.addrs n).filter fun z => !M.frB fs z).map fun z => SX.S (gS m z)) = zs
  have h1 : (dd (tsort zs)).Pairwise fun a b => tLt b a = false := by
    have := fold_sub (tsort zs) []
    rw [List.nil_append] at this
    exact (tsort_ts _).sublist this
  have h2 : (dd (tsort zs)).Pairwise (· ≠ ·) := fold_nd _ [] .nil
  refine (h1.and h2).imp fun {a b} h => ?_
  by_cases c : tLt a b = true
  · exact of_decide_eq_true c
  · exact absurd (tLt_tot (by simpa using c) h.1) h.2
theorem gsN_mem {n : Nat} {m : List (Str × Str)} {fs : List (List Nat)} {g : List Nat} : g ∈ gsN n m fs ↔ cn n m fs g ≠ 0 := by
  have e1 : cn n m fs g ≠ 0 ↔ ∃ z ∈ M.addrs n, (!M.frB fs z) = true ∧ gS m z = g := by
    unfold cn
    rw [← Nat.pos_iff_ne_zero, List.countP_pos_iff]
    constructor
    · rintro ⟨z, hz, h⟩
      have h2 := (Bool.and_eq_true _ _).mp h
      exact ⟨z, hz, h2.1, of_decide_eq_true h2.2⟩
    · rintro ⟨z, hz, h, e⟩
      exact ⟨z, hz, (Bool.and_eq_true _ _).mpr ⟨h, decide_eq_true e⟩⟩
  rw [e1]
  unfold gsN dd
  rw [List.mem_map]
  constructor
  · rintro ⟨y, hy, rfl⟩
    rcases (fold_mem _ []).mp hy with h | h
    · cases h
    · obtain ⟨z, hz, rfl⟩ := List.mem_map.mp ((tsort_perm _).mem_iff.mp h)
      have h' := List.mem_filter.mp hz
      exact ⟨z, h'.1, h'.2, by rw [tl_S]⟩
  · rintro ⟨z, hz, h, rfl⟩
    exact ⟨SX.S (gS m z), (fold_mem _ []).mpr (.inr ((tsort_perm _).mem_iff.mpr (List.mem_map.mpr ⟨z, List.mem_filter.mpr ⟨hz, h⟩, rfl⟩))), tl_S _⟩
theorem cnt_is {H : Hp} {D : Addr} {n : Nat} {m : List (Str × Str)} {fs : List (List Nat)} (h : CntAt H D n m fs) : H D = some (.dK (fd (gsN n m fs) fun g => .int ((cn n m fs g : Nat) : Int))) := by
  obtain ⟨gs, o, hm, e⟩ := h
  rw [ord_eq o (gsN_ord n m fs) fun g => by rw [hm, gsN_mem]] at e
  exact e
def nbP (n : Nat) (m : List (Str × Str)) (fs : List (List Nat)) : PyData := .dict ((gsN n m fs).map fun g => (.str (SX.S g), .int ((cn n m fs g : Nat) : Int)))
theorem gS_congr {m m' : List (Str × Str)} (h : ∀ x, look m x = look m' x) : gS m = gS m' := funext fun z => by
  unfold gS
  rw [show look m = look m' from funext h]
theorem flat_fd (gs : List (List Nat)) (c : List Nat → Nat) : Flat (fd gs fun g => .int ((c g : Nat) : Int)) (gs.map fun g => (PyData.str (SX.S g), PyData.int ((c g : Nat) : Int))) := by
  induction gs with
  | nil => exact .nil
  | cons p m ih => exact .cons (k := Sum.inr (SX.S p)) rfl ih
theorem gS_low {n : Int} {m : List (Str × Str)} {z : List Nat} (h : ∀ p ∈ m, RowOk n p) : Low (SX.S (gS m z)) ∧ (SX.S (gS m z)).length ≤ 200 := by
  unfold gS
  rw [SX.S_tl]
  exact goal_low h
theorem gS_in (m : List (Str × Str)) (z : List Nat) : gS m z ∈ ("hole" : Str).cps.toList :: m.map fun p => p.2.cps.toList := by
  unfold gS goalT
  cases hl : lb (look m) (SX.S z) with
  | none => exact List.mem_cons_self
  | some x =>
    obtain ⟨g, hg⟩ := Option.isSome_iff_exists.mp (lbP_some hl).1
    show ((look m x).getD _).cps.toList ∈ _
    rw [hg]
    obtain ⟨p, hp, _, rfl⟩ := look_mem hg
    exact List.mem_cons_of_mem _ (List.mem_map.mpr ⟨p, hp, rfl⟩)
theorem cn_in {n : Nat} {m : List (Str × Str)} {fs : List (List Nat)} {g : List Nat} (h : cn n m fs g ≠ 0) : g ∈ ("hole" : Str).cps.toList :: m.map fun p => p.2.cps.toList := by
  unfold cn at h
  obtain ⟨z, hz, q⟩ := List.countP_pos_iff.mp (Nat.pos_iff_ne_zero.mpr h)
  have := of_decide_eq_true ((Bool.and_eq_true _ _).mp q).2
  rw [← this]
  exact gS_in m z
theorem goals_few {n : Nat} {m : List (Str × Str)} {fs : List (List Nat)} {gs : List (List Nat)} (nd : gs.Nodup) (h : ∀ g ∈ gs, cn n m fs g ≠ 0) : gs.length ≤ m.length + 1 := by
  refine Nat.le_trans (nd_len nd fun g hg => cn_in (h g hg)) ?_
  rw [List.length_cons, List.length_map]
  exact Nat.le_refl _
theorem cn_le (n : Nat) (m : List (Str × Str)) (fs : List (List Nat)) (g : List Nat) : cn n m fs g ≤ 2 ^ n := by
  rw [← M.addrs_len]
  exact List.countP_le_length
theorem fitB_100 {N D c : Nat} (h : c ≤ 2 ^ 100) : FitB 40 N D (.int (c : Int)) := by
  have e3 : 2 ^ 100 < 10 ^ 31 := by decide
  have e4 : 2 ^ 100 < 2 ^ 1900 := Nat.pow_lt_pow_right (by decide) (by decide)
  exact FitB.int (k := 31) (by decide) (by decide) (by rw [Int.natAbs_natCast]; exact Nat.lt_of_le_of_lt h e3) (by rw [Int.natAbs_natCast]; exact Nat.lt_of_le_of_lt h e4)
theorem cnt_rpB {K : PySem.W.Frag} {H : Hp} {D : Addr} {n k : Nat} {m : List (Str × Str)} {fs : List (List Nat)} (h : CntAt H D n m fs) (hn : n ≤ 100) (lm : m.length ≤ 40) (ok : ∀ p ∈ m, RowOk k p) :
    Rp K H (.ref D) (nbP n m fs) ∧ PyData.showable (nbP n m fs) = true ∧ PyData.depth (nbP n m fs) ≤ 50 ∧ (nbP n m fs).shown.length ≤ sizeLine := by
  have lg := goals_few (nd_of_ord (gsN_ord n m fs)) fun g hg => gsN_mem.mp hg
  have hf := FitB.dict (B := 40) (N := 200) (D := 0) (ds := (gsN n m fs).map fun g => (PyData.str (SX.S g), PyData.int ((cn n m fs g : Nat) : Int))) (by
    intro p hp
    obtain ⟨g, hg, rfl⟩ := List.mem_map.mp hp
    have hc := gsN_mem.mp hg
    have hg' : ∃ z, gS m z = g := by
      unfold cn at hc
      obtain ⟨z, hz, q⟩ := List.countP_pos_iff.mp (Nat.pos_iff_ne_zero.mpr hc)
      exact ⟨z, of_decide_eq_true ((Bool.and_eq_true _ _).mp q).2⟩
    obtain ⟨z, rfl⟩ := hg'
    obtain ⟨q1, q2⟩ := gS_low (z := z) ok
    have e1 := cn_le n m fs (gS m z)
    have e2 : 2 ^ n ≤ 2 ^ 100 := Nat.pow_le_pow_right (by decide) hn
    exact ⟨FitB.str q1 q2, fitB_100 (Nat.le_trans e1 e2)⟩)
  have hR : Rp K H (.ref D) (nbP n m fs) := .dct (cnt_is h) (flat_fd _ _)
  refine ⟨hR, ?_⟩
  unfold nbP
  refine FitB.ok (hf.mono (N' := 402 * 41) (D' := 1) ?_ (Nat.le_refl _)) (by decide) (by decide) (by decide)
  rw [List.length_map]
  exact Nat.mul_le_mul_left _ (by omega)
theorem CntAt.congr {H : Hp} {D : Addr} {n : Nat} {m m' : List (Str × Str)} {fs : List (List Nat)} (h : ∀ x, look m x = look m' x) (c : CntAt H D n m fs) : CntAt H D n m' fs := by
  unfold CntAt cn at c ⊢
  rw [gS_congr h] at c
  exact c
theorem fw_look {n : Nat} {m r : List (Str × Str)} {fs : List (List Nat)} {g : Str} (h : ∀ x, look r x = look m x) : fw n r fs g = fw n m fs g := by
  have e : look r = look m := funext h
  unfold fw
  congr 1
  funext z
  unfold qw gS
  rw [e]
def RowsIn (n : Nat) (m : List (Str × Str)) : Prop := ∀ p ∈ m, M.BL p.1.cps.toList ∧ p.1.length ≤ n
theorem rows_in {n : Nat} {m : List (Str × Str)} (ok : TabOk (n : Int) m) : RowsIn n m := fun p hp => by
  have := ok.rows p hp
  exact ⟨this.1, by have := this.2.1; omega⟩
/-! ### pieces: stretches within which all addresses go alike -/
theorem addrs_cons : ∀ k, M.addrs (k + 1) = (M.addrs k).map (48 :: ·) ++ (M.addrs k).map (49 :: ·)
  | 0 => rfl
  | k + 1 => by
    have g : ∀ (b : Nat) (l : List (List Nat)), (l.map (b :: ·)).flatMap (fun r => [r ++ [48], r ++ [49]]) = (l.flatMap fun r => [r ++ [48], r ++ [49]]).map (b :: ·) := fun b l => by
      rw [List.flatMap_map, List.map_flatMap]
      rfl
    show (M.addrs (k + 1)).flatMap (fun r => [r ++ [48], r ++ [49]]) = ((M.addrs k).flatMap fun r => [r ++ [48], r ++ [49]]).map (48 :: ·) ++ ((M.addrs k).flatMap fun r => [r ++ [48], r ++ [49]]).map (49 :: ·)
    rw [← g, ← g, ← List.flatMap_append, ← addrs_cons k]
/-- the row of the stretch, or what is led to anyway -/
def aimOf (m : List (Str × Str)) (x a : List Nat) : List Nat := ((look m (SX.S x)).map fun g : Str => g.cps.toList).getD a
def pcs (ins : List Nat → Bool) (m : List (Str × Str)) (fs : List (List Nat)) : Nat → List Nat → List Nat → List (List Nat × List Nat)
  | 0, x, a => if decide (x ∈ fs) = true then [] else if ins x = true then [] else [(x, aimOf m x a)]
  | k + 1, x, a => if decide (x ∈ fs) = true then [] else if ins x = true then pcs ins m fs k (x ++ [48]) (aimOf m x a) ++ pcs ins m fs k (x ++ [49]) (aimOf m x a) else [(x, aimOf m x a)]
/-- the addresses of pieces, in order -/
def ofP (n : Nat) (l : List (List Nat × List Nat)) : List (List Nat) := l.flatMap fun q => (M.addrs (n - q.1.length)).map (q.1 ++ ·)
theorem ofP_app (n : Nat) (a b : List (List Nat × List Nat)) : ofP n (a ++ b) = ofP n a ++ ofP n b := List.flatMap_append
/-- what is known of a stretch on the way -/
structure Way (n : Nat) (m : List (Str × Str)) (fs : List (List Nat)) (x a : List Nat) (k : Nat) : Prop where
  bl : M.BL x
  len : x.length + k = n
  free : ∀ f ∈ fs, f <+: x → f = x
  aim : ((gv (look m) (SX.S x) x.length).getD "hole").cps.toList = a
theorem gv_pre (f : Str → Option Str) (x z : List Nat) : ∀ i, i ≤ x.length + 1 → gv f (SX.S (x ++ z)) i = gv f (SX.S x) i
  | 0, _ => rfl
  | i + 1, h => by rw [gv_succ, gv_succ, px_S, px_S, gv_pre f x z i (by omega), List.take_append_of_le_length (by omega)]
theorem gv_aim {n : Nat} {m : List (Str × Str)} {fs : List (List Nat)} {x a : List Nat} {k : Nat} (w : Way n m fs x a k) : ((gv (look m) (SX.S x) (x.length + 1)).getD "hole").cps.toList = aimOf m x a := by
  rw [gv_succ, px_S, List.take_length]
  unfold aimOf
  rw [← w.aim]
  cases look m (SX.S x) <;> rfl
theorem Way.step {n : Nat} {m : List (Str × Str)} {fs : List (List Nat)} {x a : List Nat} {k b : Nat} (w : Way n m fs x a (k + 1)) (hx : x ∉ fs) (hb : b = 48 ∨ b = 49) : Way n m fs (x ++ [b]) (aimOf m x a) k := by
  refine ⟨fun c hc => ?_, by rw [List.length_append]; have := w.len; show x.length + 1 + k = n; omega, fun f hf hp => ?_, ?_⟩
  · rcases List.mem_append.mp hc with h | h
    · exact w.bl c h
    · rw [List.mem_singleton] at h
      exact h ▸ hb
  · by_cases q : f.length ≤ x.length
    · have hp' : f <+: x := List.prefix_of_prefix_length_le hp (List.prefix_append _ _) q
      exact absurd (w.free f hf hp' ▸ hf) hx
    · refine List.IsPrefix.eq_of_length hp ?_
      have := hp.length_le
      rw [List.length_append] at this ⊢
      have e1 : [b].length = 1 := rfl
      omega
  · rw [List.length_append]
    show ((gv (look m) (SX.S (x ++ [b])) (x.length + 1)).getD "hole").cps.toList = _
    rw [gv_pre _ _ _ _ (Nat.le_refl _)]
    exact gv_aim w
/-- what is inside: proper beginnings of rows' stretches and of free ones -/
def InsOk (ins : List Nat → Bool) (m : List (Str × Str)) (fs : List (List Nat)) : Prop := ∀ x, ins x = true ↔ ∃ t ∈ m.map (fun p => p.1.cps.toList) ++ fs, x <+: t ∧ x ≠ t
section
variable {ins : List Nat → Bool} {n : Nat} {m : List (Str × Str)} {fs : List (List Nat)} (hi : InsOk ins m fs)
include hi
theorem leaf_free {x a : List Nat} {k : Nat} (w : Way n m fs x a k) (hx : x ∉ fs) (h : ins x = false) (z : List Nat) : M.frB fs (x ++ z) = false := by
  unfold M.frB
  rw [List.any_eq_false]
  intro f hf e
  have hp := of_decide_eq_true e
  by_cases q : f.length ≤ x.length
  · exact hx (w.free f hf (List.prefix_of_prefix_length_le hp (List.prefix_append _ _) q) ▸ hf)
  · have hp' : x <+: f := List.prefix_of_prefix_length_le (List.prefix_append _ _) hp (by omega)
    have : ins x = true := (hi x).mpr ⟨f, List.mem_append_right _ hf, hp', fun e => q (by rw [e]; exact Nat.le_refl _)⟩
    rw [h] at this
    cases this
theorem leaf_gv {x : List Nat} (h : ins x = false) (z : List Nat) : ∀ j, j ≤ z.length → gv (look m) (SX.S (x ++ z)) (x.length + 1 + j) = gv (look m) (SX.S x) (x.length + 1)
  | 0, _ => gv_pre _ _ _ _ (Nat.le_refl _)
  | j + 1, hj => by
    rw [← Nat.add_assoc, gv_succ, leaf_gv h z j (by omega), px_S]
    cases hl : look m (SX.S ((x ++ z).take (x.length + 1 + j))) with
    | none => rfl
    | some g =>
      obtain ⟨p, hp, e, _⟩ := look_mem hl
      have : ins x = true := (hi x).mpr ⟨(x ++ z).take (x.length + 1 + j), List.mem_append_left _ (List.mem_map.mpr ⟨p, hp, by rw [e, tl_S]⟩), ?_, fun q => ?_⟩
      · rw [h] at this
        cases this
      · rw [List.prefix_take_iff]
        exact ⟨List.prefix_append _ _, by omega⟩
      · have := congrArg List.length q
        rw [List.length_take, List.length_append] at this
        omega
theorem leaf_gS {x a : List Nat} {k : Nat} (w : Way n m fs x a k) (h : ins x = false) (z : List Nat) : gS m (x ++ z) = aimOf m x a := by
  unfold gS
  rw [goal_gv, sx_len, List.length_append, Nat.add_right_comm, leaf_gv hi h z z.length (Nat.le_refl _)]
  exact gv_aim w
theorem pcs_ok (hl : ∀ t ∈ m.map (fun p => p.1.cps.toList) ++ fs, t.length ≤ n) : ∀ (k : Nat) (x a : List Nat), Way n m fs x a k →
    ofP n (pcs ins m fs k x a) = ((M.addrs k).map (x ++ ·)).filter (fun z => !M.frB fs z) ∧ ∀ q ∈ pcs ins m fs k x a, M.BL q.1 ∧ q.1.length ≤ n ∧ ∀ z, gS m (q.1 ++ z) = q.2 := by
  have inF : ∀ (k : Nat) (x : List Nat), x ∈ fs → ((M.addrs k).map (x ++ ·)).filter (fun z => !M.frB fs z) = [] := fun k x hx => by
    rw [List.filter_eq_nil_iff]
    intro z hz
    obtain ⟨y, _, rfl⟩ := List.mem_map.mp hz
    have : M.frB fs (x ++ y) = true := List.any_eq_true.mpr ⟨x, hx, decide_eq_true (List.prefix_append _ _)⟩
    rw [this]
    decide
  have leaf : ∀ (k : Nat) (x a : List Nat), Way n m fs x a k → x ∉ fs → ins x = false → ofP n [(x, aimOf m x a)] = ((M.addrs k).map (x ++ ·)).filter (fun z => !M.frB fs z) ∧ ∀ q ∈ [(x, aimOf m x a)], M.BL q.1 ∧ q.1.length ≤ n ∧ ∀ z, gS m (q.1 ++ z) = q.2 := fun k x a w hx h => by
    have ek : n - x.length = k := by have := w.len; omega
    refine ⟨?_, fun q hq => ?_⟩
    · rw [List.filter_eq_self.mpr fun z hz => ?_]
      · show (M.addrs (n - x.length)).map (x ++ ·) ++ [] = _
        rw [ek, List.append_nil]
      · obtain ⟨y, _, rfl⟩ := List.mem_map.mp hz
        rw [leaf_free hi w hx h]
        rfl
    · rw [List.mem_singleton] at hq
      subst hq
      exact ⟨w.bl, by have := w.len; show x.length ≤ n; omega, fun z => leaf_gS hi w h z⟩
  intro k
  induction k with
  | zero =>
    intro x a w
    unfold pcs
    by_cases hx : x ∈ fs
    · rw [if_pos (decide_eq_true hx), inF 0 x hx]
      exact ⟨rfl, fun q hq => by cases hq⟩
    · rw [if_neg (by simpa using hx)]
      cases h : ins x with
      | true =>
        obtain ⟨t, ht, hp, hne⟩ := (hi x).mp h
        have := hl t ht
        have e : x = t := List.IsPrefix.eq_of_length hp (by have := hp.length_le; have := w.len; omega)
        exact absurd e hne
      | false =>
        rw [if_neg (by decide)]
        exact leaf 0 x a w hx h
  | succ k ih =>
    intro x a w
    unfold pcs
    by_cases hx : x ∈ fs
    · rw [if_pos (decide_eq_true hx), inF (k + 1) x hx]
      exact ⟨rfl, fun q hq => by cases hq⟩
    · rw [if_neg (by simpa using hx)]
      cases h : ins x with
      | true =>
        rw [if_pos rfl]
        obtain ⟨a1, a2⟩ := ih _ _ (w.step hx (.inl rfl))
        obtain ⟨b1, b2⟩ := ih _ _ (w.step hx (.inr rfl))
        refine ⟨?_, fun q hq => (List.mem_append.mp hq).elim (a2 q) (b2 q)⟩
        rw [ofP_app, a1, b1, addrs_cons, List.map_append, List.filter_append, List.map_map, List.map_map]
        congr 2
        · congr 1
          funext z
          show x ++ [48] ++ z = x ++ 48 :: z
          simp
        · congr 1
          funext z
          show x ++ [49] ++ z = x ++ 49 :: z
          simp
      | false =>
        rw [if_neg (by decide)]
        exact leaf (k + 1) x a w hx h
end
theorem way0 (n : Nat) (m : List (Str × Str)) (fs : List (List Nat)) : Way n m fs [] ("hole" : Str).cps.toList n := ⟨(fun c h => by cases h), Nat.zero_add _, fun f _ h => List.prefix_nil.mp h, rfl⟩
/-- counted by pieces -/
theorem cnt_ofP (n : Nat) (m : List (Str × Str)) (g : List Nat) : ∀ l : List (List Nat × List Nat), (∀ q ∈ l, ∀ z, gS m (q.1 ++ z) = q.2) → (ofP n l).countP (fun z => decide (gS m z = g)) = (l.map fun q => if q.2 = g then 2 ^ (n - q.1.length) else 0).sum
  | [], _ => rfl
  | q :: l, h => by
    have e : ofP n (q :: l) = (M.addrs (n - q.1.length)).map (q.1 ++ ·) ++ ofP n l := rfl
    rw [e, List.countP_append, cnt_ofP n m g l fun x hx => h x (List.mem_cons_of_mem _ hx), List.map_cons, List.sum_cons, List.countP_map]
    congr 1
    have hq := h q List.mem_cons_self
    by_cases c : q.2 = g
    · rw [if_pos c, ← M.addrs_len]
      exact List.countP_eq_length.mpr fun z _ => decide_eq_true ((hq z).trans c)
    · rw [if_neg c]
      exact List.countP_eq_zero.mpr fun z _ => by
        show ¬ decide (gS m (q.1 ++ z) = g) = true
        rw [hq z]
        simpa using c
theorem head_ofP (n : Nat) (m : List (Str × Str)) (g : List Nat) : ∀ l : List (List Nat × List Nat), (∀ q ∈ l, ∀ z, gS m (q.1 ++ z) = q.2) → ((ofP n l).filter (fun z => decide (gS m z = g))).head? = (l.find? fun q => decide (q.2 = g)).map fun q => q.1 ++ List.replicate (n - q.1.length) 48
  | [], _ => rfl
  | q :: l, h => by
    have e : ofP n (q :: l) = (M.addrs (n - q.1.length)).map (q.1 ++ ·) ++ ofP n l := rfl
    have hq := h q List.mem_cons_self
    have zero : ∀ k, (M.addrs k).head? = some (List.replicate k 48) := fun k => by
      induction k with
      | zero => rfl
      | succ k ih =>
        rw [addrs_cons, List.head?_append, List.head?_map, ih]
        rfl
    rw [e, List.filter_append, List.filter_map]
    by_cases c : q.2 = g
    · rw [List.find?_cons_of_pos (p := fun x : List Nat × List Nat => decide (x.2 = g)) (decide_eq_true c), show (M.addrs (n - q.1.length)).filter ((fun z => decide (gS m z = g)) ∘ fun x => q.1 ++ x) = M.addrs (n - q.1.length) from List.filter_eq_self.mpr fun z _ => decide_eq_true ((hq z).trans c), List.head?_append, List.head?_map, zero]
      rfl
    · have none' : (M.addrs (n - q.1.length)).filter ((fun z => decide (gS m z = g)) ∘ fun x => q.1 ++ x) = [] := by
        rw [List.filter_eq_nil_iff]
        intro z _ e
        exact c ((hq z).symm.trans (of_decide_eq_true e))
      rw [none', List.find?_cons_of_neg (p := fun x : List Nat × List Nat => decide (x.2 = g)) (by simpa using c)]
      exact head_ofP n m g l fun x hx => h x (List.mem_cons_of_mem _ hx)
open PySem PySem.Spec PyProof.Rows
open L2 hiding pass0
abbrev s_law_pieces : Stmt := top 64
theorem sc_law_pieces : FnScope ["_law_size_here", "_law_rows", "_law_idle", "_law_inside", "_law_found", "_law_waiting", "_law_part", "_law_at", "_law_aim"] ["_law_size_here", "_law_rows", "_law_idle"] (defScope s_law_pieces) := ⟨rfl, rfl, rfl, by decide +kernel, rfl, by decide +kernel, by decide +kernel⟩
theorem bp_law_pieces : BndP "_law_pieces" s_law_pieces ["_law_size_here", "_law_rows", "_law_idle"] := fun _ _ _ _ _ _ us h => match us, h with | [_, _, _], _ => rfl
/-- the tuples of pieces -/
def P3 (H : Hp) (n : Nat) (as : List Addr) (l : List (List Nat × List Nat)) : Prop := Paired (fun (a : Addr) (q : List Nat × List Nat) => H a = some (.tup [sx q.1, sx q.2, .int ((2 ^ (n - q.1.length) : Nat) : Int)])) as l
def P2 (H : Hp) (as : List Addr) (l : List (List Nat × List Nat)) : Prop := Paired (fun (a : Addr) (q : List Nat × List Nat) => H a = some (.tup [sx q.1, sx q.2])) as l
def keysOf (m : List (Str × Str)) (fs : List (List Nat)) : List (List Nat) := m.map (fun p => p.1.cps.toList) ++ fs
def insB (ks : List (List Nat)) (x : List Nat) : Bool := ks.any fun t => decide (x <+: t ∧ x ≠ t)
@[irreducible] def spPc : Sp := fun vs H Q _ => ∃ (D F : Addr) (n : Nat) (m : List (Str × Str)) (fs : List (List Nat)), vs = [.int n, .ref D, .ref F] ∧ H D = some (.dK (tk m)) ∧ H F = some (.lst (fs.map sx)) ∧ TabOk n m ∧ m.length ≤ 20 ∧ Fits n fs ∧ fs.length ≤ 20 ∧
  ∀ (L : Addr) (as : List Addr) H', Same H H' → H L = none → H' L = some (.lst (as.map V.ref)) → P3 H' n as (pcs (insB (keysOf m fs)) m fs n [] ("hole" : Str).cps.toList) → Q (.ref L) H'
theorem S_cp (s : Str) : SX.S s.cps.toList = s := by cases s; unfold SX.S; simp
theorem keys_sx (m : List (Str × Str)) (fs : List (List Nat)) : ((tk m).map fun kv => kV kv.1) ++ fs.map sx = (keysOf m fs).map sx := by
  unfold keysOf tk
  rw [List.map_append, List.map_map, List.map_map]
  congr 1
theorem sx_at {ts : List (List Nat)} {i : Nat} {x : V} (h : (ts.map sx)[i]? = some x) : ∃ t, ts[i]? = some t ∧ x = sx t := by
  rw [List.getElem?_map] at h
  cases e : ts[i]? with
  | none => rw [e] at h; cases h
  | some t => rw [e] at h; exact ⟨t, rfl, (Option.some.inj h).symm⟩
/-- what lies inside, so far -/
def InsAt (ts : List (List Nat)) (i j : Nat) (ks : List (List Nat)) : Prop := (∀ x, x ∈ ks ↔ ((∃ t ∈ ts.take i, x <+: t ∧ x ≠ t) ∨ ∃ t, ts[i]? = some t ∧ ∃ l, l < j ∧ l < t.length ∧ x = t.take l)) ∧ ks.length ≤ 100 * i + j
theorem InsAt.next {ts : List (List Nat)} {i : Nat} {ks : List (List Nat)} {t : List Nat} (h : InsAt ts i t.length ks) (ht : ts[i]? = some t) (hl : t.length ≤ 100) : InsAt ts (i + 1) 0 ks := by
  refine ⟨fun x => (h.1 x).trans ?_, by have := h.2; omega⟩
  rw [List.take_add_one, ht]
  constructor
  · rintro (⟨u, hu, q⟩ | ⟨u, hu, l, l1, l2, rfl⟩)
    · exact .inl ⟨u, List.mem_append_left _ hu, q⟩
    · cases hu
      refine .inl ⟨t, List.mem_append_right _ (List.mem_singleton.mpr rfl), List.take_prefix _ _, fun e => ?_⟩
      have := congrArg List.length e
      rw [List.length_take] at this
      omega
  · rintro (⟨u, hu, q, q2⟩ | ⟨u, _, l, l1, _⟩)
    · rcases List.mem_append.mp hu with hu | hu
      · exact .inl ⟨u, hu, q, q2⟩
      · have : u = t := by simpa using hu
        subst this
        have hx : x.length < u.length := by
          rcases Nat.lt_or_ge x.length u.length with g | g
          · exact g
          · exact absurd (List.IsPrefix.eq_of_length q (Nat.le_antisymm q.length_le g)) q2
        exact .inr ⟨u, rfl, x.length, hx, hx, (List.prefix_iff_eq_take.mp q)⟩
    · omega
theorem InsAt.put {ts : List (List Nat)} {i j : Nat} {ks : List (List Nat)} {t : List Nat} (h : InsAt ts i j ks) (ht : ts[i]? = some t) (hj : j < t.length) : InsAt ts i (j + 1) (if t.take j ∈ ks then ks else ks ++ [t.take j]) := by
  have key : ∀ x, (x ∈ ks ∨ x = t.take j) ↔ ((∃ t ∈ ts.take i, x <+: t ∧ x ≠ t) ∨ ∃ t, ts[i]? = some t ∧ ∃ l, l < j + 1 ∧ l < t.length ∧ x = t.take l) := fun x => by
    rw [h.1 x]
    constructor
    · rintro ((q | ⟨u, hu, l, l1, l2, e⟩) | rfl)
      · exact .inl q
      · exact .inr ⟨u, hu, l, by omega, l2, e⟩
      · exact .inr ⟨t, ht, j, by omega, hj, rfl⟩
    · rintro (q | ⟨u, hu, l, l1, l2, e⟩)
      · exact .inl (.inl q)
      · rcases Nat.lt_or_ge l j with g | g
        · exact .inl (.inr ⟨u, hu, l, g, l2, e⟩)
        · have : l = j := by omega
          subst this
          rw [ht] at hu
          cases hu
          exact .inr e
  have hl := h.2
  split
  · refine ⟨fun x => ?_, by omega⟩
    rw [← key x]
    exact ⟨.inl, fun q => q.elim id fun e => by rw [e]; assumption⟩
  · refine ⟨fun x => ?_, by rw [List.length_append]; show ks.length + 1 ≤ _; omega⟩
    rw [← key x, List.mem_append, List.mem_singleton]
theorem InsAt.done {ts : List (List Nat)} {ks : List (List Nat)} (h : InsAt ts ts.length 0 ks) (x : List Nat) : decide (x ∈ ks) = insB ts x := by
  unfold insB
  rw [Bool.eq_iff_iff, decide_eq_true_iff, List.any_eq_true, h.1 x, List.take_length]
  constructor
  · rintro (⟨t, ht, q⟩ | ⟨t, _, l, l1, _⟩)
    · exact ⟨t, ht, decide_eq_true q⟩
    · omega
  · rintro ⟨t, ht, q⟩
    exact .inl ⟨t, ht, of_decide_eq_true q⟩
/-- how many stretches a stretch falls into at most -/
def room (ts : List (List Nat)) (x : List Nat) : Nat := (ts.map fun t => if x <+: t then t.length - x.length else 0).sum
theorem sum_le {f g : List Nat → Nat} : ∀ (ts : List (List Nat)), (∀ t ∈ ts, g t ≤ f t) → (ts.map g).sum ≤ (ts.map f).sum
  | [], _ => Nat.le_refl _
  | t :: ts, h => by
    rw [List.map_cons, List.map_cons, List.sum_cons, List.sum_cons]
    have := h t List.mem_cons_self
    have := sum_le ts fun x hx => h x (List.mem_cons_of_mem _ hx)
    omega
theorem sum_lt {f g : List Nat → Nat} : ∀ (ts : List (List Nat)), (∀ t ∈ ts, g t ≤ f t) → (∃ t ∈ ts, g t + 1 ≤ f t) → (ts.map g).sum + 1 ≤ (ts.map f).sum
  | [], _, h => by obtain ⟨t, ht, _⟩ := h; cases ht
  | t :: ts, h, e => by
    rw [List.map_cons, List.map_cons, List.sum_cons, List.sum_cons]
    have h1 := h t List.mem_cons_self
    have h2 := sum_le ts fun x hx => h x (List.mem_cons_of_mem _ hx)
    obtain ⟨u, hu, q⟩ := e
    rcases List.mem_cons.mp hu with rfl | hu
    · omega
    · have := sum_lt ts (fun x hx => h x (List.mem_cons_of_mem _ hx)) ⟨u, hu, q⟩
      omega
theorem sum_add2 (f g : List Nat → Nat) : ∀ ts : List (List Nat), (ts.map fun t => f t + g t).sum = (ts.map f).sum + (ts.map g).sum
  | [] => rfl
  | t :: ts => by
    rw [List.map_cons, List.map_cons, List.map_cons, List.sum_cons, List.sum_cons, List.sum_cons, sum_add2 f g ts]
    omega
theorem room_split {ts : List (List Nat)} {x : List Nat} (h : insB ts x = true) : room ts (x ++ [48]) + room ts (x ++ [49]) + 1 ≤ room ts x := by
  unfold room
  rw [← sum_add2]
  have key : ∀ t, ((if x ++ [48] <+: t then t.length - (x ++ [48]).length else 0) + (if x ++ [49] <+: t then t.length - (x ++ [49]).length else 0) ≤ (if x <+: t then t.length - x.length else 0)) ∧ (x <+: t → x ≠ t → (if x ++ [48] <+: t then t.length - (x ++ [48]).length else 0) + (if x ++ [49] <+: t then t.length - (x ++ [49]).length else 0) + 1 ≤ (if x <+: t then t.length - x.length else 0)) := fun t => by
    have ln : ∀ b : Nat, (x ++ [b]).length = x.length + 1 := fun b => List.length_append
    rw [ln, ln]
    by_cases c : x <+: t
    · have lt := c.length_le
      have le2 : ∀ b : Nat, x ++ [b] <+: t → x.length + 1 ≤ t.length := fun b h => by have := h.length_le; rw [ln] at this; exact this
      have ne2 : ¬ (x ++ [48] <+: t ∧ x ++ [49] <+: t) := fun ⟨p, q⟩ => by
        have := List.prefix_of_prefix_length_le p q (by rw [ln, ln]; exact Nat.le_refl _)
        have := List.IsPrefix.eq_of_length this (by rw [ln, ln])
        simp at this
      have ne3 : x ≠ t → x.length < t.length := fun ne => by
        rcases Nat.lt_or_ge x.length t.length with g | g
        · exact g
        · exact absurd (List.IsPrefix.eq_of_length c (by omega)) ne
      rw [if_pos c]
      by_cases p : x ++ [48] <+: t
      · have := le2 _ p
        have q : ¬ x ++ [49] <+: t := fun q => ne2 ⟨p, q⟩
        rw [if_pos p, if_neg q]
        omega
      · rw [if_neg p]
        by_cases q : x ++ [49] <+: t
        · have := le2 _ q
          rw [if_pos q]
          omega
        · rw [if_neg q]
          exact ⟨by omega, fun _ ne => by have := ne3 ne; omega⟩
    · have no : ∀ b : Nat, ¬ x ++ [b] <+: t := fun b h => c ((List.prefix_append _ _).trans h)
      rw [if_neg (no 48), if_neg (no 49), if_neg c]
      exact ⟨Nat.le_refl _, fun q => absurd q c⟩
  refine sum_lt ts (fun t _ => (key t).1) ?_
  unfold insB at h
  obtain ⟨t, ht, q⟩ := List.any_eq_true.mp h
  obtain ⟨q1, q2⟩ := of_decide_eq_true q
  exact ⟨t, ht, (key t).2 q1 q2⟩
theorem pcs_len (ts : List (List Nat)) (m : List (Str × Str)) (fs : List (List Nat)) : ∀ (k : Nat) (x a : List Nat), (pcs (insB ts) m fs k x a).length ≤ 1 + room ts x
  | 0, x, a => by
    unfold pcs
    split
    · exact Nat.zero_le _
    · split
      · exact Nat.zero_le _
      · show 1 ≤ _
        omega
  | k + 1, x, a => by
    unfold pcs
    split
    · exact Nat.zero_le _
    · split
      · rename_i h
        have h1 := pcs_len ts m fs k (x ++ [48]) (aimOf m x a)
        have h2 := pcs_len ts m fs k (x ++ [49]) (aimOf m x a)
        have := room_split h
        rw [List.length_append]
        omega
      · show 1 ≤ _
        omega
theorem room_le {ts : List (List Nat)} {n : Nat} (h : ∀ t ∈ ts, t.length ≤ n) (x : List Nat) : room ts x ≤ n * ts.length := by
  unfold room
  induction ts with
  | nil => exact Nat.zero_le _
  | cons t ts ih =>
    have := ih fun t ht => h t (List.mem_cons_of_mem _ ht)
    have h1 := h t List.mem_cons_self
    rw [List.map_cons, List.sum_cons, List.length_cons, Nat.mul_succ]
    split <;> omega
/-- of the signs and length of goals -/
def GoalL (a : List Nat) : Prop := (∀ c ∈ a, c < 128) ∧ a.length ≤ 200
theorem aim_goal {n : Int} {m : List (Str × Str)} (h : ∀ p ∈ m, RowOk n p) {x a : List Nat} (ha : GoalL a) : GoalL (aimOf m x a) := by
  unfold aimOf
  cases e : look m (SX.S x) with
  | none => exact ha
  | some g =>
    obtain ⟨p, hp, _, rfl⟩ := look_mem e
    exact ⟨(h p hp).2.2.2.1, (h p hp).2.2.2.2⟩
theorem hole_goal : GoalL ("hole" : Str).cps.toList := ⟨by decide +kernel, by decide +kernel⟩
/-- what waits, what is found -/
structure Wts (n : Nat) (m : List (Str × Str)) (fs : List (List Nat)) (ts : List (List Nat)) (fl st : List (List Nat × List Nat)) : Prop where
  all : fl ++ st.reverse.flatMap (fun q : List Nat × List Nat => pcs (insB ts) m fs (n - q.1.length) q.1 q.2) = pcs (insB ts) m fs n [] ("hole" : Str).cps.toList
  way : ∀ q ∈ st, Way n m fs q.1 q.2 (n - q.1.length) ∧ GoalL q.2
  dep : ∀ (i : Nat) (q : List Nat × List Nat), st[i]? = some q → i ≤ q.1.length
def wmu (n : Nat) (st : List (List Nat × List Nat)) : Nat := (st.map fun q : List Nat × List Nat => 2 ^ (n + 1 - q.1.length) - 1).sum
section
variable {n : Nat} {m : List (Str × Str)} {fs ts : List (List Nat)} {fl st : List (List Nat × List Nat)}
theorem wts0 : Wts n m fs ts [] [([], ("hole" : Str).cps.toList)] := by
  refine ⟨?_, fun q hq => ?_, fun i q h => ?_⟩
  · show pcs (insB ts) m fs (n - 0) [] ("hole" : Str).cps.toList ++ [] = _
    rw [List.append_nil, Nat.sub_zero]
  · rw [List.mem_singleton] at hq
    subst hq
    exact ⟨way0 n m fs, hole_goal⟩
  · cases i with
    | zero => exact Nat.zero_le _
    | succ i => cases h
theorem Wts.top {q : List Nat × List Nat} (h : Wts n m fs ts fl (st ++ [q])) : M.BL q.1 ∧ q.1.length ≤ n ∧ Way n m fs q.1 q.2 (n - q.1.length) ∧ GoalL q.2 ∧ st.length ≤ q.1.length := by
  obtain ⟨a, b⟩ := h.way q (List.mem_append_right _ (List.mem_singleton.mpr rfl))
  exact ⟨a.bl, by have := a.len; omega, a, b, h.dep st.length q (by rw [List.getElem?_append_right (Nat.le_refl _)]; simp)⟩
theorem Wts.flat {q : List Nat × List Nat} (h : Wts n m fs ts fl (st ++ [q])) : fl ++ (pcs (insB ts) m fs (n - q.1.length) q.1 q.2 ++ st.reverse.flatMap (fun q : List Nat × List Nat => pcs (insB ts) m fs (n - q.1.length) q.1 q.2)) = pcs (insB ts) m fs n [] ("hole" : Str).cps.toList := by
  have := h.all
  rw [List.reverse_append] at this
  exact this
theorem Wts.rest {q : List Nat × List Nat} (h : Wts n m fs ts fl (st ++ [q])) : (∀ q ∈ st, Way n m fs q.1 q.2 (n - q.1.length) ∧ GoalL q.2) ∧ ∀ (i : Nat) (q : List Nat × List Nat), st[i]? = some q → i ≤ q.1.length :=
  ⟨fun z hz => h.way z (List.mem_append_left _ hz), fun i z hz => h.dep i z (by
    have : i < st.length := (List.getElem?_eq_some_iff.mp hz).1
    rw [List.getElem?_append_left this]
    exact hz)⟩
theorem pcs_free (k : Nat) {x : List Nat} (hx : x ∈ fs) (a : List Nat) : pcs (insB ts) m fs k x a = [] := by
  cases k <;> (unfold pcs; rw [if_pos (decide_eq_true hx)])
theorem pcs_leaf (k : Nat) {x : List Nat} (hx : x ∉ fs) (h : insB ts x = false) (a : List Nat) : pcs (insB ts) m fs k x a = [(x, aimOf m x a)] := by
  cases k <;> (unfold pcs; rw [if_neg (by simpa using hx), h, if_neg (by decide)])
/-- a free one is dropped -/
theorem Wts.drop {x a : List Nat} (h : Wts n m fs ts fl (st ++ [(x, a)])) (hx : x ∈ fs) : Wts n m fs ts fl st := by
  have e := h.flat
  rw [pcs_free _ hx, List.nil_append] at e
  exact ⟨e, h.rest.1, h.rest.2⟩
/-- one in which nothing lies is found -/
theorem Wts.leaf {x a : List Nat} (h : Wts n m fs ts fl (st ++ [(x, a)])) (hx : x ∉ fs) (hi : insB ts x = false) : Wts n m fs ts (fl ++ [(x, aimOf m x a)]) st := by
  have e := h.flat
  rw [pcs_leaf _ hx hi, ← List.append_assoc] at e
  exact ⟨e, h.rest.1, h.rest.2⟩
/-- one in which something lies is halved -/
theorem Wts.push {x a : List Nat} {n' : Int} (h : Wts n m fs ts fl (st ++ [(x, a)])) (ok : ∀ p ∈ m, RowOk n' p) (hl : ∀ t ∈ ts, t.length ≤ n) (hx : x ∉ fs) (hi : insB ts x = true) : x.length < n ∧ Wts n m fs ts fl (st ++ [(x ++ [49], aimOf m x a), (x ++ [48], aimOf m x a)]) := by
  obtain ⟨_, l1, way, gl, dp⟩ := h.top
  have lx : x.length < n := by
    unfold insB at hi
    obtain ⟨t, ht, q⟩ := List.any_eq_true.mp hi
    obtain ⟨q1, q2⟩ := of_decide_eq_true q
    have := hl t ht
    have g := q1.length_le
    rcases Nat.lt_or_ge x.length t.length with g2 | g2
    · omega
    · exact absurd (List.IsPrefix.eq_of_length q1 (by omega)) q2
  obtain ⟨k, ek⟩ : ∃ k, n - x.length = k + 1 := ⟨n - x.length - 1, by omega⟩
  have ln : ∀ b : Nat, (x ++ [b]).length = x.length + 1 := fun b => List.length_append
  have ek2 : ∀ b : Nat, n - (x ++ [b]).length = k := fun b => by rw [ln]; omega
  have e := h.flat
  simp only [ek] at e way
  rw [pcs, if_neg (by simpa using hx), if_pos hi] at e
  refine ⟨lx, ⟨?_, fun q hq => ?_, fun i q hq => ?_⟩⟩
  · rw [List.reverse_append, List.flatMap_append]
    show fl ++ ((pcs (insB ts) m fs (n - (x ++ [48]).length) (x ++ [48]) (aimOf m x a) ++ (pcs (insB ts) m fs (n - (x ++ [49]).length) (x ++ [49]) (aimOf m x a) ++ [])) ++ _) = _
    rw [List.append_nil, ek2, ek2]
    exact e
  · rcases List.mem_append.mp hq with hq | hq
    · exact h.rest.1 q hq
    · simp only [List.mem_cons, List.not_mem_nil, or_false] at hq
      rcases hq with rfl | rfl
      · exact ⟨by show Way n m fs _ _ (n - (x ++ [49]).length); rw [ek2]; exact way.step hx (.inr rfl), aim_goal ok gl⟩
      · exact ⟨by show Way n m fs _ _ (n - (x ++ [48]).length); rw [ek2]; exact way.step hx (.inl rfl), aim_goal ok gl⟩
  · rcases Nat.lt_or_ge i st.length with g | g
    · rw [List.getElem?_append_left g] at hq
      exact h.rest.2 i q hq
    · rw [List.getElem?_append_right g] at hq
      have dp' : st.length ≤ x.length := dp
      rcases e2 : i - st.length with _ | _ | j
      · rw [e2] at hq
        cases hq
        show i ≤ (x ++ [49]).length
        rw [ln]
        omega
      · rw [e2] at hq
        cases hq
        show i ≤ (x ++ [48]).length
        rw [ln]
        omega
      · rw [e2] at hq
        cases hq
theorem wmu_app (a b : List (List Nat × List Nat)) : wmu n (a ++ b) = wmu n a + wmu n b := by
  unfold wmu
  rw [List.map_append, List.sum_append]
theorem wmu_drop {q : List Nat × List Nat} (h : q.1.length ≤ n) : wmu n st < wmu n (st ++ [q]) := by
  rw [wmu_app]
  have : 0 < wmu n [q] := by
    show 0 < 2 ^ (n + 1 - q.1.length) - 1 + 0
    have : 2 ^ 1 ≤ 2 ^ (n + 1 - q.1.length) := Nat.pow_le_pow_right (by decide) (by omega)
    omega
  omega
theorem wmu_push {x a b c : List Nat} (h : x.length < n) : wmu n (st ++ [(x ++ [49], b), (x ++ [48], c)]) < wmu n (st ++ [(x, a)]) := by
  rw [wmu_app, wmu_app]
  have : wmu n [(x ++ [49], b), (x ++ [48], c)] < wmu n [(x, a)] := by
    show (2 ^ (n + 1 - (x ++ [49]).length) - 1) + ((2 ^ (n + 1 - (x ++ [48]).length) - 1) + 0) < 2 ^ (n + 1 - x.length) - 1 + 0
    have ln : ∀ b : Nat, (x ++ [b]).length = x.length + 1 := fun b => List.length_append
    rw [ln, ln, show n + 1 - x.length = (n + 1 - (x.length + 1)) + 1 by omega, Nat.pow_succ]
    have := Nat.two_pow_pos (n + 1 - (x.length + 1))
    omega
  omega
end
/-- all tuples stand -/
def TuS (H H' : Hp) : Prop := ∀ (b : Addr) (xs : List V), H b = some (.tup xs) → H' b = some (.tup xs)
theorem TuS.of {H H' : Hp} (s : Same H H') : TuS H H' := fun b xs e => s _ _ e
theorem TuS.lst {H : Hp} {W : Addr} {o : HO} {ys : List V} (e : H W = some (.lst ys)) : TuS H (upd H W o) := fun b xs h => updn (fun q => by rw [q, e] at h; cases h) h
theorem P2.to {H H' : Hp} {as : List Addr} {l : List (List Nat × List Nat)} (h : P2 H as l) (s : TuS H H') : P2 H' as l := Paired.mono (fun a b e => s _ _ e) h
theorem P3.to {H H' : Hp} {n : Nat} {as : List Addr} {l : List (List Nat × List Nat)} (h : P3 H n as l) (s : TuS H H') : P3 H' n as l := Paired.mono (fun a b e => s _ _ e) h
def p2D (q : List Nat × List Nat) : PyData := .tuple [.str (SX.S q.1), .str (SX.S q.2)]
theorem p2_dp {K : PySem.W.Frag} {H : Hp} : ∀ {as : List Addr} {l : List (List Nat × List Nat)}, P2 H as l → DpAll K H (as.map V.ref) (l.map p2D)
  | _, _, .nil => .nil
  | _, _, .cons h r => .cons (.tup (SqT.of h) (.cons (.str _) (.cons (.str _) .nil))) (p2_dp r)
theorem p2_fit {l : List (List Nat × List Nat)} (h : ∀ q ∈ l, M.BL q.1 ∧ q.1.length ≤ 200 ∧ GoalL q.2) : Fit ((201 * 2 + 1) * l.length) 2 (.list (l.map p2D)) := by
  have := Fit.list (N := 201 * 2) (D := 1) (ds := l.map p2D) fun d hd => by
    obtain ⟨q, hq, rfl⟩ := List.mem_map.mp hd
    obtain ⟨h1, h2, h3⟩ := h q hq
    refine Fit.tuple (N := 200) (D := 0) (ds := [.str (SX.S q.1), .str (SX.S q.2)]) fun d hd => ?_
    simp only [List.mem_cons, List.not_mem_nil, or_false] at hd
    rcases hd with rfl | rfl
    · exact .str (sx_bits h1).low (by rw [sx_len]; exact h2)
    · exact .str (fun c hc => h3.1 c (by rw [tl_S] at hc; exact hc)) (by rw [sx_len]; exact h3.2)
  rw [List.length_map] at this
  exact this
theorem p2_eqv (l : List (List Nat × List Nat)) : PyData.eqv (.list (l.map p2D)) (.list []) = decide (l = []) := by
  cases l with
  | nil => rfl
  | cons a r => rfl
theorem tk_sx (m : List (Str × Str)) (x a : List Nat) : (valV (tk m) (skey x)).getD (sx a) = sx (aimOf m x a) := by
  unfold aimOf
  by_cases h : SX.S x ∈ m.map (·.1)
  · have e : (look m (SX.S x)).isSome = true := by rw [look_key, decide_eq_true h]
    unfold skey
    rw [tk_val m h, look_get]
    cases e2 : look m (SX.S x) with
    | none => rw [e2] at e; cases e
    | some g =>
      show V.str g = V.str (SX.S g.cps.toList)
      rw [S_cp]
  · have e : (look m (SX.S x)).isSome = false := by rw [look_key, decide_eq_false h]
    unfold skey
    rw [tk_none m h]
    cases e2 : look m (SX.S x) with
    | none => rfl
    | some g => rw [e2] at e; cases e
theorem inV_sx (h : List Nat) (ks : List (List Nat)) : inV (sx h) (ks.map sx) = decide (h ∈ ks) := by
  unfold inV
  rw [List.any_map]
  induction ks with
  | nil => rfl
  | cons a r ih =>
    rw [List.any_cons, ih]
    have e : ((fun z => eqV z (sx h)) ∘ sx) a = decide (SX.S a = SX.S h) := rfl
    have e2 : decide (SX.S a = SX.S h) = decide (a = h) := decide_eq_decide.mpr ⟨fun q => S_inj q, fun q => by rw [q]⟩
    rw [e, e2]
    by_cases q : h = a
    · simp [q]
    · have : ¬ a = h := fun z => q z.symm
      simp [q, this]
theorem paired_snoc {α β : Type} {F : α → β → Prop} {b : β} : ∀ {l : List β} {as : List α}, Paired F as (l ++ [b]) → ∃ as' a, as = as' ++ [a] ∧ Paired F as' l ∧ F a b
  | [], _, .cons h .nil => ⟨[], _, rfl, .nil, h⟩
  | _ :: l, _, .cons h r => by
    obtain ⟨as', a, e, p, q⟩ := paired_snoc r
    exact ⟨_ :: as', a, by rw [e]; rfl, .cons h p, q⟩
theorem one_S : ("1" : Str) = SX.S [49] := by decide +kernel
theorem zero_S : ("0" : Str) = SX.S [48] := by decide +kernel
section
variable {P : Program} {w : World} {K : PySem.W.Frag} {mg : Str → Option Value} {base : Heap} {f : Addr} {fd' : FuncData}
theorem ok_pieces (F : Fun K "_law_pieces" "_law_pieces" s_law_pieces f fd') (hm : mg "_law_pieces" = some (.ref f)) (T : Txt K mg) : Nm P w K mg base CX0 1 "_law_pieces" s_law_pieces ["_law_size_here", "_law_rows", "_law_idle"] (spPc) := by
  refine nm_of0 F hm sc_law_pieces (fun vs H Q E h => ?_) fun cdv A outer s H vs Q E hr h => ?_
  · unfold spPc at h
    obtain ⟨D, G, n, m, fs, rfl, hD, hG, ok, lm, ff, lf, k⟩ := h
    subst_vars
    rfl
  unfold spPc at h
  obtain ⟨D, G, n, m, fs, rfl, hD, hG, ok, lm, ff, lf, k⟩ := h
  refine ⟨_, (C8.pss_cut (ps_par3 (i := 3) (j := 4) (l := 5) (by rfl) sc_law_pieces.nd rfl rfl rfl (by decide) (by decide) (by decide) rfl rfl rfl (pa_cons pe_dnewK (pa_cons (pe_lst pa_nil) (pa_cons (pe_lst (pa_cons (pe_tup (pa_cons pe_str (pa_cons pe_str pa_nil))) pa_nil)) pa_nil))) (by rfl))
      (C8.pss_cut (ps_for PassesOwn.never rfl (pi_listK (K := K) rfl (pe_op op_cat (pe_callTy (call_listD rfl) (by rfl) T.b_list (by decide +kernel) (pa_cons (pv 1) pa_nil)) (pe_callTy call_list_of (by rfl) T.b_list (by decide +kernel) (pa_cons (pv 2) pa_nil)))) (pg_name (i := 6) sc_law_pieces.nd rfl (by first | exact Or.inl rfl | exact Or.inr rfl)) (pss_one (ps_for PassesOwn.never rfl (pi_range1 (by rfl) T.b_range (pa_cons (pe_callB (call_lenK (K := K) rfl) (by rfl) T.b_len PySem.boot_len (pa_cons (pv 6) pa_nil)) pa_nil)) (pg_name (i := 7) sc_law_pieces.nd rfl (by first | exact Or.inl rfl | exact Or.inr rfl)) (pss_one (ps_asg pe_bl (pg_sub (pv 3) (pe_slice sl_str (pv 6) po_none (po_some (pv 7))) (set_dict hr.u1)))))))
      (pss_cons (ps_while PassesOwn.never (pt_cmpR (op_neDK (K := K) rfl hr.u64) (pv 5) (pe_lst pa_nil) (nomark _)) (C8.pss_cut (ps_asg (pe_bm0 PySem.F.plainAttrs_list PySem.F.slot_list_pop PySem.F.type_list_pop mt_pop (pv 5)) (pg_tup (by rfl) (pgs_cons (pg_name (i := 6) sc_law_pieces.nd rfl (by first | exact Or.inl rfl | exact Or.inr rfl)) (pgs_cons (pg_name (i := 8) sc_law_pieces.nd rfl (by first | exact Or.inl rfl | exact Or.inr rfl)) pgs_nil))))
      (C8.pss_cut (ps_set (i := 8) sc_law_pieces.nd rfl (by first | exact Or.inl rfl | exact Or.inr rfl) (pe_dget2 hr.u1 (pv 1) (pv 6) (pv 8) ⟨by rfl, by rfl, by rfl, by rfl⟩))
      (pss_one (ps_if (PW.pt (pw_and (pt_cmp (pc_din hr.u1 (pv 6) (pv 3))) (pw_and1 (pt_cmpR (op_notInK (K := K) rfl) (pv 6) (pv 2) rfl)))) (pss_one (ps_expr (pe_bm PySem.F.plainAttrs_list PySem.F.slot_list_extend PySem.F.type_list_extend mt_extend (pv 5) (pa_cons (pe_lst (pa_cons (pe_tup (pa_cons (pe_op op_add_str (pv 6) pe_str) (pa_cons (pv 8) pa_nil))) (pa_cons (pe_tup (pa_cons (pe_op op_add_str (pv 6) pe_str) (pa_cons (pv 8) pa_nil))) pa_nil))) pa_nil)))) (pss_one (ps_if (pt_cmpR (op_notInK (K := K) rfl) (pv 6) (pv 2) rfl) (pss_one (ps_expr (pe_bm PySem.F.plainAttrs_list PySem.F.slot_list_append PySem.F.type_list_append mt_append (pv 4) (pa_cons (pe_tup (pa_cons (pv 6) (pa_cons (pv 8) (pa_cons (pe_op op_oneShl pe_int (pe_op op_sub (pv 0) (pe_callB (call_lenK (K := K) rfl) (by rfl) T.b_len PySem.boot_len (pa_cons (pv 6) pa_nil)))) pa_nil)))) pa_nil)))) pss_nil)))))))
      (pss_one (ps_ret (pv 4)))))), ?_⟩
  have lk : ∀ t ∈ keysOf m fs, M.BL t ∧ t.length ≤ n := fun t ht => by
    rcases List.mem_append.mp ht with h | h
    · obtain ⟨p, hp, rfl⟩ := List.mem_map.mp h
      have := ok.rows p hp
      exact ⟨fun c hc => this.1 c hc, by have := this.2.1; show p.1.length ≤ n; omega⟩
    · exact ff t h
  have n1 : n ≤ 100 := by have := ok.w1; omega
  refine ⟨fun σ' H' => ∃ I U W T0, σ' = [some (.int n), some (.ref D), some (.ref G), some (.ref I), some (.ref U), some (.ref W), none, none, none] ∧ Same H H' ∧ H I = none ∧ H U = none ∧ H W = none ∧ I ≠ U ∧ I ≠ W ∧ U ≠ W ∧ I ≠ T0 ∧ U ≠ T0 ∧ W ≠ T0 ∧ H' I = some (.dK []) ∧ H' U = some (.lst []) ∧ H' W = some (.lst [.ref T0]) ∧ H' T0 = some (.tup [sx [], sx ("hole" : Str).cps.toList]), ?_, ?_⟩
  · intro I nI
    refine ⟨szl (Nat.zero_le _), fun U nU => ?_⟩
    refine ⟨szt (by show 2 ≤ 1000000; decide), fun T0 nT => ⟨szl (by show 1 ≤ 1000000; decide), fun W nW => ?_⟩⟩
    have hIU : I ≠ U := fun q => by rw [← q, upd_same] at nU; cases nU
    have hUT : U ≠ T0 := fun q => by rw [← q, upd_same] at nT; cases nT
    have hWT : T0 ≠ W := fun q => by rw [← q, upd_same] at nW; cases nW
    have a1 : upd H I (.dK []) I = some (.dK []) := upd_same
    have a2 : upd (upd H I (.dK [])) U (.lst []) I = some (.dK []) := updn hIU a1
    have hIT : I ≠ T0 := fun q => by rw [← q, a2] at nT; cases nT
    have hIW : I ≠ W := fun q => by
      have : upd (upd (upd H I (.dK [])) U (.lst [])) T0 (.tup [.str "", .str "hole"]) I = some (.dK []) := updn hIT a2
      rw [← q] at nW
      exact absurd (this.symm.trans nW) (by simp)
    have hUW : U ≠ W := fun q => by
      have : upd (upd (upd H I (.dK [])) U (.lst [])) T0 (.tup [.str "", .str "hole"]) U = some (.lst []) := updn hUT upd_same
      rw [← q] at nW
      exact absurd (this.symm.trans nW) (by simp)
    have s1 : Same H (upd H I (.dK [])) := fun b o e => updn (nonn nI e) e
    have s2 : Same H (upd (upd H I (.dK [])) U (.lst [])) := fun b o e => updn (nonn nU (s1 _ _ e)) (s1 _ _ e)
    have s3 : Same H (upd (upd (upd H I (.dK [])) U (.lst [])) T0 (.tup [.str "", .str "hole"])) := fun b o e => updn (nonn nT (s2 _ _ e)) (s2 _ _ e)
    refine ⟨_, _, _, rfl, I, U, W, T0, rfl, fun b o e => updn (nonn nW (s3 _ _ e)) (s3 _ _ e), nI, s1.back nU, s3.back nW, hIU, hIW, hUW, hIT, hUT, hWT.symm, updn hIW (updn hIT a2), updn hUW (updn hUT upd_same), upd_same, ?_⟩
    refine (updn hWT upd_same).trans ?_
    rw [show sx [] = V.str "" from by show V.str (SX.S []) = _; decide +kernel, show sx ("hole" : Str).cps.toList = V.str "hole" from by show V.str (SX.S _) = _; rw [S_cp]]
  rintro σ' H1 ⟨I, U, W, T0, rfl, s1, nI, nU, nW, hIU, hIW, hUW, hIT, hUT, hWT, eI, eU, eW, eT⟩
  refine ⟨fun σ' H' => ∃ x6 x7 ks, σ' = [some (.int n), some (.ref D), some (.ref G), some (.ref I), some (.ref U), some (.ref W), x6, x7, none] ∧ Same H H' ∧ (∀ x, decide (x ∈ ks) = insB (keysOf m fs) x) ∧ H' I = some (.dK (fd ks fun _ => .bl true)) ∧ H' U = some (.lst []) ∧ H' W = some (.lst [.ref T0]) ∧ H' T0 = some (.tup [sx [], sx ("hole" : Str).cps.toList]), ?_, ?_⟩
  · refine ⟨_, rfl, ⟨D, _, rfl, .inl (s1 _ _ hD), fun L0 nL0 => ?_⟩⟩
    have s2 : Same H1 (upd H1 L0 (.lst ((tk m).map fun kv => kV kv.1))) := fun b o e => updn (nonn nL0 e) e
    refine ⟨_, rfl, ⟨G, _, rfl, .inl (SqL.of (s2 _ _ (s1 _ _ hG))), fun L1 nL1 => ?_⟩⟩
    have s3 : Same H1 (upd (upd H1 L0 (.lst ((tk m).map fun kv => kV kv.1))) L1 (.lst (fs.map sx))) := fun b o e => updn (nonn nL1 (s2 _ _ e)) (s2 _ _ e)
    have e0 : upd (upd H1 L0 (.lst ((tk m).map fun kv => kV kv.1))) L1 (.lst (fs.map sx)) L0 = some (.lst ((tk m).map fun kv => kV kv.1)) := updn (fun q => by rw [← q, upd_same] at nL1; cases nL1) upd_same
    refine ⟨L0, L1, _, _, rfl, rfl, e0, upd_same, szl (by rw [List.length_map, List.length_map]; unfold tk; rw [List.length_map]; show _ + _ ≤ 1000000; omega), fun L nL => ?_⟩
    rw [keys_sx]
    have s4 : Same H1 (upd (upd (upd H1 L0 (.lst ((tk m).map fun kv => kV kv.1))) L1 (.lst (fs.map sx))) L (.lst ((keysOf m fs).map sx))) := fun b o e => updn (nonn nL (s3 _ _ e)) (s3 _ _ e)
    have eL : upd (upd (upd H1 L0 (.lst ((tk m).map fun kv => kV kv.1))) L1 (.lst (fs.map sx))) L (.lst ((keysOf m fs).map sx)) L = some (.lst ((keysOf m fs).map sx)) := upd_same
    have hIL : I ≠ L := nonn nL (s3 _ _ eI)
    generalize upd (upd (upd H1 L0 (.lst ((tk m).map fun kv => kV kv.1))) L1 (.lst (fs.map sx))) L (.lst ((keysOf m fs).map sx)) = H2 at s4 eL ⊢
    refine ⟨L, rfl, ⟨_, SqL.of eL⟩, ?_⟩
    refine for_it (walk_list (xs := (keysOf m fs).map sx)) (fun i σ' H' => ∃ x6 x7 ks, σ' = [some (.int n), some (.ref D), some (.ref G), some (.ref I), some (.ref U), some (.ref W), x6, x7, none] ∧ Same H H' ∧ InsAt (keysOf m fs) i 0 ks ∧ H' I = some (.dK (fd ks fun _ => .bl true)) ∧ H' U = some (.lst []) ∧ H' W = some (.lst [.ref T0]) ∧ H' T0 = some (.tup [sx [], sx ("hole" : Str).cps.toList]) ∧ H' L = some (.lst ((keysOf m fs).map sx)))
      ⟨_, _, [], rfl, s1.trans s4, ⟨fun x => ⟨fun h => (by cases h), ?_⟩, Nat.zero_le _⟩, s4 _ _ eI, s4 _ _ eU, s4 _ _ eW, s4 _ _ eT, eL⟩ (fun i σ' H' _ h => let ⟨_, _, _, _, _, _, _, _, _, _, e⟩ := h; SqL.of e) ?_ ?_
    · rintro (⟨t, ht, _⟩ | ⟨t, _, l, l1, _⟩)
      · cases ht
      · omega
    · rintro i x σ' H3 H4 hi ⟨x6, x7, ks, rfl, s5, ia, eI5, eU5, eW5, eT5, eL5⟩ ⟨rfl, hx⟩
      obtain ⟨t, ht, rfl⟩ := sx_at hx
      have tl := (lk t (List.mem_of_getElem? ht)).2
      have hi2 : i < 40 := by
        rw [List.length_map] at hi
        unfold keysOf at hi
        rw [List.length_append, List.length_map] at hi
        omega
      refine ⟨_, rfl, ⟨_, _, rfl, ⟨szl (by rw [sx_len]; omega), rfl⟩, ?_⟩⟩
      refine ⟨_, rfl, by rw [sx_len]; omega, by rw [sx_len]; omega, ?_⟩
      rw [show ((((SX.S t).length : Nat) : Int)).toNat = t.length by rw [sx_len]; omega]
      refine for_it walk_range (fun j σ' H' => ∃ x7 ks, σ' = [some (.int n), some (.ref D), some (.ref G), some (.ref I), some (.ref U), some (.ref W), some (sx t), x7, none] ∧ Same H H' ∧ InsAt (keysOf m fs) i j ks ∧ H' I = some (.dK (fd ks fun _ => .bl true)) ∧ H' U = some (.lst []) ∧ H' W = some (.lst [.ref T0]) ∧ H' T0 = some (.tup [sx [], sx ("hole" : Str).cps.toList]) ∧ H' L = some (.lst ((keysOf m fs).map sx)))
        ⟨_, ks, rfl, s5, ia, eI5, eU5, eW5, eT5, eL5⟩ (fun _ _ _ _ _ => trivial) ?_ ?_
      · rintro j x σ' H5 H6 hj ⟨x7, ks, rfl, s6, ia, eI6, eU6, eW6, eT6, eL6⟩ ⟨rfl, rfl⟩
        refine ⟨_, rfl, ⟨_, rfl, ⟨_, rfl, ⟨_, rfl, ?_⟩⟩⟩⟩
        refine ⟨_, rfl, szl (by rw [sx_len]; omega), ?_⟩
        rw [show (0 + (j : Int)) = ((j : Nat) : Int) from Int.zero_add _, cut_S t (k := j) rfl]
        have hlen := ia.2
        refine ⟨I, _, rfl, .inl ⟨_, skey (t.take j), eI6, rfl, szt (by rw [fd_len]; omega), rfl⟩, ?_⟩
        rw [fd_put]
        refine ⟨_, if t.take j ∈ ks then ks else ks ++ [t.take j], rfl, fun b o e => updn (nonn nI e) (s6 _ _ e), ia.put ht hj, ?_, updn hIU.symm eU6, updn hIW.symm eW6, updn hIT.symm eT6, updn hIL.symm eL6⟩
        rw [upd_same]
        exact congrArg (fun z => some (HO.dK z)) (fd_congr fun s _ => by unfold fup; split <;> rfl)
      · rintro σ' H5 ⟨x7, ks, rfl, s6, ia, eI6, eU6, eW6, eT6, eL6⟩
        exact ⟨_, _, ks, rfl, s6, ia.next ht (by omega), eI6, eU6, eW6, eT6, eL6⟩
    · rintro σ' H5 ⟨x6, x7, ks, rfl, s6, ia, eI6, eU6, eW6, eT6, eL6⟩
      rw [List.length_map] at ia
      exact ⟨_, _, ks, rfl, s6, ia.done, eI6, eU6, eW6, eT6⟩
  rintro σ' H2 ⟨x6, x7, ks, rfl, s2, hks, eI2, eU2, eW2, eT2⟩
  clear s1 eI eU eW eT
  have lks : ∀ t ∈ keysOf m fs, t.length ≤ n := fun t ht => (lk t ht).2
  have lT : (pcs (insB (keysOf m fs)) m fs n [] ("hole" : Str).cps.toList).length ≤ 4001 := by
    refine Nat.le_trans (pcs_len _ _ _ _ _ _) ?_
    have := room_le lks []
    have h2 : (keysOf m fs).length ≤ 40 := by
      unfold keysOf
      rw [List.length_append, List.length_map]
      omega
    have h3 : n * (keysOf m fs).length ≤ 100 * 40 := Nat.mul_le_mul n1 h2
    omega
  refine ⟨fun mm σ' H' => ∃ x6 x7 x8 fl st as ws, σ' = [some (.int n), some (.ref D), some (.ref G), some (.ref I), some (.ref U), some (.ref W), x6, x7, x8] ∧ Same H H' ∧ H' I = some (.dK (fd ks fun _ => .bl true)) ∧ H' U = some (.lst (as.map V.ref)) ∧ P3 H' n as fl ∧ H' W = some (.lst (ws.map V.ref)) ∧ P2 H' ws st ∧ Wts n m fs (keysOf m fs) fl st ∧ mm = wmu n st, ⟨_, _, _, none, [], [([], ("hole" : Str).cps.toList)], [], [T0], rfl, s2, eI2, eU2, .nil, eW2, .cons eT2 .nil, wts0, rfl⟩, ?_⟩
  rintro mm σ' H3 ⟨y6, y7, y8, fl, st, as, ws, rfl, s3, eI3, eU3, p3, eW3, p2, inv, rfl⟩
  clear s2 eI2 eU2 eW2 eT2
  have lst : st.length ≤ n + 1 := by
    rcases Nat.eq_zero_or_pos st.length with g | g
    · omega
    · have h1 := inv.dep (st.length - 1) (st[st.length - 1]'(by omega)) (List.getElem?_eq_getElem _)
      have h2 := (inv.way _ (List.getElem_mem (l := st) (n := st.length - 1) (by omega))).1.len
      omega
  have fit := p2_fit (l := st) fun q hq => ⟨(inv.way q hq).1.bl, by have := (inv.way q hq).1.len; omega, (inv.way q hq).2⟩
  refine ⟨_, rfl, ⟨szl (Nat.zero_le _), fun L4 n4 => ?_⟩⟩
  have s4 := s3.new (o := HO.lst []) n4
  have c4 : Same H3 (upd H3 L4 (.lst [])) := fun b o e => updn (nonn n4 e) e
  have e4 : upd H3 L4 (.lst []) L4 = some (.lst []) := upd_same
  generalize upd H3 L4 (.lst []) = H4 at s4 c4 e4 ⊢
  have p24 := P2.to p2 (TuS.of c4)
  have p34 := P3.to p3 (TuS.of c4)
  have eI4 := c4 _ _ eI3
  have eU4 := c4 _ _ eU3
  have eW4 := c4 _ _ eW3
  refine ⟨_, _, .lst (SqL.of eW4) (p2_dp p24), .lst (SqL.of e4) .nil, fit.shp (by decide), rfl, ?_⟩
  rw [p2_eqv]
  refine ⟨_, rfl, ?_⟩
  clear s3 c4 e4 n4 p2 p3 eI3 eU3 eW3
  rcases List.eq_nil_or_concat st with rfl | ⟨st, ⟨x, a⟩, rfl⟩
  · refine iteF ?_
    have e := inv.all
    rw [List.reverse_nil, List.flatMap_nil, List.append_nil] at e
    subst e
    exact ⟨_, rfl, k U as H4 s4 nU eU4 p34⟩
  rw [List.concat_eq_append] at *
  obtain ⟨b0, b1, b2, b3, b4⟩ := inv.top
  rw [show (!decide ((st ++ [(x, a)]) = [])) = true by rw [decide_eq_false (by simp)]; rfl]
  refine iteT ?_
  obtain ⟨ws, wa, rfl, p25, ea⟩ : ∃ ws' wa, ws = ws' ++ [wa] ∧ P2 H4 ws' st ∧ H4 wa = some (.tup [sx x, sx a]) := by
    obtain ⟨ws', wa, e1, e2, e3⟩ := paired_snoc p24
    exact ⟨ws', wa, e1, e2, e3⟩
  refine ⟨fun σ' H' => ∃ x6 x7 x8 fl st' as ws, σ' = [some (.int n), some (.ref D), some (.ref G), some (.ref I), some (.ref U), some (.ref W), x6, x7, x8] ∧ Same H H' ∧ H' I = some (.dK (fd ks fun _ => .bl true)) ∧ H' U = some (.lst (as.map V.ref)) ∧ P3 H' n as fl ∧ H' W = some (.lst (ws.map V.ref)) ∧ P2 H' ws st' ∧ Wts n m fs (keysOf m fs) fl st' ∧ wmu n st' < wmu n (st ++ [(x, a)]), fun σ' H' ⟨x6, x7, x8, fl, st', as, ws, e1, e2, e3, e4, e5, e6, e7, e8, l⟩ => ⟨_, l, x6, x7, x8, fl, st', as, ws, e1, e2, e3, e4, e5, e6, e7, e8, rfl⟩, ?_⟩
  refine ⟨fun σ' H' => ∃ x7, σ' = [some (.int n), some (.ref D), some (.ref G), some (.ref I), some (.ref U), some (.ref W), some (sx x), x7, some (sx a)] ∧ Same H H' ∧ H' I = some (.dK (fd ks fun _ => .bl true)) ∧ H' U = some (.lst (as.map V.ref)) ∧ P3 H' n as fl ∧ H' W = some (.lst (ws.map V.ref)) ∧ P2 H' ws st, ?_, ?_⟩
  · refine ⟨_, rfl, ⟨.inl ⟨rfl, _, SqL.of eW4⟩, ⟨W, _, .ref wa, rfl, rfl, eW4, by simp, ?_⟩⟩⟩
    rw [show ((ws ++ [wa]).map V.ref).dropLast = ws.map V.ref by rw [List.map_append]; exact List.dropLast_concat]
    have tu : TuS H4 (upd H4 W (.lst (ws.map V.ref))) := TuS.lst eW4
    refine ⟨wa, [sx x, sx a], rfl, SqT.of (tu _ _ ea), rfl, ⟨_, _, rfl, ⟨_, _, rfl, ⟨rfl, ?_⟩⟩⟩⟩
    exact ⟨_, rfl, fun b o e => updn (nonn nW e) (s4 _ _ e), updn hIW eI4, updn hUW eU4, P3.to p34 tu, upd_same, P2.to p25 tu⟩
  rintro σ' H5 ⟨x7, rfl, s5, eI5, eU5, p35, eW5, p26⟩
  clear s4 eI4 eU4 p34 eW4 p24 ea p25
  refine ⟨fun σ' H' => ∃ x7, σ' = [some (.int n), some (.ref D), some (.ref G), some (.ref I), some (.ref U), some (.ref W), some (sx x), x7, some (sx (aimOf m x a))] ∧ H' = H5, ?_, ?_⟩
  · refine ⟨_, rfl, ⟨D, rfl, .inl ⟨_, .inl (s5 _ _ hD)⟩, ⟨_, rfl, ⟨_, rfl, ⟨_, .inl ⟨tk m, skey x, .inl (s5 _ _ hD), rfl, rfl⟩, ?_⟩⟩⟩⟩⟩
    rw [tk_sx]
    exact ⟨_, rfl, rfl⟩
  rintro σ' H6 ⟨x8, rfl, rfl⟩
  have leafy : ∀ {Qx : VK}, Qx (.bl (!decide (x ∈ fs))) H6 → rIn K true (sx x) (.ref G) H6 Qx := fun h => ⟨G, _, rfl, .inl (SqL.of (s5 _ _ hG)), rfl, flat_sx _, by
    rw [inV_sx]
    exact h⟩
  refine ⟨_, rfl, ⟨_, rfl, ⟨I, _, rfl, .inl ⟨fd ks fun _ => .bl true, skey x, .inl eI5, rfl, rfl⟩, ⟨_, rfl, ?_⟩⟩⟩⟩
  rw [fd_has, hks]
  have b1 : x.length ≤ n := b1
  have p3T : ∀ {Hx : Hp} {T : Addr}, Hx T = some (.tup [sx x, sx (aimOf m x a), .int ((2 ^ (n - x.length) : Nat) : Int)]) → P3 Hx n as fl → P3 Hx n (as ++ [T]) (fl ++ [(x, aimOf m x a)]) := fun e p => Paired.snoc p e
  by_cases hx : x ∈ fs
  · have step : ∀ {D' : Ends}, D'.nx = (fun σ' H' => ∃ x6 x7 x8 fl st' as ws, σ' = [some (.int n), some (.ref D), some (.ref G), some (.ref I), some (.ref U), some (.ref W), x6, x7, x8] ∧ Same H H' ∧ H' I = some (.dK (fd ks fun _ => .bl true)) ∧ H' U = some (.lst (as.map V.ref)) ∧ P3 H' n as fl ∧ H' W = some (.lst (ws.map V.ref)) ∧ P2 H' ws st' ∧ Wts n m fs (keysOf m fs) fl st' ∧ wmu n st' < wmu n (st ++ [(x, a)])) → D'.nx [some (.int n), some (.ref D), some (.ref G), some (.ref I), some (.ref U), some (.ref W), some (sx x), x8, some (sx (aimOf m x a))] H6 := fun e => by
      rw [e]
      exact ⟨_, _, _, fl, st, as, ws, rfl, s5, eI5, eU5, p35, eW5, p26, inv.drop hx, wmu_drop b1⟩
    cases hi : insB (keysOf m fs) x with
    | true =>
      refine iteT ⟨_, rfl, ⟨_, rfl, leafy ⟨_, rfl, ?_⟩⟩⟩
      rw [decide_eq_true hx]
      refine iteF ⟨_, rfl, ⟨_, rfl, leafy ⟨_, rfl, ?_⟩⟩⟩
      rw [decide_eq_true hx]
      exact iteF (step rfl)
    | false =>
      refine iteF (iteF ⟨_, rfl, ⟨_, rfl, leafy ⟨_, rfl, ?_⟩⟩⟩)
      rw [decide_eq_true hx]
      exact iteF (step rfl)
  cases hi : insB (keysOf m fs) x with
  | true =>
    obtain ⟨lx, inv2⟩ := inv.push ok.rows lks hx hi
    refine iteT ⟨_, rfl, ⟨_, rfl, leafy ⟨_, rfl, ?_⟩⟩⟩
    rw [decide_eq_false hx]
    have l1 : ("1" : Str).length = 1 := by decide +kernel
    have l2 : ("0" : Str).length = 1 := by decide +kernel
    refine iteT ⟨_, rfl, ⟨.inl ⟨rfl, _, SqL.of eW5⟩, ?_⟩⟩
    refine ⟨_, rfl, ⟨_, _, rfl, rfl, szl (by rw [sx_len, l1]; omega), ⟨_, rfl, ⟨szl (by show 2 ≤ 1000000; decide), fun A nA => ?_⟩⟩⟩⟩
    rw [one_S, S_app]
    refine ⟨_, rfl, ⟨_, _, rfl, rfl, szl (by rw [sx_len, l2]; omega), ⟨_, rfl, ⟨szl (by show 2 ≤ 1000000; decide), fun B nB => ?_⟩⟩⟩⟩
    rw [zero_S, S_app]
    refine ⟨szl (by show 2 ≤ 1000000; decide), fun C nC => ?_⟩
    have sA : Same H6 (upd H6 A (.tup [V.str (SX.S (x ++ [49])), sx (aimOf m x a)])) := fun b o e => updn (nonn nA e) e
    have sB : Same H6 (upd (upd H6 A (.tup [V.str (SX.S (x ++ [49])), sx (aimOf m x a)])) B (.tup [V.str (SX.S (x ++ [48])), sx (aimOf m x a)])) := fun b o e => updn (nonn nB (sA _ _ e)) (sA _ _ e)
    have sC : Same H6 (upd (upd (upd H6 A (.tup [V.str (SX.S (x ++ [49])), sx (aimOf m x a)])) B (.tup [V.str (SX.S (x ++ [48])), sx (aimOf m x a)])) C (.lst [.ref A, .ref B])) := fun b o e => updn (nonn nC (sB _ _ e)) (sB _ _ e)
    have hAB : A ≠ B := fun q => by rw [← q, upd_same] at nB; cases nB
    have eB : upd (upd H6 A (.tup [V.str (SX.S (x ++ [49])), sx (aimOf m x a)])) B (.tup [V.str (SX.S (x ++ [48])), sx (aimOf m x a)]) B = some (.tup [V.str (SX.S (x ++ [48])), sx (aimOf m x a)]) := upd_same
    have eA : upd (upd H6 A (.tup [V.str (SX.S (x ++ [49])), sx (aimOf m x a)])) B (.tup [V.str (SX.S (x ++ [48])), sx (aimOf m x a)]) A = some (.tup [V.str (SX.S (x ++ [49])), sx (aimOf m x a)]) := updn hAB upd_same
    have eA2 : upd (upd (upd H6 A (.tup [V.str (SX.S (x ++ [49])), sx (aimOf m x a)])) B (.tup [V.str (SX.S (x ++ [48])), sx (aimOf m x a)])) C (.lst [.ref A, .ref B]) A = some (.tup [V.str (SX.S (x ++ [49])), sx (aimOf m x a)]) := updn (nonn nC eA) eA
    have eB2 : upd (upd (upd H6 A (.tup [V.str (SX.S (x ++ [49])), sx (aimOf m x a)])) B (.tup [V.str (SX.S (x ++ [48])), sx (aimOf m x a)])) C (.lst [.ref A, .ref B]) B = some (.tup [V.str (SX.S (x ++ [48])), sx (aimOf m x a)]) := updn (nonn nC eB) eB
    have eC : upd (upd (upd H6 A (.tup [V.str (SX.S (x ++ [49])), sx (aimOf m x a)])) B (.tup [V.str (SX.S (x ++ [48])), sx (aimOf m x a)])) C (.lst [.ref A, .ref B]) C = some (.lst [.ref A, .ref B]) := upd_same
    generalize upd (upd (upd H6 A (.tup [V.str (SX.S (x ++ [49])), sx (aimOf m x a)])) B (.tup [V.str (SX.S (x ++ [48])), sx (aimOf m x a)])) C (.lst [.ref A, .ref B]) = H7 at sC eA2 eB2 eC ⊢
    have lws : ws.length ≤ 200 := by
      have := Paired.length p26
      rw [List.length_append] at lst
      omega
    refine ⟨W, C, _, _, rfl, rfl, sC _ _ eW5, eC, szl (by rw [List.length_map]; show ws.length + 2 ≤ 1000000; omega), ?_⟩
    have tu : TuS H7 (upd H7 W (.lst (ws.map V.ref ++ [.ref A, .ref B]))) := TuS.lst (sC _ _ eW5)
    refine ⟨_, _, _, fl, _, as, ws ++ [A, B], rfl, fun b o e => updn (nonn nW e) (sC _ _ (s5 _ _ e)), updn hIW (sC _ _ eI5), updn hUW (sC _ _ eU5), P3.to p35 fun b xs e => tu _ _ (sC _ _ e), by rw [upd_same, List.map_append]; rfl, ?_, inv2, wmu_push lx⟩
    have q1 := Paired.snoc (P2.to p26 fun b xs e => tu _ _ (sC _ _ e)) (b := (x ++ [49], aimOf m x a)) (tu _ _ eA2)
    have q2 := Paired.snoc q1 (b := (x ++ [48], aimOf m x a)) (tu _ _ eB2)
    rw [List.append_assoc, List.append_assoc] at q2
    exact q2
  | false =>
    have inv2 := inv.leaf hx hi
    refine iteF (iteF ⟨_, rfl, ⟨_, rfl, leafy ⟨_, rfl, ?_⟩⟩⟩)
    rw [decide_eq_false hx]
    refine iteT ⟨_, rfl, ⟨.inl ⟨rfl, _, SqL.of eU5⟩, ?_⟩⟩
    refine ⟨_, rfl, ⟨_, rfl, ⟨_, rfl, ⟨_, rfl, ⟨_, _, rfl, ⟨szl (by rw [sx_len]; omega), rfl⟩, ⟨_, _, rfl, rfl, ⟨n - x.length, rfl, ?_, by omega, ⟨szl (by show 3 ≤ 1000000; decide), fun A nA => ?_⟩⟩⟩⟩⟩⟩⟩⟩
    · rw [sx_len]
      exact congrArg V.int (by have b1' : x.length ≤ n := b1; omega)
    have sA : Same H6 (upd H6 A (.tup [sx x, sx (aimOf m x a), .int (2 ^ (n - x.length))])) := fun b o e => updn (nonn nA e) e
    have eA : upd H6 A (.tup [sx x, sx (aimOf m x a), .int (2 ^ (n - x.length))]) A = some (.tup [sx x, sx (aimOf m x a), .int ((2 ^ (n - x.length) : Nat) : Int)]) := by
      rw [upd_same, Int.natCast_pow]
      rfl
    generalize upd H6 A (.tup [sx x, sx (aimOf m x a), .int (2 ^ (n - x.length))]) = H7 at sA eA ⊢
    have las : as.length ≤ 4001 := by
      have h1 := Paired.length p35
      have h2 := congrArg List.length inv.all
      rw [List.length_append] at h2
      omega
    refine ⟨U, _, _, rfl, rfl, sA _ _ eU5, szt (by rw [List.length_map]; omega), ?_⟩
    have tu : TuS H7 (upd H7 U (.lst (as.map V.ref ++ [.ref A]))) := TuS.lst (sA _ _ eU5)
    refine ⟨_, _, _, _, st, as ++ [A], ws, rfl, fun b o e => updn (nonn nU e) (sA _ _ (s5 _ _ e)), updn hIU (sA _ _ eI5), by rw [upd_same, List.map_append]; rfl, p3T (tu _ _ eA) (P3.to p35 fun b xs e => tu _ _ (sA _ _ e)), updn hUW.symm (sA _ _ eW5), P2.to p26 fun b xs e => tu _ _ (sA _ _ e), inv2, wmu_drop b1⟩
end
open PySem PySem.Spec PyProof.Rows
open L2 hiding pass0
/-! ### counts and first ones by pieces -/
theorem sum_add3 {α : Type} (f g : α → Nat) : ∀ l : List α, (l.map fun x => f x + g x).sum = (l.map f).sum + (l.map g).sum
  | [] => rfl
  | x :: l => by
    rw [List.map_cons, List.sum_cons, sum_add3 f g l, List.map_cons, List.map_cons, List.sum_cons, List.sum_cons]
    omega
theorem sum_one {β : Type} [DecidableEq β] (b : β) : ∀ {l : List β}, l.Nodup → b ∈ l → (l.map fun g => if decide (b = g) = true then 1 else 0).sum = 1
  | a :: l, nd, h => by
    have hn := List.nodup_cons.mp nd
    have zero : ∀ {l : List β}, b ∉ l → (l.map fun g => if decide (b = g) = true then 1 else 0).sum = 0 := fun {l} => by
      induction l with
      | nil => intro _; rfl
      | cons x l ih =>
        intro h
        rw [List.map_cons, List.sum_cons, ih fun q => h (List.mem_cons_of_mem _ q), if_neg]
        intro e
        exact h (of_decide_eq_true e ▸ List.mem_cons_self)
    rw [List.map_cons, List.sum_cons]
    by_cases q : b = a
    · rw [if_pos (decide_eq_true q), zero (q ▸ hn.1)]
    · rw [if_neg (by simpa using q), sum_one b hn.2 ((List.mem_cons.mp h).resolve_left q)]
/-- all are counted, each once -/
theorem sum_cnt {α β : Type} [DecidableEq β] (f : α → β) {gs : List β} (nd : gs.Nodup) : ∀ {L : List α}, (∀ z ∈ L, f z ∈ gs) → (gs.map fun g => L.countP fun z => decide (f z = g)).sum = L.length
  | [], _ => by
    have z : ∀ l : List β, (l.map fun g => ([] : List α).countP fun z => decide (f z = g)).sum = 0 := fun l => by
      induction l with
      | nil => rfl
      | cons g l ih => rw [List.map_cons, List.sum_cons, ih]; rfl
    exact z gs
  | z :: L, h => by
    have e : (fun g => (z :: L).countP fun z => decide (f z = g)) = fun g => (L.countP fun z => decide (f z = g)) + (if decide (f z = g) = true then 1 else 0) := funext fun g => List.countP_cons
    rw [e, sum_add3, sum_cnt f nd fun y hy => h y (List.mem_cons_of_mem _ hy), sum_one (f z) nd (h z List.mem_cons_self), List.length_cons]
/-- all pieces -/
def Pc (n : Nat) (m : List (Str × Str)) (fs : List (List Nat)) : List (List Nat × List Nat) := pcs (insB (keysOf m fs)) m fs n [] ("hole" : Str).cps.toList
theorem ins_ok (m : List (Str × Str)) (fs : List (List Nat)) : InsOk (insB (keysOf m fs)) m fs := fun x => by
  unfold insB
  rw [List.any_eq_true]
  constructor
  · rintro ⟨t, ht, q⟩
    exact ⟨t, ht, of_decide_eq_true q⟩
  · rintro ⟨t, ht, q⟩
    exact ⟨t, ht, decide_eq_true q⟩
theorem keys_len {n : Int} {k : Nat} {m : List (Str × Str)} {fs : List (List Nat)} (ok : ∀ p ∈ m, RowOk n p) (e : n = (k : Int)) (ff : Fits k fs) : ∀ t ∈ m.map (fun p => p.1.cps.toList) ++ fs, t.length ≤ k := fun t ht => by
  rcases List.mem_append.mp ht with h | h
  · obtain ⟨p, hp, rfl⟩ := List.mem_map.mp h
    have := (ok p hp).2.1
    show p.1.length ≤ k
    omega
  · exact (ff t h).2
section
variable {n : Nat} {m : List (Str × Str)} {fs : List (List Nat)}
theorem pc_of (ok : ∀ p ∈ m, RowOk (n : Int) p) (ff : Fits n fs) : ofP n (Pc n m fs) = (M.addrs n).filter (fun z => !M.frB fs z) := by
  have := (pcs_ok (ins_ok m fs) (keys_len ok rfl ff) n [] _ (way0 n m fs)).1
  rw [show (fun z => [] ++ z : List Nat → List Nat) = id from rfl, List.map_id] at this
  exact this
theorem pc_at (ok : ∀ p ∈ m, RowOk (n : Int) p) (ff : Fits n fs) : ∀ q ∈ Pc n m fs, M.BL q.1 ∧ q.1.length ≤ n ∧ ∀ z, gS m (q.1 ++ z) = q.2 :=
  (pcs_ok (ins_ok m fs) (keys_len ok rfl ff) n [] _ (way0 n m fs)).2
/-- counts, first ones of the first so many pieces -/
def cP (n : Nat) (l : List (List Nat × List Nat)) (g : List Nat) : Nat := (l.map fun q => if q.2 = g then 2 ^ (n - q.1.length) else 0).sum
def fP (n : Nat) (l : List (List Nat × List Nat)) (g : List Nat) : Option (List Nat) := (l.find? fun q => decide (q.2 = g)).map fun q => q.1 ++ List.replicate (n - q.1.length) 48
theorem cP_cn (ok : ∀ p ∈ m, RowOk (n : Int) p) (ff : Fits n fs) (g : List Nat) : cP n (Pc n m fs) g = cn n m fs g := by
  unfold cP
  rw [← cnt_ofP n m g _ fun q hq => (pc_at ok ff q hq).2.2, pc_of ok ff, List.countP_filter]
  unfold cn
  exact List.countP_congr fun z _ => by rw [Bool.and_comm]
theorem fP_fw (ok : ∀ p ∈ m, RowOk (n : Int) p) (ff : Fits n fs) (g : Str) : fP n (Pc n m fs) g.cps.toList = (fw n m fs g).head? := by
  unfold fP
  rw [← head_ofP n m _ _ fun q hq => (pc_at ok ff q hq).2.2, pc_of ok ff, List.filter_filter]
  unfold fw
  congr 1
  exact List.filter_congr fun z _ => by unfold qw; rw [Bool.and_comm]
theorem cP_snoc (l : List (List Nat × List Nat)) (q : List Nat × List Nat) (g : List Nat) : cP n (l ++ [q]) g = cP n l g + if q.2 = g then 2 ^ (n - q.1.length) else 0 := by
  unfold cP
  rw [List.map_append, List.sum_append]
  rfl
theorem fP_snoc (l : List (List Nat × List Nat)) (q : List Nat × List Nat) (g : List Nat) : fP n (l ++ [q]) g = (fP n l g).or (if q.2 = g then some (q.1 ++ List.replicate (n - q.1.length) 48) else none) := by
  unfold fP
  rw [List.find?_append]
  cases h : l.find? fun q => decide (q.2 = g) with
  | some x => rfl
  | none =>
    by_cases e : q.2 = g
    · rw [if_pos e, List.find?_cons_of_pos (p := fun x : List Nat × List Nat => decide (x.2 = g)) (decide_eq_true e)]
      rfl
    · rw [if_neg e, List.find?_cons_of_neg (p := fun x : List Nat × List Nat => decide (x.2 = g)) (by simpa using e)]
      rfl
theorem fP_cP (l : List (List Nat × List Nat)) (g : List Nat) : fP n l g = none ↔ cP n l g = 0 := by
  unfold fP cP
  rw [Option.map_eq_none_iff]
  induction l with
  | nil => exact ⟨fun _ => rfl, fun _ => rfl⟩
  | cons q l ih =>
    rw [List.map_cons, List.sum_cons]
    by_cases e : q.2 = g
    · rw [List.find?_cons_of_pos (p := fun x : List Nat × List Nat => decide (x.2 = g)) (decide_eq_true e), if_pos e]
      have := Nat.two_pow_pos (n - q.1.length)
      exact ⟨fun h => (by cases h), fun h => by omega⟩
    · rw [List.find?_cons_of_neg (p := fun x : List Nat × List Nat => decide (x.2 = g)) (by simpa using e), if_neg e, Nat.zero_add]
      exact ih
theorem cP_le (l l' : List (List Nat × List Nat)) (g : List Nat) : cP n l g ≤ cP n (l ++ l') g := by
  unfold cP
  rw [List.map_append, List.sum_append]
  omega
/-- all used addresses are counted -/
theorem cn_used {gs : List (List Nat)} (nd : gs.Nodup) (h : ∀ g, g ∈ gs ↔ cn n m fs g ≠ 0) : (gs.map fun g => cn n m fs g).sum = frN n fs := by
  have e0 : (fun g => cn n m fs g) = fun g => ((M.addrs n).filter fun z => !M.frB fs z).countP fun z => decide (gS m z = g) := funext fun g => by
    rw [List.countP_filter]
    unfold cn
    exact List.countP_congr fun z _ => by rw [Bool.and_comm]
  rw [e0, sum_cnt (gS m) nd fun z hz => ?_]
  · rfl
  rw [h]
  unfold cn
  rw [← Nat.pos_iff_ne_zero, List.countP_pos_iff]
  obtain ⟨h1, h2⟩ := List.mem_filter.mp hz
  exact ⟨z, h1, by rw [h2]; exact decide_eq_true rfl⟩
end
open PySem PySem.Spec PyProof.Rows
open L2 hiding pass0
abbrev s_law_told_right : Stmt := top 65
theorem sc_law_told_right : FnScope ["_law_size_here", "_law_rows", "_law_idle", "_law_goals_here", "_law_sheet", "_law_pieces_here", "_law_counts", "_law_begins", "_law_part", "_law_aim", "_law_many", "_law_due", "_law_told", "_law_every", "_law_spot"] ["_law_size_here", "_law_rows", "_law_idle", "_law_goals_here"] (defScope s_law_told_right) := ⟨rfl, rfl, rfl, by decide +kernel, rfl, by decide +kernel, by decide +kernel⟩
theorem bp_law_told_right : BndP "_law_told_right" s_law_told_right ["_law_size_here", "_law_rows", "_law_idle", "_law_goals_here"] := fun _ _ _ _ _ _ us h => match us, h with | [_, _, _, _], _ => rfl
theorem bk_used_number_0_free_width : Bnd "used_number" s_used_number ["width", "free"] 0 ["free", "width"] [1, 0] := fun _ _ _ _ _ _ us ws h1 h2 => match us, ws, h1, h2 with | [], [_, _], _, _ => rfl
def kwR : List V → List V → List V := fun _ zs => zs.reverse
def al3 : List V → List V → List V := fun us _ => us
theorem fs_low {n : Nat} (hn : n ≤ 100) {fs : List (List Nat)} (ff : Fits n fs) : ∀ y ∈ fs.map SX.S, (∀ c ∈ y.cps.toList, c < 128) ∧ y.length ≤ 100 := fun y hy => by
  obtain ⟨t, ht, rfl⟩ := List.mem_map.mp hy
  have := ff t ht
  exact ⟨(sx_bits this.1).low, by rw [sx_len]; omega⟩
theorem CntAt.rev {H : Hp} {R : Addr} {n : Nat} {m : List (Str × Str)} {fs : List (List Nat)} (h : CntAt H R n m fs.reverse) : CntAt H R n m fs := by
  unfold CntAt cn M.frB at *
  simpa only [List.any_reverse] using h
theorem fw_rev {n : Nat} {m : List (Str × Str)} {fs : List (List Nat)} {g : Str} : fw n m fs.reverse g = fw n m fs g := by
  unfold fw
  congr 1
  funext z
  unfold qw M.frB
  rw [List.any_reverse]
def oD : Option (List Nat) → PyData
  | some a => .str (SX.S a)
  | none => .none
theorem oA_dp {K : PySem.W.Frag} {H : Hp} : ∀ o : Option (List Nat), Dp K H (oA o) (oD o)
  | some _ => .str _
  | none => .non
theorem oA_fit {n : Nat} (hn : n ≤ 100) : ∀ {o : Option (List Nat)}, (∀ z, o = some z → M.BL z ∧ z.length ≤ n) → Fit 100 0 (oD o)
  | none, _ => .non
  | some z, h => by
    have h1 := fs_low hn (fs := [z]) (fun t ht => by rw [List.mem_singleton] at ht; subst ht; exact h t rfl) (SX.S z) (by simp)
    exact Fit.str h1.1 h1.2
theorem bls_dp {K : PySem.W.Frag} {H : Hp} : ∀ bs : List Bool, DpAll K H (bs.map V.bl) (bs.map PyData.bool)
  | [] => .nil
  | b :: bs => .cons (.bl b) (bls_dp bs)
theorem bls_rp {K : PySem.W.Frag} {H : Hp} {B : Addr} {bs : List Bool} (h : H B = some (.lst (bs.map V.bl))) (l : (bs.map PyData.bool).length ≤ 128) :
    Rp K H (.ref B) (.list (bs.map PyData.bool)) ∧ PyData.showable (.list (bs.map PyData.bool)) = true ∧ PyData.depth (.list (bs.map PyData.bool)) ≤ 50 ∧ (PyData.list (bs.map PyData.bool)).shown.length ≤ sizeLine := by
  have fit : Fit ((0 + 1) * (bs.map PyData.bool).length) 1 (.list (bs.map PyData.bool)) := Fit.list (fun d hd => by
    obtain ⟨b, _, rfl⟩ := List.mem_map.mp hd
    exact Fit.bool b)
  exact fit.rp (.lst (SqL.of h) (bls_dp bs)) (by omega) (by decide)
theorem bl_rp {K : PySem.W.Frag} {H : Hp} (b : Bool) : Rp K H (.bl b) (.bool b) ∧ PyData.showable (.bool b) = true ∧ PyData.depth (.bool b) ≤ 50 ∧ (PyData.bool b).shown.length ≤ sizeLine :=
  (Fit.bool (N := 0) (D := 0) b).rp (.bl b) (by decide) (by decide)
def Kp2 (c d : Addr) (H H' : Hp) : Prop := ∀ (b : Addr) (o : HO), b ≠ c → b ≠ d → H b = some o → H' b = some o
theorem goalL_pc {n : Nat} {m : List (Str × Str)} {fs : List (List Nat)} (ok : ∀ p ∈ m, RowOk (n : Int) p) (ff : Fits n fs) : ∀ q ∈ Pc n m fs, q.2 ∈ ("hole" : Str).cps.toList :: m.map fun p => p.2.cps.toList := fun q hq => by
  rw [← (pc_at ok ff q hq).2.2 []]
  exact gS_in m _
theorem rep_S (b : Nat) (s : Str) (e : s.cps.toList = [b]) (k : Nat) : (⟨(List.replicate k s.cps.toList).flatten.toArray⟩ : Str) = SX.S (List.replicate k b) := by
  rw [e, List.flatten_replicate_singleton]
theorem fd_kV (ks : List (List Nat)) (g : List Nat → V) : (fd ks g).map (fun kv => kV kv.1) = (ks.map SX.S).map V.str := by
  unfold fd
  rw [List.map_map, List.map_map]
  rfl
theorem mrg_fd (c : List Nat → V) : ∀ (b a : List (List Nat)), (a ++ b).Nodup → mergeK (fd a c) (fd b c) = fd (a ++ b) c
  | [], a, _ => by rw [List.append_nil]; rfl
  | t :: b, a, h => by
    have e : mergeK (fd a c) (fd (t :: b) c) = mergeK (putK (fd a c) (skey t) (c t)) (fd b c) := rfl
    have h2 : (a ++ [t] ++ b).Nodup := by rw [List.append_assoc]; exact h
    have nt : t ∉ a := fun q => (List.nodup_append.mp h).2.2 t q t List.mem_cons_self rfl
    have e2 : fd (a ++ [t]) (fup c t (c t)) = fd (a ++ [t]) c := fd_congr fun x _ => by
      by_cases q : x = t
      · rw [q, fup_at]
      · rw [fup_ne q]
    rw [e, fd_put, if_neg nt, e2, mrg_fd c b (a ++ [t]) h2, List.append_assoc]
    rfl
/-- tuples of keys and values at these places -/
def Pd (H : Hp) (ps : List Addr) (kvs : List (Key × V)) : Prop := Paired (fun (p : Addr) (kv : Key × V) => H p = some (.tup [kV kv.1, kv.2])) ps kvs
theorem Pd.mono {H H' : Hp} (k : ∀ a l, H a = some (.tup l) → H' a = some (.tup l)) : ∀ {ps : List Addr} {kvs : List (Key × V)}, Pd H ps kvs → Pd H' ps kvs
  | _, _, .nil => .nil
  | _, _, .cons h r => .cons (k _ _ h) (Pd.mono k r)
theorem Pd.sq {K : PySem.W.Frag} {H : Hp} : ∀ {ps : List Addr} {kvs : List (Key × V)}, Pd H ps kvs → Paired (fun p (kv : Key × V) => SqT K H p [kV kv.1, kv.2]) ps kvs
  | _, _, .nil => .nil
  | _, _, .cons h r => .cons (SqT.of h) (Pd.sq r)
theorem Pd.len {H : Hp} : ∀ {ps : List Addr} {kvs : List (Key × V)}, Pd H ps kvs → ps.length = kvs.length
  | _, _, .nil => rfl
  | _, _, .cons _ r => congrArg (· + 1) (Pd.len r)
theorem in_addrs : ∀ {n : Nat} {z : List Nat}, M.BL z → z.length = n → z ∈ M.addrs n
  | 0, [], _, _ => List.mem_singleton.mpr rfl
  | 0, _ :: _, _, l => by cases l
  | _ + 1, [], _, l => by cases l
  | n + 1, b :: z, h, l => by
    have ih := in_addrs (n := n) (z := z) (fun c hc => h c (List.mem_cons_of_mem _ hc)) (Nat.succ.inj l)
    rw [addrs_cons]
    rcases h b List.mem_cons_self with rfl | rfl
    · exact List.mem_append_left _ (List.mem_map_of_mem ih)
    · exact List.mem_append_right _ (List.mem_map_of_mem ih)
@[irreducible] def spTR (C : Addr) : Sp := fun vs H Q _ => ∃ (n : Nat) (D F G : Addr) (m : List (Str × Str)) (fs : List (List Nat)) (gs : List Str), vs = [.int n, .ref D, .ref F, .ref G] ∧ H D = some (.dK (tk m)) ∧ TabOk n m ∧ m.length ≤ 20 ∧ H F = some (.lst (fs.map sx)) ∧ Fits n fs ∧ fs.Nodup ∧ fs.length ≤ 20 ∧ H G = some (.lst (gs.map V.str)) ∧ gs.length ≤ 5 ∧ (∀ g ∈ gs, GoalOk g) ∧ ∀ H', Same H H' → Q (.bl true) H'
section
variable {P : Program} {w : World} {K : PySem.W.Frag} {mg : Str → Option Value} {base : Heap} {f C t1 t2 : Addr} {fd' : FuncData}
theorem ok_told (F : Fun K "_law_told_right" "_law_told_right" s_law_told_right f fd') (hm : mg "_law_told_right" = some (.ref f)) (T : Txt K mg) (TC : TabC K C) (c_law_pieces : Nm P w K mg base CX0 1 "_law_pieces" s_law_pieces ["_law_size_here", "_law_rows", "_law_idle"] (spPc)) (c_used_number : Nm P w K mg base CX0 10 "used_number" s_used_number ["width", "free"] (spUN K)) (c_is_used : Nm P w K mg base CX0 7 "is_used" s_is_used ["width", "free", "address"] (spIU K))
    (c_Table__call__ : Mth P w K mg base CX0 8 C "__call__" "Table.__call__" s_Table__call__ ["self", "address"] (spCall C)) (b_Table : BndI P w K mg base CX0 6 "Table" C ["self", "width", "rows"] (spInit C) 2 [] (fun us _ => us))
    (b_nb2 : BndF P w K mg base CX0 10 "numbers" ["table", "free"] (spNb K C) 2 [] al3) (b_nbK : BndF P w K mg base CX0 10 "numbers" ["table", "free"] (spNb K C) 0 ["free", "table"] kwR)
    (b_fw3 : BndF P w K mg base CX0 10 "first_with" ["table", "goal", "free"] (spFW K C) 3 [] al3) : Nm P w K mg base CX0 11 "_law_told_right" s_law_told_right ["_law_size_here", "_law_rows", "_law_idle", "_law_goals_here"] (spTR C) := by
  refine nm_of0 F hm sc_law_told_right (fun vs H Q E h => ?_) fun cdv A outer s H vs Q E hr h => ?_
  · unfold spTR at h
    obtain ⟨n, D, F, G, m, fs, gs, rfl, hD, ok, lm, hF, ff, nd, lf, hG, lg, hgs, k⟩ := h
    subst_vars
    rfl
  unfold spTR at h
  obtain ⟨n, D, F, G, m, fs, gs, rfl, hD, ok, lm, hF, ff, nd, lf, hG, lg, hgs, k⟩ := h
  refine ⟨_, (C8.pss_cut (ps_asg (pe_tup (pa_cons (pe_mk b_Table hr (by decide) L2.pass0 (by rfl) (pa_cons (pv 0) (pa_cons (pv 1) pa_nil)) pk_nil) (pa_cons (pe_g c_law_pieces hr (by decide) L2.pass0 bp_law_pieces (by rfl) (pa_cons (pv 0) (pa_cons (pv 1) (pa_cons (pv 2) pa_nil)))) (pa_cons pe_dnewK (pa_cons pe_dnewK pa_nil))))) (pg_tup (by rfl) (pgs_cons (pg_name (i := 4) sc_law_told_right.nd rfl (by first | exact Or.inl rfl | exact Or.inr rfl)) (pgs_cons (pg_name (i := 5) sc_law_told_right.nd rfl (by first | exact Or.inl rfl | exact Or.inr rfl)) (pgs_cons (pg_name (i := 6) sc_law_told_right.nd rfl (by first | exact Or.inl rfl | exact Or.inr rfl)) (pgs_cons (pg_name (i := 7) sc_law_told_right.nd rfl (by first | exact Or.inl rfl | exact Or.inr rfl)) pgs_nil))))))
      (C8.pss_cut (ps_for PassesOwn.never rfl (pi_listK (K := K) rfl (pv 5)) (pg_tup (by rfl) (pgs_cons (pg_name (i := 8) sc_law_told_right.nd rfl (by first | exact Or.inl rfl | exact Or.inr rfl)) (pgs_cons (pg_name (i := 9) sc_law_told_right.nd rfl (by first | exact Or.inl rfl | exact Or.inr rfl)) (pgs_cons (pg_name (i := 10) sc_law_told_right.nd rfl (by first | exact Or.inl rfl | exact Or.inr rfl)) pgs_nil)))) (C8.pss_cut (ps_asg (pe_op op_add (pe_dget2 hr.u1 (pv 6) (pv 9) pe_int ⟨by rfl, by rfl, by rfl, by rfl⟩) (pv 10)) (pg_sub (pv 6) (pv 9) (set_dict hr.u1)))
      (pss_one (ps_asg (pe_dget2 hr.u1 (pv 7) (pv 9) (pe_op op_add_str (pv 8) (pe_op op_mul_str pe_str (pe_op op_sub (pv 0) (pe_callB (call_lenK (K := K) rfl) (by rfl) T.b_len PySem.boot_len (pa_cons (pv 8) pa_nil))))) ⟨by rfl, by rfl, by rfl, by rfl⟩) (pg_sub (pv 7) (pv 9) (set_dict hr.u1))))))
      (C8.pss_cut (ps_set (i := 11) sc_law_told_right.nd rfl (by first | exact Or.inl rfl | exact Or.inr rfl) (pe_callTy (call_dictP rfl) (by rfl) T.b_dict (by decide +kernel) (pa_cons (pe_lc (own := [("_law_aim", 9)]) (g := (gName 9)) (by rfl) sc_law_told_right.nd (pi_listK (K := K) rfl (pe_callB cr_sortedS (by rfl) T.b_sorted (by decide +kernel) (pa_cons (pe_callTy (call_listD rfl) (by rfl) T.b_list (by decide +kernel) (pa_cons (pv 6) pa_nil)) pa_nil))) (blkOk_by (own := [("_law_aim", 9)]) (N := ["_law_size_here", "_law_rows", "_law_idle", "_law_goals_here", "_law_sheet", "_law_pieces_here", "_law_counts", "_law_begins", "_law_part", "_law_aim", "_law_many", "_law_due", "_law_told", "_law_every", "_law_spot"]) (sc := defScope s_law_told_right) (by decide +kernel)) (fun _ _ _ _ _ => (pg_name (i := 9) sc_law_told_right.nd rfl (by first | exact Or.inl rfl | exact Or.inr rfl))) (fun _ _ _ _ _ => pts_nil) (fun _ _ _ _ _ => (pe_tup (pa_cons (pv 9) (pa_cons (pe_dget hr.u1 (pv 6) (pv 9) (fun _ _ => rfl)) pa_nil))))) pa_nil)))
      (C8.pss_cut (ps_par (i := 12) (j := 13) (by rfl) sc_law_told_right.nd rfl rfl (by decide) rfl rfl (pa_cons (pe_f b_nb2 hr (by decide) L2.pass0 (by rfl) (pa_cons (pv 4) (pa_cons (pv 2) pa_nil)) pk_nil) (pa_cons (pe_callB (cr_sum rfl) (by rfl) T.b_sum (by decide +kernel) (pa_cons (LiV.pe_listVals rfl (pv 6) (by rfl) T.b_list (by decide +kernel)) pa_nil)) pa_nil)) (by rfl))
      (C8.pss_cut (ps_if (PW.pt (pw_or (pt_cmpR op_ne (pe_callB (call_reprK (K := K) rfl hr.g hr.u) (by rfl) T.b_repr (by decide +kernel) (pa_cons (pv 12) pa_nil)) (pe_callB (call_reprK (K := K) rfl hr.g hr.u) (by rfl) T.b_repr (by decide +kernel) (pa_cons (pv 11) pa_nil)) (nomark _)) (pw_or1 (pt_cmpR op_ne (pe_callB (call_reprK (K := K) rfl hr.g hr.u) (by rfl) T.b_repr (by decide +kernel) (pa_cons (pe_f0 b_nbK hr (by decide) L2.pass0 (by rfl) (pk_cons (pe_revL (pv 2)) (pk_cons (pv 4) pk_nil))) pa_nil)) (pe_callB (call_reprK (K := K) rfl hr.g hr.u) (by rfl) T.b_repr (by decide +kernel) (pa_cons (pv 11) pa_nil)) (nomark _))))) (pss_one (ps_ret pe_bl)) pss_nil)
      (C8.pss_cut (ps_if (pt_cmpR op_ne (pe_callB (call_reprK (K := K) rfl hr.g hr.u) (by rfl) T.b_repr (by decide +kernel) (pa_cons (pe_lst (pa_cons (pe_g c_used_number hr (by decide) L2.pass0 bp_used_number (by rfl) (pa_cons (pv 0) (pa_cons (pv 2) pa_nil))) (pa_cons (pe_gK0 c_used_number hr (by decide) L2.pass0 bk_used_number_0_free_width (by rfl) (pk_cons (pe_callTy call_tuple_of (by rfl) T.b_tuple (by decide +kernel) (pa_cons (pv 2) pa_nil)) (pk_cons (pv 0) pk_nil))) pa_nil))) pa_nil)) (pe_callB (call_reprK (K := K) rfl hr.g hr.u) (by rfl) T.b_repr (by decide +kernel) (pa_cons (pe_lst (pa_cons (pv 13) (pa_cons (pv 13) pa_nil))) pa_nil)) (nomark _)) (pss_one (ps_ret pe_bl)) pss_nil)
      (C8.pss_cut (ps_if (pt_cmpR op_ne (pe_callB (cr_sum rfl) (by rfl) T.b_sum (by decide +kernel) (pa_cons (LiV.pe_listVals rfl (pv 12) (by rfl) T.b_list (by decide +kernel)) pa_nil)) (pv 13) (nomark _)) (pss_one (ps_ret pe_bl)) pss_nil)
      (C8.pss_cut (ps_for PassesOwn.never rfl (pi_listK (K := K) rfl (pe_op op_cat (pv 3) (pe_lst (pa_cons pe_str pa_nil)))) (pg_name (i := 9) sc_law_told_right.nd rfl (by first | exact Or.inl rfl | exact Or.inr rfl)) (C8.pss_cut (ps_set (i := 14) sc_law_told_right.nd rfl (by first | exact Or.inl rfl | exact Or.inr rfl) (pe_f b_fw3 hr (by decide) L2.pass0 (by rfl) (pa_cons (pv 4) (pa_cons (pv 9) (pa_cons (pv 2) pa_nil))) pk_nil))
      (C8.pss_cut (ps_if (PW.pt (pw_or (pt_cmpR op_ne (pv 14) (pe_dget1 hr.u1 (pv 7) (pv 9) ⟨by rfl, by rfl, by rfl, by rfl⟩) (nomark _)) (pw_or1 (pt_cmpR op_ne (pe_f b_fw3 hr (by decide) L2.pass0 (by rfl) (pa_cons (pv 4) (pa_cons (pv 9) (pa_cons (pe_revL (pv 2)) pa_nil))) pk_nil) (pv 14) (nomark _))))) (pss_one (ps_ret pe_bl)) pss_nil)
      (pss_one (ps_if (PW.pt (pw_and (pt_cmpR op_notN (pv 14) pe_non (nomark _)) (pw_and1 (pt_not (PW.pt (pw_and (pt_val (pe_g c_is_used hr (by decide) L2.pass0 bp_is_used (by rfl) (pa_cons (pv 0) (pa_cons (pv 2) (pa_cons (pv 14) pa_nil))))) (pw_and1 (pt_cmpR op_eq (pe_o c_Table__call__ hr (by decide) L2.pass0 bm_Table__call__ (pv 4) (pa_cons (pv 14) pa_nil)) (pv 9) (nomark _))))))))) (pss_one (ps_ret pe_bl)) pss_nil)))))
      (pss_one (ps_ret (pe_cmpR (op_eqDK (K := K) rfl hr.u64) (pe_lc (own := [("_law_part", 8)]) (g := (gName 8)) (by rfl) sc_law_told_right.nd (pi_listK (K := K) rfl (pv 2)) (blkOk_by (own := [("_law_part", 8)]) (N := ["_law_size_here", "_law_rows", "_law_idle", "_law_goals_here", "_law_sheet", "_law_pieces_here", "_law_counts", "_law_begins", "_law_part", "_law_aim", "_law_many", "_law_due", "_law_told", "_law_every", "_law_spot"]) (sc := defScope s_law_told_right) (by decide +kernel)) (fun _ _ _ _ _ => (pg_name (i := 8) sc_law_told_right.nd rfl (by first | exact Or.inl rfl | exact Or.inr rfl))) (fun _ _ _ _ _ => pts_nil) (fun _ _ _ _ _ => (pe_g c_is_used hr (by decide) L2.pass0 bp_is_used (by rfl) (pa_cons (pv 0) (pa_cons (pv 2) (pa_cons (pe_op op_add_str (pv 8) (pe_op op_mul_str pe_str (pe_op op_sub (pv 0) (pe_callB (call_lenK (K := K) rfl) (by rfl) T.b_len PySem.boot_len (pa_cons (pv 8) pa_nil))))) pa_nil)))))) (pe_op op_rep (pe_lst (pa_cons pe_bl pa_nil)) (pe_callB (call_lenK (K := K) rfl) (by rfl) T.b_len PySem.boot_len (pa_cons (pv 2) pa_nil))) (nomark _)))))))))))), ?_⟩
  have hD' := hD
  have hF' := hF
  have hG' := hG
  have rk := ok.rows
  have n1 : n ≤ 100 := by have := ok.w1; omega
  have lT : (Pc n m fs).length ≤ 4001 := by
    refine Nat.le_trans (pcs_len _ _ _ _ _ _) ?_
    have h0 : room (keysOf m fs) [] ≤ n * (keysOf m fs).length := room_le (keys_len rk rfl ff) []
    have h2 : (keysOf m fs).length ≤ 40 := by
      unfold keysOf
      rw [List.length_append, List.length_map]
      omega
    have h3 : n * (keysOf m fs).length ≤ 100 * 40 := Nat.mul_le_mul n1 h2
    omega
  refine ⟨fun σ' H' => ∃ X L Cn Bg as, σ' = [some (.int n), some (.ref D), some (.ref F), some (.ref G), some (.ref X), some (.ref L), some (.ref Cn), some (.ref Bg), none, none, none, none, none, none, none] ∧ Same H H' ∧ (∀ Hx, Kp2 Cn Bg H' Hx → TabAt C Hx X n (srt m)) ∧ H Cn = none ∧ H Bg = none ∧ Cn ≠ Bg ∧ H' Cn = some (.dK []) ∧ H' Bg = some (.dK []) ∧ H' L = some (.lst (as.map V.ref)) ∧ P3 H' n as (Pc n m fs), ?_, ?_⟩
  · refine ⟨_, rfl, ⟨_, rfl, ⟨rfl, rfl, fun X dX hX hdX hXX => ?_⟩⟩⟩
    have mx : D ≠ X := nonn hX hD
    have md : D ≠ dX := nonn hdX hD
    refine init_go upd_same (updn mx (updn md hD)) ok fun H2 kp tb => ⟨rfl, ?_⟩
    have s2 : Same H H2 := fun c o q => kp c o (nonn hX q) (updn (nonn hX q) (updn (nonn hdX q) q))
    refine ⟨_, rfl, ⟨_, rfl, ⟨_, rfl, ?_⟩⟩⟩
    unfold spPc
    refine ⟨D, F, n, m, fs, rfl, s2 _ _ hD, s2 _ _ hF, ok, lm, ff, lf, fun L as H3 s3 nL eL p3 => ?_⟩
    have tb3 := tb.to s3
    intro Cn nCn
    have sC := (Same.refl H3).new (o := HO.dK []) nCn
    intro Bg nBg
    have hCB : Cn ≠ Bg := fun q => by rw [← q, upd_same] at nBg; cases nBg
    have sB := sC.new (o := HO.dK []) nBg
    refine ⟨szl (by show 4 ≤ 1000000; decide), fun t nt => ?_⟩
    have eC : upd (upd H3 Cn (.dK [])) Bg (.dK []) Cn = some (.dK []) := updn hCB upd_same
    have eB : upd (upd H3 Cn (.dK [])) Bg (.dK []) Bg = some (.dK []) := upd_same
    have nB3 : H3 Bg = none := sC.back nBg
    generalize upd (upd H3 Cn (.dK [])) Bg (.dK []) = H4 at sB eC eB nt ⊢
    have st := sB.new (o := HO.tup [.ref X, .ref L, .ref Cn, .ref Bg]) nt
    refine ⟨t, _, rfl, SqT.of upd_same, rfl, ⟨_, _, rfl, ⟨_, _, rfl, ⟨_, _, rfl, ⟨_, _, rfl, ⟨rfl, ?_⟩⟩⟩⟩⟩⟩
    refine ⟨X, L, Cn, Bg, as, rfl, (s2.trans s3).trans st, fun Hx h => ?_, (s2.trans s3).back nCn, (s2.trans s3).back nB3, hCB, updn (nonn nt eC) eC, updn (nonn nt eB) eB, st _ _ eL, P3.to p3 (TuS.of st)⟩
    obtain ⟨dx, D', h1, h2, h3⟩ := tb3
    exact ⟨dx, D', h _ _ (nonn nCn h1) (nonn nB3 h1) (st _ _ h1), h _ _ (nonn nCn h2) (nonn nB3 h2) (st _ _ h2), h3⟩
  rintro σ' H1 ⟨X, L, Cn, Bg, as, rfl, s1, tX, nC, nB, hCB, eC, eB, eL, p3⟩
  have nLC : L ≠ Cn := fun q => by rw [q, eC] at eL; cases eL
  have nLB : L ≠ Bg := fun q => by rw [q, eB] at eL; cases eL
  refine ⟨fun σ' H' => ∃ x8 x9 x10 us, σ' = [some (.int n), some (.ref D), some (.ref F), some (.ref G), some (.ref X), some (.ref L), some (.ref Cn), some (.ref Bg), x8, x9, x10, none, none, none, none] ∧ Kp2 Cn Bg H1 H' ∧ us.Nodup ∧ (∀ g, g ∈ us ↔ cP n (Pc n m fs) g ≠ 0) ∧ H' Cn = some (.dK (fd us fun g => .int ((cP n (Pc n m fs) g : Nat) : Int))) ∧ H' Bg = some (.dK (fd us fun g => oA (fP n (Pc n m fs) g))), ?_, ?_⟩
  · refine ⟨_, rfl, ⟨L, rfl, ⟨_, SqL.of eL⟩, ?_⟩⟩
    refine for_it (walk_list (xs := as.map V.ref)) (fun i σ' H' => ∃ x8 x9 x10 us, σ' = [some (.int n), some (.ref D), some (.ref F), some (.ref G), some (.ref X), some (.ref L), some (.ref Cn), some (.ref Bg), x8, x9, x10, none, none, none, none] ∧ Kp2 Cn Bg H1 H' ∧ us.Nodup ∧ (∀ g, g ∈ us ↔ cP n ((Pc n m fs).take i) g ≠ 0) ∧ H' Cn = some (.dK (fd us fun g => .int ((cP n ((Pc n m fs).take i) g : Nat) : Int))) ∧ H' Bg = some (.dK (fd us fun g => oA (fP n ((Pc n m fs).take i) g))))
      ⟨_, _, _, [], rfl, (fun b o _ _ e => e), .nil, (fun g => ⟨fun h => (by cases h), fun h => absurd rfl h⟩), eC, eB⟩ (fun i σ' H' _ h => by
        obtain ⟨_, _, _, _, _, k5, _⟩ := h
        exact SqL.of (k5 _ _ nLC nLB eL)) ?_ ?_
    · rintro i x σ' Hz H3 hi ⟨x8, x9, x10, us, rfl, k3, ndu, mu, eC3, eB3⟩ ⟨rfl, hx⟩
      obtain ⟨p, hp, rfl⟩ : ∃ p, as[i]? = some p ∧ x = .ref p := by
        rw [List.getElem?_map] at hx
        cases e : as[i]? with
        | none => rw [e] at hx; cases hx
        | some t => rw [e] at hx; exact ⟨t, rfl, (Option.some.inj hx).symm⟩
      obtain ⟨⟨y, g⟩, hq, ep⟩ := paired_get p3 hp
      have hpC : p ≠ Cn := fun q => by rw [q, eC] at ep; cases ep
      have hpB : p ≠ Bg := fun q => by rw [q, eB] at ep; cases ep
      have ep3 := k3 _ _ hpC hpB ep
      obtain ⟨yb, yl, _⟩ := pc_at rk ff _ (List.mem_of_getElem? hq)
      have yl : y.length ≤ n := yl
      have estep : (Pc n m fs).take (i + 1) = (Pc n m fs).take i ++ [(y, g)] := by
        rw [List.take_add_one, hq]
        rfl
      have lu : us.length ≤ 41 := by
        refine Nat.le_trans (nd_len ndu (L := ("hole" : Str).cps.toList :: m.map fun p => p.2.cps.toList) fun g' hg' => ?_) (by rw [List.length_cons, List.length_map]; omega)
        have h1 := (mu g').mp hg'
        by_cases c : g' ∈ ((Pc n m fs).take i).map (·.2)
        · obtain ⟨q, hq', rfl⟩ := List.mem_map.mp c
          exact goalL_pc rk ff q (List.mem_of_mem_take hq')
        · refine absurd ((fP_cP _ _).mp ?_) h1
          unfold fP
          rw [Option.map_eq_none_iff, List.find?_eq_none]
          intro q hq' e
          exact c (List.mem_map.mpr ⟨q, hq', of_decide_eq_true e⟩)
      refine ⟨p, [sx y, sx g, .int ((2 ^ (n - y.length) : Nat) : Int)], rfl, SqT.of ep3, rfl, ⟨_, _, rfl, ⟨_, _, rfl, ⟨_, _, rfl, ⟨rfl, ?_⟩⟩⟩⟩⟩
      have es : ∀ x, cP n ((Pc n m fs).take (i + 1)) x = cP n ((Pc n m fs).take i) x + if g = x then 2 ^ (n - y.length) else 0 := fun x => by rw [estep, cP_snoc]
      have ef : ∀ x, fP n ((Pc n m fs).take (i + 1)) x = (fP n ((Pc n m fs).take i) x).or (if g = x then some (y ++ List.replicate (n - y.length) 48) else none) := fun x => by rw [estep, fP_snoc]
      have ef0 : ∀ x, fP n ((Pc n m fs).take i) x = none ↔ cP n ((Pc n m fs).take i) x = 0 := fun x => fP_cP _ _
      clear estep
      generalize cP n ((Pc n m fs).take (i + 1)) = c1 at es ⊢
      generalize fP n ((Pc n m fs).take (i + 1)) = f1 at ef ⊢
      generalize cP n ((Pc n m fs).take i) = c0 at es ef0 mu eC3
      generalize fP n ((Pc n m fs).take i) = f0 at ef ef0 eB3
      have pos := Nat.two_pow_pos (n - y.length)
      refine ⟨fun σ' H' => σ' = [some (.int n), some (.ref D), some (.ref F), some (.ref G), some (.ref X), some (.ref L), some (.ref Cn), some (.ref Bg), some (sx y), some (sx g), some (.int ((2 ^ (n - y.length) : Nat) : Int)), none, none, none, none] ∧ Kp2 Cn Bg H1 H' ∧ H' Cn = some (.dK (fd (if g ∈ us then us else us ++ [g]) fun x => .int ((c1 x : Nat) : Int))) ∧ H' Bg = some (.dK (fd us fun x => oA (f0 x))), ?_, ?_⟩
      · refine ⟨_, rfl, ⟨Cn, rfl, .inl ⟨_, .inl eC3⟩, ⟨_, rfl, ⟨_, .inl ⟨_, skey g, .inl eC3, rfl, rfl⟩, ?_⟩⟩⟩⟩
        have ev : ((valV (fd us fun x => V.int ((c0 x : Nat) : Int)) (skey g)).getD (V.int 0)) = V.int ((c0 g : Nat) : Int) := by
          rw [fd_val]
          by_cases q : g ∈ us
          · rw [if_pos q]; rfl
          · have : c0 g = 0 := Decidable.byContradiction fun h => q ((mu g).mpr h)
            rw [if_neg q, this]; rfl
        rw [ev]
        refine ⟨_, rfl, ⟨_, _, rfl, rfl, ?_⟩⟩
        refine ⟨_, rfl, ⟨_, rfl, ?_⟩⟩
        refine ⟨Cn, _, rfl, .inl ⟨_, skey g, eC3, rfl, szt (by rw [fd_len]; omega), rfl⟩, ?_⟩
        refine ⟨rfl, fun b o nb nb2 e => updn nb (k3 b o nb nb2 e), ?_, updn hCB.symm eB3⟩
        rw [upd_same, fd_put]
        refine congrArg (fun z => some (HO.dK z)) (fd_congr fun x _ => ?_)
        rw [es]
        by_cases q : x = g
        · rw [q, fup_at, if_pos rfl]
          exact congrArg V.int (by omega)
        · rw [fup_ne q, if_neg fun e => q e.symm, Nat.add_zero]
      rintro σ' H4 ⟨rfl, k4, eC4, eB4⟩
      refine ⟨_, rfl, ⟨Bg, rfl, .inl ⟨_, .inl eB4⟩, ⟨_, rfl, ⟨_, rfl, ⟨_, rfl, ⟨_, rfl, ⟨_, _, rfl, ⟨szl (by rw [sx_len]; omega), rfl⟩, ⟨_, _, rfl, rfl, ?_⟩⟩⟩⟩⟩⟩⟩⟩
      refine ⟨_, _, rfl, rfl, by decide, by rw [sx_len]; omega, by rw [sx_len]; omega, ?_⟩
      rw [show ((n : Int) - ((SX.S y).length : Int)).toNat = n - y.length by rw [sx_len]; omega, rep_S 48 "0" (by decide +kernel)]
      refine ⟨_, _, rfl, rfl, szl (by rw [sx_len, sx_len, List.length_replicate]; omega), ?_⟩
      rw [S_app]
      refine ⟨_, .inl ⟨_, skey g, .inl eB4, rfl, rfl⟩, ?_⟩
      have ev : ((valV (fd us fun x => oA (f0 x)) (skey g)).getD (V.str (SX.S (y ++ List.replicate (n - y.length) 48)))) = oA (f1 g) := by
        rw [fd_val, ef, if_pos rfl]
        by_cases q : g ∈ us
        · rw [if_pos q]
          cases h : f0 g with
          | none => exact absurd ((ef0 g).mp h) ((mu g).mp q)
          | some v => rfl
        · have : f0 g = none := (ef0 g).mpr (Decidable.byContradiction fun h => q ((mu g).mpr h))
          rw [if_neg q, this]; rfl
      rw [ev]
      refine ⟨_, rfl, ⟨_, rfl, ?_⟩⟩
      refine ⟨Bg, _, rfl, .inl ⟨_, skey g, eB4, rfl, szt (by rw [fd_len]; omega), rfl⟩, ?_⟩
      refine ⟨_, _, _, if g ∈ us then us else us ++ [g], rfl, fun b o nb nb2 e => updn nb2 (k4 b o nb nb2 e), ?_, fun x => ?_, updn hCB eC4, ?_⟩
      · by_cases q : g ∈ us
        · rw [if_pos q]; exact ndu
        · rw [if_neg q]
          exact List.nodup_append.mpr ⟨ndu, by simp, fun a ha b hb => by rw [List.mem_singleton] at hb; subst hb; exact fun e => q (e ▸ ha)⟩
      · rw [es]
        by_cases q : g ∈ us
        · rw [if_pos q, mu]
          by_cases c : g = x
          · subst c
            rw [if_pos rfl]
            have := (mu g).mp q
            exact ⟨fun _ => by omega, fun _ => this⟩
          · rw [if_neg c, Nat.add_zero]
        · rw [if_neg q, List.mem_append, List.mem_singleton, mu]
          by_cases c : g = x
          · rw [if_pos c]
            exact ⟨fun _ => by omega, fun _ => .inr c.symm⟩
          · rw [if_neg c, Nat.add_zero]
            exact ⟨fun h => h.elim id fun e => absurd e.symm c, .inl⟩
      · rw [upd_same, fd_put]
        refine congrArg (fun z => some (HO.dK z)) (fd_congr fun x _ => ?_)
        by_cases q : x = g
        · rw [q, fup_at]
        · rw [fup_ne q, ef, if_neg fun e => q e.symm, Option.or_none]
    · rintro σ' H3 ⟨x8, x9, x10, us, rfl, k3, ndu, mu, eC3, eB3⟩
      have el : (as.map V.ref).length = (Pc n m fs).length := by rw [List.length_map]; exact Paired.length p3
      rw [el, List.take_length] at mu eC3 eB3
      exact ⟨_, _, _, us, rfl, k3, ndu, mu, eC3, eB3⟩
  rintro σ' H2 ⟨x8, x9, x10, us, rfl, k2, ndu, mu, eC2, eB2⟩
  have s2 : Same H H2 := fun b o e => k2 b o (fun q => by rw [q, nC] at e; cases e) (fun q => by rw [q, nB] at e; cases e) (s1 _ _ e)
  have ht := tX H2 k2
  have ecn : ∀ g, cP n (Pc n m fs) g = cn n m fs g := cP_cn rk ff
  have mu2 : ∀ g, g ∈ us ↔ cn n m fs g ≠ 0 := fun g => by rw [mu, ecn]
  have eC2 : H2 Cn = some (.dK (fd us fun g => .int ((cn n m fs g : Nat) : Int))) := by
    rw [eC2]
    exact congrArg (fun z => some (HO.dK z)) (fd_congr fun g _ => by rw [ecn])
  clear s1 tX eC eB eL p3 nLC nLB k2 mu ecn
  have okS := srt_ok ok
  have elk : ∀ x, look (srt m) x = look m x := fun x => look_srt x
  have lus : us.length ≤ 41 := Nat.le_trans (goals_few ndu fun g hg => (mu2 g).mp hg) (by omega)
  refine ⟨fun σ' H' => ∃ x9 R, σ' = [some (.int n), some (.ref D), some (.ref F), some (.ref G), some (.ref X), some (.ref L), some (.ref Cn), some (.ref Bg), x8, x9, x10, some (.ref R), none, none, none] ∧ Same H2 H' ∧ CntAt H' R n m fs, ?_, ?_⟩
  · refine ⟨_, rfl, ⟨Cn, _, rfl, .inl eC2, fun L1 nL1 => ?_⟩⟩
    rw [fd_kV]
    have s4 := (Same.refl H2).new (o := HO.lst ((us.map SX.S).map V.str)) nL1
    have eW4 := s4 _ _ eC2
    refine ⟨L1, us.map SX.S, rfl, SqL.of upd_same, (by rw [List.length_map]; omega), fun ys L2 perm srt nL2 => ?_⟩
    generalize upd H2 L1 (.lst ((us.map SX.S).map V.str)) = H4 at s4 eW4 nL2 ⊢
    have ey : ys = tsort (us.map SX.S) := tsort_uniq perm (ts_of_sortedS srt)
    have to := tsort_ord ndu
    have ly : ys.length ≤ 41 := by rw [perm.length_eq, List.length_map]; exact lus
    rw [← ey] at to
    have s5 := s4.new (o := HO.lst (ys.map V.str)) nL2
    have eW5 := updn (o := HO.lst (ys.map V.str)) (nonn nL2 eW4) eW4
    have eL2 : upd H4 L2 (.lst (ys.map V.str)) L2 = some (.lst (ys.map V.str)) := upd_same
    generalize upd H4 L2 (.lst (ys.map V.str)) = H5 at s5 eW5 eL2 ⊢
    clear ey perm srt
    refine ⟨L2, rfl, ⟨_, SqL.of eL2⟩, fun B nB => ?_⟩
    refine lc_it (walk_list (xs := ys.map V.str)) (fun i H' => (∃ ps : List Addr, H' B = some (.lst (ps.map V.ref)) ∧ Pd H' ps (fd ((ys.take i).map fun z => z.cps.toList) fun g => .int ((cn n m fs g : Nat) : Int))) ∧ Same H5 H') ⟨⟨[], upd_same, .nil⟩, fun b o e => updn (nonn nB e) e⟩ (fun i H' _ h => SqL.of (h.2 _ _ eL2)) ?_ ?_
    · rintro i x H6 H6' hi ⟨⟨ps, eB, pd⟩, s6⟩ ⟨rfl, hx⟩
      obtain ⟨key, hkey, rfl⟩ : ∃ key, ys[i]? = some key ∧ x = .str key := by
        rw [List.getElem?_map] at hx
        cases e : ys[i]? with
        | none => rw [e] at hx; cases hx
        | some z => rw [e] at hx; exact ⟨z, rfl, (Option.some.inj hx).symm⟩
      have hg : key.cps.toList ∈ us := (to.2 _).mp (List.mem_map_of_mem (List.mem_of_getElem? hkey))
      have hv : valV (fd us fun g => V.int ((cn n m fs g : Nat) : Int)) (skey key.cps.toList) = some (.int ((cn n m fs key.cps.toList : Nat) : Int)) := by rw [fd_val, if_pos hg]
      have ek : (Sum.inr key : Key) = skey key.cps.toList := by unfold skey; rw [SX.S_tl]
      rw [← ek] at hv
      refine ⟨rfl, ?_⟩
      dsimp only [tYes]
      rw [if_pos rfl]
      refine ⟨_, rfl, ?_⟩
      refine ⟨_, rfl, ⟨_, rfl, ⟨Cn, _, rfl, .inl ⟨_, Sum.inr key, .inl (s6 _ _ eW5), rfl, hv.symm⟩, ?_⟩⟩⟩
      refine ⟨szl (by show 2 ≤ 1000000; decide), fun t nt => ?_⟩
      have nBt : B ≠ t := nonn nt eB
      have lps : ps.length ≤ 41 := by rw [pd.len, fd_len, List.length_map, List.length_take]; omega
      refine ⟨_, updn nBt eB, szt (by rw [List.length_map]; omega), ⟨ps ++ [t], by rw [upd_same, List.map_append]; rfl, ?_⟩, fun b o q => updn (nonn nB q) (updn (nonn nt (s6 _ _ q)) (s6 _ _ q))⟩
      have p2 : Pd (upd H6' t (.tup [.str key, .int ((cn n m fs key.cps.toList : Nat) : Int)])) (ps ++ [t]) (fd ((ys.take (i + 1)).map fun z => z.cps.toList) fun g => .int ((cn n m fs g : Nat) : Int)) := by
        rw [List.take_add_one, hkey, List.map_append]
        unfold fd
        rw [List.map_append]
        refine Paired.snoc (pd.mono fun a l e => updn (nonn nt e) e) ?_
        show _ = some (HO.tup [kV (skey key.cps.toList), V.int ((cn n m fs key.cps.toList : Nat) : Int)])
        rw [← ek]
        exact upd_same
      refine p2.mono fun a l q => updn (fun z => ?_) q
      rw [z, updn nBt eB] at q
      cases q
    · rintro H6 ⟨⟨ps, eB, pd⟩, s6⟩
      rw [List.length_map, List.take_length] at pd
      refine ⟨B, ps, _, rfl, SqL.of eB, pd.sq, fun R nR => ?_⟩
      have e0 := mrg_fd (fun g => V.int ((cn n m fs g : Nat) : Int)) (ys.map fun z => z.cps.toList) [] (by rw [List.nil_append]; exact nd_of_ord to.1)
      rw [List.nil_append] at e0
      rw [show mergeK [] (fd (ys.map fun z => z.cps.toList) fun g => V.int ((cn n m fs g : Nat) : Int)) = fd (ys.map fun z => z.cps.toList) fun g => V.int ((cn n m fs g : Nat) : Int) from e0]
      have s7 := (s5.trans s6).new (o := HO.dK (fd (ys.map fun z => z.cps.toList) fun g => V.int ((cn n m fs g : Nat) : Int))) nR
      exact ⟨_, R, rfl, s7, ⟨_, to.1, fun g => by rw [to.2 g, mu2], upd_same⟩⟩
  rintro σ' H3 ⟨y9, R, rfl, s3, hR⟩
  have ht3 := ht.to s3
  have hF3 := s3 _ _ (s2 _ _ hF')
  have eC3 := s3 _ _ eC2
  have efr : ((us.map fun g => ((cn n m fs g : Nat) : Int)).sum) = ((frN n fs : Nat) : Int) := by
    rw [sum_cast, cn_used ndu mu2]
  refine ⟨fun σ' H' => ∃ W, σ' = [some (.int n), some (.ref D), some (.ref F), some (.ref G), some (.ref X), some (.ref L), some (.ref Cn), some (.ref Bg), x8, y9, x10, some (.ref R), some (.ref W), some (.int ((frN n fs : Nat) : Int)), none] ∧ Same H3 H' ∧ CntAt H' W n m fs, ?_, ?_⟩
  · refine ⟨_, rfl, ⟨_, rfl, ⟨rfl, rfl, ?_⟩⟩⟩
    show spNb K C [V.ref X, V.ref F] _ _ _
    refine nb_go ht3 okS (.inl hF3) ff nd lf fun W H4 s4 nW hC => ?_
    refine ⟨_, rfl, ⟨Cn, _, rfl, s4 _ _ eC3, fun p np => ?_⟩⟩
    refine ⟨p, us.map fun g => ((cn n m fs g : Nat) : Int), rfl, SqL.of ?_, ?_⟩
    · rw [upd_same]
      unfold fd
      rw [List.map_map, List.map_map]
      rfl
    rw [efr]
    refine ⟨_, _, rfl, W, rfl, s4.new np, ?_⟩
    obtain ⟨g1, o1, q1, e1⟩ := hC.congr elk
    exact ⟨g1, o1, q1, updn (nonn np e1) e1⟩
  rintro σ' H4 ⟨W, rfl, s4, hW⟩
  have ffr : Fits n fs.reverse := fun t h => ff t (List.mem_reverse.mp h)
  have ndr : fs.reverse.Nodup := (List.reverse_perm fs).nodup_iff.mpr nd
  have lfr : fs.reverse.length ≤ 20 := by rw [List.length_reverse]; exact lf
  have hF4 := s4 _ _ hF3
  have hR4 : CntAt H4 R n m fs := by
    obtain ⟨g1, o1, q1, e1⟩ := hR
    exact ⟨g1, o1, q1, s4 _ _ e1⟩
  refine ⟨fun σ' H' => σ' = [some (.int n), some (.ref D), some (.ref F), some (.ref G), some (.ref X), some (.ref L), some (.ref Cn), some (.ref Bg), x8, y9, x10, some (.ref R), some (.ref W), some (.int ((frN n fs : Nat) : Int)), none] ∧ Same H4 H', ?_, ?_⟩
  · refine ⟨_, rfl, ?_⟩
    refine repr_go (cnt_rpB hW n1 (by omega) rk) ?_
    refine ⟨_, rfl, ?_⟩
    refine repr_go (cnt_rpB hR4 n1 (by omega) rk) ?_
    refine ⟨rfl, ⟨_, rfl, ?_⟩⟩
    rw [decide_eq_true rfl]
    refine iteF ?_
    refine ⟨_, rfl, ⟨F, _, rfl, SqL.of hF4, fun B nB => ?_⟩⟩
    rw [← List.map_reverse]
    have eB : upd H4 B (.lst (fs.reverse.map sx)) B = some (.lst (fs.reverse.map sx)) := upd_same
    have sB := (Same.refl H4).new (o := HO.lst (fs.reverse.map sx)) nB
    generalize upd H4 B (.lst (fs.reverse.map sx)) = H5 at eB sB ⊢
    refine ⟨_, rfl, ⟨rfl, rfl, ?_⟩⟩
    show spNb K C [V.ref X, V.ref B] _ _ _
    refine nb_go (ht3.to (s4.trans sB)) okS (.inl eB) ffr ndr lfr fun W2 H7 s7 nW2 hC2 => ?_
    refine repr_go (cnt_rpB (hC2.rev.congr elk) n1 (by omega) rk) ?_
    refine ⟨_, rfl, ?_⟩
    have hR7 : CntAt H7 R n m fs := by
      obtain ⟨g1, o1, q1, e1⟩ := hR4
      exact ⟨g1, o1, q1, s7 _ _ (sB _ _ e1)⟩
    refine repr_go (cnt_rpB hR7 n1 (by omega) rk) ?_
    refine ⟨rfl, ⟨_, rfl, ?_⟩⟩
    rw [decide_eq_true rfl]
    refine iteF ?_
    exact ⟨rfl, sB.trans s7⟩
  rintro σ' H5 ⟨rfl, s5⟩
  have hF5 := s5 _ _ hF4
  refine ⟨fun σ' H' => σ' = [some (.int n), some (.ref D), some (.ref F), some (.ref G), some (.ref X), some (.ref L), some (.ref Cn), some (.ref Bg), x8, y9, x10, some (.ref R), some (.ref W), some (.int ((frN n fs : Nat) : Int)), none] ∧ Same H5 H', ?_, ?_⟩
  · have lfr2 : frN n fs ≤ 2 ^ 100 := by
      refine Nat.le_trans (List.length_filter_le _ _) ?_
      rw [M.addrs_len]
      exact Nat.pow_le_pow_right (by decide) n1
    have rpd : ∀ {H' : Hp} {p : Addr}, H' p = some (.lst [V.int ((frN n fs : Nat) : Int), V.int ((frN n fs : Nat) : Int)]) → Rp K H' (.ref p) (.list [PyData.int ((frN n fs : Nat) : Int), PyData.int ((frN n fs : Nat) : Int)]) ∧ PyData.showable (.list [PyData.int ((frN n fs : Nat) : Int), PyData.int ((frN n fs : Nat) : Int)]) = true ∧ PyData.depth (.list [PyData.int ((frN n fs : Nat) : Int), PyData.int ((frN n fs : Nat) : Int)]) ≤ 50 ∧ (PyData.list [PyData.int ((frN n fs : Nat) : Int), PyData.int ((frN n fs : Nat) : Int)]).shown.length ≤ sizeLine := fun e => by
      refine ⟨.dat (.lst (SqL.of e) (.cons (.int _) (.cons (.int _) .nil))) rfl, ?_⟩
      have fit := FitB.list (B := 40) (N := 0) (D := 0) (ds := [PyData.int ((frN n fs : Nat) : Int), PyData.int ((frN n fs : Nat) : Int)]) fun d hd => by
        simp only [List.mem_cons, List.not_mem_nil, or_false, or_self] at hd
        subst hd
        exact fitB_100 lfr2
      exact fit.ok (by decide) (by show (40 + 2) * ((0 + 1) * 2) + 40 ≤ 1000000; decide) (by decide)
    have h0 : 1 ≤ n := by have := ok.w0; omega
    refine ⟨_, rfl, ⟨_, rfl, ?_⟩⟩
    refine un_go h0 n1 (.inl hF5) ff nd lf fun H8 s8 => ?_
    refine ⟨_, rfl, ⟨F, _, rfl, .inl ⟨SqL.of (s8 _ _ hF5), fun tl ntl => ?_⟩⟩⟩
    have st := s8.new (o := HO.tup (fs.map sx)) ntl
    have et : upd H8 tl (.tup (fs.map sx)) tl = some (.tup (fs.map sx)) := upd_same
    generalize upd H8 tl (.tup (fs.map sx)) = H9 at st et ⊢
    refine ⟨_, rfl, ⟨rfl, rfl, ?_⟩⟩
    show spUN K [V.int n, V.ref tl] _ _ _
    refine un_go h0 n1 (.inr (.inl et)) ff nd lf fun Ha sa => ?_
    refine ⟨szl (by show 2 ≤ 1000000; decide), fun Rr nR => ?_⟩
    have sb := (st.trans sa).new (o := HO.lst [V.int ((frN n fs : Nat) : Int), V.int ((frN n fs : Nat) : Int)]) nR
    refine repr_go (rpd upd_same) ?_
    generalize upd Ha Rr (.lst [V.int ((frN n fs : Nat) : Int), V.int ((frN n fs : Nat) : Int)]) = Hb at sb ⊢
    refine ⟨_, rfl, ⟨_, rfl, ?_⟩⟩
    refine ⟨szl (by show 2 ≤ 1000000; decide), fun R2 nR2 => ?_⟩
    have sc := sb.new (o := HO.lst [V.int ((frN n fs : Nat) : Int), V.int ((frN n fs : Nat) : Int)]) nR2
    refine repr_go (rpd upd_same) ?_
    refine ⟨rfl, ⟨_, rfl, ?_⟩⟩
    rw [decide_eq_true rfl]
    refine iteF ?_
    exact ⟨rfl, sc⟩
  rintro σ' H6 ⟨rfl, s6⟩
  have hW6 : CntAt H6 W n m fs := by
    obtain ⟨g1, o1, q1, e1⟩ := hW
    exact ⟨g1, o1, q1, s6 _ _ (s5 _ _ e1)⟩
  refine ⟨fun σ' H' => σ' = [some (.int n), some (.ref D), some (.ref F), some (.ref G), some (.ref X), some (.ref L), some (.ref Cn), some (.ref Bg), x8, y9, x10, some (.ref R), some (.ref W), some (.int ((frN n fs : Nat) : Int)), none] ∧ Same H6 H', ?_, ?_⟩
  · obtain ⟨g1, o1, q1, e1⟩ := hW6
    refine ⟨_, rfl, ⟨W, _, rfl, e1, fun p np => ?_⟩⟩
    have sp := (Same.refl H6).new (o := HO.lst ((fd g1 fun g => V.int ((cn n m fs g : Nat) : Int)).map (·.2))) np
    have ev1 : (fd g1 fun g => V.int ((cn n m fs g : Nat) : Int)).map (·.2) = (g1.map fun g => ((cn n m fs g : Nat) : Int)).map V.int := by
      unfold fd
      rw [List.map_map, List.map_map]
      rfl
    rw [ev1] at sp ⊢
    refine ⟨p, _, rfl, SqL.of upd_same, ?_⟩
    rw [sum_cast, cn_used (nd_of_ord o1) q1]
    refine ⟨_, rfl, ?_⟩
    refine ⟨rfl, ⟨_, rfl, ?_⟩⟩
    rw [decide_eq_true rfl]
    refine iteF ?_
    exact ⟨rfl, sp⟩
  rintro σ' H7 ⟨rfl, s7⟩
  have ht7 := ht3.to (((s4.trans s5).trans s6).trans s7)
  have s37 := ((s4.trans s5).trans s6).trans s7
  have hF7 := s37 _ _ hF3
  have hG7 := s37 _ _ (s3 _ _ (s2 _ _ hG'))
  have eB7 := s37 _ _ (s3 _ _ eB2)
  have h0 : 1 ≤ n := by have := ok.w0; omega
  have evB : ∀ g : Str, (valV (fd us fun x => oA (fP n (Pc n m fs) x)) (Sum.inr g)).getD V.non = oA (fw n m fs g).head? := fun g => by
    rw [show (Sum.inr g : Key) = skey g.cps.toList by unfold skey; rw [S_cp], fd_val, ← fP_fw rk ff]
    by_cases q : g.cps.toList ∈ us
    · rw [if_pos q]; rfl
    · have : fP n (Pc n m fs) g.cps.toList = none := (fP_cP _ _).mpr (Decidable.byContradiction fun h => q ((mu2 _).mpr (by rw [← cP_cn rk ff]; exact h)))
      rw [if_neg q, this]; rfl
  have sca : ∀ o o' : Option (List Nat), scal (oA o) (oA o') = true := fun o o' => by cases o <;> cases o' <;> rfl
  refine ⟨fun σ' H' => ∃ y9 y14, σ' = [some (.int n), some (.ref D), some (.ref F), some (.ref G), some (.ref X), some (.ref L), some (.ref Cn), some (.ref Bg), x8, y9, x10, some (.ref R), some (.ref W), some (.int ((frN n fs : Nat) : Int)), y14] ∧ Same H7 H', ?_, ?_⟩
  · refine ⟨_, rfl, ⟨szl (by show 1 ≤ 1000000; decide), fun B nB => ?_⟩⟩
    have s8 := (Same.refl H7).new (o := HO.lst [V.str "qqqqqq"]) nB
    refine ⟨G, B, _, _, rfl, rfl, s8 _ _ hG7, upd_same, szl (by rw [List.length_map]; show gs.length + 1 ≤ 1000000; omega), fun A nA => ?_⟩
    have sA := s8.new (o := HO.lst (gs.map V.str ++ [V.str "qqqqqq"])) nA
    have eA : upd (upd H7 B (.lst [V.str "qqqqqq"])) A (.lst (gs.map V.str ++ [V.str "qqqqqq"])) A = some (.lst ((gs ++ [("qqqqqq" : Str)]).map V.str)) := by rw [List.map_append]; exact upd_same
    generalize upd (upd H7 B (.lst [V.str "qqqqqq"])) A (.lst (gs.map V.str ++ [V.str "qqqqqq"])) = H9 at sA eA ⊢
    have hgq : ∀ g ∈ gs ++ [("qqqqqq" : Str)], GoalOk g := fun g h => by
      rcases List.mem_append.mp h with h | h
      · exact hgs g h
      · rw [List.mem_singleton] at h
        subst h
        unfold GoalOk
        refine ⟨by decide +kernel, by decide +kernel, by decide +kernel⟩
    generalize gs ++ [("qqqqqq" : Str)] = ga at eA hgq
    refine ⟨A, rfl, ⟨_, SqL.of eA⟩, ?_⟩
    refine for_it (walk_list (xs := ga.map V.str)) (fun i σ' H' => ∃ y9 y14, σ' = [some (.int n), some (.ref D), some (.ref F), some (.ref G), some (.ref X), some (.ref L), some (.ref Cn), some (.ref Bg), x8, y9, x10, some (.ref R), some (.ref W), some (.int ((frN n fs : Nat) : Int)), y14] ∧ Same H9 H') ⟨_, _, rfl, Same.refl _⟩ (fun i σ' H' _ h => by obtain ⟨_, _, _, s⟩ := h; exact SqL.of (s _ _ eA)) ?_ ?_
    · rintro i x σ' Hz Ha hi ⟨y9, y14, rfl, sa⟩ ⟨rfl, hx⟩
      obtain ⟨g, hg, rfl⟩ : ∃ g, ga[i]? = some g ∧ x = V.str g := by
        rw [List.getElem?_map] at hx
        cases e : ga[i]? with
        | none => rw [e] at hx; cases hx
        | some t => rw [e] at hx; exact ⟨t, rfl, (Option.some.inj hx).symm⟩
      have go := hgq g (List.mem_of_getElem? hg)
      have s7a := sA.trans sa
      refine ⟨fun σ' H' => σ' = [some (.int n), some (.ref D), some (.ref F), some (.ref G), some (.ref X), some (.ref L), some (.ref Cn), some (.ref Bg), x8, some (.str g), x10, some (.ref R), some (.ref W), some (.int ((frN n fs : Nat) : Int)), some (oA (fw n m fs g).head?)] ∧ Same Ha H', ?_, ?_⟩
      · refine ⟨_, rfl, ⟨_, rfl, ⟨_, rfl, ⟨rfl, rfl, ?_⟩⟩⟩⟩
        show spFW K C [V.ref X, V.str g, V.ref F] _ _ _
        refine fw_go go.1 go.2.2 (ht7.to s7a) okS (.inl (s7a _ _ hF7)) ff nd lf fun Hb sb => ?_
        rw [fw_look elk]
        exact ⟨rfl, sb⟩
      rintro σ' Hb ⟨rfl, sb⟩
      have s7b := s7a.trans sb
      refine ⟨fun σ' H' => σ' = [some (.int n), some (.ref D), some (.ref F), some (.ref G), some (.ref X), some (.ref L), some (.ref Cn), some (.ref Bg), x8, some (.str g), x10, some (.ref R), some (.ref W), some (.int ((frN n fs : Nat) : Int)), some (oA (fw n m fs g).head?)] ∧ Same Hb H', ?_, ?_⟩
      · refine ⟨_, rfl, ⟨_, rfl, ⟨Bg, rfl, .inl ⟨_, .inl (s7b _ _ eB7)⟩, ⟨_, rfl, ⟨_, .inl ⟨_, Sum.inr g, .inl (s7b _ _ eB7), rfl, rfl⟩, ?_⟩⟩⟩⟩⟩
        rw [evB]
        refine ⟨sca _ _, ⟨_, rfl, ?_⟩⟩
        rw [decide_eq_true rfl]
        refine iteF ?_
        refine ⟨_, rfl, ⟨_, rfl, ⟨_, rfl, ⟨F, _, rfl, SqL.of (s7b _ _ hF7), fun B2 nB2 => ?_⟩⟩⟩⟩
        rw [← List.map_reverse]
        have eR : upd Hb B2 (.lst (fs.reverse.map sx)) B2 = some (.lst (fs.reverse.map sx)) := upd_same
        have sR := (Same.refl Hb).new (o := HO.lst (fs.reverse.map sx)) nB2
        generalize upd Hb B2 (.lst (fs.reverse.map sx)) = Hc at eR sR ⊢
        refine ⟨rfl, rfl, ?_⟩
        show spFW K C [V.ref X, V.str g, V.ref B2] _ _ _
        refine fw_go go.1 go.2.2 (ht7.to (s7b.trans sR)) okS (.inl eR) ffr ndr lfr fun Hd sd => ?_
        rw [fw_look elk, fw_rev]
        refine ⟨_, rfl, ⟨sca _ _, ⟨_, rfl, ?_⟩⟩⟩
        rw [decide_eq_true rfl]
        refine iteF ?_
        exact ⟨rfl, sR.trans sd⟩
      rintro σ' Hc ⟨rfl, sc⟩
      have s7c := s7b.trans sc
      cases e : (fw n m fs g).head? with
      | none =>
        refine ⟨_, rfl, ⟨rfl, ⟨_, rfl, ?_⟩⟩⟩
        refine iteF (iteF ?_)
        exact ⟨_, _, rfl, sa.trans (sb.trans sc)⟩
      | some z =>
        have hz : z ∈ fw n m fs g := List.mem_of_head? e
        obtain ⟨za, zq⟩ := List.mem_filter.mp hz
        obtain ⟨zu, zg⟩ := (Bool.and_eq_true _ _).mp zq
        have zg := of_decide_eq_true zg
        obtain ⟨zb, zl⟩ := M.addr_ok za
        refine ⟨_, rfl, ⟨rfl, ⟨_, rfl, ?_⟩⟩⟩
        refine iteT ?_
        refine ⟨_, rfl, ⟨_, rfl, ⟨_, rfl, ?_⟩⟩⟩
        refine iu_go h0 n1 (.inl (s7c _ _ hF7)) ff nd lf za fun Hd sd => ?_
        refine ⟨_, rfl, ?_⟩
        rw [zu]
        refine iteT ?_
        have tXd := ht7.to (s7c.trans sd)
        obtain ⟨d1, f1, hXd, _⟩ := id tXd
        refine ⟨_, rfl, ⟨X, rfl, ⟨_, rfl, ⟨⟨d1, _, hXd⟩, ?_⟩⟩⟩⟩
        show spCall C [.ref X, .str (SX.S z)] _ _ _
        refine call_go tXd h0 n1 (sx_bits zb) (by rw [sx_len]; exact zl) fun He se => ?_
        have eg : goalT (look (srt m)) (SX.S z) = g := by
          have : look (srt m) = look m := funext elk
          rw [this]
          unfold gS at zg
          rw [← S_cp (goalT (look m) (SX.S z)), zg, S_cp]
        rw [eg]
        refine ⟨_, rfl, ⟨rfl, ⟨_, rfl, ?_⟩⟩⟩
        rw [decide_eq_true rfl]
        refine iteF ?_
        exact ⟨_, _, rfl, sa.trans (sb.trans (sc.trans (sd.trans se)))⟩
    · rintro σ' Ha ⟨y9, y14, rfl, sa⟩
      exact ⟨_, _, rfl, sA.trans sa⟩
  rintro σ' H8 ⟨z9, z14, rfl, s8⟩
  have hF8 := s8 _ _ hF7
  have s28 := ((s2.trans s3).trans s37).trans s8
  refine ⟨_, rfl, ⟨F, rfl, ⟨_, SqL.of hF8⟩, fun B nB => ?_⟩⟩
  refine lc_it (walk_list (xs := fs.map sx)) (fun i H' => H' B = some (.lst ((List.replicate i false).map V.bl)) ∧ Same H8 H') ⟨upd_same, fun b o e => updn (nonn nB e) e⟩ (fun i H' _ h => SqL.of (h.2 _ _ hF8)) ?_ ?_
  · rintro i x H9 Ha hi ⟨hB, sm⟩ ⟨rfl, hx⟩
    obtain ⟨y, hy, rfl⟩ := sx_at hx
    obtain ⟨yb, yl⟩ := ff y (List.mem_of_getElem? hy)
    have hi2 : i < 20 := by rw [List.length_map] at hi; omega
    refine ⟨rfl, ?_⟩
    dsimp only [tYes]
    rw [if_pos rfl]
    refine ⟨_, rfl, ?_⟩
    refine ⟨_, rfl, ⟨_, rfl, ⟨_, rfl, ⟨_, rfl, ⟨_, _, rfl, ⟨szl (by rw [sx_len]; omega), rfl⟩, ⟨_, _, rfl, rfl, ?_⟩⟩⟩⟩⟩⟩
    refine ⟨_, _, rfl, rfl, by decide, by rw [sx_len]; omega, by rw [sx_len]; omega, ?_⟩
    rw [show ((n : Int) - ((SX.S y).length : Int)).toNat = n - y.length by rw [sx_len]; omega, rep_S 49 "1" (by decide +kernel)]
    refine ⟨_, _, rfl, rfl, szl (by rw [sx_len, sx_len, List.length_replicate]; omega), ?_⟩
    rw [S_app]
    have zin : y ++ List.replicate (n - y.length) 49 ∈ M.addrs n := in_addrs (fun c hc => by
      rcases List.mem_append.mp hc with h | h
      · exact yb c h
      · exact .inr (List.eq_of_mem_replicate h)) (by rw [List.length_append, List.length_replicate]; omega)
    have zf : M.frB fs (y ++ List.replicate (n - y.length) 49) = true := List.any_eq_true.mpr ⟨y, List.mem_of_getElem? hy, decide_eq_true (List.prefix_append _ _)⟩
    refine iu_go h0 n1 (.inl (sm _ _ hF8)) ff nd lf zin fun Hb sb => ?_
    rw [zf]
    refine ⟨_, sb _ _ hB, szt (by rw [List.length_map, List.length_replicate]; omega), ?_, fun b o e => updn (nonn nB e) (sb _ _ (sm _ _ e))⟩
    rw [upd_same, List.replicate_succ', List.map_append]
    rfl
  rintro H9 ⟨hB, sm⟩
  rw [List.length_map] at hB
  refine ⟨szl (by show 1 ≤ 1000000; decide), fun Z nZ => ?_⟩
  have sZ := (Same.refl H9).new (o := HO.lst [V.bl false]) nZ
  have eZ : upd H9 Z (.lst [V.bl false]) Z = some (.lst [V.bl false]) := upd_same
  generalize upd H9 Z (.lst [V.bl false]) = Hz at sZ eZ ⊢
  refine ⟨_, rfl, ⟨_, _, rfl, .inl ⟨_, SqL.of (sZ _ _ (sm _ _ hF8)), rfl⟩, ?_⟩⟩
  have lfz : (fs.map sx).length = fs.length := List.length_map ..
  refine ⟨Z, _, _, rfl, rfl, eZ, by omega, by omega, szl (by show 1 * _ ≤ 1000000; omega), fun Y nY => ?_⟩
  have e1 : (List.replicate ((((fs.map sx).length : Nat) : Int)).toNat [V.bl false]).flatten = (List.replicate fs.length false).map V.bl := by
    rw [show ((((fs.map sx).length : Nat) : Int)).toNat = fs.length by omega, List.flatten_replicate_singleton, List.map_replicate]
  rw [e1]
  have sY := sZ.new (o := HO.lst ((List.replicate fs.length false).map V.bl)) nY
  have eY : upd Hz Y (.lst ((List.replicate fs.length false).map V.bl)) Y = some (.lst ((List.replicate fs.length false).map V.bl)) := upd_same
  generalize upd Hz Y (.lst ((List.replicate fs.length false).map V.bl)) = Hy at sY eY ⊢
  have fit : Fit ((0 + 1) * ((List.replicate fs.length false).map PyData.bool).length) 1 (.list ((List.replicate fs.length false).map PyData.bool)) := Fit.list (fun d hd => by
    obtain ⟨b, _, rfl⟩ := List.mem_map.mp hd
    exact Fit.bool b)
  have eqr : PyData.eqv (.list ((List.replicate fs.length false).map PyData.bool)) (.list ((List.replicate fs.length false).map PyData.bool)) = true := by
    exact SeqAt.eqv_refl _ fit.lay
  refine ⟨_, _, .lst (SqL.of (sY _ _ hB)) (bls_dp _), .lst (SqL.of eY) (bls_dp _), fit.shp (by decide), fit.shp (by decide), ?_⟩
  rw [eqr]
  exact k Hy (s28.trans (sm.trans sY))
end
open PySem PySem.Spec PyProof.Rows
open L2 hiding pass0
/-! ### all free; half free -/
theorem frN_all (n : Nat) : frN n [[]] = 0 := by
  unfold frN
  rw [List.filter_eq_nil_iff.mpr fun z _ => ?_]
  · rfl
  · have : M.frB [[]] z = true := List.any_eq_true.mpr ⟨[], List.mem_singleton.mpr rfl, decide_eq_true (List.nil_prefix)⟩
    rw [this]
    decide
theorem gS_nil (z : List Nat) : gS [] z = ("hole" : Str).cps.toList := List.mem_singleton.mp (gS_in [] z)
theorem cn_half (k : Nat) : cn (k + 1) [] [[48]] ("hole" : Str).cps.toList = 2 ^ k := by
  unfold cn
  rw [addrs_cons, List.countP_append, List.countP_map, List.countP_map]
  have h0 : ∀ z : List Nat, M.frB [[48]] (48 :: z) = true := fun z => List.any_eq_true.mpr ⟨[48], List.mem_singleton.mpr rfl, decide_eq_true ⟨z, rfl⟩⟩
  have h1 : ∀ z : List Nat, M.frB [[48]] (49 :: z) = false := fun z => by
    unfold M.frB
    rw [List.any_eq_false]
    intro t ht e
    rw [List.mem_singleton] at ht
    subst ht
    obtain ⟨y, q⟩ := of_decide_eq_true e
    cases q
  rw [List.countP_eq_zero.mpr fun z _ => ?_, List.countP_eq_length.mpr fun z _ => ?_, M.addrs_len, Nat.zero_add]
  · show (!M.frB [[48]] (49 :: z) && decide (gS [] (49 :: z) = ("hole" : Str).cps.toList)) = true
    rw [h1, gS_nil, decide_eq_true rfl]
    rfl
  · show ¬ (!M.frB [[48]] (48 :: z) && decide (gS [] (48 :: z) = ("hole" : Str).cps.toList)) = true
    rw [h0, Bool.not_true, Bool.false_and]
    exact Bool.false_ne_true
theorem half_is {H : Hp} {D : Addr} {k : Nat} (h : CntAt H D (k + 1) [] [[48]]) : H D = some (.dK (fd [("hole" : Str).cps.toList] fun _ => .int ((2 ^ k : Nat) : Int))) := by
  obtain ⟨gs, o, hm, e⟩ := h
  have hg : gs = [("hole" : Str).cps.toList] := ord_eq o (List.pairwise_singleton _ _) fun g => by
    rw [hm, List.mem_singleton]
    constructor
    · intro q
      exact List.mem_singleton.mp (cn_in q)
    · rintro rfl
      rw [cn_half]
      have := Nat.two_pow_pos k
      omega
  subst hg
  rw [e]
  exact congrArg (fun z => some (HO.dK z)) (fd_congr fun g hg => by rw [List.mem_singleton.mp hg, cn_half])
open PySem PySem.Spec PyProof.Rows
open L2 hiding pass0
/-! ### a table without rows -/
@[irreducible] def spInitN (C : Addr) : Sp := fun vs H Q _ => ∃ (a dx : Addr) (n : Int), vs = [.ref a, .int n, .non] ∧ H a = some (.ins C dx []) ∧ 1 ≤ n ∧ n ≤ 100 ∧
  ∀ H', (∀ c o, c ≠ a → H c = some o → H' c = some o) → TabAt C H' a n [] → Q .non H'
section
variable {P : Program} {w : World} {K : PySem.W.Frag} {mg : Str → Option Value} {base : Heap} {f C : Addr} {fd : FuncData}
theorem ok_initN {params : Arguments} {dvs : List V} {kws : List (Str × V)} (F : FunD K "__init__" "Table.__init__" params (defBody s_Tableinit) (defScope s_Tableinit) dvs kws f fd) (T : Txt K mg) (TC : TabC K C) (c_check_width : Nm P w K mg base CX0 3 "check_width" s_check_width ["width"] spCW)
    (c_is_rows : Nm P w K mg base CX0 5 "is_rows" s_is_rows ["width", "value"] spRows) : FnG P w K mg base CX0 6 f fd ["self", "width", "rows"] (spInitN C) := by
  obtain ⟨oc, od, dV, kV, doc, pm, an, cdv, ct, osl, rfl, lk, hcd, _, _⟩ := F.ex
  refine fnG_core lk hcd sc_Tableinit (fun vs H Q E h => ?_) fun A outer s H vs Q E hr h => ?_
  · unfold spInitN at h
    obtain ⟨a, dx, n, rfl, _⟩ := h
    rfl
  · unfold spInitN at h
    obtain ⟨a, dx, n, rfl, ha, h0, h1, k⟩ := h
    refine ⟨_, (pss_cons (ps_expr (pe_g c_check_width hr (by decide) L2.pass0 bp_check_width (by rfl) (pa_cons (pv 1) pa_nil)))
      (pss_cons (ps_if (pt_cmpR op_isN (pv 2) pe_non (nomark _)) (pss_one (ps_set (i := 2) sc_Tableinit.nd rfl (by first | exact Or.inl rfl | exact Or.inr rfl) pe_dnewK)) pss_nil)
      (pss_cons (ps_if (pt_not (pt_val (pe_g c_is_rows hr (by decide) L2.pass0 bp_is_rows (by rfl) (pa_cons (pv 1) (pa_cons (pv 2) pa_nil))))) (pss_one ps_never) pss_nil)
      (pss_cons (ps_if (pt_cmpR op_gt (pe_callB call_lenD (by rfl) T.b_len PySem.boot_len (pa_cons (pv 2) pa_nil)) (pe_con (pv 0) (by rfl)) (nomark _)) (pss_one ps_never) pss_nil)
      (pss_cons (ps_fld (pv 0) (pv 1) rfl)
      (pss_one (ps_fld (pv 0) (pe_dc (own := [("stretch", 3)]) (g := (gName 3)) (by rfl) sc_Tableinit.nd (pi_listK (K := K) rfl (pe_callBK (cr_sortKD hr.u rfl) (by rfl) T.b_sorted (by decide +kernel) (pa_cons (pv 2) pa_nil) (pk_cons (pe_ty "str" (by rfl) T.b_str (by decide +kernel)) pk_nil))) (blkOk_by (own := [("stretch", 3)]) (N := ["self", "width", "rows", "stretch"]) (sc := defScope s_Tableinit) (by decide +kernel)) (fun _ _ _ _ _ => (pg_name (i := 3) sc_Tableinit.nd rfl (by first | exact Or.inl rfl | exact Or.inr rfl))) (fun _ _ _ _ _ => pts_nil) (fun _ _ _ _ _ => (pv 3)) (fun _ _ _ _ _ => (pe_dget hr.u1 (pv 2) (pv 3) (fun _ _ => rfl)))) rfl))))))), ?_⟩
    repeat walk_at "s1"
    refine cw_go h0 h1 fun H1 sm1 => ?_
    have ha1 := sm1 _ _ ha
    show tSeq _ _ _ _ _
    refine ⟨_, rfl, ?_⟩
    refine ⟨rfl, ?_⟩
    refine ⟨_, rfl, ?_⟩
    refine iteT ?_
    intro b nb
    have hb0 : upd H1 b (.dK []) b = some (.dK (tk ([] : List (Str × Str)))) := upd_same
    have hba0 : a ≠ b := nonn nb ha1
    have ha0 := updn (o := HO.dK []) hba0 ha1
    have s0 : Same H (upd H1 b (.dK [])) := fun c o e => updn (nonn nb (sm1 c o e)) (sm1 c o e)
    generalize upd H1 b (.dK []) = H1' at hb0 ha0 s0 ⊢
    show tSeq _ _ _ _ _
    refine ⟨_, rfl, ?_⟩
    refine ⟨_, rfl, ?_⟩
    refine rows_go h0 h1 hb0 (fun p hp => by cases hp) (Nat.zero_le _) fun H2 sm2 => ?_
    have ha2 := sm2 _ _ ha0
    have hb2 := sm2 _ _ hb0
    have s2 := s0.trans sm2
    refine ⟨_, rfl, ?_⟩
    refine iteF ?_
    show tSeq _ _ _ _ _
    refine ⟨_, rfl, ?_⟩
    refine ⟨b, tk ([] : List (Str × Str)), rfl, hb2, ?_⟩
    refine ⟨_, rfl, ?_⟩
    obtain ⟨u, hcon⟩ := TC.con
    refine ⟨a, C, dx, [], .int 40, u, rfl, ha2, TC.cl, hcon, rfl, ?_⟩
    refine ⟨_, _, rfl, rfl, ?_⟩
    refine ⟨_, rfl, ?_⟩
    rw [show decide ((40 : Int) < ((tk ([] : List (Str × Str))).length : Int)) = false from rfl]
    refine iteF ?_
    show tSeq _ _ _ _ _
    refine ⟨_, rfl, ?_⟩
    refine ⟨_, rfl, ?_⟩
    refine ⟨a, C, dx, [], rfl, ha2, TC.cl, TC.n1, by decide, ?_⟩
    have hba : b ≠ a := hba0.symm
    have hb3 : upd H2 a (.ins C dx (putF "_width" (.int n) [])) b = some (.dK (tk ([] : List (Str × Str)))) := updn hba hb2
    dsimp only
    refine ⟨_, rfl, ?_⟩
    refine ⟨b, tk ([] : List (Str × Str)), [], rfl, rfl, .inl hb3, rfl, fun L nL => ?_⟩
    have e0 : tsort ([] : List Str) = [] := List.Perm.eq_nil (tsort_perm _)
    rw [e0]
    refine ⟨L, rfl, ⟨_, SqL.of upd_same⟩, fun D nD => ?_⟩
    have hLa : L ≠ a := fun z => by rw [z, upd_same] at nL; cases nL
    have hDL : D ≠ L := fun z => by rw [z, upd_same] at nD; cases nD
    have hDa : D ≠ a := fun z => by rw [z, upd_ne (Ne.symm hLa), upd_same] at nD; cases nD
    have nD2 : H2 D = none := by
      rw [upd_ne hDL, upd_ne hDa] at nD
      exact nD
    refine dc_it walk_list (fun i H4 => H4 D = some (.dK (tk ([] : List (Str × Str)))) ∧ H4 L = some (.lst (([] : List Str).map V.str)) ∧ H4 a = some (.ins C dx [("_width", .int n)]) ∧ (∀ c o, c ≠ a → H2 c = some o → H4 c = some o)) ?_ (fun i H4 _ h => SqL.of h.2.1) ?_ ?_
    · refine ⟨upd_same, updn (Ne.symm hDL) upd_same, updn (Ne.symm hDa) (updn (Ne.symm hLa) upd_same), fun c o hc e => ?_⟩
      have e1 : upd H2 a (.ins C dx (putF "_width" (.int n) [])) c = some o := updn hc e
      have e2 := updn (o := .lst (([] : List Str).map V.str)) (nonn nL e1) e1
      exact updn (nonn nD e2) e2
    · intro i x H4 H5 hi _ _
      exact absurd hi (Nat.not_lt_zero _)
    · rintro H4 ⟨hD, hL, hA, hk⟩
      refine ⟨_, rfl, ⟨a, C, dx, _, rfl, hA, TC.cl, TC.n2, Nat.le_of_ble_eq_true rfl, ?_⟩⟩
      exact k _ (fun c o hc e => updn hc (hk c o hc (s2 c o e))) ⟨dx, D, upd_same, updn hDa hD, hDa⟩
end
theorem b_tableN {P : Program} {w : World} {K : PySem.W.Frag} {mg : Str → Option Value} {base : Heap} {f C : Addr} {fd : FuncData} (F : FunD K "__init__" "Table.__init__" (defArgs s_Tableinit) (defBody s_Tableinit) (defScope s_Tableinit) [.non] [] f fd) (M : Mk K C f) (hm : mg "Table" = some (.ref C))
    (ok : FnG P w K mg base CX0 6 f fd ["self", "width", "rows"] (spInitN C)) : BndI P w K mg base CX0 6 "Table" C ["self", "width", "rows"] (spInitN C) 1 [] (fun us _ => us ++ [.non]) := by
  obtain ⟨its, hb⟩ := F.kbindsD (ps := ["self", "width", "rows"]) 2 [] (fun us ds _ => us ++ ds) (by simp) (fun r d _ => r.append d) (fun T kV doc pm an cdv ct us its ws h1 h2 h3 => by
    match us, its, ws, h1, h2, h3 with
    | [a, b], [d], [], _, _, _ => exact ⟨_, rfl, rfl⟩)
  exact ⟨f, fd, _, M, hm, ok, hb⟩
theorem initN_go {C a dx : Addr} {n : Int} {H : Hp} {Q : VK} {E : XK} (ha : H a = some (.ins C dx [])) (h0 : 1 ≤ n) (h1 : n ≤ 100) (k : ∀ H', (∀ c o, c ≠ a → H c = some o → H' c = some o) → TabAt C H' a n [] → Q .non H') : spInitN C [.ref a, .int n, .non] H Q E := by
  unfold spInitN
  exact ⟨a, dx, n, rfl, ha, h0, h1, k⟩
theorem vals_rev : ∀ {zs : List V} {ws : List Value}, Vals zs ws → Vals zs.reverse ws.reverse
  | _, _, .nil => .nil
  | _, _, .cons r t => by
    rw [List.reverse_cons, List.reverse_cons]
    exact (vals_rev t).append (.cons r .nil)
section
variable {P : Program} {w : World} {K : PySem.W.Frag} {mg : Str → Option Value} {base : Heap} {f C t0 : Addr} {fd : FuncData}
theorem b_nb2 (F : FunD K "numbers" "numbers" (defArgs s_numbers) (defBody s_numbers) (defScope s_numbers) [.ref t0] [] f fd) (kp : PySem.W.keepIn K (.ref f) = true) (hm : mg "numbers" = some (.ref f)) (G : FnG P w K mg base CX0 10 f fd ["table", "free"] (spNb K C)) : BndF P w K mg base CX0 10 "numbers" ["table", "free"] (spNb K C) 2 [] al3 :=
  bndf_of F kp hm G (fun us _ _ => us) (by simp) (fun r _ _ => r) fun T kV doc pm an cdv ct us its ws h1 h2 h3 => by
    match us, its, ws, h1, h2, h3 with
    | [a, b], [d], [], _, _, _ => exact ⟨_, rfl, rfl⟩
theorem b_nbK (F : FunD K "numbers" "numbers" (defArgs s_numbers) (defBody s_numbers) (defScope s_numbers) [.ref t0] [] f fd) (kp : PySem.W.keepIn K (.ref f) = true) (hm : mg "numbers" = some (.ref f)) (G : FnG P w K mg base CX0 10 f fd ["table", "free"] (spNb K C)) : BndF P w K mg base CX0 10 "numbers" ["table", "free"] (spNb K C) 0 ["free", "table"] kwR :=
  bndf_of F kp hm G (fun _ _ ws => ws.reverse) (by simp) (fun _ _ r => vals_rev r) fun T kV doc pm an cdv ct us its ws h1 h2 h3 => by
    match us, its, ws, h1, h2, h3 with
    | [], [d], [a, b], _, _, _ => exact ⟨_, rfl, rfl⟩
theorem b_fw3 (F : FunD K "first_with" "first_with" (defArgs s_first_with) (defBody s_first_with) (defScope s_first_with) [.ref t0] [] f fd) (kp : PySem.W.keepIn K (.ref f) = true) (hm : mg "first_with" = some (.ref f)) (G : FnG P w K mg base CX0 10 f fd ["table", "goal", "free"] (spFW K C)) : BndF P w K mg base CX0 10 "first_with" ["table", "goal", "free"] (spFW K C) 3 [] al3 :=
  bndf_of F kp hm G (fun us _ _ => us) (by simp) (fun r _ _ => r) fun T kV doc pm an cdv ct us its ws h1 h2 h3 => by
    match us, its, ws, h1, h2, h3 with
    | [a, b, c], [d], [], _, _, _ => exact ⟨_, rfl, rfl⟩
end
theorem kt_of {K : PySem.W.Frag} {t : Addr} {od : Option Addr} {nn : Nat} {sl : Array (Option Value)} (h : K.lookup t = some ⟨.type "tuple", od, .seq #[] nn, sl⟩) : KT K t := ⟨_, #[], nn, h, rfl, rfl, Nat.zero_le _, .nil⟩
open PySem PySem.Spec PyProof.Rows
open L2 hiding pass0
abbrev s_law_right : Stmt := top 66
theorem sc_law_right : FnScope ["_law_pot_here", "_law_size_here", "_law_goals_here", "_law_turn", "_law_parts", "_law_rows", "_law_idle", "_law_part"] ["_law_pot_here"] (defScope s_law_right) := ⟨rfl, rfl, rfl, by decide +kernel, rfl, by decide +kernel, by decide +kernel⟩
theorem bp_law_right : BndP "_law_right" s_law_right ["_law_pot_here"] := fun _ _ _ _ _ _ us h => match us, h with | [_], _ => rfl
/-- a list at B, made since H0, of such tuples; there are draws -/
def LQ (p : Addr) (H0 : Hp) (B : Addr) (m : List (Str × Str)) (H : Hp) : Prop := (∃ ts : List Addr, H B = some (.lst (ts.map V.ref)) ∧ Tq H ts m) ∧ Go p H0 H
theorem LQ.nil {p B : Addr} {H0 : Hp} (hp : PotAt H0 p) (nB : H0 B = none) : LQ p H0 B [] (upd H0 B (.lst [])) := ⟨⟨[], upd_same, .nil⟩, (Go.refl hp).new nB⟩
theorem LQ.turn {p B t : Addr} {H0 H1 H2 : Hp} {x y : Str} {m : List (Str × Str)} (hp : PotAt H0 p) (h : LQ p H0 B m H1) (nB : H0 B = none) (g : Go p H1 H2) (nt : H2 t = none) (hl : m.length ≤ 100000) :
    ∃ acc, upd H2 t (.tup [.str x, .str y]) B = some (.lst acc) ∧ acc.length < sizeLine ∧ LQ p H0 B (m ++ [(x, y)]) (upd (upd H2 t (.tup [.str x, .str y])) B (.lst (acc ++ [.ref t]))) := by
  obtain ⟨⟨ts, hB, tq⟩, g1⟩ := h
  have npB : B ≠ p := hp.ne nB
  have hB2 := g.kp hB npB
  have nt' : B ≠ t := nonn nt hB2
  have tq2 : Tq (upd H2 t (.tup [.str x, .str y])) ts m := tq.mono fun a l e => by
    have e2 := g.tp g1.pot e
    exact updn (nonn nt e2) e2
  refine ⟨_, updn nt' hB2, szt (by rw [List.length_map, tq.len]; omega), ⟨ts ++ [t], by rw [upd_same, List.map_append]; rfl, ?_⟩, ?_⟩
  · have t3 : Tq (upd H2 t (.tup [.str x, .str y])) (ts ++ [t]) (m ++ [(x, y)]) := Tq.app (.cons (q := (x, y)) upd_same .nil) tq2
    refine t3.mono fun a l e => ?_
    have n : a ≠ B := fun q => by
      subst q
      rw [updn nt' hB2] at e
      cases e
    exact updn n e
  · exact ((g1.trans g).new nt).mut nB npB
theorem LQ.skip {p B : Addr} {H0 H1 H2 : Hp} {m : List (Str × Str)} (hp : PotAt H0 p) (h : LQ p H0 B m H1) (nB : H0 B = none) (g : Go p H1 H2) : LQ p H0 B m H2 := by
  obtain ⟨⟨ts, hB, tq⟩, g1⟩ := h
  exact ⟨⟨ts, g.kp hB (hp.ne nB), tq.mono fun a l e => g.tp g1.pot e⟩, g1.trans g⟩
structure GsAt (H : Hp) (p G : Addr) (gs : List Str) : Prop where
  e : H G = some (.lst (gs.map V.str))
  np : G ≠ p
  l0 : 0 < gs.length
  l5 : gs.length ≤ 5
  ok : ∀ g ∈ gs, GoalOk g
theorem GsAt.via {H H' : Hp} {p G : Addr} {gs : List Str} (h : GsAt H p G gs) (g : Go p H H') : GsAt H' p G gs := ⟨g.kp h.e h.np, h.np, h.l0, h.l5, h.ok⟩
theorem cut_one (x : V) (xs : List V) : cutV (x :: xs) (some 1) none = xs := by
  unfold cutV
  rw [List.length_cons, show HT.sIx (xs.length + 1) 0 (some 1) = min 1 (xs.length + 1) from HT.sIx_nat _ _ 1, Nat.min_eq_left (by omega), HT.sIx_none]
  simp
@[irreducible] def spRight : Sp := fun vs H Q _ => ∃ p, vs = [.ref p] ∧ PotAt H p ∧ ∀ H', Go p H H' → Q (.bl true) H'
theorem right_go {p : Addr} {H : Hp} {Q : VK} {E : XK} (h : PotAt H p) (q : ∀ H', Go p H H' → Q (.bl true) H') : spRight [.ref p] H Q E := by
  unfold spRight
  exact ⟨p, rfl, h, q⟩
theorem one_eq (x : Key) (i : Int) : ([(x, V.int i)].length == [(x, V.int i)].length && allEq [(x, V.int i)] [(x, V.int i)]) = true := by
  unfold allEq valV
  simp [eqV]
theorem tr_go {C D F G : Addr} {n : Nat} {m : List (Str × Str)} {fs : List (List Nat)} {gs : List Str} {H : Hp} {Q : VK} {E : XK} (hD : H D = some (.dK (tk m))) (ok : TabOk n m) (lm : m.length ≤ 20) (hF : H F = some (.lst (fs.map sx))) (ff : Fits n fs) (nd : fs.Nodup) (lf : fs.length ≤ 20) (hG : H G = some (.lst (gs.map V.str))) (lg : gs.length ≤ 5) (hg : ∀ g ∈ gs, GoalOk g) (k : ∀ H', Same H H' → Q (.bl true) H') : spTR C [.int n, .ref D, .ref F, .ref G] H Q E := by
  unfold spTR
  exact ⟨n, D, F, G, m, fs, gs, rfl, hD, ok, lm, hF, ff, nd, lf, hG, lg, hg, k⟩
section
variable {P : Program} {w : World} {K : PySem.W.Frag} {mg : Str → Option Value} {base : Heap} {f C : Addr} {fd' : FuncData}
theorem ok_law_right (F : Fun K "_law_right" "_law_right" s_law_right f fd') (hm : mg "_law_right" = some (.ref f)) (T : Txt K mg) (TC : TabC K C)
    (c_law_draw : Nm P w K mg base CX0 1 "_law_draw" s_law_draw ["_law_pot_here", "_law_many"] (spDraw)) (c_law_pick : Nm P w K mg base CX0 2 "_law_pick" s_law_pick ["_law_pot_here", "_law_some_here"] (spAmong K)) (c_law_goals : Nm P w K mg base CX0 3 "_law_goals" s_law_goals ["_law_pot_here"] (spGoals)) (c_law_size : Nm P w K mg base CX0 3 "_law_size" s_law_size ["_law_pot_here"] (spSz)) (c_law_grown : Nm P w K mg base CX0 4 "_law_grown" s_law_grown ["_law_pot_here", "_law_size_here", "_law_many"] (spGr)) (c_law_some : Nm P w K mg base CX0 2 "_law_some" s_law_some ["_law_pot_here", "_law_parts", "_law_many"] (spSm K)) (c_law_told_right : Nm P w K mg base CX0 11 "_law_told_right" s_law_told_right ["_law_size_here", "_law_rows", "_law_idle", "_law_goals_here"] (spTR C)) (c_used_number : Nm P w K mg base CX0 10 "used_number" s_used_number ["width", "free"] (spUN K))
    (b_Table : BndI P w K mg base CX0 6 "Table" C ["self", "width", "rows"] (spInitN C) 1 [] (fun us _ => us ++ [.non])) (b_nb2 : BndF P w K mg base CX0 10 "numbers" ["table", "free"] (spNb K C) 2 [] al3) : Nm P w K mg base CX0 12 "_law_right" s_law_right ["_law_pot_here"] (spRight) := by
  refine nm_of0 F hm sc_law_right (fun vs H Q E h => ?_) fun cdv A outer s H vs Q E hr h => ?_
  · unfold spRight at h
    obtain ⟨p, rfl, hp, k⟩ := h
    subst_vars
    rfl
  unfold spRight at h
  obtain ⟨p, rfl, hp, k⟩ := h
  refine ⟨_, (C8.pss_cut (ps_asg (pe_tup (pa_cons (pe_g c_law_size hr (by decide) L2.pass0 bp_law_size (by rfl) (pa_cons (pv 0) pa_nil)) (pa_cons (pe_g c_law_goals hr (by decide) L2.pass0 bp_law_goals (by rfl) (pa_cons (pv 0) pa_nil)) pa_nil))) (pg_tup (by rfl) (pgs_cons (pg_name (i := 1) sc_law_right.nd rfl (by first | exact Or.inl rfl | exact Or.inr rfl)) (pgs_cons (pg_name (i := 2) sc_law_right.nd rfl (by first | exact Or.inl rfl | exact Or.inr rfl)) pgs_nil))))
      (C8.pss_cut (ps_for PassesOwn.never rfl (pi_range1 (by rfl) T.b_range (pa_cons pe_int pa_nil)) (pg_name (i := 3) sc_law_right.nd rfl (by first | exact Or.inl rfl | exact Or.inr rfl)) (C8.pss_cut (ps_set (i := 4) sc_law_right.nd rfl (by first | exact Or.inl rfl | exact Or.inr rfl) (pe_g c_law_grown hr (by decide) L2.pass0 bp_law_grown (by rfl) (pa_cons (pv 0) (pa_cons (pv 1) (pa_cons (pe_op op_add pe_int (pe_g c_law_draw hr (by decide) L2.pass0 bp_law_draw (by rfl) (pa_cons (pv 0) (pa_cons pe_int pa_nil)))) pa_nil)))))
      (C8.pss_cut (ps_set (i := 5) sc_law_right.nd rfl (by first | exact Or.inl rfl | exact Or.inr rfl) (pe_callTy (call_dictP rfl) (by rfl) T.b_dict (by decide +kernel) (pa_cons (pe_lc (own := [("_law_part", 7)]) (g := (gName 7)) (by rfl) sc_law_right.nd (pi_listK (K := K) rfl (pe_g c_law_some hr (by decide) L2.pass0 bp_law_some (by rfl) (pa_cons (pv 0) (pa_cons (pv 4) (pa_cons (pe_g c_law_draw hr (by decide) L2.pass0 bp_law_draw (by rfl) (pa_cons (pv 0) (pa_cons pe_int pa_nil))) pa_nil))))) (blkOk_by (own := [("_law_part", 7)]) (N := ["_law_pot_here", "_law_size_here", "_law_goals_here", "_law_turn", "_law_parts", "_law_rows", "_law_idle", "_law_part"]) (sc := defScope s_law_right) (by decide +kernel)) (fun _ _ _ _ _ => (pg_name (i := 7) sc_law_right.nd rfl (by first | exact Or.inl rfl | exact Or.inr rfl))) (fun _ _ _ _ _ => pts_nil) (fun _ _ _ _ _ => (pe_tup (pa_cons (pv 7) (pa_cons (pe_g c_law_pick hr (by decide) L2.pass0 bp_law_pick (by rfl) (pa_cons (pv 0) (pa_cons (pv 2) pa_nil))) pa_nil))))) pa_nil)))
      (C8.pss_cut (ps_set (i := 6) sc_law_right.nd rfl (by first | exact Or.inl rfl | exact Or.inr rfl) (pe_g c_law_some hr (by decide) L2.pass0 bp_law_some (by rfl) (pa_cons (pv 0) (pa_cons (pe_slice sl_list (pv 4) (po_some pe_int) po_none) (pa_cons (pe_g c_law_draw hr (by decide) L2.pass0 bp_law_draw (by rfl) (pa_cons (pv 0) (pa_cons pe_int pa_nil))) pa_nil)))))
      (pss_one (ps_if (PW.pt (pw_or (pt_not (pt_val (pe_g c_law_told_right hr (by decide) L2.pass0 bp_law_told_right (by rfl) (pa_cons (pv 1) (pa_cons (pv 5) (pa_cons (pv 6) (pa_cons (pv 2) pa_nil))))))) (pw_or1 (pt_not (pt_val (pe_g c_law_told_right hr (by decide) L2.pass0 bp_law_told_right (by rfl) (pa_cons (pv 1) (pa_cons (pv 5) (pa_cons (pe_lst pa_nil) (pa_cons (pv 2) pa_nil)))))))))) (pss_one (ps_ret pe_bl)) pss_nil))))))
      (pss_one (ps_ret (pe_and (pe_cmpR op_eq (pe_g c_used_number hr (by decide) L2.pass0 bp_used_number (by rfl) (pa_cons (pv 1) (pa_cons (pe_lst (pa_cons pe_str pa_nil)) pa_nil))) pe_int (nomark _)) (pe_one (pe_cmpR (op_eq_dictT hr.u0) (pe_f b_nb2 hr (by decide) L2.pass0 (by rfl) (pa_cons (pe_mk b_Table hr (by decide) L2.pass0 (by rfl) (pa_cons (pv 1) pa_nil) pk_nil) (pa_cons (pe_lst (pa_cons pe_str pa_nil)) pa_nil)) pk_nil) (pe_disp (pps_cons pe_str (pe_op op_oneShl pe_int (pe_op op_sub (pv 1) pe_int)) pps_nil) (by rfl) (by rfl) (fun z => by cases z) (by decide)) (nomark _)))))))), ?_⟩
  refine ⟨fun σ' H' => ∃ (n : Nat) (G : Addr) (gs : List Str), σ' = [some (.ref p), some (.int n), some (.ref G), none, none, none, none, none] ∧ 1 ≤ n ∧ n ≤ 100 ∧ Go p H H' ∧ GsAt H' p G gs, ?_, ?_⟩
  · refine ⟨_, rfl, ?_⟩
    refine sz_go hp fun n H1 h0 h1 g1 => ?_
    refine ⟨_, rfl, ?_⟩
    refine goals_go g1.pot fun G gs H2 nG g2 eG l0 l5 hg => ?_
    have g12 := g1.trans g2
    refine ⟨szl (by show 2 ≤ 1000000; decide), fun tt nt => ?_⟩
    refine ⟨tt, _, rfl, SqT.of upd_same, rfl, ?_⟩
    refine ⟨_, _, rfl, ?_⟩
    refine ⟨_, _, rfl, ?_⟩
    refine ⟨rfl, ?_⟩
    exact ⟨n, G, gs, rfl, h0, h1, g12.new nt, ⟨updn (nonn nt eG) eG, g1.pot.ne nG, l0, l5, hg⟩⟩
  rintro σ' H1 ⟨n, G, gs, rfl, h0, h1, g1, hG⟩
  refine ⟨fun σ' H' => ∃ (x3 x4 x5 x6 x7 : Option V), σ' = [some (.ref p), some (.int n), some (.ref G), x3, x4, x5, x6, x7] ∧ Go p H H', ?_, ?_⟩
  · refine ⟨_, rfl, by decide, by decide, ?_⟩
    refine for_it walk_range (fun i σ' H' => ∃ (x3 x4 x5 x6 x7 : Option V), σ' = [some (.ref p), some (.int n), some (.ref G), x3, x4, x5, x6, x7] ∧ Go p H H' ∧ GsAt H' p G gs) ⟨_, _, _, _, _, rfl, g1, hG⟩ (fun _ _ _ _ _ => trivial) ?_ ?_
    · clear g1 hG
      rintro i x σ' Hz H2 hi ⟨x3, x4, x5, x6, x7, rfl, g2, hG⟩ ⟨rfl, rfl⟩
      refine ⟨fun σ' H' => ∃ (L : Addr) (ts : List (List Nat)), σ' = [some (.ref p), some (.int n), some (.ref G), some (.int (0 + (i : Int))), some (.ref L), x5, x6, x7] ∧ Go p H H' ∧ GsAt H' p G gs ∧ L ≠ p ∧ H' L = some (.lst ((([] : List Nat) :: ts).map sx)) ∧ Fits n ([] :: ts) ∧ (([] : List Nat) :: ts).Nodup ∧ ts.length ≤ 24, ?_, ?_⟩
      · refine ⟨_, rfl, ⟨_, rfl, ⟨_, rfl, ?_⟩⟩⟩
        refine draw_go g2.pot (by decide) (by decide) fun d H3 d0 d1 g3 => ?_
        obtain ⟨c, rfl⟩ := Int.eq_ofNat_of_zero_le d0
        refine ⟨_, _, rfl, rfl, ?_⟩
        rw [show ((fun i j : Int => V.int (i + j)) 4 (c : Int)) = V.int ((4 + c : Nat) : Int) from congrArg V.int (by omega)]
        have g23 := g2.trans g3
        refine gr_go g23.pot h0 (by omega) (by omega) fun L ts H4 nL g4 eL ff nd lt => ?_
        exact ⟨L, ts, rfl, g23.trans g4, (hG.via g3).via g4, g23.pot.ne nL, eL, ff, nd, by omega⟩
      rintro σ' H3 ⟨L, ts, rfl, g3, hG3, nLp, eL, ff, nd, lt⟩
      clear g2 hG
      generalize hps : ([] : List Nat) :: ts = ps at eL ff nd
      have lps : ps.length ≤ 25 := by rw [← hps, List.length_cons]; omega
      refine ⟨fun σ' H' => ∃ (D1 : Addr) (m1 : List (Str × Str)), σ' = [some (.ref p), some (.int n), some (.ref G), some (.int (0 + (i : Int))), some (.ref L), some (.ref D1), x6, x7] ∧ Go p H H' ∧ GsAt H' p G gs ∧ H' L = some (.lst (ps.map sx)) ∧ D1 ≠ p ∧ H' D1 = some (.dK (tk m1)) ∧ TabOk n m1 ∧ m1.length ≤ 14, ?_, ?_⟩
      · refine ⟨_, rfl, ⟨_, rfl, ⟨_, rfl, ?_⟩⟩⟩
        refine draw_go g3.pot (by decide) (by decide) fun d H4 d0 d1 g4 => ?_
        obtain ⟨c, rfl⟩ := Int.eq_ofNat_of_zero_le d0
        have g34 := g3.trans g4
        refine sm_go g34.pot nLp (g4.kp eL nLp) (by omega) (by omega) fun F us ls H5 nF g5 eF pm lu => ?_
        have g35 := g34.trans g5
        have nFp := g34.pot.ne nF
        have hus : ∀ u ∈ us, M.BL u ∧ u.length ≤ n := fun u hu => ff u (pm.mem_iff.mp (List.mem_append_left _ hu))
        have ndu : us.Nodup := (List.nodup_append.mp (pm.nodup_iff.mpr nd)).1
        have hG5 := (hG3.via g4).via g5
        refine ⟨F, rfl, ⟨_, SqL.of eF⟩, fun B nB => ?_⟩
        have nBp := g35.pot.ne nB
        refine lc_it (walk_list (xs := us.map sx)) (fun j H' => ∃ m, m.map (·.1) = (us.take j).map SX.S ∧ (∀ q ∈ m, RowOk n q) ∧ LQ p H5 B m H') ⟨[], rfl, (fun q hq => by cases hq), .nil g35.pot nB⟩ (fun j H' _ ⟨m, _, _, h⟩ => SqL.of (h.2.kp eF nFp)) ?_ ?_
        · rintro j y Hw H6 hj ⟨m, hm1, hm2, hq⟩ ⟨rfl, hy⟩
          obtain ⟨u, hu, rfl⟩ : ∃ u, us[j]? = some u ∧ y = sx u := by
            rw [List.getElem?_map] at hy
            cases e : us[j]? with
            | none => rw [e] at hy; cases hy
            | some t => rw [e] at hy; exact ⟨t, rfl, (Option.some.inj hy).symm⟩
          obtain ⟨ub, ul⟩ := hus u (List.mem_of_getElem? hu)
          have hG6 := hG5.via hq.2
          refine ⟨rfl, ?_⟩
          dsimp only [tYes]
          rw [if_pos rfl]
          refine ⟨_, rfl, ⟨_, rfl, ⟨_, rfl, ?_⟩⟩⟩
          refine among_l hq.2.pot hG6.np (SqL.of hG6.e) (by rw [List.length_map]; exact hG6.l0) (by rw [List.length_map]; have := hG6.l5; omega) fun v hv H7 g7 => ?_
          obtain ⟨g, hg, rfl⟩ := List.mem_map.mp hv
          have hgo := hG6.ok g hg
          refine ⟨szl (by show 2 ≤ 1000000; decide), fun t nt => ?_⟩
          have lm : m.length ≤ 100000 := by
            have := congrArg List.length hm1
            rw [List.length_map, List.length_map, List.length_take] at this
            omega
          obtain ⟨acc, e1, e2, e3⟩ := LQ.turn (x := SX.S u) (y := g) g35.pot hq nB g7 nt lm
          refine ⟨acc, e1, e2, m ++ [(SX.S u, g)], ?_, fun q hq => ?_, e3⟩
          · rw [List.map_append, hm1, List.take_add_one, hu, List.map_append]
            rfl
          · rcases List.mem_append.mp hq with h | h
            · exact hm2 q h
            · rw [List.mem_singleton] at h
              subst h
              exact ⟨sx_bits ub, by rw [sx_len]; omega, hgo.1, hgo.2.1, hgo.2.2⟩
        · rintro H6 ⟨m, hm1, hm2, ⟨⟨tt, hB, tq⟩, g6⟩⟩
          rw [List.length_map, List.take_length] at hm1
          have ndm : (m.map (·.1)).Nodup := by
            rw [hm1]
            show List.Pairwise _ _
            rw [List.pairwise_map]
            exact ndu.imp fun {a b} h e => h (S_inj e)
          have lm : m.length ≤ 14 := by
            have := congrArg List.length hm1
            rw [List.length_map, List.length_map] at this
            omega
          refine ⟨B, tt, _, rfl, SqL.of hB, tq.pair, fun M nM => ?_⟩
          rw [mrg_nil ndm]
          have g46 := g4.trans (g5.trans g6)
          have g37 := (g35.trans g6).new (o := HO.dK (tk m)) nM
          have eL6 := g46.kp eL nLp
          have hG6 := hG5.via g6
          have nMp := (g35.trans g6).pot.ne nM
          exact ⟨M, m, rfl, g37, hG6.via ((Go.refl g6.pot).new nM), updn (nonn nM eL6) eL6, nMp, upd_same, ⟨by omega, by omega, hm2, ndm, by omega⟩, lm⟩
      rintro σ' H4 ⟨D1, m1, rfl, g4, hG4, eL4, nD1, eD1, ok1, lm1⟩
      clear g3 hG3 eL
      refine ⟨fun σ' H' => ∃ (F : Addr) (us : List (List Nat)), σ' = [some (.ref p), some (.int n), some (.ref G), some (.int (0 + (i : Int))), some (.ref L), some (.ref D1), some (.ref F), x7] ∧ Go p H4 H' ∧ F ≠ p ∧ H' F = some (.lst (us.map sx)) ∧ Fits n us ∧ us.Nodup ∧ us.length ≤ 20, ?_, ?_⟩
      · refine ⟨_, rfl, ⟨_, rfl, ⟨_, rfl, ⟨L, _, rfl, SqL.of eL4, fun A1 nA1 => ?_⟩⟩⟩⟩
        have ec : cutV (ps.map sx) (some 1) none = ts.map sx := by
          rw [← hps, List.map_cons]
          exact cut_one _ _
        rw [ec]
        have gA := (Go.refl g4.pot).new (o := HO.lst (ts.map sx)) nA1
        have eA : upd H4 A1 (.lst (ts.map sx)) A1 = some (.lst (ts.map sx)) := upd_same
        have nA1p : A1 ≠ p := g4.pot.ne nA1
        generalize upd H4 A1 (.lst (ts.map sx)) = H6 at gA eA ⊢
        refine ⟨_, rfl, ?_⟩
        refine draw_go gA.pot (by decide) (by decide) fun d H7 d0 d1 g7 => ?_
        obtain ⟨c, rfl⟩ := Int.eq_ofNat_of_zero_le d0
        have g57 := gA.trans g7
        refine sm_go g57.pot nA1p (g7.kp eA nA1p) (by omega) (by omega) fun F us ls H8 nF g8 eF pm lu => ?_
        have nFp := g57.pot.ne nF
        have sub : ∀ u ∈ us, u ∈ ts := fun u hu => pm.mem_iff.mp (List.mem_append_left _ hu)
        have ndt : ts.Nodup := by rw [← hps] at nd; exact (List.nodup_cons.mp nd).2
        exact ⟨F, us, rfl, g57.trans g8, nFp, eF, fun u hu => ff u (by rw [← hps]; exact List.mem_cons_of_mem _ (sub u hu)), (List.nodup_append.mp (pm.nodup_iff.mpr ndt)).1, by omega⟩
      rintro σ' H6 ⟨F, us, rfl, g6, nFp, eF, ffu, ndu, lu⟩
      have eD16 := g6.kp eD1 nD1
      have hG6 := hG4.via g6
      refine ⟨_, rfl, ⟨_, rfl, ⟨_, rfl, ⟨_, rfl, ?_⟩⟩⟩⟩
      refine tr_go eD16 ok1 (by omega) eF ffu ndu lu hG6.e hG6.l5 hG6.ok fun H7 s7 => ?_
      refine ⟨_, rfl, iteF ?_⟩
      refine ⟨_, rfl, ⟨_, rfl, ⟨szl (Nat.zero_le _), fun W nW => ?_⟩⟩⟩
      have s8 := s7.new (o := HO.lst ([] : List V)) nW
      refine ⟨_, rfl, ?_⟩
      refine tr_go (fs := []) (s8 _ _ eD16) ok1 (by omega) upd_same (fun t h => by cases h) .nil (by decide) (s8 _ _ hG6.e) hG6.l5 hG6.ok fun H8 s9 => ?_
      refine ⟨_, rfl, iteF ?_⟩
      have g8 := g6.trans (Go.of g6.pot (s8.trans s9))
      exact ⟨_, _, _, _, _, rfl, g4.trans g8, hG4.via g8⟩
    · rintro σ' H2 ⟨x3, x4, x5, x6, x7, rfl, g2, hG2⟩
      exact ⟨_, _, _, _, _, rfl, g2⟩
  rintro σ' H2 ⟨x3, x4, x5, x6, x7, rfl, g2⟩
  refine ⟨_, rfl, ⟨szl (by show 1 ≤ 1000000; decide), fun W nW => ?_⟩⟩
  have s3 := (Same.refl H2).new (o := HO.lst [V.str ""]) nW
  have eW : upd H2 W (.lst [V.str ""]) W = some (.lst (([[]] : List (List Nat)).map sx)) := upd_same
  generalize upd H2 W (.lst [V.str ""]) = H3 at s3 eW ⊢
  refine un_go h0 h1 (.inl eW) (fun t h => by rw [List.mem_singleton] at h; subst h; exact ⟨(fun c h => by cases h), Nat.zero_le _⟩) (by simp) (by decide) fun H4 s4 => ?_
  rw [frN_all]
  refine ⟨rfl, ⟨_, rfl, ?_⟩⟩
  refine iteT ?_
  have s5 := (Same.refl H4)
  refine ⟨_, rfl, ⟨rfl, rfl, fun X dX hX hdX hXX => ?_⟩⟩
  refine initN_go upd_same (by omega) (by omega) fun H7 kp tb => ⟨rfl, ?_⟩
  have s7 : Same H4 H7 := fun c o q => kp c o (nonn hX q) (updn (nonn hX q) (updn (nonn hdX q) q))
  refine ⟨szl (by show 1 ≤ 1000000; decide), fun Z nZ => ?_⟩
  have s8 := s7.new (o := HO.lst [V.str "0"]) nZ
  have t8 := tb.to ((Same.refl H7).new (o := HO.lst [V.str "0"]) nZ)
  have eZ : upd H7 Z (.lst [V.str "0"]) Z = some (.lst (([[48]] : List (List Nat)).map sx)) := upd_same
  generalize upd H7 Z (.lst [V.str "0"]) = H8 at s8 eZ t8 ⊢
  refine ⟨rfl, rfl, ?_⟩
  show spNb K C [V.ref X, V.ref Z] _ _ _
  obtain ⟨k', rfl⟩ : ∃ k', n = k' + 1 := ⟨n - 1, by omega⟩
  have ok0 : TabOk ((k' + 1 : Nat) : Int) [] := ⟨by omega, by omega, (fun q hq => by cases hq), .nil, by decide⟩
  refine nb_go t8 ok0 (.inl eZ) (fun t h => by rw [List.mem_singleton] at h; subst h; exact ⟨(fun c h => by rw [List.mem_singleton] at h; exact .inl h), by show 1 ≤ _; omega⟩) (by simp) (by decide) fun W2 H9 s9 nW2 hC => ?_
  have e2 := half_is hC
  intro D nD
  have s10 := (s8.trans s9).new (o := HO.dK []) nD
  have eD : upd H9 D (.dK []) D = some (.dK []) := upd_same
  have e3 := updn (o := HO.dK []) (nonn nD e2) e2
  have nDW : W2 ≠ D := nonn nD e2
  have nD4 : H2 D = none := (s3.trans (s4.trans (s8.trans s9))).back nD
  generalize upd H9 D (.dK []) = H10 at s10 eD e3 ⊢
  refine ⟨_, rfl, ⟨_, _, rfl, rfl, ?_⟩⟩
  refine ⟨k', rfl, congrArg V.int (by omega), by omega, ?_⟩
  refine ⟨eD, [(.inr "hole", .int (2 ^ k'))], rfl, by show 1 ≤ 15; decide, ?_⟩
  have e4 : upd H10 D (.dK (mergeK [] [(.inr "hole", .int (2 ^ k'))])) W2 = some (.dK (fd [("hole" : Str).cps.toList] fun _ => .int ((2 ^ k' : Nat) : Int))) := updn nDW e3
  refine ⟨W2, D, _, _, rfl, rfl, e4, upd_same, fun q hq => ?_, fun q hq => ?_, ?_⟩
  · rw [show fd [("hole" : Str).cps.toList] (fun _ => V.int ((2 ^ k' : Nat) : Int)) = [(skey ("hole" : Str).cps.toList, V.int ((2 ^ k' : Nat) : Int))] from rfl, List.mem_singleton] at hq
    rw [hq]
    rfl
  · rw [show mergeK [] [((.inr "hole" : Key), V.int (2 ^ k'))] = [((.inr "hole" : Key), V.int (2 ^ k'))] from rfl, List.mem_singleton] at hq
    rw [hq]
    rfl
  have eb : ((fd [("hole" : Str).cps.toList] fun _ => V.int ((2 ^ k' : Nat) : Int)).length == (mergeK [] [((.inr "hole" : Key), V.int (2 ^ k'))]).length && allEq (fd [("hole" : Str).cps.toList] fun _ => .int ((2 ^ k' : Nat) : Int)) (mergeK [] [((.inr "hole" : Key), V.int (2 ^ k'))])) = true := by
    rw [show mergeK [] [((.inr "hole" : Key), V.int (2 ^ k'))] = [((.inr "hole" : Key), V.int (2 ^ k'))] from rfl]
    rw [show fd [("hole" : Str).cps.toList] (fun _ => V.int ((2 ^ k' : Nat) : Int)) = [(skey ("hole" : Str).cps.toList, V.int ((2 ^ k' : Nat) : Int))] from rfl]
    rw [show skey ("hole" : Str).cps.toList = .inr "hole" by unfold skey; rw [S_cp]]
    rw [show ((2 ^ k' : Nat) : Int) = 2 ^ k' by push_cast; rfl]
    exact one_eq _ _
  rw [eb]
  exact k _ (g2.trans (Go.of g2.pot (fun b o e => updn (fun q => by rw [q, nD4] at e; cases e) ((s3.trans (s4.trans s10)) b o e))))
end
open PySem PySem.Spec PyProof.Rows
open L2 hiding pass0
abbrev s_law : Stmt := top 67
theorem sc_law : FnScope ["_law_script", "_law_k"] ["_law_script"] (defScope s_law) := ⟨rfl, rfl, rfl, by decide +kernel, rfl, by decide +kernel, by decide +kernel⟩
theorem bp_law : BndP "law" s_law ["_law_script"] := fun _ _ _ _ _ _ us h => match us, h with | [_], _ => rfl
def spLaw (K : PySem.W.Frag) : Sp := fun vs H Q _ => ∃ (a : Addr) (ns : List Int), vs = [.ref a] ∧ SqL K H a (ns.map V.int) ∧ ns.length ≤ 63 ∧ (∀ b, H b = none ∨ b = a) ∧ ∀ H', Q (.bl true) H'
section
variable {P : Program} {w : World} {K : PySem.W.Frag} {mg : Str → Option Value} {base : Heap} {f : Addr} {fd : FuncData}
theorem ok_law (F : Fun K "law" "law" s_law f fd) (hm : mg "law" = some (.ref f)) (T : Txt K mg)
    (c_law_pot : Nm P w K mg base CX0 1 "_law_pot" s_law_pot ["_law_script", "_law_k"] (spPot K))
    (c_law_right : Nm P w K mg base CX0 12 "_law_right" s_law_right ["_law_pot_here"] spRight) : Nm P w K mg base CX0 13 "law" s_law ["_law_script"] (spLaw K) := by
  refine nm_of F hm sc_law (fun vs H Q E h => ?_) fun cdv A outer s H vs Q E hr h => ?_
  · obtain ⟨p, ns, rfl, _⟩ := h
    rfl
  · obtain ⟨a, ns, rfl, hS, hl, hO, k⟩ := h
    refine ⟨_, (pss_one (ps_ret (pe_callB (call_allK (K := K) rfl rfl) (by rfl) T.b_all (by decide +kernel) (pa_cons (pe_lc (own := [("_law_k", 1)]) (g := (gName 1)) (by rfl) sc_law.nd (pi_range1 (by rfl) T.b_range (pa_cons (pe_callB (call_max2 rfl) (by rfl) T.b_max (by decide +kernel) (pa_cons pe_int (pa_cons (pe_callB (call_min2 rfl) (by rfl) T.b_min (by decide +kernel) (pa_cons (pe_callB (call_lenK (K := K) rfl) (by rfl) T.b_len PySem.boot_len (pa_cons (pv 0) pa_nil)) (pa_cons pe_int pa_nil))) pa_nil))) pa_nil)) (blkOk_by (own := [("_law_k", 1)]) (N := ["_law_script", "_law_k"]) (sc := defScope s_law) (by decide +kernel)) (fun _ _ _ _ _ => (pg_name (i := 1) sc_law.nd rfl (by first | exact Or.inl rfl | exact Or.inr rfl))) (fun _ _ _ _ _ => pts_nil) (fun _ _ _ _ _ => (pe_g c_law_right hr (by decide) L2.pass0 bp_law_right (by rfl) (pa_cons (pe_g c_law_pot hr (by decide) L2.pass0 bp_law_pot (by rfl) (pa_cons (pv 0) (pa_cons (pv 1) pa_nil))) pa_nil)))) pa_nil)))), ?_⟩
    have hlen : ((ns.map V.int).length : Int) = (ns.length : Int) := by rw [List.length_map]
    repeat walk_at "s1"
    rename_i D nD
    refine lc_it walk_range (fun i H1 => H1 D = some (.lst ((List.replicate i true).map V.bl)) ∧ i ≤ 5 ∧ Same H H1) ⟨upd_same, by decide, fun b o e => updn (nonn nD e) e⟩ (fun _ _ _ _ => trivial) ?_ ?_
    · rintro i x H1 H2 hi ⟨hD, h5, sm⟩ ⟨rfl, rfl⟩
      have hi4 : i < 5 := by
        have q : i < Int.toNat (if (if (4 : Int) < ((ns.map V.int).length : Int) then 4 else ((ns.map V.int).length : Int)) > 1 then (if (4 : Int) < ((ns.map V.int).length : Int) then 4 else ((ns.map V.int).length : Int)) else 1) := hi
        split at q <;> (try split at q) <;> omega
      refine ⟨rfl, ?_⟩
      dsimp only [tYes]
      rw [if_pos rfl]
      repeat walk_at "s1"
      refine pot_go (sm.seq hS) hl (by omega) (by omega) fun p H3 np hp s3 => ?_
      repeat walk_at "s1"
      refine right_go hp fun H4 g4 => ?_
      have s4 : Same H2 H4 := fun b o e => g4.keep b o (s3 b o e) (nonn np e)
      refine ⟨_, s4 _ _ hD, szt (by rw [List.length_map, List.length_replicate]; omega), ?_, by omega, fun b o e => updn (nonn nD e) (s4 _ _ (sm _ _ e))⟩
      rw [upd_same, List.replicate_succ', List.map_append]
      rfl
    · rintro H1 ⟨hD, h5, sm⟩
      refine ⟨_, _, rfl, SqL.of hD, ?_⟩
      rw [all_true]
      exact k H1
end
open PySem PySem.Spec PyProof.Rows
open L2 hiding pass0
theorem Nm.fn {P : Program} {w : World} {K : PySem.W.Frag} {mg : Str → Option Value} {base : Heap} {CX : CXT} {k : Nat} {x : Str} {st : Stmt} {ps : List Str} {sp : Sp} {f : Addr} {fd : FuncData} (c : Nm P w K mg base CX k x st ps sp) (F : Fun K x x st f fd) (hm : mg x = some (.ref f)) : FnG P w K mg base CX k f fd ps sp := by
  obtain ⟨f', fd', F', hm', G⟩ := c.ex
  obtain rfl : f' = f := by
    have e := hm'.symm.trans hm
    injection e with e
    injection e
  obtain ⟨_, _, _, _, _, _, _, _, _, _, l1, _⟩ := F.ex
  obtain ⟨_, _, _, _, _, _, _, _, _, _, l2, _⟩ := F'.ex
  have e := l2.symm.trans l1
  injection e with e
  injection e with _ _ e _
  injection e with e
  subst e
  exact G
theorem all_mk {l : PySem.W.OpenLaw} {w : World} {K : PySem.W.Frag} {h : Heap} {mg : Str → Option Value} {fa f0 f1 f2 f3 f4 f5 f6 f7 f8 f9 f10 f11 f12 f13 f14 f15 f16 f17 f18 f19 f20 f21 f22 f23 f24 f25 f26 f27 f28 f29 f30 f31 f32 f33 f34 f35 f36 f37 f38 f39 : Addr} (X : K.In h) (G : h.Ns mainGlobals mg) (hfa : mg "law" = some (.ref fa))
    {od0 an0 od1 an1 od2 an2 od3 an3 od4 an4 od5 an5 od6 an6 od7 an7 od8 an8 od9 an9 od10 an10 od11 an11 od12 an12 od13 an13 od14 an14 od15 an15 od16 an16 od17 an17 od18 an18 od19 an19 od20 an20 od21 an21 od22 an22 od23 an23 od24 an24 od25 an25 od26 an26 od27 an27 od28 an28 od29 an29 od30 an30 od31 an31 od32 an32 od33 an33 od34 an34 od35 an35 od36 an36 od37 an37 od38 an38 od39 an39 : Option Addr} {sl0 sl1 sl2 sl3 sl4 sl5 sl6 sl7 sl8 sl9 sl10 sl11 sl12 sl13 sl14 sl15 sl16 sl17 sl18 sl19 sl20 sl21 sl22 sl23 sl24 sl25 sl26 sl27 sl28 sl29 sl30 sl31 sl32 sl33 sl34 sl35 sl36 sl37 sl38 sl39 : Array (Option Value)} {oc0 kV0 dc0 pm0 cd0 ct0 oc1 kV1 dc1 pm1 cd1 ct1 oc2 kV2 dc2 pm2 cd2 ct2 oc3 kV3 dc3 pm3 cd3 ct3 oc4 kV4 dc4 pm4 cd4 ct4 oc5 kV5 dc5 pm5 cd5 ct5 oc6 kV6 dc6 pm6 cd6 ct6 oc7 kV7 dc7 pm7 cd7 ct7 oc8 kV8 dc8 pm8 cd8 ct8 oc9 kV9 dc9 pm9 cd9 ct9 oc10 kV10 dc10 pm10 cd10 ct10 oc11 kV11 dc11 pm11 cd11 ct11 oc12 kV12 dc12 pm12 cd12 ct12 oc13 kV13 dc13 pm13 cd13 ct13 oc14 kV14 dc14 pm14 cd14 ct14 oc15 kV15 dc15 pm15 cd15 ct15 oc16 kV16 dc16 pm16 cd16 ct16 oc17 kV17 dc17 pm17 cd17 ct17 oc18 kV18 dc18 pm18 cd18 ct18 oc19 kV19 dc19 pm19 cd19 ct19 oc20 kV20 dc20 pm20 cd20 ct20 oc21 kV21 dc21 pm21 cd21 ct21 oc22 kV22 dc22 pm22 cd22 ct22 oc23 kV23 dc23 pm23 cd23 ct23 oc24 kV24 dc24 pm24 cd24 ct24 oc25 kV25 dc25 pm25 cd25 ct25 oc26 kV26 dc26 pm26 cd26 ct26 oc27 kV27 dc27 pm27 cd27 ct27 oc28 kV28 dc28 pm28 cd28 ct28 oc29 kV29 dc29 pm29 cd29 ct29 oc30 kV30 dc30 pm30 cd30 ct30 oc31 kV31 dc31 pm31 cd31 ct31 oc32 kV32 dc32 pm32 cd32 ct32 oc33 kV33 dc33 pm33 cd33 ct33 oc34 kV34 dc34 pm34 cd34 ct34 oc35 kV35 dc35 pm35 cd35 ct35 oc36 kV36 dc36 pm36 cd36 ct36 oc37 kV37 dc37 pm37 cd37 ct37 oc38 kV38 dc38 pm38 cd38 ct38 oc39 kV39 dc39 pm39 cd39 ct39 : Value}
    (a0 : PySem.W.nsIn K mainGlobals "_law_draw" = some (some (.ref f0))) (l0 : K.lookup f0 = some ⟨oc0, od0, .func (PySem.W.fnOf "_law_draw" "_law_draw" (defArgs s_law_draw) (defBody s_law_draw) (defScope s_law_draw) .none kV0 dc0 pm0 an0 cd0 ct0), sl0⟩) (c0 : PySem.W.codeIn K cd0 "_law_draw" = true) (k0 : PySem.W.keepIn K (.ref f0) = true)
    (a1 : PySem.W.nsIn K mainGlobals "_law_pot" = some (some (.ref f1))) (l1 : K.lookup f1 = some ⟨oc1, od1, .func (PySem.W.fnOf "_law_pot" "_law_pot" (defArgs s_law_pot) (defBody s_law_pot) (defScope s_law_pot) .none kV1 dc1 pm1 an1 cd1 ct1), sl1⟩) (c1 : PySem.W.codeIn K cd1 "_law_pot" = true) (k1 : PySem.W.keepIn K (.ref f1) = true)
    (a2 : PySem.W.nsIn K mainGlobals "_law_pick" = some (some (.ref f2))) (l2 : K.lookup f2 = some ⟨oc2, od2, .func (PySem.W.fnOf "_law_pick" "_law_pick" (defArgs s_law_pick) (defBody s_law_pick) (defScope s_law_pick) .none kV2 dc2 pm2 an2 cd2 ct2), sl2⟩) (c2 : PySem.W.codeIn K cd2 "_law_pick" = true) (k2 : PySem.W.keepIn K (.ref f2) = true)
    (a3 : PySem.W.nsIn K mainGlobals "_law_bits" = some (some (.ref f3))) (l3 : K.lookup f3 = some ⟨oc3, od3, .func (PySem.W.fnOf "_law_bits" "_law_bits" (defArgs s_law_bits) (defBody s_law_bits) (defScope s_law_bits) .none kV3 dc3 pm3 an3 cd3 ct3), sl3⟩) (c3 : PySem.W.codeIn K cd3 "_law_bits" = true) (k3 : PySem.W.keepIn K (.ref f3) = true)
    (a4 : PySem.W.nsIn K mainGlobals "is_count" = some (some (.ref f4))) (l4 : K.lookup f4 = some ⟨oc4, od4, .func (PySem.W.fnOf "is_count" "is_count" (defArgs s_is_count) (defBody s_is_count) (defScope s_is_count) .none kV4 dc4 pm4 an4 cd4 ct4), sl4⟩) (c4 : PySem.W.codeIn K cd4 "is_count" = true) (k4 : PySem.W.keepIn K (.ref f4) = true)
    (a5 : PySem.W.nsIn K mainGlobals "is_width" = some (some (.ref f5))) (l5 : K.lookup f5 = some ⟨oc5, od5, .func (PySem.W.fnOf "is_width" "is_width" (defArgs s_is_width) (defBody s_is_width) (defScope s_is_width) .none kV5 dc5 pm5 an5 cd5 ct5), sl5⟩) (c5 : PySem.W.codeIn K cd5 "is_width" = true) (k5 : PySem.W.keepIn K (.ref f5) = true)
    (a6 : PySem.W.nsIn K mainGlobals "is_bits" = some (some (.ref f6))) (l6 : K.lookup f6 = some ⟨oc6, od6, .func (PySem.W.fnOf "is_bits" "is_bits" (defArgs s_is_bits) (defBody s_is_bits) (defScope s_is_bits) .none kV6 dc6 pm6 an6 cd6 ct6), sl6⟩) (c6 : PySem.W.codeIn K cd6 "is_bits" = true) (k6 : PySem.W.keepIn K (.ref f6) = true)
    (a7 : PySem.W.nsIn K mainGlobals "is_name" = some (some (.ref f7))) (l7 : K.lookup f7 = some ⟨oc7, od7, .func (PySem.W.fnOf "is_name" "is_name" (defArgs s_is_name) (defBody s_is_name) (defScope s_is_name) .none kV7 dc7 pm7 an7 cd7 ct7), sl7⟩) (c7 : PySem.W.codeIn K cd7 "is_name" = true) (k7 : PySem.W.keepIn K (.ref f7) = true)
    (a8 : PySem.W.nsIn K mainGlobals "is_goal" = some (some (.ref f8))) (l8 : K.lookup f8 = some ⟨oc8, od8, .func (PySem.W.fnOf "is_goal" "is_goal" (defArgs s_is_goal) (defBody s_is_goal) (defScope s_is_goal) .none kV8 dc8 pm8 an8 cd8 ct8), sl8⟩) (c8 : PySem.W.codeIn K cd8 "is_goal" = true) (k8 : PySem.W.keepIn K (.ref f8) = true)
    (a9 : PySem.W.nsIn K mainGlobals "check_width" = some (some (.ref f9))) (l9 : K.lookup f9 = some ⟨oc9, od9, .func (PySem.W.fnOf "check_width" "check_width" (defArgs s_check_width) (defBody s_check_width) (defScope s_check_width) .none kV9 dc9 pm9 an9 cd9 ct9), sl9⟩) (c9 : PySem.W.codeIn K cd9 "check_width" = true) (k9 : PySem.W.keepIn K (.ref f9) = true)
    (a10 : PySem.W.nsIn K mainGlobals "is_stretch" = some (some (.ref f10))) (l10 : K.lookup f10 = some ⟨oc10, od10, .func (PySem.W.fnOf "is_stretch" "is_stretch" (defArgs s_is_stretch) (defBody s_is_stretch) (defScope s_is_stretch) .none kV10 dc10 pm10 an10 cd10 ct10), sl10⟩) (c10 : PySem.W.codeIn K cd10 "is_stretch" = true) (k10 : PySem.W.keepIn K (.ref f10) = true)
    (a11 : PySem.W.nsIn K mainGlobals "is_address" = some (some (.ref f11))) (l11 : K.lookup f11 = some ⟨oc11, od11, .func (PySem.W.fnOf "is_address" "is_address" (defArgs s_is_address) (defBody s_is_address) (defScope s_is_address) .none kV11 dc11 pm11 an11 cd11 ct11), sl11⟩) (c11 : PySem.W.codeIn K cd11 "is_address" = true) (k11 : PySem.W.keepIn K (.ref f11) = true)
    (a12 : PySem.W.nsIn K mainGlobals "check_stretch" = some (some (.ref f12))) (l12 : K.lookup f12 = some ⟨oc12, od12, .func (PySem.W.fnOf "check_stretch" "check_stretch" (defArgs s_check_stretch) (defBody s_check_stretch) (defScope s_check_stretch) .none kV12 dc12 pm12 an12 cd12 ct12), sl12⟩) (c12 : PySem.W.codeIn K cd12 "check_stretch" = true) (k12 : PySem.W.keepIn K (.ref f12) = true)
    (a13 : PySem.W.nsIn K mainGlobals "check_stretches" = some (some (.ref f13))) (l13 : K.lookup f13 = some ⟨oc13, od13, .func (PySem.W.fnOf "check_stretches" "check_stretches" (defArgs s_check_stretches) (defBody s_check_stretches) (defScope s_check_stretches) .none kV13 dc13 pm13 an13 cd13 ct13), sl13⟩) (c13 : PySem.W.codeIn K cd13 "check_stretches" = true) (k13 : PySem.W.keepIn K (.ref f13) = true)
    (a14 : PySem.W.nsIn K mainGlobals "check_address" = some (some (.ref f14))) (l14 : K.lookup f14 = some ⟨oc14, od14, .func (PySem.W.fnOf "check_address" "check_address" (defArgs s_check_address) (defBody s_check_address) (defScope s_check_address) .none kV14 dc14 pm14 an14 cd14 ct14), sl14⟩) (c14 : PySem.W.codeIn K cd14 "check_address" = true) (k14 : PySem.W.keepIn K (.ref f14) = true)
    (a15 : PySem.W.nsIn K mainGlobals "number" = some (some (.ref f15))) (l15 : K.lookup f15 = some ⟨oc15, od15, .func (PySem.W.fnOf "number" "number" (defArgs s_number) (defBody s_number) (defScope s_number) .none kV15 dc15 pm15 an15 cd15 ct15), sl15⟩) (c15 : PySem.W.codeIn K cd15 "number" = true) (k15 : PySem.W.keepIn K (.ref f15) = true)
    (a16 : PySem.W.nsIn K mainGlobals "first" = some (some (.ref f16))) (l16 : K.lookup f16 = some ⟨oc16, od16, .func (PySem.W.fnOf "first" "first" (defArgs s_first) (defBody s_first) (defScope s_first) .none kV16 dc16 pm16 an16 cd16 ct16), sl16⟩) (c16 : PySem.W.codeIn K cd16 "first" = true) (k16 : PySem.W.keepIn K (.ref f16) = true)
    (a17 : PySem.W.nsIn K mainGlobals "longest_beginning" = some (some (.ref f17))) (l17 : K.lookup f17 = some ⟨oc17, od17, .func (PySem.W.fnOf "longest_beginning" "longest_beginning" (defArgs s_longest_beginning) (defBody s_longest_beginning) (defScope s_longest_beginning) .none kV17 dc17 pm17 an17 cd17 ct17), sl17⟩) (c17 : PySem.W.codeIn K cd17 "longest_beginning" = true) (k17 : PySem.W.keepIn K (.ref f17) = true)
    (a18 : PySem.W.nsIn K mainGlobals "_with_all" = some (some (.ref f18))) (l18 : K.lookup f18 = some ⟨oc18, od18, .func (PySem.W.fnOf "_with_all" "_with_all" (defArgs s_with_all) (defBody s_with_all) (defScope s_with_all) .none kV18 dc18 pm18 an18 cd18 ct18), sl18⟩) (c18 : PySem.W.codeIn K cd18 "_with_all" = true) (k18 : PySem.W.keepIn K (.ref f18) = true)
    (a19 : PySem.W.nsIn K mainGlobals "_widest_inside" = some (some (.ref f19))) (l19 : K.lookup f19 = some ⟨oc19, od19, .func (PySem.W.fnOf "_widest_inside" "_widest_inside" (defArgs s_widest_inside) (defBody s_widest_inside) (defScope s_widest_inside) .none kV19 dc19 pm19 an19 cd19 ct19), sl19⟩) (c19 : PySem.W.codeIn K cd19 "_widest_inside" = true) (k19 : PySem.W.keepIn K (.ref f19) = true)
    (a20 : PySem.W.nsIn K mainGlobals "_cell" = some (some (.ref f20))) (l20 : K.lookup f20 = some ⟨oc20, od20, .func (PySem.W.fnOf "_cell" "_cell" (defArgs s_cell) (defBody s_cell) (defScope s_cell) .none kV20 dc20 pm20 an20 cd20 ct20), sl20⟩) (c20 : PySem.W.codeIn K cd20 "_cell" = true) (k20 : PySem.W.keepIn K (.ref f20) = true)
    (a21 : PySem.W.nsIn K mainGlobals "cells" = some (some (.ref f21))) (l21 : K.lookup f21 = some ⟨oc21, od21, .func (PySem.W.fnOf "cells" "cells" (defArgs s_cells) (defBody s_cells) (defScope s_cells) .none kV21 dc21 pm21 an21 cd21 ct21), sl21⟩) (c21 : PySem.W.codeIn K cd21 "cells" = true) (k21 : PySem.W.keepIn K (.ref f21) = true)
    (a22 : PySem.W.nsIn K mainGlobals "is_row" = some (some (.ref f22))) (l22 : K.lookup f22 = some ⟨oc22, od22, .func (PySem.W.fnOf "is_row" "is_row" (defArgs s_is_row) (defBody s_is_row) (defScope s_is_row) .none kV22 dc22 pm22 an22 cd22 ct22), sl22⟩) (c22 : PySem.W.codeIn K cd22 "is_row" = true) (k22 : PySem.W.keepIn K (.ref f22) = true)
    (a23 : PySem.W.nsIn K mainGlobals "is_rows" = some (some (.ref f23))) (l23 : K.lookup f23 = some ⟨oc23, od23, .func (PySem.W.fnOf "is_rows" "is_rows" (defArgs s_is_rows) (defBody s_is_rows) (defScope s_is_rows) .none kV23 dc23 pm23 an23 cd23 ct23), sl23⟩) (c23 : PySem.W.codeIn K cd23 "is_rows" = true) (k23 : PySem.W.keepIn K (.ref f23) = true)
    (a24 : PySem.W.nsIn K mainGlobals "check_free" = some (some (.ref f24))) (l24 : K.lookup f24 = some ⟨oc24, od24, .func (PySem.W.fnOf "check_free" "check_free" (defArgs s_check_free) (defBody s_check_free) (defScope s_check_free) .none kV24 dc24 pm24 an24 cd24 ct24), sl24⟩) (c24 : PySem.W.codeIn K cd24 "check_free" = true) (k24 : PySem.W.keepIn K (.ref f24) = true)
    (a25 : PySem.W.nsIn K mainGlobals "is_free" = some (some (.ref f25))) (l25 : K.lookup f25 = some ⟨oc25, od25, .func (PySem.W.fnOf "is_free" "is_free" (defArgs s_is_free) (defBody s_is_free) (defScope s_is_free) .none kV25 dc25 pm25 an25 cd25 ct25), sl25⟩) (c25 : PySem.W.codeIn K cd25 "is_free" = true) (k25 : PySem.W.keepIn K (.ref f25) = true)
    (a26 : PySem.W.nsIn K mainGlobals "_used_cells" = some (some (.ref f26))) (l26 : K.lookup f26 = some ⟨oc26, od26, .func (PySem.W.fnOf "_used_cells" "_used_cells" (defArgs s_used_cells) (defBody s_used_cells) (defScope s_used_cells) .none kV26 dc26 pm26 an26 cd26 ct26), sl26⟩) (c26 : PySem.W.codeIn K cd26 "_used_cells" = true) (k26 : PySem.W.keepIn K (.ref f26) = true)
    (a27 : PySem.W.nsIn K mainGlobals "_first_address" = some (some (.ref f27))) (l27 : K.lookup f27 = some ⟨oc27, od27, .func (PySem.W.fnOf "_first_address" "_first_address" (defArgs s_first_address) (defBody s_first_address) (defScope s_first_address) .none kV27 dc27 pm27 an27 cd27 ct27), sl27⟩) (c27 : PySem.W.codeIn K cd27 "_first_address" = true) (k27 : PySem.W.keepIn K (.ref f27) = true)
    {adD28 tD28 : Addr} {odD28 odE28 : Option Addr} {nnD28 nnE28 : Nat} {slD28 slE28 : Array (Option Value)} (a28 : PySem.W.nsIn K mainGlobals "numbers" = some (some (.ref f28))) (l28 : K.lookup f28 = some ⟨oc28, od28, .func (PySem.W.fnOf "numbers" "numbers" (defArgs s_numbers) (defBody s_numbers) (defScope s_numbers) (.ref adD28) kV28 dc28 pm28 an28 cd28 ct28), sl28⟩) (tDa28 : K.lookup adD28 = some ⟨.type "tuple", odD28, .seq #[.ref tD28] nnD28, slD28⟩) (tDb28 : K.lookup tD28 = some ⟨.type "tuple", odE28, .seq #[] nnE28, slE28⟩) (c28 : PySem.W.codeIn K cd28 "numbers" = true) (k28 : PySem.W.keepIn K (.ref f28) = true)
    (a29 : PySem.W.nsIn K mainGlobals "used_number" = some (some (.ref f29))) (l29 : K.lookup f29 = some ⟨oc29, od29, .func (PySem.W.fnOf "used_number" "used_number" (defArgs s_used_number) (defBody s_used_number) (defScope s_used_number) .none kV29 dc29 pm29 an29 cd29 ct29), sl29⟩) (c29 : PySem.W.codeIn K cd29 "used_number" = true) (k29 : PySem.W.keepIn K (.ref f29) = true)
    (a30 : PySem.W.nsIn K mainGlobals "is_used" = some (some (.ref f30))) (l30 : K.lookup f30 = some ⟨oc30, od30, .func (PySem.W.fnOf "is_used" "is_used" (defArgs s_is_used) (defBody s_is_used) (defScope s_is_used) .none kV30 dc30 pm30 an30 cd30 ct30), sl30⟩) (c30 : PySem.W.codeIn K cd30 "is_used" = true) (k30 : PySem.W.keepIn K (.ref f30) = true)
    {adD31 tD31 : Addr} {odD31 odE31 : Option Addr} {nnD31 nnE31 : Nat} {slD31 slE31 : Array (Option Value)} (a31 : PySem.W.nsIn K mainGlobals "first_with" = some (some (.ref f31))) (l31 : K.lookup f31 = some ⟨oc31, od31, .func (PySem.W.fnOf "first_with" "first_with" (defArgs s_first_with) (defBody s_first_with) (defScope s_first_with) (.ref adD31) kV31 dc31 pm31 an31 cd31 ct31), sl31⟩) (tDa31 : K.lookup adD31 = some ⟨.type "tuple", odD31, .seq #[.ref tD31] nnD31, slD31⟩) (tDb31 : K.lookup tD31 = some ⟨.type "tuple", odE31, .seq #[] nnE31, slE31⟩) (c31 : PySem.W.codeIn K cd31 "first_with" = true) (k31 : PySem.W.keepIn K (.ref f31) = true)
    (a32 : PySem.W.nsIn K mainGlobals "_law_goals" = some (some (.ref f32))) (l32 : K.lookup f32 = some ⟨oc32, od32, .func (PySem.W.fnOf "_law_goals" "_law_goals" (defArgs s_law_goals) (defBody s_law_goals) (defScope s_law_goals) .none kV32 dc32 pm32 an32 cd32 ct32), sl32⟩) (c32 : PySem.W.codeIn K cd32 "_law_goals" = true) (k32 : PySem.W.keepIn K (.ref f32) = true)
    (a33 : PySem.W.nsIn K mainGlobals "_law_grown" = some (some (.ref f33))) (l33 : K.lookup f33 = some ⟨oc33, od33, .func (PySem.W.fnOf "_law_grown" "_law_grown" (defArgs s_law_grown) (defBody s_law_grown) (defScope s_law_grown) .none kV33 dc33 pm33 an33 cd33 ct33), sl33⟩) (c33 : PySem.W.codeIn K cd33 "_law_grown" = true) (k33 : PySem.W.keepIn K (.ref f33) = true)
    (a34 : PySem.W.nsIn K mainGlobals "_law_some" = some (some (.ref f34))) (l34 : K.lookup f34 = some ⟨oc34, od34, .func (PySem.W.fnOf "_law_some" "_law_some" (defArgs s_law_some) (defBody s_law_some) (defScope s_law_some) .none kV34 dc34 pm34 an34 cd34 ct34), sl34⟩) (c34 : PySem.W.codeIn K cd34 "_law_some" = true) (k34 : PySem.W.keepIn K (.ref f34) = true)
    (a35 : PySem.W.nsIn K mainGlobals "_law_size" = some (some (.ref f35))) (l35 : K.lookup f35 = some ⟨oc35, od35, .func (PySem.W.fnOf "_law_size" "_law_size" (defArgs s_law_size) (defBody s_law_size) (defScope s_law_size) .none kV35 dc35 pm35 an35 cd35 ct35), sl35⟩) (c35 : PySem.W.codeIn K cd35 "_law_size" = true) (k35 : PySem.W.keepIn K (.ref f35) = true)
    (a36 : PySem.W.nsIn K mainGlobals "_law_pieces" = some (some (.ref f36))) (l36 : K.lookup f36 = some ⟨oc36, od36, .func (PySem.W.fnOf "_law_pieces" "_law_pieces" (defArgs s_law_pieces) (defBody s_law_pieces) (defScope s_law_pieces) .none kV36 dc36 pm36 an36 cd36 ct36), sl36⟩) (c36 : PySem.W.codeIn K cd36 "_law_pieces" = true) (k36 : PySem.W.keepIn K (.ref f36) = true)
    (a37 : PySem.W.nsIn K mainGlobals "_law_told_right" = some (some (.ref f37))) (l37 : K.lookup f37 = some ⟨oc37, od37, .func (PySem.W.fnOf "_law_told_right" "_law_told_right" (defArgs s_law_told_right) (defBody s_law_told_right) (defScope s_law_told_right) .none kV37 dc37 pm37 an37 cd37 ct37), sl37⟩) (c37 : PySem.W.codeIn K cd37 "_law_told_right" = true) (k37 : PySem.W.keepIn K (.ref f37) = true)
    (a38 : PySem.W.nsIn K mainGlobals "_law_right" = some (some (.ref f38))) (l38 : K.lookup f38 = some ⟨oc38, od38, .func (PySem.W.fnOf "_law_right" "_law_right" (defArgs s_law_right) (defBody s_law_right) (defScope s_law_right) .none kV38 dc38 pm38 an38 cd38 ct38), sl38⟩) (c38 : PySem.W.codeIn K cd38 "_law_right" = true) (k38 : PySem.W.keepIn K (.ref f38) = true)
    (a39 : PySem.W.nsIn K mainGlobals "law" = some (some (.ref f39))) (l39 : K.lookup f39 = some ⟨oc39, od39, .func (PySem.W.fnOf "law" "law" (defArgs s_law) (defBody s_law) (defScope s_law) .none kV39 dc39 pm39 an39 cd39 ct39), sl39⟩) (c39 : PySem.W.codeIn K cd39 "law" = true) (k39 : PySem.W.keepIn K (.ref f39) = true)
    (z0 : PySem.W.nsIn K mainGlobals "len" = some none)
    (z1 : PySem.W.nsIn K mainGlobals "abs" = some none)
    (z2 : PySem.W.nsIn K mainGlobals "max" = some none)
    (z3 : PySem.W.nsIn K mainGlobals "min" = some none)
    (z4 : PySem.W.nsIn K mainGlobals "int" = some none)
    (z5 : PySem.W.nsIn K mainGlobals "divmod" = some none)
    (z6 : PySem.W.nsIn K mainGlobals "range" = some none)
    (z7 : PySem.W.nsIn K mainGlobals "repr" = some none)
    (z8 : PySem.W.nsIn K mainGlobals "all" = some none)
    (z9 : PySem.W.nsIn K mainGlobals "str" = some none)
    (z10 : PySem.W.nsIn K mainGlobals "bool" = some none)
    (z11 : PySem.W.nsIn K mainGlobals "isinstance" = some none)
    (z12 : PySem.W.nsIn K mainGlobals "tuple" = some none)
    (z13 : PySem.W.nsIn K mainGlobals "dict" = some none)
    (z14 : PySem.W.nsIn K mainGlobals "list" = some none)
    (z15 : PySem.W.nsIn K mainGlobals "sorted" = some none)
    (z16 : PySem.W.nsIn K mainGlobals "zip" = some none)
    (z17 : PySem.W.nsIn K mainGlobals "enumerate" = some none)
    (z18 : PySem.W.nsIn K mainGlobals "sum" = some none)
    (z19 : PySem.W.nsIn K mainGlobals "any" = some none)
    {tk_MOST_WIDTH : Tok} (m_MOST_WIDTH : PySem.W.nsIn K mainGlobals "MOST_WIDTH" = some (some (.int 100 tk_MOST_WIDTH)))
    {tk_MOST_LETTERS : Tok} (m_MOST_LETTERS : PySem.W.nsIn K mainGlobals "MOST_LETTERS" = some (some (.int 6 tk_MOST_LETTERS)))
    {tk_LETTERS : Tok} (m_LETTERS : PySem.W.nsIn K mainGlobals "LETTERS" = some (some (.str "abcdefghijklmnopqrstuvwxyz" tk_LETTERS)))
    {ad_NO_NAMES : Addr} {od_NO_NAMES : Option Addr} {nn_NO_NAMES : Nat} {sl_NO_NAMES : Array (Option Value)} {tk_NO_NAMES0 tk_NO_NAMES1 tk_NO_NAMES2 tk_NO_NAMES3 tk_NO_NAMES4 : Tok} (m_NO_NAMES : PySem.W.nsIn K mainGlobals "NO_NAMES" = some (some (.ref ad_NO_NAMES))) (t_NO_NAMES : K.lookup ad_NO_NAMES = some ⟨.type "tuple", od_NO_NAMES, .seq #[.str "home" tk_NO_NAMES0, .str "hole" tk_NO_NAMES1, .str "ring" tk_NO_NAMES2, .str "all" tk_NO_NAMES3, .str "none" tk_NO_NAMES4] nn_NO_NAMES, sl_NO_NAMES⟩)
    {ad_ENDS : Addr} {od_ENDS : Option Addr} {nn_ENDS : Nat} {sl_ENDS : Array (Option Value)} {tk_ENDS0 tk_ENDS1 : Tok} (m_ENDS : PySem.W.nsIn K mainGlobals "ENDS" = some (some (.ref ad_ENDS))) (t_ENDS : K.lookup ad_ENDS = some ⟨.type "tuple", od_ENDS, .seq #[.str "home" tk_ENDS0, .str "hole" tk_ENDS1] nn_ENDS, sl_ENDS⟩)
    {tk_MOST_FREE : Tok} (m_MOST_FREE : PySem.W.nsIn K mainGlobals "MOST_FREE" = some (some (.int 20 tk_MOST_FREE)))
    {C : Addr} (aC : PySem.W.nsIn K mainGlobals "Table" = some (some (.ref C)))
    (pg : PySem.W.plainGet K C Str.empty = true) (hd : PySem.W.hasDictIn K C = true) (po : PySem.W.plainOver K C = true) (sa : PySem.W.findIn K (.ref C) "__setattr__" = some (some (.builtin "object.__setattr__"))) (mk : PySem.W.makesIn K C = true) (kc : PySem.W.keepIn K (.ref C) = true) (sf : PySem.W.selfFirst K C = true)
    (nf0 : PySem.W.findIn K (.ref C) "_width" = some none)
    (nf1 : PySem.W.findIn K (.ref C) "_rows" = some none)
    {tkc0 : Tok} (cn0 : PySem.W.findIn K (.ref C) "MOST_ROWS" = some (some (.int 40 tkc0))) (cg0 : PySem.W.specialIn K (.int 40 tkc0) "__get__" = some none)
    {fm0 : Addr} {odm0 anm0 : Option Addr} {slm0 : Array (Option Value)} {ocm0 kVm0 dcm0 pmm0 cdm0 ctm0 : Value} {adI : Addr} {odI : Option Addr} {nnI : Nat} {slI : Array (Option Value)}
    (am0 : PySem.W.findIn K (.ref C) "__init__" = some (some (.ref fm0))) (im0 : PySem.W.isFn K (.ref fm0) = true) (lm0 : K.lookup fm0 = some ⟨ocm0, odm0, .func (PySem.W.fnOf "__init__" "Table.__init__" (defArgs s_Tableinit) (defBody s_Tableinit) (defScope s_Tableinit) (.ref adI) kVm0 dcm0 pmm0 anm0 cdm0 ctm0), slm0⟩) (cm0 : PySem.W.codeIn K cdm0 "Table.__init__" = true) (km0 : PySem.W.keepIn K (.ref fm0) = true)
    (tI : K.lookup adI = some ⟨.type "tuple", odI, .seq #[.none] nnI, slI⟩)
    {fm1 : Addr} {odm1 anm1 : Option Addr} {slm1 : Array (Option Value)} {ocm1 kVm1 dcm1 pmm1 cdm1 ctm1 : Value}
    (am1 : PySem.W.findIn K (.ref C) "row" = some (some (.ref fm1))) (im1 : PySem.W.isFn K (.ref fm1) = true) (lm1 : K.lookup fm1 = some ⟨ocm1, odm1, .func (PySem.W.fnOf "row" "Table.row" (defArgs s_Table_row) (defBody s_Table_row) (defScope s_Table_row) .none kVm1 dcm1 pmm1 anm1 cdm1 ctm1), slm1⟩) (cm1 : PySem.W.codeIn K cdm1 "Table.row" = true) (km1 : PySem.W.keepIn K (.ref fm1) = true)
    {fm2 : Addr} {odm2 anm2 : Option Addr} {slm2 : Array (Option Value)} {ocm2 kVm2 dcm2 pmm2 cdm2 ctm2 : Value}
    (am2 : PySem.W.findIn K (.ref C) "__call__" = some (some (.ref fm2))) (im2 : PySem.W.isFn K (.ref fm2) = true) (lm2 : K.lookup fm2 = some ⟨ocm2, odm2, .func (PySem.W.fnOf "__call__" "Table.__call__" (defArgs s_Table__call__) (defBody s_Table__call__) (defScope s_Table__call__) .none kVm2 dcm2 pmm2 anm2 cdm2 ctm2), slm2⟩) (cm2 : PySem.W.codeIn K cdm2 "Table.__call__" = true) (km2 : PySem.W.keepIn K (.ref fm2) = true)
    {fm3 : Addr} {odm3 anm3 : Option Addr} {slm3 : Array (Option Value)} {ocm3 kVm3 dcm3 pmm3 cdm3 ctm3 : Value}
    (am3 : PySem.W.findIn K (.ref C) "rows" = some (some (.ref fm3))) (im3 : PySem.W.isFn K (.ref fm3) = true) (lm3 : K.lookup fm3 = some ⟨ocm3, odm3, .func (PySem.W.fnOf "rows" "Table.rows" (defArgs s_Table_rows) (defBody s_Table_rows) (defScope s_Table_rows) .none kVm3 dcm3 pmm3 anm3 cdm3 ctm3), slm3⟩) (cm3 : PySem.W.codeIn K cdm3 "Table.rows" = true) (km3 : PySem.W.keepIn K (.ref fm3) = true)
    {pW fmW : Addr} {rsW : List Value} {odmW anmW : Option Addr} {slmW : Array (Option Value)} {ocmW kVmW dcmW pmmW cdmW ctmW : Value} (apW : PySem.W.findIn K (.ref C) "width" = some (some (.ref pW))) (gpW : PySem.W.specialIn K (.ref pW) "__get__" = some (some (.builtin "property.__get__"))) (tpW : PySem.W.takesIn K (.ref pW) = some true) (rpW : PySem.W.recIn K pW "property" = some (.ref fmW :: rsW)) (lmW : K.lookup fmW = some ⟨ocmW, odmW, .func (PySem.W.fnOf "width" "Table.width" (defArgs s_Table_width) (defBody s_Table_width) (defScope s_Table_width) .none kVmW dcmW pmmW anmW cdmW ctmW), slmW⟩) (cmW : PySem.W.codeIn K cdmW "Table.width" = true) (kmW : PySem.W.keepIn K (.ref fmW) = true)
    (aCS : PySem.W.nsIn K mainGlobals "cells_stretches" = some (some (.ref f21)))
    : ∃ fd : FuncData, (∀ (s : Shared) (v : Value), BindsTo s fd ⟨[v], []⟩ [("_law_script", v)]) ∧ ∀ base : Heap, K.In base → base.Ns mainGlobals mg → FnG l.prog w K mg base CX0 13 fa fd ["_law_script"] (spLaw K) := by
  have e := hfa.symm.trans (PySem.W.mg_of X G a39)
  cases e
  have T : Txt K mg := ⟨PySem.W.mg_none_of X G z0, PySem.W.mg_none_of X G z1, PySem.W.mg_none_of X G z2, PySem.W.mg_none_of X G z3, PySem.W.mg_none_of X G z4, PySem.W.mg_none_of X G z5, PySem.W.mg_none_of X G z6, PySem.W.mg_none_of X G z7, PySem.W.mg_none_of X G z8, PySem.W.mg_none_of X G z9, PySem.W.mg_none_of X G z10, PySem.W.mg_none_of X G z11, PySem.W.mg_none_of X G z12, PySem.W.mg_none_of X G z13, PySem.W.mg_none_of X G z14, PySem.W.mg_none_of X G z15, PySem.W.mg_none_of X G z16, PySem.W.mg_none_of X G z17, PySem.W.mg_none_of X G z18, PySem.W.mg_none_of X G z19⟩
  have CC : Cst K mg := ⟨⟨_, PySem.W.mg_of X G m_MOST_WIDTH, ⟨_, rfl⟩⟩, ⟨_, PySem.W.mg_of X G m_MOST_LETTERS, ⟨_, rfl⟩⟩, ⟨_, PySem.W.mg_of X G m_LETTERS, ⟨_, rfl⟩⟩, ad_NO_NAMES, ⟨_, PySem.W.mg_of X G m_NO_NAMES, rfl⟩, fun _ => .inr ⟨_, _, _, t_NO_NAMES, rfl, rfl, szl (Nat.le_of_ble_eq_true rfl), .cons ⟨_, rfl⟩ (.cons ⟨_, rfl⟩ (.cons ⟨_, rfl⟩ (.cons ⟨_, rfl⟩ (.cons ⟨_, rfl⟩ .nil))))⟩, ad_ENDS, ⟨_, PySem.W.mg_of X G m_ENDS, rfl⟩, fun _ => .inr ⟨_, _, _, t_ENDS, rfl, rfl, szl (Nat.le_of_ble_eq_true rfl), .cons ⟨_, rfl⟩ (.cons ⟨_, rfl⟩ .nil)⟩⟩
  have cF : ∃ u, mg "MOST_FREE" = some u ∧ RelV (.int 20) u := ⟨_, PySem.W.mg_of X G m_MOST_FREE, ⟨_, rfl⟩⟩
  have al : mg "cells_stretches" = mg "cells" := (PySem.W.mg_of X G aCS).trans (PySem.W.mg_of X G a21).symm
  have F0 := fun_mk (st := s_law_draw) l0 c0 k0
  have F1 := fun_mk (st := s_law_pot) l1 c1 k1
  have F2 := fun_mk (st := s_law_pick) l2 c2 k2
  have F3 := fun_mk (st := s_law_bits) l3 c3 k3
  have F4 := fun_mk (st := s_is_count) l4 c4 k4
  have F5 := fun_mk (st := s_is_width) l5 c5 k5
  have F6 := fun_mk (st := s_is_bits) l6 c6 k6
  have F7 := fun_mk (st := s_is_name) l7 c7 k7
  have F8 := fun_mk (st := s_is_goal) l8 c8 k8
  have F9 := fun_mk (st := s_check_width) l9 c9 k9
  have F10 := fun_mk (st := s_is_stretch) l10 c10 k10
  have F11 := fun_mk (st := s_is_address) l11 c11 k11
  have F12 := fun_mk (st := s_check_stretch) l12 c12 k12
  have F13 := fun_mk (st := s_check_stretches) l13 c13 k13
  have F14 := fun_mk (st := s_check_address) l14 c14 k14
  have F15 := fun_mk (st := s_number) l15 c15 k15
  have F16 := fun_mk (st := s_first) l16 c16 k16
  have F17 := fun_mk (st := s_longest_beginning) l17 c17 k17
  have F18 := fun_mk (st := s_with_all) l18 c18 k18
  have F19 := fun_mk (st := s_widest_inside) l19 c19 k19
  have F20 := fun_mk (st := s_cell) l20 c20 k20
  have F21 := fun_mk (st := s_cells) l21 c21 k21
  have F22 := fun_mk (st := s_is_row) l22 c22 k22
  have F23 := fun_mk (st := s_is_rows) l23 c23 k23
  have F24 := fun_mk (st := s_check_free) l24 c24 k24
  have F25 := fun_mk (st := s_is_free) l25 c25 k25
  have F26 := fun_mk (st := s_used_cells) l26 c26 k26
  have F27 := fun_mk (st := s_first_address) l27 c27 k27
  have F28 : FunD K "numbers" "numbers" (defArgs s_numbers) (defBody s_numbers) (defScope s_numbers) [.ref tD28] [] f28 _ := ⟨⟨_, _, _, _, _, _, _, _, _, _, rfl, l28, c28, .inr ⟨by simp, adD28, _, [.ref tD28], nnD28, rfl, tDa28, rfl, .cons rfl .nil⟩, .inl rfl⟩, k28⟩
  have F29 := fun_mk (st := s_used_number) l29 c29 k29
  have F30 := fun_mk (st := s_is_used) l30 c30 k30
  have F31 : FunD K "first_with" "first_with" (defArgs s_first_with) (defBody s_first_with) (defScope s_first_with) [.ref tD31] [] f31 _ := ⟨⟨_, _, _, _, _, _, _, _, _, _, rfl, l31, c31, .inr ⟨by simp, adD31, _, [.ref tD31], nnD31, rfl, tDa31, rfl, .cons rfl .nil⟩, .inl rfl⟩, k31⟩
  have F32 := fun_mk (st := s_law_goals) l32 c32 k32
  have F33 := fun_mk (st := s_law_grown) l33 c33 k33
  have F34 := fun_mk (st := s_law_some) l34 c34 k34
  have F35 := fun_mk (st := s_law_size) l35 c35 k35
  have F36 := fun_mk (st := s_law_pieces) l36 c36 k36
  have F37 := fun_mk (st := s_law_told_right) l37 c37 k37
  have F38 := fun_mk (st := s_law_right) l38 c38 k38
  have F39 := fun_mk (st := s_law) l39 c39 k39
  have FM0 : FunD K "__init__" "Table.__init__" (defArgs s_Tableinit) (defBody s_Tableinit) (defScope s_Tableinit) [.non] [] fm0 _ := ⟨⟨_, _, _, _, _, _, _, _, _, _, rfl, lm0, cm0, .inr ⟨by simp, adI, _, [.none], nnI, rfl, tI, rfl, .cons rfl .nil⟩, .inl rfl⟩, km0⟩
  have FM1 := fun_mk (st := s_Table_row) lm1 cm1 km1
  have FM2 := fun_mk (st := s_Table__call__) lm2 cm2 km2
  have FM3 := fun_mk (st := s_Table_rows) lm3 cm3 km3
  refine ⟨PySem.W.fnOf "law" "law" (defArgs s_law) (defBody s_law) (defScope s_law) .none kV39 dc39 pm39 an39 cd39 ct39, fun s v => .of_eq rfl, fun base _ _ => ?_⟩
  have n_law_draw := ok_draw (P := l.prog) (w := w) (base := base) F0 (PySem.W.mg_of X G a0) T
  have n_law_pot := ok_pot (P := l.prog) (w := w) (base := base) F1 (PySem.W.mg_of X G a1) T
  have n_law_pick := ok_among (P := l.prog) (w := w) (base := base) F2 (PySem.W.mg_of X G a2) T n_law_draw
  have n_law_bits := ok_bitsn (P := l.prog) (w := w) (base := base) F3 (PySem.W.mg_of X G a3) T n_law_pick
  have n_is_count := ok_is_count (P := l.prog) (w := w) (base := base) F4 (PySem.W.mg_of X G a4) T
  have n_is_width := ok_is_width (P := l.prog) (w := w) (base := base) F5 (PySem.W.mg_of X G a5) T CC n_is_count
  have n_is_bits := ok_is_bits (P := l.prog) (w := w) (base := base) F6 (PySem.W.mg_of X G a6) T
  have n_is_name := ok_is_name (P := l.prog) (w := w) (base := base) F7 (PySem.W.mg_of X G a7) T CC
  have n_is_goal := ok_is_goal (P := l.prog) (w := w) (base := base) F8 (PySem.W.mg_of X G a8) T CC n_is_name
  have n_check_width := ok_check_width (P := l.prog) (w := w) (base := base) F9 (PySem.W.mg_of X G a9) T n_is_width
  have n_is_stretch := ok_is_stretch (P := l.prog) (w := w) (base := base) F10 (PySem.W.mg_of X G a10) T n_check_width n_is_bits
  have n_is_address := ok_is_address (P := l.prog) (w := w) (base := base) F11 (PySem.W.mg_of X G a11) T n_is_stretch
  have n_check_stretch := ok_check_stretch (P := l.prog) (w := w) (base := base) F12 (PySem.W.mg_of X G a12) T n_is_stretch
  have n_check_stretches := ok_check_stretches (P := l.prog) (w := w) (base := base) F13 (PySem.W.mg_of X G a13) T n_check_width n_is_stretch
  have n_check_address := ok_check_address (P := l.prog) (w := w) (base := base) F14 (PySem.W.mg_of X G a14) T n_is_address
  have n_number := ok_number (P := l.prog) (w := w) (base := base) F15 (PySem.W.mg_of X G a15) T n_check_stretch
  have n_first := ok_first (P := l.prog) (w := w) (base := base) F16 (PySem.W.mg_of X G a16) T n_check_stretch
  have n_longest_beginning := ok_longest (P := l.prog) (w := w) (base := base) F17 (PySem.W.mg_of X G a17) T
  have n_with_all := ok_with_all (P := l.prog) (w := w) (base := base) F18 (PySem.W.mg_of X G a18) T
  have n_widest_inside := ok_widest (P := l.prog) (w := w) (base := base) F19 (PySem.W.mg_of X G a19) T n_longest_beginning
  have n_cell := ok_cell (P := l.prog) (w := w) (base := base) F20 (PySem.W.mg_of X G a20) T n_number n_first
  have n_cells := ok_cells (P := l.prog) (w := w) (base := base) F21 (PySem.W.mg_of X G a21) T n_check_stretches n_with_all n_widest_inside n_cell
  have n_is_row := ok_is_row (P := l.prog) (w := w) (base := base) F22 (PySem.W.mg_of X G a22) T n_is_stretch n_is_goal
  have n_is_rows := ok_is_rows (P := l.prog) (w := w) (base := base) F23 (PySem.W.mg_of X G a23) T n_is_stretch n_is_goal
  have n_check_free := ok_check_free (P := l.prog) (w := w) (base := base) F24 (PySem.W.mg_of X G a24) T cF n_check_width n_is_stretch
  have n_is_free := ok_is_free (P := l.prog) (w := w) (base := base) F25 (PySem.W.mg_of X G a25) T
  have n_used_cells := ok_used (P := l.prog) (w := w) (base := base) F26 (PySem.W.mg_of X G a26) T n_cells n_is_free al
  have n_first_address := ok_first_address (P := l.prog) (w := w) (base := base) F27 (PySem.W.mg_of X G a27) T
  have n_long2 := ok_long (P := l.prog) (w := w) (base := base) F17 (PySem.W.mg_of X G a17) T
  have TC : TabC K C := ⟨⟨pg, hd, po, sa⟩, nf0, nf1, ⟨_, ⟨cn0, ⟨_, rfl⟩, cg0, by decide +kernel⟩⟩, sf⟩
  have okI := ok_init (P := l.prog) (w := w) (base := base) FM0 T TC n_check_width n_is_rows
  have okN := ok_initN (P := l.prog) (w := w) (base := base) FM0 T TC n_check_width n_is_rows
  have b_Tab := b_table FM0 ⟨mk, am0, im0, kc⟩ (PySem.W.mg_of X G aC) okI
  have b_TabN := b_tableN FM0 ⟨mk, am0, im0, kc⟩ (PySem.W.mg_of X G aC) okN
  have c_row := ok_rowof (P := l.prog) (w := w) (base := base) FM1 ⟨am1, im1, km1⟩ T TC n_check_address n_long2
  have c_call := ok_call (P := l.prog) (w := w) (base := base) FM2 ⟨am2, im2, km2⟩ T TC c_row
  have c_rows := ok_trows (P := l.prog) (w := w) (base := base) FM3 ⟨am3, im3, km3⟩ T TC
  have FMW := fun_mk (st := s_Table_width) lmW cmW kmW
  have c_width := ok_width (P := l.prog) (w := w) (base := base) FMW ⟨apW, gpW, tpW, ⟨_, rpW⟩⟩ T TC
  have n_numbers := ok_numbers (P := l.prog) (w := w) (base := base) F28 T TC n_check_free n_used_cells c_width c_rows c_call
  have b_nb2 := b_nb2 F28 k28 (PySem.W.mg_of X G a28) n_numbers
  have b_nbK := b_nbK F28 k28 (PySem.W.mg_of X G a28) n_numbers
  have n_used_number := ok_used_number (P := l.prog) (w := w) (base := base) F29 (PySem.W.mg_of X G a29) T n_check_free n_used_cells
  have n_is_used := ok_is_used (P := l.prog) (w := w) (base := base) F30 (PySem.W.mg_of X G a30) T n_check_free n_check_address n_is_free
  have n_first_with := ok_first_with (P := l.prog) (w := w) (base := base) F31 T TC n_is_goal n_check_free n_used_cells n_first_address c_width c_rows c_call
  have b_fw3 := b_fw3 F31 k31 (PySem.W.mg_of X G a31) n_first_with
  have n_law_goals := ok_goals (P := l.prog) (w := w) (base := base) F32 (PySem.W.mg_of X G a32) T n_law_draw n_law_pick
  have n_law_grown := ok_grown (P := l.prog) (w := w) (base := base) F33 (PySem.W.mg_of X G a33) T n_law_draw n_law_pick n_law_bits
  have n_law_some := ok_some (P := l.prog) (w := w) (base := base) F34 (PySem.W.mg_of X G a34) T n_law_draw
  have n_law_size := ok_size (P := l.prog) (w := w) (base := base) F35 (PySem.W.mg_of X G a35) T n_law_draw n_law_pick
  have n_law_pieces := ok_pieces (P := l.prog) (w := w) (base := base) F36 (PySem.W.mg_of X G a36) T
  have n_law_told_right := ok_told (P := l.prog) (w := w) (base := base) F37 (PySem.W.mg_of X G a37) T TC n_law_pieces n_used_number n_is_used c_call b_Tab b_nb2 b_nbK b_fw3
  have n_law_right := ok_law_right (P := l.prog) (w := w) (base := base) F38 (PySem.W.mg_of X G a38) T TC n_law_draw n_law_pick n_law_goals n_law_size n_law_grown n_law_some n_law_told_right n_used_number b_TabN b_nb2
  have n_law := ok_law (P := l.prog) (w := w) (base := base) F39 (PySem.W.mg_of X G a39) T n_law_pot n_law_right
  exact n_law.fn F39 (PySem.W.mg_of X G a39)
theorem walk {l : PySem.W.OpenLaw} {q : Program} {loose : List Str} {XP : (Str → Option Value) → Heap → Prop} {YP : World → Heap → Prop} {d : DefRec} {K : Params → PySem.W.Frag} (hn : l.most = some 63) (hdf : d.params.defaults = [])
    (hY : ∀ (w : World) (h : Heap), YP w h → (K w.params).In h)
    (F : ∀ (w : World) (mg : Str → Option Value) (fa : Addr) (h : Heap), (K w.params).In h → h.Ns mainGlobals mg → mg d.name = some (.ref fa) →
      ∃ fd : FuncData, (∀ (s : Shared) (u : Value), BindsTo s fd ⟨[u], []⟩ [("_law_script", u)]) ∧ ∀ base : Heap, (K w.params).In base → base.Ns mainGlobals mg → FnG l.prog w (K w.params) mg base CX0 13 fa fd ["_law_script"] (spLaw (K w.params))) :
    PySem.W.WalkO q loose XP YP l.row.toRowW d [] (fun f vs => PySem.call f vs) :=
  walk_g (n := 63) (k := 13) (x := "_law_script") (CX := fun _ => CX0) (sp := fun w => spLaw (K w.params)) hn (by decide) hdf roomTop hY F (fun _ _ a ns h1 h2 h3 => ⟨a, ns, rfl, h2, h1, h3, fun _ => rfl⟩) fun _ _ _ _ _ z => z
end Cov
open PySem PySem.W PyProof.Rows
set_option maxRecDepth 100000 in
set_option maxHeartbeats 0 in
theorem PySem.Challenge.cw_coverways_k23_whole_great_widths_counted_holds : PySem.Challenge.rw_coverways_k23_whole_great_widths_counted.Holds := by
  w_on; o_law; k_head; (case hw => w_witness2)
  k_fill
  refine Cov.walk (l := PySem.Challenge.rw_coverways_k23_whole_great_widths_counted) rfl rfl (fun w h Y => PySem.W.kIn_of Y) ?F
  case F =>
    intro w mg fa h KX G hmg
    refine' Cov.all_mk KX G hmg ?a0 ?l0 ?c0 ?k0 ?a1 ?l1 ?c1 ?k1 ?a2 ?l2 ?c2 ?k2 ?a3 ?l3 ?c3 ?k3 ?a4 ?l4 ?c4 ?k4 ?a5 ?l5 ?c5 ?k5 ?a6 ?l6 ?c6 ?k6 ?a7 ?l7 ?c7 ?k7 ?a8 ?l8 ?c8 ?k8 ?a9 ?l9 ?c9 ?k9 ?a10 ?l10 ?c10 ?k10 ?a11 ?l11 ?c11 ?k11 ?a12 ?l12 ?c12 ?k12 ?a13 ?l13 ?c13 ?k13 ?a14 ?l14 ?c14 ?k14 ?a15 ?l15 ?c15 ?k15 ?a16 ?l16 ?c16 ?k16 ?a17 ?l17 ?c17 ?k17 ?a18 ?l18 ?c18 ?k18 ?a19 ?l19 ?c19 ?k19 ?a20 ?l20 ?c20 ?k20 ?a21 ?l21 ?c21 ?k21 ?a22 ?l22 ?c22 ?k22 ?a23 ?l23 ?c23 ?k23 ?a24 ?l24 ?c24 ?k24 ?a25 ?l25 ?c25 ?k25 ?a26 ?l26 ?c26 ?k26 ?a27 ?l27 ?c27 ?k27 ?a28 ?l28 ?tDa28 ?tDb28 ?c28 ?k28 ?a29 ?l29 ?c29 ?k29 ?a30 ?l30 ?c30 ?k30 ?a31 ?l31 ?tDa31 ?tDb31 ?c31 ?k31 ?a32 ?l32 ?c32 ?k32 ?a33 ?l33 ?c33 ?k33 ?a34 ?l34 ?c34 ?k34 ?a35 ?l35 ?c35 ?k35 ?a36 ?l36 ?c36 ?k36 ?a37 ?l37 ?c37 ?k37 ?a38 ?l38 ?c38 ?k38 ?a39 ?l39 ?c39 ?k39 ?z0 ?z1 ?z2 ?z3 ?z4 ?z5 ?z6 ?z7 ?z8 ?z9 ?z10 ?z11 ?z12 ?z13 ?z14 ?z15 ?z16 ?z17 ?z18 ?z19 ?m_MOST_WIDTH ?m_MOST_LETTERS ?m_LETTERS ?m_NO_NAMES ?t_NO_NAMES ?m_ENDS ?t_ENDS ?m_MOST_FREE ?aC ?pg ?hd ?po ?sa ?mk ?kc ?sf ?nf0 ?nf1 ?cn0 ?cg0 ?am0 ?im0 ?lm0 ?cm0 ?km0 ?tI ?am1 ?im1 ?lm1 ?cm1 ?km1 ?am2 ?im2 ?lm2 ?cm2 ?km2 ?am3 ?im3 ?lm3 ?cm3 ?km3 ?apW ?gpW ?tpW ?rpW ?lmW ?cmW ?kmW ?aCS
    (case a0 => k_is)
    (case l0 => k_is)
    (case c0 => k_is)
    (case k0 => k_is)
    (case a1 => k_is)
    (case l1 => k_is)
    (case c1 => k_is)
    (case k1 => k_is)
    (case a2 => k_is)
    (case l2 => k_is)
    (case c2 => k_is)
    (case k2 => k_is)
    (case a3 => k_is)
    (case l3 => k_is)
    (case c3 => k_is)
    (case k3 => k_is)
    (case a4 => k_is)
    (case l4 => k_is)
    (case c4 => k_is)
    (case k4 => k_is)
    (case a5 => k_is)
    (case l5 => k_is)
    (case c5 => k_is)
    (case k5 => k_is)
    (case a6 => k_is)
    (case l6 => k_is)
    (case c6 => k_is)
    (case k6 => k_is)
    (case a7 => k_is)
    (case l7 => k_is)
    (case c7 => k_is)
    (case k7 => k_is)
    (case a8 => k_is)
    (case l8 => k_is)
    (case c8 => k_is)
    (case k8 => k_is)
    (case a9 => k_is)
    (case l9 => k_is)
    (case c9 => k_is)
    (case k9 => k_is)
    (case a10 => k_is)
    (case l10 => k_is)
    (case c10 => k_is)
    (case k10 => k_is)
    (case a11 => k_is)
    (case l11 => k_is)
    (case c11 => k_is)
    (case k11 => k_is)
    (case a12 => k_is)
    (case l12 => k_is)
    (case c12 => k_is)
    (case k12 => k_is)
    (case a13 => k_is)
    (case l13 => k_is)
    (case c13 => k_is)
    (case k13 => k_is)
    (case a14 => k_is)
    (case l14 => k_is)
    (case c14 => k_is)
    (case k14 => k_is)
    (case a15 => k_is)
    (case l15 => k_is)
    (case c15 => k_is)
    (case k15 => k_is)
    (case a16 => k_is)
    (case l16 => k_is)
    (case c16 => k_is)
    (case k16 => k_is)
    (case a17 => k_is)
    (case l17 => k_is)
    (case c17 => k_is)
    (case k17 => k_is)
    (case a18 => k_is)
    (case l18 => k_is)
    (case c18 => k_is)
    (case k18 => k_is)
    (case a19 => k_is)
    (case l19 => k_is)
    (case c19 => k_is)
    (case k19 => k_is)
    (case a20 => k_is)
    (case l20 => k_is)
    (case c20 => k_is)
    (case k20 => k_is)
    (case a21 => k_is)
    (case l21 => k_is)
    (case c21 => k_is)
    (case k21 => k_is)
    (case a22 => k_is)
    (case l22 => k_is)
    (case c22 => k_is)
    (case k22 => k_is)
    (case a23 => k_is)
    (case l23 => k_is)
    (case c23 => k_is)
    (case k23 => k_is)
    (case a24 => k_is)
    (case l24 => k_is)
    (case c24 => k_is)
    (case k24 => k_is)
    (case a25 => k_is)
    (case l25 => k_is)
    (case c25 => k_is)
    (case k25 => k_is)
    (case a26 => k_is)
    (case l26 => k_is)
    (case c26 => k_is)
    (case k26 => k_is)
    (case a27 => k_is)
    (case l27 => k_is)
    (case c27 => k_is)
    (case k27 => k_is)
    (case a28 => k_is)
    (case l28 => k_is)
    (case tDa28 => k_is)
    (case tDb28 => k_is)
    (case c28 => k_is)
    (case k28 => k_is)
    (case a29 => k_is)
    (case l29 => k_is)
    (case c29 => k_is)
    (case k29 => k_is)
    (case a30 => k_is)
    (case l30 => k_is)
    (case c30 => k_is)
    (case k30 => k_is)
    (case a31 => k_is)
    (case l31 => k_is)
    (case tDa31 => k_is)
    (case tDb31 => k_is)
    (case c31 => k_is)
    (case k31 => k_is)
    (case a32 => k_is)
    (case l32 => k_is)
    (case c32 => k_is)
    (case k32 => k_is)
    (case a33 => k_is)
    (case l33 => k_is)
    (case c33 => k_is)
    (case k33 => k_is)
    (case a34 => k_is)
    (case l34 => k_is)
    (case c34 => k_is)
    (case k34 => k_is)
    (case a35 => k_is)
    (case l35 => k_is)
    (case c35 => k_is)
    (case k35 => k_is)
    (case a36 => k_is)
    (case l36 => k_is)
    (case c36 => k_is)
    (case k36 => k_is)
    (case a37 => k_is)
    (case l37 => k_is)
    (case c37 => k_is)
    (case k37 => k_is)
    (case a38 => k_is)
    (case l38 => k_is)
    (case c38 => k_is)
    (case k38 => k_is)
    (case a39 => k_is)
    (case l39 => k_is)
    (case c39 => k_is)
    (case k39 => k_is)
    (case z0 => k_is)
    (case z1 => k_is)
    (case z2 => k_is)
    (case z3 => k_is)
    (case z4 => k_is)
    (case z5 => k_is)
    (case z6 => k_is)
    (case z7 => k_is)
    (case z8 => k_is)
    (case z9 => k_is)
    (case z10 => k_is)
    (case z11 => k_is)
    (case z12 => k_is)
    (case z13 => k_is)
    (case z14 => k_is)
    (case z15 => k_is)
    (case z16 => k_is)
    (case z17 => k_is)
    (case z18 => k_is)
    (case z19 => k_is)
    (case m_MOST_WIDTH => k_is)
    (case m_MOST_LETTERS => k_is)
    (case m_LETTERS => k_is)
    (case m_NO_NAMES => k_is)
    (case t_NO_NAMES => k_is)
    (case m_ENDS => k_is)
    (case t_ENDS => k_is)
    (case m_MOST_FREE => k_is)
    (case aC => k_is)
    (case pg => k_is)
    (case hd => k_is)
    (case po => k_is)
    (case sa => k_is)
    (case mk => k_is)
    (case kc => k_is)
    (case sf => k_is)
    (case nf0 => k_is)
    (case nf1 => k_is)
    (case cn0 => k_is)
    (case cg0 => k_is)
    (case am0 => k_is)
    (case im0 => k_is)
    (case lm0 => k_is)
    (case cm0 => k_is)
    (case km0 => k_is)
    (case tI => k_is)
    (case am1 => k_is)
    (case im1 => k_is)
    (case lm1 => k_is)
    (case cm1 => k_is)
    (case km1 => k_is)
    (case am2 => k_is)
    (case im2 => k_is)
    (case lm2 => k_is)
    (case cm2 => k_is)
    (case km2 => k_is)
    (case am3 => k_is)
    (case im3 => k_is)
    (case lm3 => k_is)
    (case cm3 => k_is)
    (case km3 => k_is)
    (case apW => k_is)
    (case gpW => k_is)
    (case tpW => k_is)
    (case rpW => k_is)
    (case lmW => k_is)
    (case cmW => k_is)
    (case kmW => k_is)
    (case aCS => k_is)

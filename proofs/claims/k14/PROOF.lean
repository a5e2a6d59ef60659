import PyProof.Rows.All
import Wide.All
import OpenK.AllK
import Wide.FinOn
import HandS.IntHex
import HandS.FStr
import HandS.StrMore
import KE.KxField
import PyProof.Rows.StrPadFill
import HandS.Comp
import HandS.DictComp
import HandS.Iter
import HandS.Walk
import PyProof.Draws
import PyProof.EnumMake
import PyProof.TupleIter
import HandS.ForMost
import HandS.IsInst
import HandS.WideBits
import HandS.Codes
import KE.SortKeyHeap
import HandS.SortKw
import HandS.More
import HandS.Star
import HandS.Property
import HandS.MakeKw
import PyProof.DictUpdate
import PyProof.DictDisplay
import PyProof.ZipIter
import HandS.Zip0
import PyProof.P3Eq
import PyProof.ReprBulk
import KE.KEqDict
import PyProof.InstNe
import HandS.DictTup
import KE.SortData
import HandS.ListItems
import HandS.SortRule
import HandS.Set
import HandS.TupSets
import HandS.SetTxt0
import HandS.Style
import PySem.Challenge.RW_coverways_k14_whole_cells_of_wide_addres
set_option Elab.async false
set_option linter.all false
set_option maxRecDepth 100000
set_option maxHeartbeats 2000000
namespace L2
open PySem PySem.Spec PyProof.Rows
/-! ## texts of 0 and 1 as numbers: int(t, 2), f"{n:b}", ljust with a sign -/
namespace B2
open PySem.NumText PySem.Calls L2.Hx
abbrev IsB (c : Nat) : Prop := c = 48 ∨ c = 49
theorem IsB.hex {c : Nat} (h : IsB c) : IsHex c := by
  unfold IsHex
  rcases h with h | h <;> omega
def num (l : List Nat) : Nat := l.foldl (fun a c => a * 2 + (c - 48)) 0
theorem dig_b {c : Nat} (h : IsB c) : digit? c = some (c - 48) := by
  rcases h with h | h <;> (subst h; rfl)
theorem go_b {ds : Array Nat} {b : Bool} {c : Nat} (h : IsB c) : PySem.NumText.step 2 (ds, b) c = some (ds.push (c - 48), true) := by
  unfold PySem.NumText.step
  have hn : ¬ (c == 95) = true := by rw [beq_iff_eq]; rcases h with h | h <;> omega
  rw [if_neg hn, dig_b h]
  exact if_pos (show c - 48 < 2 by rcases h with h | h <;> omega)
theorem all_b : ∀ (l : List Nat) (ds : Array Nat), (∀ c ∈ l, IsB c) → l.foldlM (PySem.NumText.step 2) (ds, true) = some (l.foldl (fun t c => t.push (c - 48)) ds, true)
  | [], _, _ => rfl
  | c :: l, ds, h => by
    rw [List.foldlM_cons, go_b (h c (List.mem_cons_self ..))]
    exact all_b l (ds.push (c - 48)) fun d hd => h d (List.mem_cons_of_mem _ hd)
theorem digs_b {l : List Nat} (h : ∀ c ∈ l, IsB c) (hne : l ≠ []) : digits? 2 l = some (l.foldl (fun t c => t.push (c - 48)) #[]) := by
  match l, hne with
  | c :: l, _ =>
    unfold digits?
    rw [List.foldlM_cons, go_b (h c (List.mem_cons_self ..))]
    show (l.foldlM (PySem.NumText.step 2) ((#[] : Array Nat).push (c - 48), true)).bind _ = _
    rw [all_b l _ fun d hd => h d (List.mem_cons_of_mem _ hd)]
    rfl
theorem push_b : ∀ (l : List Nat) (ds : Array Nat), (l.foldl (fun t c => t.push (c - 48)) ds).foldl (fun a d => a * 2 + d) 0 = l.foldl (fun a c => a * 2 + (c - 48)) (ds.foldl (fun a d => a * 2 + d) 0)
  | [], _ => rfl
  | c :: l, ds => by
    rw [List.foldl_cons, push_b l (ds.push (c - 48)), List.foldl_cons]
    congr 1
    simp
theorem base_b {l : List Nat} (h : ∀ c ∈ l, IsB c) : based 2 l = (2, false, l) := by
  match l, h with
  | [], _ => rfl
  | [a], h => rcases h a (List.mem_cons_self ..) with q | q <;> (subst q; rfl)
  | a :: c :: r, h => rcases h a (List.mem_cons_self ..) with q | q <;> rcases h c (List.mem_cons_of_mem _ (List.mem_cons_self ..)) with z | z <;> (subst q; subst z; rfl)
theorem read_b {l : List Nat} (h : ∀ c ∈ l, IsB c) (hne : l ≠ []) : (int_private% "readNumeral") 0 2 l = (int_private% "Numeral.value") ((num l : Nat) : Int) := by
  have hx : ∀ c ∈ l, IsHex c := fun c hc => (h c hc).hex
  have hr : ∀ c ∈ l.reverse, IsHex c := fun c hc => hx c (List.mem_reverse.mp hc)
  refine (readNumeral_eq 0 2 l).trans ?_
  rw [dropB hx, signH hx]
  show judge 0 false (based 2 l).1 (based 2 l).2.1 (digits? (based 2 l).1 (((based 2 l).2.2.reverse.dropWhile blank).reverse)) = _
  rw [base_b h]
  show judge 0 false 2 false (digits? 2 ((l.reverse.dropWhile blank).reverse)) = _
  rw [dropB hr, List.reverse_reverse, digs_b h hne]
  show (int_private% "Numeral.value") (((l.foldl (fun t c => t.push (c - 48)) (#[] : Array Nat)).foldl (fun a d => a * 2 + d) 0 : Nat) : Int) = _
  rw [push_b]
  have z : (#[] : Array Nat).foldl (fun a d => a * 2 + d) 0 = 0 := by first | rfl | simp
  rw [z]
  rfl
theorem gives_b {x : PySem.Str} {u t : Tok} (hl : x.length ≤ 640) (h : ∀ c ∈ x.cps.toList, IsB c) (hne : x.cps.toList ≠ []) :
    Gives (Builtin.«int.__new__» ⟨[.type "int", .str x u, .int 2 t], []⟩) (.int ((num x.cps.toList : Nat) : Int)) :=
  .of_wp fun M A E s Q hQ => by
    obtain ⟨hp, g, d, tk, os⟩ := s
    have f1 := F.conv_sub_int
    have f2 := F.madeHere_int
    have f6 : typeOf (.str x u) = pure (.type "str") := rfl
    obtain ⟨e1, e2⟩ := seen_hex fun c hc => (h c hc).hex
    have hk : Hid ((numSeenOf x).length ≤ 640 ∧ (int_private% "readNumeral") 0 2 (numSeenOf x) = (int_private% "Numeral.value") ((num x.cps.toList : Nat) : Int) ∧ ((numSeenOf x).length == (numTextOf x).length) = true) :=
      ⟨by rw [e2, Array.length_toList]; exact hl, by rw [e2]; exact read_b h hne, by rw [e1, e2]; exact beq_self_eq_true _⟩
    clear e1 e2 hl hne h
    repeat (any_goals (first
      | assumption
      | ((with_reducible show wpAny _ _ ((int_private% "intFromText") _ _ _) _ _ _); refine wp_textB hk.out.1 hk.out.2.1 hk.out.2.2 ?_)
      | wp_step))
    all_goals first | exact ⟨_, rfl, hQ⟩ | skip
theorem call_b {prog : Program} {w : World} {A : Around} {E : Value → Shared → Prop} {s : Shared} {Q : Value → Shared → Prop} {x : PySem.Str} {u t : Tok} (hl : x.length ≤ 640) (h : ∀ c ∈ x.cps.toList, IsB c) (hne : x.cps.toList ≠ [])
    (hQ : Q (.int ((num x.cps.toList : Nat) : Int) s.toks) { s with toks := s.toks + 1 }) : wpAny (model prog w) A (call (.type "int") [.str x u, .int 2 t]) Q E s :=
  callType_new F.called_int F.newNe_int (typeCall_int_2 _ _) (newCall_int_2 _ _)
    (fun obj => F.initArgs_range_2 obj _ _) F.entry_int_new (gives_b hl h hne).meets
    (show (Made.int ((num x.cps.toList : Nat) : Int)).post _ s from ⟨rfl, hQ⟩)
end B2
/-- int(t, 2) -/
def rIntB : List V → Hp → VK → Prop := fun xs H Q => ∃ z : Str, xs = [.str z, .int 2] ∧ z.cps.toList ≠ [] ∧ z.length ≤ 640 ∧ (∀ c ∈ z.cps.toList, c = 48 ∨ c = 49) ∧ Q (.int ((B2.num z.cps.toList : Nat) : Int)) H
theorem call_intB {X : Cx} : CallR X (.type "int") rIntB := by
  intro pins s σ H xs us Q I r h
  obtain ⟨z, rfl, hne, hl, hx, q⟩ := h
  obtain ⟨u, w', rfl, r1, r2⟩ := vals2 r
  obtain ⟨t1, rfl⟩ := r1
  obtain ⟨t2, rfl⟩ := r2
  exact B2.call_b hl hx hne ⟨.int ((B2.num z.cps.toList : Nat) : Int), H, I.tok _, ⟨_, rfl⟩, q⟩
/-- s.ljust(n, c), a sign c -/
def rLj2 : V → List V → Hp → VK → Prop := fun x xs H Q => ∃ (a : Str) (i : Int) (f : Str), x = .str a ∧ xs = [.int i, .str f] ∧ PadOk i = true ∧ f.length = 1 ∧ Q (.str (Txt.ljustF a i (f.cps.getD 0 0))) H
theorem mt_ljust2 {X : Cx} : MtR X "str.ljust" rLj2 := by
  intro pins s σ H x xs v us Q I rx rs h
  obtain ⟨a, i, f, rfl, rfl, hp, hf, h⟩ := h
  obtain ⟨t, rfl⟩ := rx
  obtain ⟨u1, u2, rfl, r1, r2⟩ := vals2 rs
  obtain ⟨t1, rfl⟩ := r1
  obtain ⟨t2, rfl⟩ := r2
  exact ljust_fill hp hf fun t' k => ⟨.str (Txt.ljustF a i (f.cps.getD 0 0)), H, I.tok k, ⟨t', rfl⟩, h⟩
end L2
namespace L2
open PySem PySem.Spec PyProof.Rows
namespace FB
open PySem.W PySem.Calls Builtin Builtin.Int Builtin.Float
def dg (n : Nat) : List Nat := (Nat.toDigits 2 n).map Char.toNat
def fb : FormatSpec := { align := 62, type := some 98 }
theorem digs_eq (n : Nat) : ((Nat.toDigits 2 n).map fun c => (if ((98 : Nat) == 88) = true then c.toUpper else c).toNat) = dg n := rfl
theorem field_fb {ds : List Nat} (h : ds ≠ []) : intField' fb false [] ds [] 4 = ⟨ds.toArray⟩ := by
  unfold intField' fb
  have e : ds.isEmpty = false := by cases ds with | nil => exact absurd rfl h | cons a r => rfl
  simp [e]
theorem dg_ne (n : Nat) : dg n ≠ [] := by
  intro e
  have := tDigits_len_ge 2 n
  have l : (dg n).length = (Nat.toDigits 2 n).length := List.length_map ..
  rw [e] at l
  rw [← l] at this
  exact absurd this (by decide)
theorem text_fb {a : Int} (h0 : 0 ≤ a) : intField' fb (decide (a < 0)) [] ((Nat.toDigits 2 a.natAbs).map fun c => (if ((98 : Nat) == 88) = true then c.toUpper else c).toNat) [] 4 = ⟨(dg a.natAbs).toArray⟩ := by
  rw [digs_eq, decide_eq_false (by omega), field_fb (dg_ne _)]
theorem step_ite {M : Model} {A : Around} {E : Value → Shared → Prop} {s : Shared} {Q : Fin → Shared → Prop} {x t e : Sem Fin} {c : Prop} [Decidable c] (hx : x = ite c t e) (hc : ¬ c) (h : wpAny M A e Q E s) : wpAny M A x Q E s := by
  rw [hx, if_neg hc]
  exact h
theorem ret2 {M : Model} {A : Around} {E : Value → Shared → Prop} {s : Shared} {X T : PySem.Str} {Q : Fin → Shared → Prop} (e : X = T) (hL : T.length ≤ sizeLine) (h : ∀ t k, Q (.done (.ret (.str T t))) { s with toks := k }) : wpAny M A (retStr X) Q E s :=
  KXf.ret_text e (e ▸ hL) h
theorem meets_fb {a : Int} {t u : Tok} (h0 : 0 ≤ a) (hl : (dg a.natAbs).length ≤ 1000) :
    Meets («int.__format__» ⟨[.int a t, .str (⟨#[98]⟩ : Str) u], []⟩) (fun _ R s => ∀ t' k, R (.ok (.ret (.str ⟨(dg a.natAbs).toArray⟩ t'))) { s with toks := k }) := by
  apply KPc.meets_of
  intro prog w A s Q E h
  unfold Builtin.«int.__format__»
  refine wpAny_bind (wpAny_of_eq (a := (_, _)) rfl ?_)
  refine wpAny_bind (wpAny_of_eq (a := _) rfl ?_)
  kxf_if
  refine wpAny_bind (wpAny_typeNameOf (T := "str") (typeIs_str _ _ _) (by decide) fun _ => ?_)
  refine wpAny_bind (wpAny_of_eq (a := some _) rfl ?_)
  kxf_if
  kxf_if
  refine wpAny_bind (wpAny_typeNameOfCut_int ?_)
  repeat kxf_if
  have hneg : decide (a < 0) = false := decide_eq_false (by omega)
  refine ret2 (T := ⟨(dg a.natAbs).toArray⟩) ?_ ?_ h
  · conv => lhs; whnf
    rw [hneg]
    simp
    rfl
  · show (dg a.natAbs).toArray.size ≤ _
    rw [List.size_toArray]
    exact Nat.le_trans hl (by decide)
theorem field_b {prog : Program} {w : World} {A : Around} {E : Value → Shared → Prop} {s : Shared} {a : Int} {t : Tok} {Q : Value → Shared → Prop} (h0 : 0 ≤ a) (hl : (dg a.natAbs).length ≤ 1000)
    (h : ∀ t' k, Q (.str ⟨(dg a.natAbs).toArray⟩ t') { s with toks := k }) : wpAny (model prog w) A (formatField (.int a t) (⟨#[98]⟩ : Str)) Q E s :=
  KXf.field_int rfl (by decide) (by decide) (fun u => meets_fb h0 hl) h
end FB
/-- f"{e:b}" -/
def tFmtB (te : TE) : TE := fun σ H Q => te σ H fun x H1 => ∃ n : Nat, x = .int (n : Int) ∧ (FB.dg n).length ≤ 1000 ∧ Q (.str ⟨(FB.dg n).toArray⟩) H1
theorem pe_fmtB {X : Cx} {e : Expr} {te : TE} {p1 p2 pos : Pos} {kd : Nat} (he : PE X e te) : PE X (.FormattedValue e (-1) (some (.JoinedStr [.Constant (.str "b") kd p1] p2)) pos) (tFmtB te) := by
  refine ⟨fun pins s σ H Q I h => ?_⟩
  refine wpAny_FormattedValue_spec (thn (he.run pins s σ H _ I h) fun v s1 hv => ?_)
  obtain ⟨x, H1, I1, r1, n, rfl, hl, q⟩ := hv
  obtain ⟨t, rfl⟩ := r1
  refine wpAny_JoinedStr_one (thn ((pe_str (X := X)).run pins s1 σ H1 (fun x H' => x = .str "b" ∧ H' = H1) I1 ⟨rfl, rfl⟩) fun v s2 hv => ?_)
  obtain ⟨x, H2, I2, r2, rfl, rfl⟩ := hv
  obtain ⟨t2, rfl⟩ := r2
  exact ⟨_, _, rfl, FB.field_b (Int.natCast_nonneg n) hl fun t' k => ⟨.str ⟨(FB.dg n).toArray⟩, H2, I2.tok k, ⟨t', rfl⟩, q⟩⟩
end L2
namespace L2
open PySem PySem.Spec PyProof.Rows
section
variable {X : Cx}
/-- name = {..} on one line, the name a local -/
theorem ps_setDc {i : Nat} {y : Str} {py : Pos} {kx vx tg iter : Expr} {ifs : List Expr} {scope : Scope} {own : List (Str × Nat)} {pos spos : Pos} {wi : TI} {g : TG} {tt : TT} {tk tv : TE} (hc : X.calm = true) (hN : X.N.Nodup) (hy : X.N[i]? = some y) (hyl : X.env.scope.names.lookup y = some .local)
    (hsw : swapsWith (.DictComp kx vx [⟨tg, iter, ifs, 0⟩] scope pos) (some (.Name y py)) spos.line X.env = pure true) (hi : PI X tg iter wi) (ok : BlkOk X.N X.env.scope scope own)
    (hg : ∀ (s : Shared) (H : Hp) (C : Addr) (cl : List (Str × Addr)) (fp : List Addr), PG (X.blk s H scope (compEnvC scope cl C X.env) fp) tg g) (ht : ∀ (s : Shared) (H : Hp) (C : Addr) (cl : List (Str × Addr)) (fp : List Addr), PTs (X.blk s H scope (compEnvC scope cl C X.env) fp) ifs tt)
    (hk : ∀ (s : Shared) (H : Hp) (C : Addr) (cl : List (Str × Addr)) (fp : List Addr), PE (X.blk s H scope (compEnvC scope cl C X.env) fp) kx tk) (he : ∀ (s : Shared) (H : Hp) (C : Addr) (cl : List (Str × Addr)) (fp : List Addr), PE (X.blk s H scope (compEnvC scope cl C X.env) fp) vx tv)
    (hs : ∀ x, foldedSetIterable iter X.env x = pure x := by intro _; rfl) : PS X (.Assign [.Name y py] (.DictComp kx vx [⟨tg, iter, ifs, 0⟩] scope pos) spos) (tAsg (tDc wi g tt tk tv (own.map (·.2))) (gName i)) := by
  refine ⟨fun pins s σ H D I h => ?_⟩
  rw [exec_Assign_Name_used _ _ _ _ hsw]; refine wpAny_bind (wpAny_standAt (wpAny_bind ?_))
  show wpAny _ X.A (do let _ ← comprehension (.DictComp kx vx [⟨tg, iter, ifs, 0⟩] scope pos) scope X.env (firstIterPos [⟨tg, iter, ifs, 0⟩] pos) newDict false (eval iter X.env) (some (assign (.Name y py) X.env))) _ _ s
  have h : tDc wi g tt tk tv (own.map (·.2)) σ H (fun x H1 => gName i x σ H1 D.nx) := h
  refine wpAny_bind (thn (dc_core (Qf := fun _ s' => SP X pins D .next s') hc hN I hi ok hg ht hk he hs h fun L C s' m H' I' q hn f => ?_) fun _ s' hq => wpAny_pure (wpAny_pure hq))
  show wpAny _ _ (assign (.Name y py) X.env (.ref L)) _ _ _
  refine wpAny_assign_Name (store_ok2 (v := V.ref L) I' hN hy (.inl hyl) rfl (fun s2 I2 ⟨a, sb, ha⟩ => ?_) (.inr hyl))
  obtain ⟨f0, f1, f2, f3, f4, f5⟩ := f
  have haC : C ≠ a := ha.elim (fun z => z ▸ f1) fun z e => f4 y a z e.symm
  exact ⟨m, hn.sameBut sb haC, fun h3 sb3 => ⟨_, H', I2.turned (t' := s2.toks) (fun b o hb e => (sb3.2 b hb).trans e) f0 f1 f3 f4 f5, q⟩⟩
theorem sw_trueD {kx vx : Expr} {gs : List Comprehension} {scope : Scope} {pos py : Pos} {y : Str} {l : Nat} {env : Env} (hk : env.scope.kind = .function) (hy : env.scope.names.lookup y = some .local) (hl : (py.line == pos.line) = true)
    (ha : (scope.names.any fun (n, k) => n == y && (k == .local || k == .cell)) = false) : swapsWith (.DictComp kx vx gs scope pos) (some (.Name y py)) l env = pure true := by
  have k1 : env.kindOf y = some .local := hy
  have k2 : env.blockKind = .function := by unfold Env.blockKind; rw [hk]; rfl
  unfold swapsWith
  simp only [k1, k2, ha, Expr.pos, hl]
  rfl
end
end L2
namespace PySem
open Sem (wp)
open AutoSeq1 (wpAny_loadPart')
namespace E1
theorem made_t (l : Addr) (xs : Array Value) (n : Nat) (dd : Option Addr) (sl : Array (Option Value)) :
    Meets (Builtin.«enumerate.__new__» ⟨[.type "enumerate", .ref l], []⟩) (fun _ R s => s.heap.get? l = some { cls := .type "tuple", dict := dd, data := .seq xs n, slots := sl } ∧
      R (.ok (.ret (.ref (s.heap.push { cls := .type "tuple_iterator", data := .fields #[.ref l, .int 0 0] }).objs.size)))
        { s with heap := (s.heap.push { cls := .type "tuple_iterator", data := .fields #[.ref l, .int 0 0] }).push { cls := .type "enumerate", data := .fields #[.none, .bool false, .ref s.heap.objs.size, rawInt 0, .none, .none] } }) :=
  .of_wp fun prog w A R s h => by
    obtain ⟨hp, g, d, tk, os⟩ := s
    obtain ⟨h1, h⟩ := h
    have hsub := sub_enumerate
    have hT : Heap.IsTuple (Shared.heap ⟨hp, g, d, tk, os⟩) l xs := ⟨_, h1, rfl, n, rfl⟩
    wp_walk using wpAny_loadPart' h1
    refine wpAny_stack_any fun st => wpAny_pure ?_
    split
    · rename_i c _ _ _ _ _
      cases (c == Value.type "enumerate")
      · wp_walk using wpAny_loadPart' h1, wpAny_pyIter_tuple hT
        exact ⟨_, rfl, h⟩
      · wp_walk using wpAny_loadPart' h1, wpAny_pyIter_tuple hT
        exact ⟨_, rfl, h⟩
    · wp_walk using wpAny_loadPart' h1, wpAny_pyIter_tuple hT
      exact ⟨_, rfl, h⟩
section
variable {prog : Program} {w : World} {A : Around} {E : Value → Shared → Prop} {s : Shared}
theorem next_t {it t : Addr} {i : Nat} {xs : Array Value} {x : Value} {Q : Value → Shared → Prop} (g : s.heap.IsTupleIter it t i) (k : s.heap.IsTuple t xs) (hx : xs[i]? = some x)
    (q : ∀ h', h'.IsTupleIter it t (i + 1) → Heap.SameBut it s.heap h' → Q x { s with heap := h' }) : wpAny (model prog w) A (Builtin.SmallTypes.nextOf (.ref it)) Q E s := by
  obtain ⟨o, e1, e2, e3⟩ := id g
  obtain ⟨u, k1, _, m, k2⟩ := k
  unfold Builtin.SmallTypes.nextOf
  refine wpAny_bind (wpAny_callSpecial?_slot (name := Str.ofString "__next__") g.typeIs F.slot_tuple_iterator_next (wpAny_call_entry F.slot_tuple_iterator_next g.typeIs
    F.entry_tuple_iterator_next ?_ (F.args_tuple_iterator_next_1 _)))
  show wpAny _ _ (field (.ref it) 0 >>= _) _ _ s; refine wpAny_bind (wpAny_field e1 e3 (x := .ref t) rfl ?_)
  show wpAny _ _ (ite ((Value.ref t == Value.none) = true) _ _) _ _ s
  rw [show (Value.ref t == Value.none) = false from rfl, if_neg Bool.false_ne_true]
  show wpAny _ _ (field (.ref it) 1 >>= _) _ _ s; refine wpAny_bind (wpAny_field e1 e3 (x := .int i 0) rfl ?_)
  show wpAny _ _ (seqItems? (.ref t) >>= _) _ _ s; refine wpAny_bind (wpAny_seqItems k1 k2 ?_)
  simp only [Int.toNat_natCast, hx]
  refine wpAny_bind (wpAny_setField e1 e3 (by simp) (wpAny_pure ⟨x, rfl, wpAny_pure (q _ ?_ (Heap.SameBut.update ..))⟩))
  exact ⟨_, Heap.get?_update_self _ e1 (Obj.isFreed_of_fields (Obj.data_mapFields e3 _)), (Obj.cls_mapFields ..).trans e2, by rw [Obj.data_mapFields e3]; simp [rawInt]⟩
theorem stop_t {it t : Addr} {i : Nat} {xs : Array Value} {Q : Value → Shared → Prop} (hh : A.handled = none) (g : s.heap.IsTupleIter it t i) (k : s.heap.IsTuple t xs) (hx : xs[i]? = none)
    (q : ∀ h' e, Heap.ExtBut it s.heap h' → (∃ o, h'.get? e = some o ∧ o.cls = .type "StopIteration") → E (.ref e) { s with heap := h' }) : wpAny (model prog w) A (Builtin.SmallTypes.nextOf (.ref it)) Q E s := by
  obtain ⟨o, e1, e2, e3⟩ := id g
  obtain ⟨u, k1, _, m, k2⟩ := k
  unfold Builtin.SmallTypes.nextOf
  refine wpAny_bind (wpAny_callSpecial?_slot (name := Str.ofString "__next__") g.typeIs F.slot_tuple_iterator_next (wpAny_call_entry F.slot_tuple_iterator_next g.typeIs
    F.entry_tuple_iterator_next ?_ (F.args_tuple_iterator_next_1 _)))
  show wpAny _ _ (field (.ref it) 0 >>= _) _ _ s; refine wpAny_bind (wpAny_field e1 e3 (x := .ref t) rfl ?_)
  show wpAny _ _ (ite ((Value.ref t == Value.none) = true) _ _) _ _ s
  rw [show (Value.ref t == Value.none) = false from rfl, if_neg Bool.false_ne_true]
  show wpAny _ _ (field (.ref it) 1 >>= _) _ _ s; refine wpAny_bind (wpAny_field e1 e3 (x := .int i 0) rfl ?_)
  show wpAny _ _ (seqItems? (.ref t) >>= _) _ _ s; refine wpAny_bind (wpAny_seqItems k1 k2 ?_)
  simp only [Int.toNat_natCast, hx]
  refine wpAny_bind (wpAny_rule (wpAny_bind (wpAny_setField e1 e3 (by simp) ?_)))
  show wpAny _ _ (newExc (.type "StopIteration") [] >>= _) _ _ _; refine wpAny_bind ?_
  simp only [newExc, newTuple]
  refine wpAny_bind (wpAny_newObj_type ?_ (by size_fits)); refine wpAny_bind (m := firstArgMember _ _) (wpAny_of_eq (a := Value.none) (by first | rfl | (simp only [firstArgMember]; rfl)) ?_)
  refine wpAny_newObj_type ?_ (by size_fits); simp only [raiseNew]; refine wpAny_bind (wpAny_handled ?_)
  first | rw [show A.in1.handled = none from hh] | rw [hh]
  refine wpAny_bind (wpAny_pure (wpAny_throw ?_)); exact q _ _ (((Heap.SameBut.update ..).extBut.push _).push _) ⟨_, Heap.get?_push_size _ rfl, rfl⟩
theorem tup_at {h h' : Heap} {t : Addr} {xs : Array Value} (k : h.IsTuple t xs) (e : ∀ o, h.get? t = some o → h'.get? t = some o) : h'.IsTuple t xs :=
  let ⟨o, a, r⟩ := k; ⟨o, e o a, r⟩
theorem draws_t (hh : A.handled = none) (it t : Addr) (hne : t ≠ it) (xs : Array Value) :
    Draws prog w A it [it, t] xs.size (fun i v => xs[i]? = some v) (fun i h => h.IsTupleIter it t i ∧ h.IsTuple t xs) where
  live := fun _ _ st => let ⟨o, ho, _⟩ := st.1; ⟨o, ho⟩
  frame := fun _ _ _ st hk => ⟨st.1.at fun o e => hk it (by simp) o e, tup_at st.2 fun o e => hk t (by simp) o e⟩
  item := fun i s Q E hi st hQ => by
    refine next_t st.1 st.2 (x := xs[i]) (by simp [hi]) fun h' a b => ?_
    exact hQ _ h' s.toks (by simp [hi]) ⟨a, st.2.extBut b.extBut hne⟩ b
  done := fun s Q E st hE => stop_t hh st.1 st.2 (by simp) hE
theorem call_t {t : Addr} {xs : Array Value} {Q : Value → Shared → Prop} (k : s.heap.IsTuple t xs)
    (h : ∀ h', IsEnum h' (s.heap.objs.size + 1) s.heap.objs.size 0 .none → h'.IsTupleIter s.heap.objs.size t 0 → h'.objs.size = s.heap.objs.size + 2 →
      (∀ b o, s.heap.get? b = some o → h'.get? b = some o) → Q (.ref (s.heap.objs.size + 1)) { s with heap := h' }) : wpAny (model prog w) A (call (.type "enumerate") [.ref t]) Q E s := by
  obtain ⟨⟨c, dd, dt, sl⟩, e1, e2, n, e3⟩ := k
  obtain rfl : c = .type "tuple" := e2
  obtain rfl : dt = .seq xs n := e3
  refine callType_new F.called_enumerate (by decide) (F.typeCall_enumerate_1 _) (F.newCall_enumerate_1 _) (fun obj => F.args_object_init_2 obj _)
    F.entry_enumerate_new (made_t t xs n dd sl) ⟨e1, ?_⟩
  have z1 : (s.heap.push { cls := .type "tuple_iterator", data := .fields #[.ref t, .int 0 0] }).objs.size = s.heap.objs.size + 1 := Heap.size_push ..
  show _ ∧ _
  rw [z1]
  have z2 := Heap.get?_push_size (s.heap.push { cls := .type "tuple_iterator", data := .fields #[.ref t, .int 0 0] }) (o := { cls := .type "enumerate", data := .fields #[.none, .bool false, .ref s.heap.objs.size, rawInt 0, .none, .none] }) rfl
  rw [z1] at z2
  exact ⟨⟨_, z2, rfl⟩, h _ z2 ⟨_, Heap.get?_push_of_some _ (Heap.get?_push_size _ rfl), rfl, rfl⟩ (by rw [Heap.size_push, z1]) fun b o y => Heap.get?_push_of_some _ (Heap.get?_push_of_some _ y)⟩
end
end E1
end PySem
namespace L2
open PySem PySem.Spec PyProof.Rows
/-- the tuple at a, its items in new pairs behind their numbers -/
def IteT (K : PySem.W.Frag) (a : Addr) : It :=
  ⟨fun i H => ∃ (xs : List V) (x : V), SqT K H a xs ∧ xs[i]? = some x, fun i H v H' => ∃ T x, v = .ref T ∧ H T = none ∧ H' = upd H T (.tup [.int (i : Nat), x]) ∧ ∀ xs, SqT K H a xs → xs[i]? = some x,
    fun i H => ∃ xs : List V, SqT K H a xs ∧ xs.length ≤ i⟩
theorem turn_enumT {P : Program} {w : World} {K : PySem.W.Frag} {elts : List Expr} {kk : Nat} {tpos : Pos} (a e it : Addr) (hai : a ≠ it) (hae : a ≠ e) :
    Turn P w K (.Tuple elts kk tpos) (IteT K a) [e, it] e (fun i h => (∃ old, IsEnum h e it ((i : Nat) : Int) old) ∧ h.IsTupleIter it a i ∧ e ≠ it) where
  mem := by simp
  obj := fun i h st b hb => by
    obtain ⟨⟨old, q1⟩, ⟨o, q2, _, q3⟩, _⟩ := st
    rcases (show b = e ∨ b = it by simpa using hb) with z | z
    · rw [z]; exact ⟨_, q1, fun v q => nomatch q⟩
    · rw [z]; exact ⟨o, q2, fun v q => by rw [q3] at q; cases q⟩
  keep := fun i h h' st k => let ⟨⟨old, q1⟩, q2, q3⟩ := st; ⟨⟨old, k e (by simp) _ q1⟩, q2.at fun o q => k it (by simp) o q, q3⟩
  item := by
    intro X hP hw hK hc i pins s σ H E I hf st hg
    subst hP hw hK
    obtain ⟨⟨old, q1⟩, q2, q3⟩ := st
    obtain ⟨xs, x, hq, hx⟩ := hg
    obtain ⟨its, rv, p, hz⟩ := I.tuple hq
    obtain ⟨u, hu, ru⟩ := rv.get hx
    have p' : s.heap.IsTuple a its.toArray := p
    have l1 : e < s.heap.objs.size := Heap.lt_size q1
    have l2 : it < s.heap.objs.size := by obtain ⟨_, q, _⟩ := q2; exact Heap.lt_size q
    have hlt : i < its.toArray.size := by
      have := (List.getElem?_eq_some_iff.mp hu).1
      simpa using this
    refine wpAny_pyNext_enum_itemD (E1.draws_t (A := X.A.in1) (I.ok.hd hc) it a hai its.toArray) q1 ⟨q2, p'⟩ hlt q3 (by simp [q3, Ne.symm hae]) fun y h' tk hy ho st' hT hsz hk => ?_
    obtain rfl : y = u := by
      have e1 : its.toArray[i]? = some u := by simpa using hu
      exact Option.some.inj (hy.symm.trans e1)
    refine ⟨_, rfl, wpAny_letOwnedTupleGo_enum (s := { s with heap := h', toks := tk + 1 }) ho fun h'' he' sb => ?_⟩
    have hT2 : h''.get? s.heap.objs.size = some { cls := .type "tuple", data := .seq #[.int i tk, y] } := (sb.2 _ (Nat.ne_of_gt l1)).trans hT
    have new : ObjOk X.prog X.w (upd H s.heap.objs.size (.tup [.int (i : Nat), x])) h'' s.heap.objs.size (.tup [.int (i : Nat), x]) :=
      ⟨by show 2 ≤ sizeLine; decide, [.int i tk, y], .cons ⟨_, rfl⟩ (.cons ru .nil), ⟨_, hT2, rfl, _, rfl⟩⟩
    have I1 : Inv X pins σ (upd H s.heap.objs.size (.tup [.int (i : Nat), x])) { s with heap := h'', toks := tk + 1 } :=
      I.turnedNew (ch := [e, it]) (fun b ob hb q => (sb.2 b (fun z => hb (by simp [z]))).trans (hk b ob (fun z => hb (by simp [z])) (fun z => hb (by simp [z])) q)) hf (Nat.le_refl _) new
    refine ⟨.ref s.heap.objs.size, _, I1, rfl, ⟨_, x, rfl, I.hok.fresh (Nat.le_refl _), rfl, fun ys hy => by rw [I.tuple_inj hy hq]; exact hx⟩, ⟨⟨y, ?_⟩, st'.1.at fun o q => (sb.2 it (Ne.symm q3)).trans q, q3⟩, fun b hb => ?_⟩
    · rw [show ((i + 1 : Nat) : Int) = (i : Int) + 1 by omega]
      exact he'
    · have hb' : b < s.heap.objs.size := by
        rcases (show b = e ∨ b = it by simpa using hb) with z | z
        · rw [z]; exact l1
        · rw [z]; exact l2
      rw [upd_ne (Nat.ne_of_lt hb')]
      exact (hf b hb).1
  done := by
    intro X hP hw hK hc i pins s σ H E I hf st hg
    subst hP hw hK
    obtain ⟨⟨old, q1⟩, q2, q3⟩ := st
    obtain ⟨xs, hq, hx⟩ := hg
    obtain ⟨its, rv, p, hz⟩ := I.tuple hq
    have p' : s.heap.IsTuple a its.toArray := p
    obtain ⟨f0, f1, f2, f3, f4, f5⟩ := hf it (by simp)
    have hl := rv.length
    have hT : s.TypeIs (.ref e) "enumerate" := ⟨_, q1, rfl⟩
    unfold pyNext; refine wpAny_bind (wpAny_attempt (wpAny_callSpecial?_slot (name := Str.ofString "__next__") hT F.slot_enumerate_next (wpAny_call_entry F.slot_enumerate_next hT F.entry_enumerate_next ?_ (F.args_enumerate_next_1 _))))
    show wpAny _ _ (field (.ref e) 2 >>= _) _ _ _; refine wpAny_bind (wpAny_field q1 rfl (x := .ref it) rfl ?_)
    refine wpAny_bind (E1.stop_t (A := X.A.in1) (I.ok.hd hc) q2 p' (by simp; omega) fun h' y eb hy => ?_)
    obtain ⟨o, o1, o2⟩ := hy
    refine wpAny_bind (wpAny_isInstance (T := "StopIteration") (b := true) ⟨o, o1, o2⟩ isSubtype_stop ?_)
    exact wpAny_pure ⟨rfl, I.turned (t' := s.toks) (fun b o hb q => eb b o hb q) f0 f1 f3 f4 f5⟩
  self := fun A i s Q E st h => let ⟨⟨_, he⟩, _⟩ := st; wpAny_pyIter_enum he h
def iEnumA (K : PySem.W.Frag) (ta : TA) : TI := fun σ H R => ta σ H fun vs H1 => ∃ a xs, vs = [.ref a] ∧ ((SqL K H1 a xs ∧ R (Ite K a) H1) ∨ (SqT K H1 a xs ∧ R (IteT K a) H1))
theorem pi_enumA {X : Cx} {e : Expr} {ta : TA} {p pos tpos : Pos} {elts : List Expr} {kk : Nat} (hg : Gl X "enumerate") (hm : X.mg "enumerate" = none) (ha : PA X [e] ta) (hs : starEach [e] X.env = [(false, eval e X.env)] := by rfl) :
    PI X (.Tuple elts kk tpos) (.Call (.Name "enumerate" p) [e] [] pos) (iEnumA X.K ta) := by
  refine ⟨fun pins s σ H R I h => ?_⟩
  refine Call_ (ld_blt I hg hm boot_enumerate (PyProof.Rows.callWith_type1 (thn (ha.run pos pins s σ H _ I h) fun us s1 ⟨vs, H1, I1, r1, q1⟩ => ?_) hs rfl))
  obtain ⟨a, xs, rfl, q1⟩ := q1
  cases r1 with
  | cons r rr =>
    cases rr
    cases r
    rcases q1 with ⟨hq, q⟩ | ⟨hq, q⟩
    · obtain ⟨its, rv, p', hz⟩ := I1.list hq
      refine call_enumerate_list p'.isList fun h' q1 q2 hsz hk => wpAny_pyIter_enum q1 ?_
      have I2 : Inv X pins σ H1 { s1 with heap := h' } := I1.kept (t' := s1.toks) hk
      refine ⟨s1.heap.objs.size + 1, [s1.heap.objs.size + 1, s1.heap.objs.size], _, _, H1, rfl, I2, turn_enum a (s1.heap.objs.size + 1) s1.heap.objs.size, ⟨⟨.none, q1⟩, q2, Nat.succ_ne_self _⟩, fun b hb => ?_, q⟩
      have hle : s1.heap.objs.size ≤ b := by
        rcases (show b = s1.heap.objs.size + 1 ∨ b = s1.heap.objs.size by simpa using hb) with z | z <;> (rw [z]; first | exact Nat.le_add_right _ _ | exact Nat.le_refl _)
      exact I1.fpOk hle (I1.hok.fresh hle)
    · obtain ⟨its, rv, p', hz⟩ := I1.tuple hq
      have p2 : s1.heap.IsTuple a its.toArray := p'
      have l0 : a < s1.heap.objs.size := by obtain ⟨o, e1, _⟩ := p2; exact Heap.lt_size e1
      refine E1.call_t p2 fun h' q1 q2 hsz hk => wpAny_pyIter_enum q1 ?_
      have I2 : Inv X pins σ H1 { s1 with heap := h' } := I1.kept (t' := s1.toks) hk
      refine ⟨s1.heap.objs.size + 1, [s1.heap.objs.size + 1, s1.heap.objs.size], _, _, H1, rfl, I2, turn_enumT a (s1.heap.objs.size + 1) s1.heap.objs.size (Nat.ne_of_lt l0) (Nat.ne_of_lt (Nat.lt_succ_of_lt l0)), ⟨⟨.none, q1⟩, q2, Nat.succ_ne_self _⟩, fun b hb => ?_, q⟩
      have hle : s1.heap.objs.size ≤ b := by
        rcases (show b = s1.heap.objs.size + 1 ∨ b = s1.heap.objs.size by simpa using hb) with z | z <;> (rw [z]; first | exact Nat.le_add_right _ _ | exact Nat.le_refl _)
      exact I1.fpOk hle (I1.hok.fresh hle)
theorem walk_enumT {K : PySem.W.Frag} {a : Addr} {xs : List V} : L2.Walk (IteT K a) xs.length (fun H => SqT K H a xs) (YPair (fun i => some (.int (i : Nat))) (fun i => xs[i]?)) := by
  refine ⟨fun i _ hi q => ⟨xs, xs[i], q, by simp [hi]⟩, fun _ q => ⟨xs, q, Nat.le_refl _⟩, fun i H v H' _ q y => ?_⟩
  obtain ⟨T, x, h1, h2, h3, h4⟩ := y
  exact ⟨T, .int (i : Nat), x, h1, h2, h3, rfl, h4 xs q⟩
end L2
namespace Cov
open PySem PySem.Spec PyProof.Rows L2
/-! ## texts of data: repr -/
def kD : Key → PyData
  | .inl i => .int i
  | .inr x => .str x
def vD : V → Option PyData
  | .non => some .none
  | .bl b => some (.bool b)
  | .int i => some (.int i)
  | .str x => some (.str x)
  | _ => none
inductive Flat : List (Key × V) → List (PyData × PyData) → Prop
  | nil : Flat [] []
  | cons {k : Key} {v : V} {d : PyData} {r : List (Key × V)} {ds : List (PyData × PyData)} : vD v = some d → Flat r ds → Flat ((k, v) :: r) ((kD k, d) :: ds)
/-- what a value's text is made of -/
inductive Rp (K : PySem.W.Frag) (H : Hp) : V → PyData → Prop
  | dat {x : V} {d : PyData} : Dp K H x d → PyData.hasDict d = false → Rp K H x d
  | dct {a : Addr} {kvs : List (Key × V)} {ds : List (PyData × PyData)} : H a = some (.dK kvs) → Flat kvs ds → Rp K H (.ref a) (.dict ds)
section
variable {X : Cx} {pins : List (Addr × Obj)} {σ : L2.St} {H : Hp} {s : Shared}
theorem vD_reads {h : Heap} {v : V} {d : PyData} {u : Value} (e : vD v = some d) (r : RelV v u) : Reads h u d [] := by
  cases v with
  | non => cases e; cases (show u = Value.none from r); exact .none
  | bl b => cases e; cases (show u = Value.bool b from r); exact .bool b
  | int i => cases e; obtain ⟨t, rfl⟩ := (show ∃ t, u = Value.int i t from r); exact .int i t
  | str x => cases e; obtain ⟨t, rfl⟩ := (show ∃ t, u = Value.str x t from r); exact .str x t
  | byt b => cases e
  | flt b => cases e
  | ref a => cases e
  | ty n => cases e
theorem flat_reads {P : Program} {w : World} {h : Heap} : ∀ {kvs : List (Key × V)} {ds : List (PyData × PyData)} {es : List DictEntry} {vs : List (Key × Value)}, Flat kvs ds → KV kvs vs → PySem.Pairs (mixKind P w) es vs →
    ReadsAll h (es.map (·.key)) (ds.map (·.1)) [] ∧ ReadsAll h (es.map (·.val)) (ds.map (·.2)) []
  | _, _, _, _, .nil, .nil, .nil => ⟨.nil, .nil⟩
  | _, _, _, _, .cons hv hr, .cons hk hkr, .cons he1 he2 her => by
    obtain ⟨i1, i2⟩ := flat_reads hr hkr her
    obtain ⟨q1, q2⟩ := hk
    refine ⟨ReadsAll.cons (as := []) (bs := []) ?_ i1, ReadsAll.cons (as := []) (bs := []) ?_ i2⟩
    · have he1' := he1
      rw [mixKind_is, ← q1] at he1'
      rcases keyIs_shape he1' with ⟨i, t, e1, e2⟩ | ⟨x, t, e1, e2⟩
      · simp only at e1; subst e1; show Reads h _ (PyData.int i) []; simp only [e2]; exact Reads.int i t
      · simp only at e1; subst e1; show Reads h _ (PyData.str x) []; simp only [e2]; exact Reads.str x t
    · simp only [he2]; exact vD_reads hv q2
theorem Rp.reads (I : Inv X pins σ H s) {x : V} {d : PyData} {u : Value} (h : Rp X.K H x d) (r : RelV x u) : ∃ as, Reads s.heap u d as ∧ (PyData.hasDict d = true → sysModules ∉ as) := by
  cases h with
  | dat h0 h1 =>
    obtain ⟨as, q⟩ := Dp.reads I d x u h0 r
    exact ⟨as, q, fun z => by rw [h1] at z; cases z⟩
  | @dct a kvs ds ha hf =>
    obtain ⟨z, ns, vs, rel, o, es, ep, e1, e2, e3, e4, e5, e6⟩ := dk_of I.hok ha
    cases (show u = Value.ref a from r)
    obtain ⟨r1, r2⟩ := flat_reads (h := s.heap) hf rel e5
    refine ⟨_, Reads.dict e1 e2.1 e3 r1 r2, fun _ hm => ?_⟩
    rw [List.append_nil, List.mem_singleton] at hm
    exact (beq_eq_false_iff_ne.mp ns) hm.symm
/-- repr(x), where nothing around is being shown -/
@[irreducible] def rRepr (K : PySem.W.Frag) : List V → Hp → VK → Prop := fun xs H Q => ∃ (x : V) (d : PyData), xs = [x] ∧ Rp K H x d ∧ PyData.showable d = true ∧ PyData.depth d ≤ 50 ∧ d.shown.length ≤ sizeLine ∧ Q (.str d.shown) H
theorem call_repr (hg : X.A.guards = some []) (hu : X.A.units + 60 < cLine) : CallR X (.builtin "repr") (rRepr X.K) := by
  intro pins s σ H xs us Q I r h
  unfold rRepr at h
  obtain ⟨x, d, rfl, hx, hs, hd, hz, q⟩ := h
  obtain ⟨u, rfl, ru⟩ := vals1 r
  obtain ⟨as, rd, hm⟩ := hx.reads I ru
  cases rd with
  | none => exact PySem.P.repr_of_none ⟨.str _, H, I.tok _, ⟨_, rfl⟩, by simpa only [PyData.shown] using q⟩
  | bool b => exact PySem.P.repr_of_bool ⟨.str _, H, I.tok _, ⟨_, rfl⟩, by simpa only [PyData.shown] using q⟩
  | int i t => exact PySem.P.repr_of_int (by simpa [PyData.showable] using hs) ⟨.str _, H, I.tok _, ⟨_, rfl⟩, by simpa only [PyData.shown] using q⟩
  | str y t => exact PySem.P.repr_of_str (hsz := by simpa only [PyData.shown] using hz) ⟨.str _, H, I.tok _, ⟨_, rfl⟩, by simpa only [PyData.shown] using q⟩
  | list h1 h2 h3 h4 => exact repr_of_reads' (.list h1 h2 h3 h4) hs hm hg (by omega) (fun _ _ e => e) (fun h' u tk hk => ⟨.str _, H, I.kept hk, ⟨_, rfl⟩, q⟩) hz
  | tuple h1 h2 h3 h4 => exact repr_of_reads' (.tuple h1 h2 h3 h4) hs hm hg (by omega) (fun _ _ e => e) (fun h' u tk hk => ⟨.str _, H, I.kept hk, ⟨_, rfl⟩, q⟩) hz
  | dict h1 h2 h3 h4 h5 => exact repr_of_reads' (.dict h1 h2 h3 h4 h5) hs hm hg (by omega) (fun _ _ e => e) (fun h' u tk hk => ⟨.str _, H, I.kept hk, ⟨_, rfl⟩, q⟩) hz
end
theorem repr_go {K : PySem.W.Frag} {H : Hp} {Q : VK} {x : V} {d : PyData} (h : Rp K H x d ∧ PyData.showable d = true ∧ PyData.depth d ≤ 50 ∧ d.shown.length ≤ sizeLine) (q : Q (.str d.shown) H) : rRepr K [x] H Q := by
  unfold rRepr
  exact ⟨x, d, rfl, h.1, h.2.1, h.2.2.1, h.2.2.2, q⟩
open PySem PySem.Spec PyProof.Rows L2
/-! ## room in which nothing is being shown -/
structure RoomG (k : Nat) (A : Around) : Prop where
  r : Room k A
  g : A.guards = some []
theorem RoomG.mono {j k : Nat} {A : Around} (x : RoomG k A) (h : j ≤ k) : RoomG j A := ⟨x.r.mono h, x.g⟩
theorem RoomG.deeper {k : Nat} {A : Around} (x : RoomG (k + 1) A) (e : Env) : RoomG k (A.deeper e) := ⟨x.r.deeper e, x.g⟩
theorem RoomG.u {k : Nat} {A : Around} (x : RoomG k A) : A.units + 60 < cLine := Nat.lt_trans (by omega) x.r.units
theorem RoomG.u1 {k : Nat} {A : Around} (x : RoomG k A) : A.units + 1 < cLine := by have := x.u; omega
theorem RoomG.u64 {k : Nat} {A : Around} (x : RoomG k A) : A.units + 64 < cLine := x.r.units
/-! ## promises that hold where nothing is being shown -/
structure FnG (P : Program) (w : World) (K : PySem.W.Frag) (mg : Str → Option Value) (base : Heap) (CX : CXT) (k : Nat) (f : Addr) (fd : FuncData) (ps : List Str) (sp : Sp) : Prop where
  len : ∀ vs H Q E, sp vs H Q E → vs.length = ps.length
  run : ∀ (A : Around) (outer : List Env) (s : Shared) (H : Hp) (args : Args) (us : List Value) (vs : List V) (Q : VK) (E : XK),
    RoomG k A → Env0 P w K mg base A outer s H → BindsTo s fd args (ps.zip us) → Vals vs us → sp vs H Q E → codeAny (model P w) A (.call (.ref f) args) (CR CX outer P w H s Q E) s
theorem FnG.of {P : Program} {w : World} {K : PySem.W.Frag} {mg : Str → Option Value} {base : Heap} {CX : CXT} {k : Nat} {f : Addr} {fd : FuncData} {ps : List Str} {sp : Sp} (F : FnOk P w K mg base CX k f fd ps sp) : FnG P w K mg base CX k f fd ps sp :=
  ⟨F.len, fun A outer s H args us vs Q E hr => F.run A outer s H args us vs Q E hr.r⟩
/-- a def by its name: st its statement, ps its parameters -/
structure Nm (P : Program) (w : World) (K : PySem.W.Frag) (mg : Str → Option Value) (base : Heap) (CX : CXT) (k : Nat) (x : Str) (st : Stmt) (ps : List Str) (sp : Sp) : Prop where
  ex : ∃ (f : Addr) (fd : FuncData), Fun K x x st f fd ∧ mg x = some (.ref f) ∧ FnG P w K mg base CX k f fd ps sp
section
variable {P : Program} {w : World} {K : PySem.W.Frag} {mg : Str → Option Value} {base : Heap} {CX : CXT}
/-- THE RULE for a def -/
theorem nm_of {x : Str} {st : Stmt} {f : Addr} {fd : FuncData} {N ps : List Str} {k : Nat} {sp : Sp} (F : Fun K x x st f fd) (hm : mg x = some (.ref f)) (S : FnScope N ps (defScope st)) (len : ∀ vs H Q E, sp vs H Q E → vs.length = ps.length)
    (hb : ∀ (cdv : Value) (A : Around) (outer : List Env) (s : Shared) (H : Hp) (vs : List V) (Q : VK) (E : XK), RoomG k (A.deeper (envOfC x (defScope st) s.heap.objs.size f cdv)) → sp vs H Q E →
      ∃ t, PSs (cxOf CX P w K mg base N x (defScope st) f cdv A outer s H E) (defBody st) t ∧ t { nx := fun _ H' => Q .non H', rt := Q } (start N vs) H) : Nm P w K mg base CX (k + 1) x st ps sp := by
  refine ⟨f, fd, F, hm, len, ?_⟩
  obtain ⟨oc, od, kV, doc, pm, an, cdv, ct, osl, rfl, lk, hcd⟩ := F.ex
  intro A outer s H args us vs Q E hr e0 bt rv hs
  have hl := len _ _ _ _ hs
  have kin : K.In s.heap := e0.mod.kin.keeps fun b o e => (e0.bs b o e).1
  have nol : s.heap.NoLimit := e0.mod.nolimit.keeps fun b o e => (e0.bs b o e).1
  refine codeAny_call_function hr.r.depth (kin _ _ lk) rfl S.co S.gen rfl (PySem.W.codeRec_of kin hcd) (bt _ _ _ _ ?_)
  refine wpAny_newFunctionEnv_cells S.kind (fun ⟨n, v⟩ hy => ?_) fun env he s1 x1 => ?_
  · cases S.par n (List.of_mem_zip hy).1 with
    | inl q => exact .inl q
    | inr q => exact .inr ⟨q, PySem.W.cellsFrom_some _ _ _ (.inl q)⟩
  · subst he
    refine ⟨nol.keeps x1.toInCall.keep, codeAny_func ?_⟩
    obtain ⟨t, ht, hq⟩ := hb cdv A outer s H vs Q E (hr.deeper _) hs
    have I : Inv (cxOf CX P w K mg base N x (defScope st) f cdv A outer s H E) [] (start N vs) H s1 := inv_start S hr.r.hd e0 hl rv x1
    refine wpAny_mono (ht.run [] s1 (start N vs) H _ I hq) (fun fl s' z => ?_) fun e s' z => z
    cases fl with
    | ret u => obtain ⟨v, σ', H', J, r2, q⟩ := z; exact ⟨v, H', J.os, J.bare, J.base, J.hok, r2, q⟩
    | next => obtain ⟨σ', H', J, q⟩ := z; exact ⟨.non, H', J.os, J.bare, J.base, J.hok, rfl, q⟩
    | brk => obtain ⟨_, _, _, q⟩ := z; exact q.elim
    | cont => obtain ⟨_, _, _, q⟩ := z; exact q.elim
end
section
variable {X : Cx} {CX : CXT} {k j : Nat} {f : Addr} {fd : FuncData} {st : Stmt} {ps ks : List Str} {sp : Sp} {E : XK} {x : Str} {p pos : Pos} {e : Expr} {es : List Expr} {kws : List Keyword} {t tk : TA}
theorem run_g {pins : List (Addr × Obj)} {σ : L2.St} {H : Hp} {s : Shared} {Q : VK} {us ws : List Value} {kw : List (Str × Value)} {vs : List V} (F : FnG X.prog X.w X.K X.mg X.base CX k f fd ps sp) (hr : RoomG k X.A)
    (hb : BindsTo s fd ⟨us, kw⟩ (ps.zip ws)) (hx : Passes CX X E) (I : Inv X pins σ H s) (r : Vals vs ws) (h : sp vs H Q E) : wpAny (model X.prog X.w) X.A (call (.ref f) us kw) (EP X pins σ Q) X.xe s := by
  refine wpAny_call (codeAny_mono (F.run X.A X.stack s H ⟨us, kw⟩ ws vs Q E hr I.env0 hb r h) fun y s' z => ?_)
  match y, z with
  | .error e, z => exact hx pins σ H s e s' I z
  | .ok (.ret u), z => exact I.after z
  | .ok .next, z => exact z.elim
  | .ok .brk, z => exact z.elim
  | .ok .cont, z => exact z.elim
/-- a selection of places -/
def sel {α : Type} (ix : List Nat) (l : List α) : List α := ix.filterMap fun i => l[i]?
theorem sel_vals {xs : List V} {us : List Value} (r : Vals xs us) : ∀ ix : List Nat, Vals (sel ix xs) (sel ix us)
  | [] => .nil
  | i :: ix => by
    unfold sel
    rw [List.filterMap_cons, List.filterMap_cons]
    cases e : xs[i]? with
    | none => rw [r.none_of e]; exact sel_vals r ix
    | some v =>
      obtain ⟨u, h1, h2⟩ := r.get e
      rw [h1]
      exact .cons h2 (sel_vals r ix)
/-- how arguments written by place (n of them) and by name (ks) come to the parameters -/
def Bnd (x : Str) (st : Stmt) (ps : List Str) (n : Nat) (ks : List Str) (ix : List Nat) : Prop :=
  ∀ (kV doc pm cdv ct : Value) (an : Option Addr) (us ws : List Value), us.length = n → ws.length = ks.length →
    bindArgs (PySem.W.fnOf x x (defArgs st) (defBody st) (defScope st) .none kV doc pm an cdv ct) ⟨us, ks.zip ws⟩ = pure (ps.zip (sel ix (us ++ ws)))
def tG (sp : Sp) (E : XK) (t : TA) : TE := fun σ H Q => t σ H fun vs H1 => sp vs H1 Q E
def tGK (sp : Sp) (n m : Nat) (ix : List Nat) (E : XK) (t tk : TA) : TE := fun σ H Q => t σ H fun vs H1 => tk σ H1 fun zs H2 => vs.length = n ∧ zs.length = m ∧ sp (sel ix (vs ++ zs)) H2 Q E
/-- plain positional binding -/
def BndP (x : Str) (st : Stmt) (ps : List Str) : Prop :=
  ∀ (kV doc pm cdv ct : Value) (an : Option Addr) (us : List Value), us.length = ps.length → bindArgs (PySem.W.fnOf x x (defArgs st) (defBody st) (defScope st) .none kV doc pm an cdv ct) ⟨us, []⟩ = pure (ps.zip us)
/-- x(e, ..) -/
theorem pe_g (c : Nm X.prog X.w X.K X.mg X.base CX k x st ps sp) (hr : RoomG j X.A) (hk : k ≤ j) (hx : Passes CX X E) (b : BndP x st ps) (hg : Gl X x) (ha : PA X (e :: es) t)
    (hdb : (x == ("__debug__" : Str)) = false := by decide) (he : starEach (e :: es) X.env = (false, eval e X.env) :: starEach es X.env := by rfl) (hpl : (backTo pos (starEach es X.env)).any (·.1) = false := by rfl) :
    PE X (.Call (.Name x p) (e :: es) [] pos) (tG sp E t) := by
  obtain ⟨f, fd, F, hm, G⟩ := c.ex
  have kp := F.kp
  obtain ⟨oc, od, kV, doc, pm, an, cdv, ct, osl, rfl, lk, hcd⟩ := F.ex
  refine ⟨fun pins s σ H Q I h => wpAny_Call_Name_kw (ld_glob I hg hm (PySem.W.callWith_K (h₀ := X.base) I.ok.mod.kin kp (thn (ha.run pos pins s σ H _ I h) fun us s1 ⟨vs, H1, I1, r, q⟩ => ⟨I1.kIn, ?_⟩) he hpl) hdb)⟩
  have q' : sp vs H1 Q E := q
  have h0 := r.length
  have h1 := G.len _ _ _ _ q'
  exact run_g (kw := []) G (hr.mono hk) (.of_eq (b kV doc pm cdv ct an us (by omega))) hx I1 r q'
/-- x(e, .., k = e, ..) -/
theorem pe_gK {ix : List Nat} (c : Nm X.prog X.w X.K X.mg X.base CX k x st ps sp) (hr : RoomG j X.A) (hk : k ≤ j) (hx : Passes CX X E) (b : Bnd x st ps (e :: es).length ks ix) (hg : Gl X x) (ha : PA X (e :: es) t) (hkw : PK X kws tk)
    (hall : (backToKw pos (keywordEach kws X.env)).all (·.1.isSome) = true := by rfl) (hks : (backToKw pos (keywordEach kws X.env)).filterMap (·.1) = ks := by rfl)
    (hdb : (x == ("__debug__" : Str)) = false := by decide) (he : starEach (e :: es) X.env = (false, eval e X.env) :: starEach es X.env := by rfl)
    (hpl : ((backTo pos (starEach (e :: es) X.env)).any (·.1) || (backToKw pos (keywordEach kws X.env)).any (·.1.isNone)) = false := by rfl) :
    PE X (.Call (.Name x p) (e :: es) kws pos) (tGK sp (e :: es).length ks.length ix E t tk) := by
  obtain ⟨f, fd, F, hm, G⟩ := c.ex
  have kp := F.kp
  obtain ⟨oc, od, kV, doc, pm, an, cdv, ct, osl, rfl, lk, hcd⟩ := F.ex
  refine ⟨fun pins s σ H Q I h => wpAny_Call_Name_kw (ld_glob I hg hm (PySem.W.callWith_KW (h₀ := X.base) I.ok.mod.kin kp hall (thn (ha.run pos pins s σ H _ I h) fun us s1 ⟨vs, H1, I1, r, q⟩ => ?_) hpl he) hdb)⟩
  refine thn (hkw.run pos pins s1 σ H1 _ I1 q) fun ws s2 ⟨zs, H2, I2, rz, l1, l2, q2⟩ => ⟨I2.kIn, ?_⟩
  rw [hks]
  exact run_g G (hr.mono hk) (.of_eq (b kV doc pm cdv ct an us ws (r.length.symm.trans l1) (rz.length.symm.trans l2))) hx I2 (sel_vals (r.append rz) ix) q2
/-- x(k = e, ..) -/
theorem pe_gK0 {ix : List Nat} (c : Nm X.prog X.w X.K X.mg X.base CX k x st ps sp) (hr : RoomG j X.A) (hk : k ≤ j) (hx : Passes CX X E) (b : Bnd x st ps 0 ks ix) (hg : Gl X x) (hkw : PK X kws tk)
    (hall : (backToKw pos (keywordEach kws X.env)).all (·.1.isSome) = true := by rfl) (hks : (backToKw pos (keywordEach kws X.env)).filterMap (·.1) = ks := by rfl)
    (hdb : (x == ("__debug__" : Str)) = false := by decide)
    (hpl : ((backTo pos (starEach [] X.env)).any (·.1) || (backToKw pos (keywordEach kws X.env)).any (·.1.isNone)) = false := by rfl) :
    PE X (.Call (.Name x p) [] kws pos) (tGK sp 0 ks.length ix E tNil tk) := by
  obtain ⟨f, fd, F, hm, G⟩ := c.ex
  have kp := F.kp
  obtain ⟨oc, od, kV, doc, pm, an, cdv, ct, osl, rfl, lk, hcd⟩ := F.ex
  refine ⟨fun pins s σ H Q I h => wpAny_Call_Name_kw (ld_glob I hg hm (PySem.W.callWith_KW0 (h₀ := X.base) I.ok.mod.kin kp hall ?_ hpl) hdb)⟩
  refine thn (hkw.run pos pins s σ H _ I h) fun ws s2 ⟨zs, H2, I2, rz, l1, l2, q2⟩ => ⟨I2.kIn, ?_⟩
  rw [hks]
  exact run_g G (hr.mono hk) (.of_eq (b kV doc pm cdv ct an [] ws rfl (rz.length.symm.trans l2))) hx I2 (sel_vals (xs := [] ++ zs) (us := [] ++ ws) rz ix) q2
end
/-! ## the law's own call -/
theorem law_g {P : Program} {w : World} {K : PySem.W.Frag} {mg mb : Str → Option Value} {CX : CXT} {k : Nat} {a fa : Addr} {fd : FuncData} {x : Str} {sp : Sp} {s₁ : Shared} {vs : List Value} {ns : List Int}
    (KX : K.In s₁.heap) (hG : s₁.heap.Ns mainGlobals mg) (hB : s₁.heap.Ns builtinsNs mb) (hBB : ∀ x : Str, x ≠ "__name__" → mb x = bootBuiltins x) (hL : s₁.heap.NoLimit) (hgen : s₁.gens = #[])
    (ha : s₁.heap.get? a = some { cls := .type "list", data := .seq vs.toArray }) (hi : IntsAre vs ns) (hl : ns.length ≤ sizeLine) (hr : RoomG k callerA)
    (F : ∀ base : Heap, K.In base → base.Ns mainGlobals mg → FnG P w K mg base CX k fa fd [x] sp) (hbind : ∀ (s : Shared) (u : Value), BindsTo s fd ⟨[u], []⟩ [(x, u)])
    (hsp : ∀ H : Hp, SqL K H a (ns.map V.int) → (∀ b, H b = none ∨ b = a) → sp [.ref a] H (fun v _ => v = .bl true) fun _ _ _ => False)
    (hCX : ∀ H e s', CX [] H s₁ (fun _ _ _ => False) e s' → False) :
    codeAny (model P w) callerA (.call (.ref fa) ⟨[.ref a], []⟩) (fun r s' => r = .ok (.ret (.bool true)) ∧ OldK s₁.heap s'.heap ∧ s'.os = s₁.os ∧ AllBare s'.gens) s₁ := by
  -- the script is tracked, locked, where it is no object of the text's own
  let so : Obj := { cls := .type "list", data := .seq vs.toArray }
  have main : ∀ H : Hp, (∀ b, H b = none ∨ (b = a ∧ K.lookup a = none ∧ H b = some (.frz so (.lst (ns.map V.int))))) → SqL K H a (ns.map V.int) → HOk P w H s₁.heap →
      codeAny (model P w) callerA (.call (.ref fa) ⟨[.ref a], []⟩) (fun r s' => r = .ok (.ret (.bool true)) ∧ OldK s₁.heap s'.heap ∧ s'.os = s₁.os ∧ AllBare s'.gens) s₁ := by
    intro H only hS hok
    have isNone : ∀ {b : Addr} {o : Obj}, s₁.heap.get? b = some o → (∀ (y : H b = some (.frz so (.lst (ns.map V.int)))), b = a → K.lookup a = none → o = so → False) → H b = none := fun {b o} e n => by
      rcases only b with q | ⟨q1, q2, q3⟩
      · exact q
      · refine (n q3 q1 q2 ?_).elim
        subst q1
        exact Option.some.inj (e.symm.trans ha)
    have nsOf : ∀ {b : Addr} {m : Str → Option Value}, s₁.heap.Ns b m → (hidT s₁.heap H).Ns b m := fun {b m} ⟨o, es, ep, e, d, r⟩ =>
      ⟨o, es, ep, hidT_get e (isNone e fun _ _ _ z => by subst z; cases d), d, r⟩
    have hK : K.In (hidT s₁.heap H) := fun b o e => hidT_get (KX b o e) (isNone (KX b o e) fun _ y z _ => by subst y; rw [z] at e; cases e)
    have hM : Mod K mg (hidT s₁.heap H) := ⟨hK, nsOf hG, ⟨mb, nsOf hB, hBB⟩, hL.elim fun mc z => ⟨mc, nsOf z.1, z.2⟩⟩
    have nofr : ∀ b : Addr, b ∉ frs ([] : List Env) := fun b z => by cases z
    have e0 : Env0 P w K mg (hidT s₁.heap H) callerA [] s₁ H := ⟨rfl, hM, fun b o e => of_hidT e, by rw [hidT_size] <;> exact Nat.le_refl _, trivial, fun b z => (nofr b z).elim, hok, .of_eq hgen⟩
    have hs : sp [.ref a] H (fun v _ => v = .bl true) fun _ _ _ => False := hsp H hS fun b => (only b).elim Or.inl fun z => Or.inr z.1
    refine codeAny_mono ((F _ hK (nsOf hG)).run callerA [] s₁ H ⟨[.ref a], []⟩ [.ref a] [.ref a] _ _ hr e0 (hbind s₁ (.ref a)) (.cons rfl .nil) hs) fun r s' z => ?_
    match r, z with
    | .error e, z => exact (hCX H e s' z).elim
    | .ok .next, z => exact z.elim
    | .ok .brk, z => exact z.elim
    | .ok .cont, z => exact z.elim
    | .ok (.ret u), ⟨v, H', os, bare, un, hok', rv, q⟩ =>
      obtain rfl : v = .bl true := q
      obtain rfl : u = Value.bool true := rv
      refine ⟨rfl, OldK.of_keep fun b o e => ?_, os, bare⟩
      rcases only b with y | ⟨_, _, y⟩
      · exact un.keep b o e y (nofr b) (by intro c; cases c)
      · obtain ⟨e1, _⟩ := hok b _ y
        obtain ⟨e2, _⟩ := hok' b _ (un.frzs b _ _ y)
        exact e2.trans (e1.symm.trans e)
  cases hk : K.lookup a with
  | some o =>
    have e : o = so := Option.some.inj ((KX a o hk).symm.trans ha)
    subst e
    exact main (fun _ => none) (fun _ => .inl rfl) (.inr ⟨so, vs.toArray, _, hk, rfl, rfl, rfl, by rw [List.size_toArray, hi.length]; exact hl, by simpa using vals_ints hi⟩) fun b u z => by cases z
  | none =>
    have at_a : (fun b : Addr => if b = a then some (HO.frz so (.lst (ns.map V.int))) else none) a = some (HO.frz so (.lst (ns.map V.int))) := if_pos rfl
    refine main (fun b => if b = a then some (.frz so (.lst (ns.map V.int))) else none) (fun b => ?_) (.inl (.inr ⟨so, at_a⟩)) fun b u z => ?_
    · by_cases y : b = a
      · exact .inr ⟨y, hk, if_pos y⟩
      · exact .inl (if_neg y)
    · by_cases y : b = a
      · subst y
        obtain rfl : HO.frz so (.lst (ns.map V.int)) = u := Option.some.inj (at_a.symm.trans z)
        exact ⟨ha, by rw [List.length_map] <;> exact hl, vs, _, vals_ints hi, ha⟩
      · have z' : (none : Option HO) = some u := (if_neg y).symm.trans z
        cases z'
theorem walk_g {l : PySem.W.OpenLaw} {n k : Nat} {q : Program} {loose : List Str} {XP : (Str → Option Value) → Heap → Prop} {YP : World → Heap → Prop} {d : DefRec} {K : Params → PySem.W.Frag} {CX : World → CXT} {sp : World → Sp} {x : Str}
    (hn : l.most = some n) (hn2 : n ≤ sizeLine) (hdf : d.params.defaults = []) (hr : RoomG k callerA) (hY : ∀ (w : World) (h : Heap), YP w h → (K w.params).In h)
    (F : ∀ (w : World) (mg : Str → Option Value) (fa : Addr) (h : Heap), (K w.params).In h → h.Ns mainGlobals mg → mg d.name = some (.ref fa) →
      ∃ fd : FuncData, (∀ (s : Shared) (u : Value), BindsTo s fd ⟨[u], []⟩ [(x, u)]) ∧ ∀ base : Heap, (K w.params).In base → base.Ns mainGlobals mg → FnG l.prog w (K w.params) mg base (CX w) k fa fd [x] (sp w))
    (hsp : ∀ (w : World) (H : Hp) (a : Addr) (ns : List Int), ns.length ≤ n → SqL (K w.params) H a (ns.map V.int) → (∀ b, H b = none ∨ b = a) → sp w [.ref a] H (fun v _ => v = .bl true) fun _ _ _ => False)
    (hCX : ∀ (w : World) (H : Hp) (s : Shared) (e : Value) (s' : Shared), CX w [] H s (fun _ _ _ => False) e s' → False) : PySem.W.WalkO q loose XP YP l.row.toRowW d [] (fun f vs => PySem.call f vs) := by
  refine Att.attach_call hn hdf fun w s₀ s₁ mg mb fa o pm cd doc a vs ns G Y ho hd hcd hmg hobj hints hlen hg => ?_
  obtain ⟨fd, hb, hF⟩ := F w mg fa _ (hY w _ Y) G.T.g hmg
  exact law_g (hY w _ Y) G.T.g G.T.b G.T.builtins G.T.nolimit hg hobj hints (Nat.le_trans hlen hn2) hr hF hb (fun H hS hO => hsp w H a ns hlen hS hO) fun H e s' => hCX w H s₁ e s'
theorem roomTop {k : Nat} (h : k ≤ 60 := by decide) : RoomG k callerA := ⟨⟨rfl, by show 1 + claimMargin + 3 * k + 5 < recursionLimit; have : claimMargin + 200 < recursionLimit := (by decide); omega, by show 4 + 16 * k + 200 < cLine; have : 2000 < cLine := (by decide); omega⟩, rfl⟩
open PySem PySem.Spec PyProof.Rows L2
/-! ## rules told over a given written part -/
section
variable {X : Cx} {K : PySem.W.Frag}
theorem ix_seqK (e : X.K = K) : IxR X (rIx K) := by subst e; exact ix_seq
theorem ix_listK (e : X.K = K) : IxR X (rIxL K) := by subst e; exact ix_list
theorem ix_tupK (e : X.K = K) : IxR X (rIxT K) := by subst e; exact ix_tup
theorem call_lenK (e : X.K = K) : CallR X (.builtin "len") (fun xs H Q => ∃ x n, xs = [x] ∧ LenV K x H n ∧ Q (.int n) H) := by subst e; exact call_len
theorem call_isiK' (e : X.K = K) : CallR X (.builtin "isinstance") (rIsi K) := by subst e; exact call_isi
theorem op_inK (e : X.K = K) : OpR X (compareOp .In) (rIn K false) := by subst e; exact op_in_seq
theorem op_notInK (e : X.K = K) : OpR X (compareOp .NotIn) (rIn K true) := by subst e; exact op_notIn_seq
theorem call_reprK (e : X.K = K) (hg : X.A.guards = some []) (hu : X.A.units + 60 < cLine) : CallR X (.builtin "repr") (rRepr K) := by subst e; exact call_repr hg hu
theorem call_allK (e : X.K = K) (hc : X.calm = true) : CallR X (.builtin "all") (rAll K) := by subst e; exact cr_all hc
theorem op_eqDK (e : X.K = K) (hu : X.A.units + 64 < cLine) : OpR X (compareOp .Eq) (rEqD K) := by subst e; exact op_eqD hu
theorem op_neDK (e : X.K = K) (hu : X.A.units + 64 < cLine) : OpR X (compareOp .NotEq) (rNeD K) := by subst e; exact op_neD hu
theorem pi_listK {tg l : Expr} {tl : TE} (e : X.K = K) (hl : PE X l tl) : PI X tg l (iList K tl) := by subst e; exact pi_list hl
/-- a built-in class by its name, a constant of the text -/
theorem pe_ty {x : Str} {pos : Pos} (n : String) (hg : Gl X x) (hm : X.mg x = none) (hv : bootBuiltins x = some (.type n)) (hn : x ≠ "__name__" := by decide) (hd : (x == ("__debug__" : Str)) = false := by decide) : PE X (.Name x pos) (tC (.ty n)) :=
  pe_bltn hg hm hv rfl hn hd
theorem pe_cst {x : Str} {pos : Pos} {v : V} (hg : Gl X x) (h : ∃ u, X.mg x = some u ∧ RelV v u) (hd : (x == ("__debug__" : Str)) = false := by decide) : PE X (.Name x pos) (tC v) :=
  let ⟨_, hm, r⟩ := h
  pe_glob hg hm r hd
/-- a text times a number -/
def rMulS : R2 := fun x y H Q => ∃ (z : Str) (n : Int), x = .str z ∧ y = .int n ∧ z.length ≤ 1000 ∧ -1000 ≤ n ∧ n ≤ 10000 ∧ Q (.str ⟨(List.replicate n.toNat z.cps.toList).flatten.toArray⟩) H
theorem fold_app : ∀ (l : List (Array Nat)) (acc : Array Nat), l.foldl (· ++ ·) acc = acc ++ (l.map Array.toList).flatten.toArray
  | [], acc => by simp
  | x :: l, acc => by
    rw [List.foldl_cons, fold_app l (acc ++ x)]
    apply Array.ext'
    simp
theorem op_mul_str : OpR X (binaryOp .Mult) rMulS := by
  intro pins s σ H x y v u Q I rx ry h
  obtain ⟨z, n, rfl, rfl, hz, h1, h2, q⟩ := h
  obtain ⟨t, rfl⟩ := rx
  obtain ⟨t', rfl⟩ := ry
  have big : 1000 * 10000 ≤ sizeLine := by decide
  have e : ∀ k : Nat, ((List.replicate k z.cps).foldl (· ++ ·) #[] : Array Nat) = (List.replicate k z.cps.toList).flatten.toArray := fun k => by
    rw [fold_app, List.map_replicate]; simp
  have hzn : z.length * n.toNat ≤ 1000 * 10000 := Nat.mul_le_mul hz (by omega)
  refine PySem.P.mul_str (by rw [decide_eq_false (by omega), decide_eq_false (by omega)]; rfl) (fun a _ => ?_) (fun a _ => ?_) ?_
  · have : (1001 : Int) ≤ (2 ^ 63 - 1) / n := Int.le_ediv_of_mul_le (by omega) (by omega)
    omega
  · exact decide_eq_false (by omega)
  · by_cases c1 : n < 1
    · rw [if_pos c1]
      have e0 : n.toNat = 0 := by omega
      rw [e0] at q
      exact ⟨Nat.zero_le _, .str _, H, I.tok _, ⟨_, rfl⟩, q⟩
    · rw [if_neg c1]
      by_cases c2 : (n == 1 || z.length == 0) = true
      · rw [if_pos c2]
        refine ⟨.str z, H, I, ⟨t, rfl⟩, ?_⟩
        have ez : (⟨(List.replicate n.toNat z.cps.toList).flatten.toArray⟩ : Str) = z := by
          rw [Bool.or_eq_true, beq_iff_eq, beq_iff_eq] at c2
          rcases c2 with c2 | c2
          · subst c2
            show (⟨(List.replicate 1 z.cps.toList).flatten.toArray⟩ : Str) = z
            simp
          · have hz0 : z.cps.toList = [] := by
              have : z.cps.toList.length = 0 := by rw [Array.length_toList]; exact c2
              exact List.length_eq_zero_iff.mp this
            obtain ⟨cps⟩ := z
            have hz1 : cps.toList = [] := hz0
            have : cps = #[] := by apply Array.ext'; rw [hz1]
            subst this
            simp
        rw [ez] at q
        exact q
      · rw [if_neg c2, e]
        refine ⟨?_, .str _, H, I.tok _, ⟨_, rfl⟩, q⟩
        show (List.replicate n.toNat z.cps.toList).flatten.toArray.size ≤ sizeLine
        rw [List.size_toArray, List.length_flatten, List.map_replicate, List.sum_replicate_nat, Array.length_toList]
        have : n.toNat * z.cps.size = z.length * n.toNat := Nat.mul_comm _ _
        omega
end
open PySem PySem.Spec PyProof.Rows L2
/-! ## texts in order -/
def tLt (a b : Str) : Bool := decide (a.cps.toList < b.cps.toList)
theorem tLt_irr (a : Str) : tLt a a = false := PyProof.Rows.strKind.irrefl _
theorem tLt_tr {a b c : Str} (h1 : tLt a b = true) (h2 : tLt b c = true) : tLt a c = true := PyProof.Rows.strKind.trans _ _ _ h1 h2
theorem tLt_tot {a b : Str} (h1 : tLt a b = false) (h2 : tLt b a = false) : a = b := by
  have e : a.cps.toList = b.cps.toList := PyProof.Rows.strKind.total _ _ h1 h2
  obtain ⟨⟨a⟩⟩ := a
  obtain ⟨⟨b⟩⟩ := b
  cases e
  rfl
/-- rising -/
abbrev TS (ys : List Str) : Prop := ys.Pairwise fun a b => tLt b a = false
theorem tLe_tr {a b c : Str} (h1 : tLt b a = false) (h2 : tLt c b = false) : tLt c a = false := by
  cases e : tLt c a with
  | false => rfl
  | true => rcases PyProof.Rows.strKind.negTrans _ b.cps.toList _ e with z | z
            · exact absurd (show tLt c b = true from z) (by rw [h2]; decide)
            · exact absurd (show tLt b a = true from z) (by rw [h1]; decide)
theorem ts_of_rising : ∀ {ys : List Str} {p : Str}, risingS p ys = true → (∀ y ∈ ys, tLt y p = false) ∧ TS ys
  | [], _, _ => ⟨(fun _ h => by cases h), List.Pairwise.nil⟩
  | y :: ys, p, h => by
    obtain ⟨h1, h2⟩ := Bool.and_eq_true_iff.mp (show (!ltCps y.cps.toList p.cps.toList && risingS y ys) = true from h)
    have h1' : tLt y p = false := by
      have e : ltCps y.cps.toList p.cps.toList = tLt y p := by
        first | rfl | (unfold tLt; exact ltCps_eq _ _)
      rw [← e]
      simpa using h1
    obtain ⟨a, b⟩ := ts_of_rising h2
    refine ⟨fun z hz => ?_, .cons a b⟩
    rcases List.mem_cons.mp hz with rfl | hz
    · exact h1'
    · exact tLe_tr h1' (a z hz)
theorem ts_of_sortedS {ys : List Str} (h : sortedS ys = true) : TS ys := by
  cases ys with
  | nil => exact List.Pairwise.nil
  | cons y ys =>
    obtain ⟨a, b⟩ := ts_of_rising (show risingS y ys = true from h)
    exact .cons a b
theorem ts_uniq {xs ys : List Str} (h : xs.Perm ys) (h1 : TS xs) (h2 : TS ys) : xs = ys :=
  h.eq_of_pairwise (le := fun a b => tLt b a = false) (fun a b _ _ h1 h2 => tLt_tot h2 h1) h1 h2
theorem dle_str (a b : Str) : PySem.W.dataLe false (fun x : Str => PyData.str x) a b = !tLt b a := by
  show (!(PyProof.Rows.lexLt PyProof.Rows.itemOrd [.inr b.cps.toList] [.inr a.cps.toList])) = _
  have e : PyProof.Rows.lexLt PyProof.Rows.itemOrd [.inr b.cps.toList] [.inr a.cps.toList] = tLt b a := by
    rw [PyProof.Rows.lex_cons]
    show (tLt b a || (!tLt a b && false)) = _
    rw [Bool.and_false, Bool.or_false]
  rw [e]
/-- the texts in order -/
def tsort (xs : List Str) : List Str := xs.mergeSort (PySem.W.dataLe false fun x : Str => PyData.str x)
theorem tsort_perm (xs : List Str) : (tsort xs).Perm xs := List.mergeSort_perm _ _
theorem tsort_ts (xs : List Str) : TS (tsort xs) := by
  have h := List.pairwise_mergeSort (le := PySem.W.dataLe false fun x : Str => PyData.str x) (fun a b c h1 h2 => by
    rw [dle_str] at *
    have h1' : tLt b a = false := by simpa using h1
    have h2' : tLt c b = false := by simpa using h2
    rw [tLe_tr h1' h2']
    rfl) (fun a b => by
    rw [dle_str, dle_str]
    cases e : tLt b a with
    | false => rfl
    | true =>
      cases e2 : tLt a b with
      | false => rfl
      | true => exact absurd (tLt_tr e e2) (by rw [tLt_irr]; decide)) xs
  refine h.imp fun {a b} z => ?_
  rw [dle_str] at z
  simpa using z
theorem tsort_uniq {xs ys : List Str} (h : ys.Perm xs) (h1 : TS ys) : ys = tsort xs := ts_uniq (h.trans (tsort_perm xs).symm) h1 (tsort_ts xs)
/-! ## sorted(.., key=str) -/
theorem t_key (a : Addr) : Builtin.«list.sort» ⟨[.ref a], [(Str.ofString "key", .type "str")]⟩ = ksk_tree a (.type "str") false := rfl
theorem ea_strs : ∀ {vs : List Value} {xs : List Str}, StrsAre vs xs → PySem.W.EachIs (fun v x => ∃ t, v = Value.str x t) vs xs
  | _, _, .nil => .nil
  | _, _, .cons x t h => .cons ⟨t, rfl⟩ (ea_strs h)
theorem strs_ea : ∀ {vs : List Value} {xs : List Str}, PySem.W.EachIs (fun v x => ∃ t, v = Value.str x t) vs xs → StrsAre vs xs
  | _, _, .nil => .nil
  | _, _, .cons ⟨t, e⟩ h => by cases e; exact .cons _ t (strs_ea h)
theorem strs_alike (xs : List Str) : PySem.W.AllAlike (xs.map fun x => PyData.str x) := fun d hd d' hd' => by
  obtain ⟨_, _, rfl⟩ := List.mem_map.mp hd
  obtain ⟨_, _, rfl⟩ := List.mem_map.mp hd'
  first | rfl | (unfold PySem.W.alike; rfl)
theorem strs_sortable (xs : List Str) : PySem.W.Sortable (xs.map fun x => PyData.str x) := .inr fun d hd => by
  obtain ⟨_, _, rfl⟩ := List.mem_map.mp hd
  exact ⟨(fun z => by cases z), (fun _ z => by cases z)⟩
theorem str_depth (x : Str) : (PyData.str x).depth ≤ 1 := by first | decide | (unfold PyData.depth; decide) | simp [PyData.depth]
theorem str_turn {prog : Program} {w : World} {A : Around} {s : Shared} (v : Value) (x : Str) (e : ∃ t, v = Value.str x t) (h : Heap) (tk : Nat) :
    wpAny (model prog w) A (call (.type "str") [v]) (PySem.W.KeyPure (.str x) { s with heap := h, toks := tk }) (fun _ _ => False) { s with heap := h, toks := tk } := by
  obtain ⟨t, rfl⟩ := e
  exact PySem.P.str_of_str ⟨h, tk, rfl, fun _ _ z => z, .str x t⟩
section
variable {X : Cx}
def rSortK (K : PySem.W.Frag) : List V → List V → Hp → VK → Prop := fun vs zs H Q => ∃ (a : Addr) (xs : List Str), vs = [V.ref a] ∧ zs = [.ty "str"] ∧ SqL K H a (xs.map V.str) ∧ ∀ p, H p = none → Q (.ref p) (upd H p (.lst ((tsort xs).map V.str)))
theorem sortK_out {pins : List (Addr × Obj)} {s : Shared} {σ : L2.St} {H : Hp} {Q : VK} {xs : List Str} {p : Addr} {out : List Value} {c : Nat} {h' : Heap} {tk : Nat} (I : L2.Inv X pins σ H s) (hz : xs.length ≤ sizeLine) (hp : s.heap.objs.size ≤ p)
    (q : ∀ (p : Addr), H p = none → Q (V.ref p) (upd H p (HO.lst ((tsort xs).map V.str)))) (k : ∀ (b : Addr) (o : Obj), s.heap.get? b = some o → h'.get? b = some o) (e : h'.get? p = some (seqObj "list" out.toArray c))
    (ea : PySem.W.EachIs (fun v x => ∃ t, v = Value.str x t) out (tsort xs)) : EP X pins σ Q (Value.ref p) { s with heap := h', toks := tk } := by
  have hlen : ((tsort xs).map V.str).length ≤ sizeLine := by rw [List.length_map, (tsort_perm xs).length_eq]; exact hz
  exact ⟨.ref p, upd H p (.lst ((tsort xs).map V.str)), I.laid (t' := tk) k hp ⟨hlen, out, c, vals_of_strs (strs_ea ea), e⟩, rfl, q _ (I.hok.fresh hp)⟩
theorem cr_sortK (hu : X.A.units + 60 < cLine) : CallRK X (.builtin "sorted") [Str.ofString "key"] (rSortK X.K) := by
  intro pins s σ H vs zs us ws Q I r rz h
  obtain ⟨a, xs, rfl, rfl, hs, q⟩ := h
  obtain rfl := Vals.ref1 r
  obtain ⟨w1, rfl, e1⟩ := vals1 rz
  obtain rfl : w1 = Value.type "str" := e1
  obtain ⟨its, rv, hl, hz⟩ := I.list hs
  rw [List.length_map] at hz
  exact PySem.W.sorted_key_data (fun x : Str => PyData.str x) hl.isList (ea_strs rv.strs) (strs_alike xs) (strs_sortable xs) hz (fun x _ => by have := str_depth x; omega) (PyProof.Rows.ksk_s1 _ _) (fun _ => PyProof.Rows.ksk_l1 _ _) t_key
    (fun v x e _ h tk _ => str_turn v x e h tk) fun out c h' tk k _ e _ ea => sortK_out I hz (Nat.le_succ _) q k e ea
/-- .. of a dict whose keys are texts -/
def rSortKD : List V → List V → Hp → VK → Prop := fun vs zs H Q => ∃ (a : Addr) (kvs : List (Key × V)) (xs : List Str), vs = [V.ref a] ∧ zs = [.ty "str"] ∧ Rd H a (.dK kvs) ∧ kvs.map (·.1) = xs.map Sum.inr ∧ ∀ p, H p = none → Q (.ref p) (upd H p (.lst ((tsort xs).map V.str)))
theorem cr_sortKD (hu : X.A.units + 60 < cLine) (hcalm : X.calm = true) : CallRK X (.builtin "sorted") [Str.ofString "key"] rSortKD := by
  intro pins s σ H vs zs us ws Q I r rz h
  obtain ⟨a, kvs, ks, rfl, rfl, hd, hks, q⟩ := h
  obtain rfl := Vals.ref1 r
  obtain ⟨w1, rfl, e1⟩ := vals1 rz
  obtain rfl : w1 = Value.type "str" := e1
  obtain ⟨z, lo, vs, rel, dd⟩ := dk_rd I.hok hd
  obtain ⟨ep, hat⟩ := dd.dictAt
  have hkeys : vs.map (·.1) = ks.map Sum.inr := rel.keys.symm.trans hks
  have hl : vs.length = ks.length := by
    have e := congrArg List.length hkeys
    rw [List.length_map, List.length_map] at e
    exact e
  have hl2 : kvs.length = ks.length := by
    have e := congrArg List.length hks
    rw [List.length_map, List.length_map] at e
    exact e
  have h16 : vs.length ≤ sizeLine := by rw [hl, ← hl2]; exact z
  refine PyProof.Rows.call_function_entry_kw PyProof.Rows.kind_sorted PyProof.Rows.plain_sorted PyProof.Rows.entry_sorted (PyProof.Rows.ksk_s1 _ _) ?_
  unfold Builtin.«sorted»
  refine wpAny_bind (m := checkCount "sorted" 1 1 _) (wpAny_pure ?_)
  refine wpAny_bind (PySem.W.kdu_collect (A := X.A.in1) (PySem.W.kdl_dict (knd := mixKind X.prog X.w) (kvs := vs) (ep := ep) lo) (I.ok.hd hcalm) hat h16 fun h' tk acc hk hacc => ?_)
  have hal : acc.toList.length = ks.length := by rw [Array.length_toList, hacc.1, hl]
  have hS : StrsAre acc.toList ks := strs_at hal fun j v e => by
    obtain ⟨k, x, e1, e2⟩ := hacc.2 j v (by rw [← Array.getElem?_toList]; exact e)
    have e3 : (vs.map (·.1))[j]? = some k := by rw [List.getElem?_map, e1]; all_goals rfl
    rw [hkeys, List.getElem?_map] at e3
    cases e4 : ks[j]? with
    | none => rw [e4] at e3; cases e3
    | some y =>
      rw [e4] at e3
      have e5 : Sum.inr y = k := Option.some.inj e3
      subst e5
      obtain ⟨t, ev⟩ := Value.isStrOf_shape (x := y) (v := v) e2
      exact ⟨y, t, rfl, ev⟩
  have I1 : Inv X pins σ H { s with heap := h', toks := tk } := I.kept hk
  have hzk : ks.length ≤ sizeLine := by rw [← hl]; exact h16
  refine wpAny_bind (wpAny_newList ?_ (by rw [hal]; exact hzk))
  have hoL : (h'.push (seqObj "list" acc.toList.toArray 0)).get? h'.objs.size = some (seqObj "list" acc.toList.toArray 0) := Heap.get?_push_size _ rfl
  show wpAny _ _ _ _ _ { s with heap := h'.push (seqObj "list" acc.toList.toArray 0), toks := tk }
  have ea := ea_strs hS
  have up : ∀ {g : Heap}, PySem.W.KeepsBut h'.objs.size (h'.push (seqObj "list" acc.toList.toArray 0)) g → ∀ b o, h'.get? b = some o → g.get? b = some o := fun {g} kp b o e =>
    kp b o (Nat.ne_of_lt (Heap.lt_size e)) (Heap.get?_push_of_some _ e)
  refine wpAny_bind (wpAny_holding (wpAny_call_entry_kw PyProof.Rows.slot_list_sort ⟨_, hoL, rfl⟩ PyProof.Rows.entry_list_sort ?_ (PyProof.Rows.ksk_l1 _ _)))
  show wpAny _ _ (Builtin.«list.sort» ⟨[.ref h'.objs.size], [(Str.ofString "key", .type "str")]⟩) _ _ _
  rw [t_key]
  refine PySem.W.keyH_tree (s := { s with heap := h'.push (seqObj "list" acc.toList.toArray 0), toks := tk }) (kz := ks.map fun x => PyData.str x) hoL (by rw [List.length_map, hal]) (by rw [hal]; exact hzk) (strs_alike ks) (strs_sortable ks) (fun d hd => ?_)
    (PySem.W.keyH_turns (k := fun x : Str => PyData.str x) ea fun v x e _ h tk _ => str_turn v x e h tk) fun h2 tk2 out c kp e ko => ⟨_, rfl, wpAny_pure ⟨_, rfl, ?_⟩⟩
  · obtain ⟨x, _, rfl⟩ := List.mem_map.mp hd
    have := str_depth x
    show X.A.units + 1 + 1 + _ < _
    omega
  · have h3 : EP X pins σ Q (Value.ref h'.objs.size) { ({ s with heap := h', toks := tk } : Shared) with heap := h2, toks := tk2 } := sortK_out I1 hzk (Nat.le_refl _) q (up kp) e (PySem.W.keyedOut_each (fun x : Str => PyData.str x) ko ea)
    exact h3
end
open PySem PySem.Spec PyProof.Rows L2
theorem RoomG.in1 {k : Nat} {A : Around} (x : RoomG (k + 1) A) : RoomG k A.in1 := ⟨x.r.in1, x.g⟩
theorem RoomG.make {k : Nat} {A : Around} (x : RoomG (k + 1) A) (C : Addr) (us : List Value) (kw : List (Str × Value)) : RoomG k (A.under (.builtin "type.__call__" ⟨.ref C :: us, kw⟩)) :=
  ⟨x.r.make C us kw, by
    show pushGuards (Code.guards (.builtin "type.__call__" ⟨.ref C :: us, kw⟩)) A.guards = _
    rw [x.g]
    have e : Code.isGuard (.builtin "type.__call__" ⟨.ref C :: us, kw⟩) = false := by first | rfl | decide | (unfold Code.isGuard; decide)
    unfold Code.guards
    rw [e]
    rfl⟩
section
variable {P : Program} {w : World} {K : PySem.W.Frag} {mg : Str → Option Value} {base : Heap} {CX : CXT}
theorem fnG_core {f : Addr} {x q : Str} {args : Arguments} {body : List Stmt} {scope : Scope} {oc : Value} {od : Option Addr} {dV kV doc pm cdv ct : Value} {an : Option Addr} {osl : Array (Option Value)} {N ps : List Str} {k : Nat} {sp : Sp}
    (lk : K.lookup f = some ⟨oc, od, .func (PySem.W.fnOf x q args body scope dV kV doc pm an cdv ct), osl⟩) (hcd : PySem.W.codeIn K cdv q = true) (S : FnScope N ps scope) (len : ∀ vs H Q E, sp vs H Q E → vs.length = ps.length)
    (hb : ∀ (A : Around) (outer : List Env) (s : Shared) (H : Hp) (vs : List V) (Q : VK) (E : XK), RoomG k (A.deeper (envOfC q scope s.heap.objs.size f cdv)) → sp vs H Q E →
      ∃ t, PSs (cxOf CX P w K mg base N q scope f cdv A outer s H E) body t ∧ t { nx := fun _ H' => Q .non H', rt := Q } (start N vs) H) : FnG P w K mg base CX (k + 1) f (PySem.W.fnOf x q args body scope dV kV doc pm an cdv ct) ps sp := by
  refine ⟨len, ?_⟩
  intro A outer s H args us vs Q E hr e0 bt rv hs
  have hl := len _ _ _ _ hs
  have kin : K.In s.heap := e0.mod.kin.keeps fun b o e => (e0.bs b o e).1
  have nol : s.heap.NoLimit := e0.mod.nolimit.keeps fun b o e => (e0.bs b o e).1
  refine codeAny_call_function hr.r.depth (kin _ _ lk) rfl S.co S.gen rfl (PySem.W.codeRec_of kin hcd) (bt _ _ _ _ ?_)
  refine wpAny_newFunctionEnv_cells S.kind (fun ⟨n, v⟩ hy => ?_) fun env he s1 x1 => ?_
  · cases S.par n (List.of_mem_zip hy).1 with
    | inl q => exact .inl q
    | inr q => exact .inr ⟨q, PySem.W.cellsFrom_some _ _ _ (.inl q)⟩
  · subst he
    refine ⟨nol.keeps x1.toInCall.keep, codeAny_func ?_⟩
    obtain ⟨t, ht, hq⟩ := hb A outer s H vs Q E (hr.deeper _) hs
    have I : Inv (cxOf CX P w K mg base N q scope f cdv A outer s H E) [] (start N vs) H s1 := inv_start S hr.r.hd e0 hl rv x1
    refine wpAny_mono (ht.run [] s1 (start N vs) H _ I hq) (fun fl s' z => ?_) fun e s' z => z
    cases fl with
    | ret u => obtain ⟨v, σ', H', J, r2, q⟩ := z; exact ⟨v, H', J.os, J.bare, J.base, J.hok, r2, q⟩
    | next => obtain ⟨σ', H', J, q⟩ := z; exact ⟨.non, H', J.os, J.bare, J.base, J.hok, rfl, q⟩
    | brk => obtain ⟨_, _, _, q⟩ := z; exact q.elim
    | cont => obtain ⟨_, _, _, q⟩ := z; exact q.elim
/-- a method m of the class at C, of the class's own body: q its qualified name, st its statement -/
structure Mth (P : Program) (w : World) (K : PySem.W.Frag) (mg : Str → Option Value) (base : Heap) (CX : CXT) (k : Nat) (C : Addr) (m q : Str) (st : Stmt) (ps : List Str) (sp : Sp) : Prop where
  ex : ∃ (f : Addr) (fd : FuncData), Fun K m q st f fd ∧ Meth K C m f ∧ PySem.W.fnIn K f = true ∧ FnG P w K mg base CX k f fd ps sp
/-- THE RULE for a method -/
theorem mth_of {m q : Str} {st : Stmt} {C f : Addr} {fd : FuncData} {N ps : List Str} {k : Nat} {sp : Sp} (F : Fun K m q st f fd) (hm : Meth K C m f) (S : FnScope N ps (defScope st)) (len : ∀ vs H Q E, sp vs H Q E → vs.length = ps.length)
    (hb : ∀ (cdv : Value) (A : Around) (outer : List Env) (s : Shared) (H : Hp) (vs : List V) (Q : VK) (E : XK), RoomG k (A.deeper (envOfC q (defScope st) s.heap.objs.size f cdv)) → sp vs H Q E →
      ∃ t, PSs (cxOf CX P w K mg base N q (defScope st) f cdv A outer s H E) (defBody st) t ∧ t { nx := fun _ H' => Q .non H', rt := Q } (start N vs) H) : Mth P w K mg base CX (k + 1) C m q st ps sp := by
  refine ⟨f, fd, F, hm, ?_, ?_⟩
  · obtain ⟨oc, od, kV, doc, pm, an, cdv, ct, osl, rfl, lk, hcd⟩ := F.ex
    unfold PySem.W.fnIn
    rw [lk]
  · obtain ⟨oc, od, kV, doc, pm, an, cdv, ct, osl, rfl, lk, hcd⟩ := F.ex
    exact fnG_core lk hcd S len fun A outer s H vs Q E hr h => hb cdv A outer s H vs Q E hr h
theorem mth_of0 {m q : Str} {st : Stmt} {C f : Addr} {fd : FuncData} {N ps : List Str} {k : Nat} {sp : Sp} (F : Fun K m q st f fd) (hm : Meth K C m f) (S : FnScope N ps (defScope st)) (len : ∀ vs H Q E, sp vs H Q E → vs.length = ps.length)
    (hb : ∀ (cdv : Value) (A : Around) (outer : List Env) (s : Shared) (H : Hp) (vs : List V) (Q : VK) (E : XK), RoomG k (A.deeper (envOfC q (defScope st) s.heap.objs.size f cdv)) → sp vs H Q E →
      ∃ t, PSs (cxOf CX P w K mg base N q (defScope st) f cdv A outer s H E).nox (defBody st) t ∧ t { nx := fun _ H' => Q .non H', rt := Q } (start N vs) H) : Mth P w K mg base CX (k + 1) C m q st ps sp :=
  mth_of F hm S len fun cdv A outer s H vs Q E hr h => let ⟨t, h1, h2⟩ := hb cdv A outer s H vs Q E hr h; ⟨t, h1.nox, h2⟩
end
/-- how arguments written by place (n, the object among them) and by name come to a method's parameters -/
def BndM (m q : Str) (st : Stmt) (ps : List Str) (n : Nat) (ks : List Str) (ix : List Nat) : Prop :=
  ∀ (kV doc pm cdv ct : Value) (an : Option Addr) (us ws : List Value), us.length = n → ws.length = ks.length →
    bindArgs (PySem.W.fnOf m q (defArgs st) (defBody st) (defScope st) .none kV doc pm an cdv ct) ⟨us, ks.zip ws⟩ = pure (ps.zip (sel ix (us ++ ws)))
def BndMP (m q : Str) (st : Stmt) (ps : List Str) : Prop :=
  ∀ (kV doc pm cdv ct : Value) (an : Option Addr) (us : List Value), us.length = ps.length → bindArgs (PySem.W.fnOf m q (defArgs st) (defBody st) (defScope st) .none kV doc pm an cdv ct) ⟨us, []⟩ = pure (ps.zip us)
section
variable {X : Cx} {CX : CXT} {k j : Nat} {C : Addr} {m q : Str} {st : Stmt} {ps ks : List Str} {sp : Sp} {E : XK} {p pos apos : Pos} {o e : Expr} {es : List Expr} {kws : List Keyword} {to : TE} {t tk : TA}
/-- the instance that a value is -/
def IsIns (H : Hp) (C : Addr) (x : V) (m : Str) : Prop := ∃ a dx fs, x = .ref a ∧ H a = some (.ins C dx fs) ∧ fs.lookup m = none
def tM (C : Addr) (m : Str) (sp : Sp) (E : XK) (to : TE) (t : TA) : TE := fun σ H Q => to σ H fun x H1 => IsIns H1 C x m ∧ t σ H1 fun vs H2 => sp (x :: vs) H2 Q E
def tMK (C : Addr) (m : Str) (sp : Sp) (n : Nat) (ix : List Nat) (E : XK) (to : TE) (tk : TA) : TE := fun σ H Q => to σ H fun x H1 => IsIns H1 C x m ∧ tk σ H1 fun zs H2 => zs.length = n ∧ sp (sel ix (x :: zs)) H2 Q E
/-- o.m(e, ..) -/
theorem pe_m {pl : Sem Bool} (c : Mth X.prog X.w X.K X.mg X.base CX k C m q st ps sp) (hc : Cls X.K C) (hr : RoomG j X.A) (hk : k ≤ j) (hx : Passes CX X E) (b : BndMP m q st ps) (he : PE X o to) (ha : PA X (e :: es) t)
    (hst : starEach (e :: es) X.env = (false, eval e X.env) :: starEach es X.env := by rfl) (hpl : (backTo pos (starEach es X.env)).any (·.1) = false := by rfl)
    (ht : eval (.Call (.Attribute o m apos) (e :: es) [] pos) X.env = (do
      let ov ← eval o X.env
      standAt apos.atName
      let (f, first) ← holding [ov] (getMethod ov m pl)
      callWith pos f first (backTo pos (starEach (e :: es) X.env)) (backToKw pos (keywordEach [] X.env))) := by rfl) :
    PE X (.Call (.Attribute o m apos) (e :: es) [] pos) (tM C m sp E to t) := by
  obtain ⟨f, fd, F, hm, _, G⟩ := c.ex
  obtain ⟨oc, od, kV, doc, pm, an, cdv, ct, osl, rfl, lk, hcd⟩ := F.ex
  refine ⟨fun pins s σ H Q I h => PySem.W.methodCall_KW (pl := pl) (thn (he.run pins s σ H _ I h) fun u s1 ⟨x, H1, I1, rx, ⟨a, dx, fs, ex, ea, l⟩, q⟩ => ?_) ht⟩
  subst ex
  obtain rfl : u = Value.ref a := rx
  refine getmeth_ok I1 ea hc hm l ?_
  refine PySem.W.callWith_K (first := [.ref a]) (h₀ := X.base) I.ok.mod.kin hm.kp (thn (ha.run pos pins s1 σ H1 _ I1 q) fun us s2 ⟨vs, H2, I2, r, q2⟩ => ⟨I2.kIn, ?_⟩) hst hpl
  have h0 := r.length
  have h1 := G.len _ _ _ _ q2
  rw [List.length_cons] at h1
  exact run_g (us := .ref a :: us) (kw := []) (vs := .ref a :: vs) G (hr.mono hk) (.of_eq (b kV doc pm cdv ct an (.ref a :: us) (by rw [List.length_cons]; omega))) hx I2 (.cons rfl r) q2
/-- o.m() -/
theorem pe_m0 {pl : Sem Bool} (c : Mth X.prog X.w X.K X.mg X.base CX k C m q st ps sp) (hc : Cls X.K C) (hr : RoomG j X.A) (hk : k ≤ j) (hx : Passes CX X E) (b : BndMP m q st ps) (he : PE X o to)
    (ht : eval (.Call (.Attribute o m apos) [] [] pos) X.env = (do
      let ov ← eval o X.env
      standAt apos.atName
      let (f, first) ← holding [ov] (getMethod ov m pl)
      callWith pos f first (backTo pos (starEach [] X.env)) (backToKw pos (keywordEach [] X.env))) := by rfl) :
    PE X (.Call (.Attribute o m apos) [] [] pos) (tM C m sp E to tNil) := by
  obtain ⟨f, fd, F, hm, _, G⟩ := c.ex
  obtain ⟨oc, od, kV, doc, pm, an, cdv, ct, osl, rfl, lk, hcd⟩ := F.ex
  refine ⟨fun pins s σ H Q I h => PySem.W.methodCall_KW (pl := pl) (thn (he.run pins s σ H _ I h) fun u s1 ⟨x, H1, I1, rx, ⟨a, dx, fs, ex, ea, l⟩, q⟩ => ?_) ht⟩
  subst ex
  obtain rfl : u = Value.ref a := rx
  refine getmeth_ok I1 ea hc hm l ?_
  have h1 := G.len _ _ _ _ q
  exact PySem.W.callWith_K0 (first := [.ref a]) I1.kIn hm.kp (run_g (us := [.ref a]) (kw := []) (vs := [.ref a]) G (hr.mono hk) (.of_eq (b kV doc pm cdv ct an [.ref a] h1)) hx I1 (.cons rfl .nil) q)
/-- o.m(k = e, ..) -/
theorem pe_mK0 {pl : Sem Bool} {ix : List Nat} (c : Mth X.prog X.w X.K X.mg X.base CX k C m q st ps sp) (hc : Cls X.K C) (hr : RoomG j X.A) (hk : k ≤ j) (hx : Passes CX X E) (b : BndM m q st ps 1 ks ix) (he : PE X o to) (hkw : PK X kws tk)
    (hall : (backToKw pos (keywordEach kws X.env)).all (·.1.isSome) = true := by rfl) (hks : (backToKw pos (keywordEach kws X.env)).filterMap (·.1) = ks := by rfl)
    (hpl : ((backTo pos (starEach [] X.env)).any (·.1) || (backToKw pos (keywordEach kws X.env)).any (·.1.isNone)) = false := by rfl)
    (ht : eval (.Call (.Attribute o m apos) [] kws pos) X.env = (do
      let ov ← eval o X.env
      standAt apos.atName
      let (f, first) ← holding [ov] (getMethod ov m pl)
      callWith pos f first (backTo pos (starEach [] X.env)) (backToKw pos (keywordEach kws X.env))) := by rfl) :
    PE X (.Call (.Attribute o m apos) [] kws pos) (tMK C m sp ks.length ix E to tk) := by
  obtain ⟨f, fd, F, hm, _, G⟩ := c.ex
  obtain ⟨oc, od, kV, doc, pm, an, cdv, ct, osl, rfl, lk, hcd⟩ := F.ex
  refine ⟨fun pins s σ H Q I h => PySem.W.methodCall_KW (pl := pl) (thn (he.run pins s σ H _ I h) fun u s1 ⟨x, H1, I1, rx, ⟨a, dx, fs, ex, ea, l⟩, q⟩ => ?_) ht⟩
  subst ex
  obtain rfl : u = Value.ref a := rx
  refine getmeth_ok I1 ea hc hm l (PySem.W.callWith_KW0 (first := [.ref a]) (h₀ := X.base) I.ok.mod.kin hm.kp hall (thn (hkw.run pos pins s1 σ H1 _ I1 q) fun ws s2 ⟨zs, H2, I2, rz, l2, q2⟩ => ⟨I2.kIn, ?_⟩) hpl)
  rw [hks]
  exact run_g (us := [.ref a]) G (hr.mono hk) (.of_eq (b kV doc pm cdv ct an [.ref a] ws rfl (rz.length.symm.trans l2))) hx I2 (sel_vals (xs := .ref a :: zs) (us := .ref a :: ws) (.cons rfl rz) ix) q2
end
open PySem PySem.Spec PySem.Calls PyProof.Rows L2
/-- what the result of a call at a deeper place is -/
theorem run_in1 {X : Cx} {CX : CXT} {k : Nat} {f : Addr} {fd : FuncData} {ps : List Str} {sp : Sp} {E : XK} {pins : List (Addr × Obj)} {σ : L2.St} {H : Hp} {s : Shared} {us : List Value} {vs : List V} {Q : VK} {R : Value → Shared → Prop}
    (F : FnG X.prog X.w X.K X.mg X.base CX k f fd ps sp) (hr : RoomG (k + 1) X.A) (hb : BindsTo s fd ⟨us, []⟩ (ps.zip us)) (hx : Passes CX X E) (I : Inv X pins σ H s) (r : Vals vs us) (h : sp vs H Q E)
    (hR : ∀ u s', EP X pins σ Q u s' → R u s') : wpAny (model X.prog X.w) X.A.in1 (call (.ref f) us) R X.xe s := by
  refine wpAny_call (codeAny_mono (F.run X.A.in1 X.stack s H ⟨us, []⟩ us vs Q E hr.in1 I.env0.in1 hb r h) fun y s' z => ?_)
  match y, z with
  | .error e, z => exact hx pins σ H s e s' I z
  | .ok (.ret u), z => exact hR u s' (I.after z)
  | .ok .next, z => exact z.elim
  | .ok .brk, z => exact z.elim
  | .ok .cont, z => exact z.elim
/-! ## a property -/
/-- a property p of the class at C, its getter by its own body -/
structure Prp (P : Program) (w : World) (K : PySem.W.Frag) (mg : Str → Option Value) (base : Heap) (CX : CXT) (k : Nat) (C : Addr) (m q : Str) (st : Stmt) (ps : List Str) (sp : Sp) : Prop where
  ex : ∃ (p f : Addr) (fd : FuncData), Fun K m q st f fd ∧ PropOf K C m p f ∧ FnG P w K mg base CX k f fd ps sp
section
variable {P : Program} {w : World} {K : PySem.W.Frag} {mg : Str → Option Value} {base : Heap} {CX : CXT}
theorem prp_of {m q : Str} {st : Stmt} {C p f : Addr} {fd : FuncData} {N ps : List Str} {k : Nat} {sp : Sp} (F : Fun K m q st f fd) (hp : PropOf K C m p f) (S : FnScope N ps (defScope st)) (len : ∀ vs H Q E, sp vs H Q E → vs.length = ps.length)
    (hb : ∀ (cdv : Value) (A : Around) (outer : List Env) (s : Shared) (H : Hp) (vs : List V) (Q : VK) (E : XK), RoomG k (A.deeper (envOfC q (defScope st) s.heap.objs.size f cdv)) → sp vs H Q E →
      ∃ t, PSs (cxOf CX P w K mg base N q (defScope st) f cdv A outer s H E) (defBody st) t ∧ t { nx := fun _ H' => Q .non H', rt := Q } (start N vs) H) : Prp P w K mg base CX (k + 1) C m q st ps sp := by
  refine ⟨p, f, fd, F, hp, ?_⟩
  obtain ⟨oc, od, kV, doc, pm, an, cdv, ct, osl, rfl, lk, hcd⟩ := F.ex
  exact fnG_core lk hcd S len fun A outer s H vs Q E hr h => hb cdv A outer s H vs Q E hr h
end
section
variable {X : Cx} {CX : CXT} {k j : Nat} {C : Addr} {m q : Str} {st : Stmt} {ps ks : List Str} {sp : Sp} {E : XK} {p pos apos : Pos} {o e fe : Expr} {es : List Expr} {kws : List Keyword} {to tf : TE} {t tk : TA}
def tP (C : Addr) (sp : Sp) (E : XK) (to : TE) : TE := fun σ H Q => to σ H fun x H1 => ∃ a dx fs, x = .ref a ∧ H1 a = some (.ins C dx fs) ∧ sp [.ref a] H1 Q E
/-- o.p -/
theorem pe_p (c : Prp X.prog X.w X.K X.mg X.base CX k C m q st ps sp) (hc : Cls X.K C) (hr : RoomG j X.A) (hk : k + 1 ≤ j) (hx : Passes CX X.nox E) (b : BndMP m q st ps) (he : PE X o to)
    (hab : attributeBase o m X.env (eval o X.env) = eval o X.env := by rfl) : PE X (.Attribute o m pos) (tP C sp E to) := by
  obtain ⟨p, f, fd, F, hp, G⟩ := c.ex
  obtain ⟨oc, od, kV, doc, pm, an, cdv, ct, osl, rfl, lk, hcd⟩ := F.ex
  refine ⟨fun pins s σ H Q I h => attr_of hab (thn (he.run pins s σ H _ I h) fun u s1 ⟨x, H1, I1, rx, a, dx, fs, ex, ea, q⟩ => ?_)⟩
  subst ex
  obtain rfl : u = Value.ref a := rx
  obtain ⟨mA, O, _, _, _, _⟩ := ins_get I1.hok ea
  obtain ⟨od', J, _⟩ := O.look
  obtain ⟨rest, hrec⟩ := hp.rec_
  have I2 := I1.tok (s1.toks + 1)
  have hcl : (PySem.W.clsIn X.K C).isSome = true := by
    obtain ⟨cd, hc, _⟩ := PySem.W.any_some hc.hd
    rw [hc]
    rfl
  have h1 := G.len _ _ _ _ q
  refine PySem.W.get_bind I1.kIn J (PySem.W.plainGet_of (hc.get m)).1 (PySem.W.findObj_data hcl hp.at_ hp.get hp.tak) (PySem.W.plainGet_of (hc.get m)).2 (wpAny_call (PySem.W.prop_get (s := { s1 with toks := s1.toks + 1 }) I1.kIn hrec ?_))
  refine codeAny_mono (G.run X.A.in1 X.stack { s1 with toks := s1.toks + 1 } H1 ⟨[.ref a], []⟩ [.ref a] [.ref a] Q E (hr.mono hk).in1 I2.env0.in1 (.of_eq (b kV doc pm cdv ct an [.ref a] h1)) (.cons rfl .nil) q) fun y s' z => ?_
  match y, z with
  | .error er, z => exact False.elim (hx pins σ H1 { s1 with toks := s1.toks + 1 } er s' (I2.wish _) z)
  | .ok (.ret u), z =>
    obtain ⟨v, H', I3, rv, q3⟩ := I2.after z
    show wpAny _ _ (handedOut u) _ _ _
    rw [PySem.W.handedOut_of (handed_of rv)]
    exact wpAny_pure ⟨v, H', I3, rv, q3⟩
  | .ok .next, z => exact z.elim
  | .ok .brk, z => exact z.elim
  | .ok .cont, z => exact z.elim
/-! ## an instance called -/
def tO (C : Addr) (sp : Sp) (E : XK) (tf : TE) (t : TA) : TE := fun σ H Q => tf σ H fun y H1 => ∃ a, y = V.ref a ∧ t σ H1 fun vs H2 => (∃ dx fs, H2 a = some (.ins C dx fs)) ∧ sp (.ref a :: vs) H2 Q E
theorem pe_o (c : Mth X.prog X.w X.K X.mg X.base CX k C "__call__" q st ps sp) (hr : RoomG j X.A) (hk : k ≤ j) (hx : Passes CX X E) (b : BndMP "__call__" q st ps) (hf : PE X fe tf) (ha : PA X (e :: es) t)
    (ht : eval (.Call fe (e :: es) [] pos) X.env = (do callWith pos (← eval fe X.env) [] (backTo pos (starEach (e :: es) X.env)) (backToKw pos (keywordEach [] X.env))) := by rfl)
    (he : starEach (e :: es) X.env = (false, eval e X.env) :: starEach es X.env := by rfl) (hpl : (backTo pos (starEach es X.env)).any (·.1) = false := by rfl) : PE X (.Call fe (e :: es) [] pos) (tO C sp E tf t) := by
  obtain ⟨f, fd, F, hm, hfi, G⟩ := c.ex
  obtain ⟨oc, od, kV, doc, pm, an, cdv, ct, osl, rfl, lk, hcd⟩ := F.ex
  refine ⟨fun pins s σ H Q I h => Call_ (thn (hf.run pins s σ H _ I h) fun u s1 ⟨y, H1, I1, ry, a, ey, q⟩ => ?_) ht⟩
  subst ey
  obtain rfl : u = Value.ref a := ry
  refine StX.callO_with (thn (ha.run pos pins s1 σ H1 _ I1 q) fun us s2 ⟨vs, H2, I2, r, ⟨dx, fs, hi⟩, q2⟩ => ?_) he hpl
  obtain ⟨ox, od, J, hd⟩ := StX.insC_at I2 (.inr ⟨dx, fs, hi⟩)
  refine ⟨⟨C, ox, od, J, hd⟩, wpAny_call (PySem.W.kco_code I2.kIn J hd hm.at_ hm.fn hfi ?_)⟩
  have h0 := r.length
  have h1 := G.len _ _ _ _ q2
  rw [List.length_cons] at h1
  refine codeAny_mono (G.run X.A X.stack s2 H2 ⟨.ref a :: us, []⟩ (.ref a :: us) (.ref a :: vs) Q E (hr.mono hk) I2.env0 (.of_eq (b kV doc pm cdv ct an (.ref a :: us) (by rw [List.length_cons]; omega))) (.cons rfl r) q2) fun y s' z => ?_
  match y, z with
  | .error e, z => exact hx pins σ H2 s2 e s' I2 z
  | .ok (.ret u), z => exact I2.after z
  | .ok .next, z => exact z.elim
  | .ok .brk, z => exact z.elim
  | .ok .cont, z => exact z.elim
/-! ## len(o) -/
def rLenO (C : Addr) (sp : Sp) (E : XK) : List V → Hp → VK → Prop := fun xs H Q => ∃ a dx fs, xs = [.ref a] ∧ H a = some (.ins C dx fs) ∧ sp [.ref a] H (fun v H' => ∃ n : Int, v = .int n ∧ 0 ≤ n ∧ n < 2 ^ 63 ∧ Q v H') E
theorem call_lenO (c : Mth X.prog X.w X.K X.mg X.base CX k C "__len__" q st ps sp) (hr : RoomG j X.A) (hk : k + 1 ≤ j) (hx : Passes CX X E) (b : BndMP "__len__" q st ps) : CallR X (.builtin "len") (rLenO C sp E) := by
  intro pins s σ H xs us Q I r h
  obtain ⟨f, fd, F, hm, hfi, G⟩ := c.ex
  obtain ⟨oc, od, kV, doc, pm, an, cdv, ct, osl, rfl, lk, hcd⟩ := F.ex
  obtain ⟨a, dx, fs, rfl, ea, q⟩ := h
  obtain rfl := Vals.ref1 r
  obtain ⟨mA, O, _, _, _, _⟩ := ins_get I.hok ea
  obtain ⟨od', J, _⟩ := O.look
  have h1 := G.len _ _ _ _ q
  have T := I.tok s.toks
  refine Calls.call_function_entry kind_len plain_len entry_len (args_len1 _) ?_
  unfold Builtin.«len»
  refine wpAny_bind (m := oneArg "len" _) (wpAny_pure ?_)
  refine wpAny_bind (m := callSpecial? (.ref a) (Str.ofString "__len__")) (PySem.W.special_fn I.kIn J hm.at_ (beq_iff_eq.mp hm.fn) (run_in1 G (hr.mono hk) (.of_eq (b kV doc pm cdv ct an [.ref a] h1)) hx I (.cons rfl .nil : Vals [.ref a] [.ref a]) q fun u s' z => ?_))
  obtain ⟨v, H', I3, rv, n, rfl, h0, h2, q3⟩ := z
  obtain ⟨tk, rfl⟩ := rv
  refine wpAny_bind (wpAny_holding (wpAny_pure ?_))
  refine wpAny_bind (wpAny_letGo ?_)
  show wpAny _ _ (if n < 0 then _ else _) _ _ _
  rw [if_neg (by omega)]
  show wpAny _ _ (if n ≥ 2 ^ 63 then _ else _) _ _ _
  rw [if_neg (by omega)]
  exact wpAny_bind (wpAny_mkInt (wpAny_pure ⟨_, rfl, .int n, H', I3.tok _, ⟨_, rfl⟩, q3⟩))
end
open PySem PySem.Spec PySem.Calls PyProof.Rows L2
theorem rv_ref (a : Addr) : RelV (.ref a) (.ref a) := rfl
/-- a value of the layer is never NotImplemented -/
theorem cb_of {X : Cx} {pins : List (Addr × Obj)} {σ : L2.St} {Q : VK} {u : Value} {s : Shared} (h : EP X pins σ Q u s) : PySem.W.CmpBack (EP X pins σ Q) u s := by
  unfold PySem.W.CmpBack
  split
  · obtain ⟨v, H', _, r, _⟩ := h
    cases v <;> first | (obtain ⟨_, e⟩ := r; cases e) | cases r
  · exact h
section
variable {prog : Program} {w : World} {A : Around} {E : Value → Shared → Prop} {s : Shared} {K : PySem.W.Frag} {x C f : Addr} {ox : Obj} {od : Option Obj}
theorem mro_self (hc : PySem.W.selfFirst K C = true) : ∃ cd rest, PySem.W.clsIn K C = some cd ∧ cd.mro = .ref C :: rest := by
  obtain ⟨cd, hcd, hm⟩ := PySem.W.any_some hc
  cases q : cd.mro with
  | nil => rw [q] at hm; cases hm
  | cons a r => rw [q] at hm; exact ⟨cd, r, hcd, by rw [List.head?_cons] at hm; cases (beq_iff_eq.mp hm); exact q⟩
/-- o op b, b of a built-in type without the slot -/
theorem binL {op : Operator} {b : Value} {T : String} {Q : Value → Shared → Prop} (X : K.In s.heap) (I : PySem.W.InstAt s.heap x ox C od) (hb : s.TypeIs b T) (hno : fillsNumberSlot (.type T) op.info.2 = pure false) (hc : PySem.W.selfFirst K C = true)
    (hs : PySem.W.findIn K (.ref C) (PySem.dunder op.info.2) = some (some (.ref f))) (hf : PySem.W.isFn K (.ref f) = true)
    (h : wpAny (model prog w) A (call (.ref f) [.ref x, b]) (PySem.W.CmpBack Q) E s) : wpAny (model prog w) A (binaryOp op (.ref x) b) Q E s := by
  obtain ⟨cd, rest, hcd, hm⟩ := mro_self hc
  unfold binaryOp
  refine wpAny_holding (wpAny_bind ?_)
  unfold binaryOp1
  refine wpAny_bind (I.type.here (wpAny_bind (wpAny_typeOf hb (wpAny_bind ((PySem.W.fills_K X hcd hm hs).here ?_)))))
  have hne : ((Value.ref C) == (Value.type T)) = false := by simp
  rw [hne]
  simp only [Bool.false_eq_true, if_false]
  refine wpAny_bind (wpAny_of_eq hno ?_)
  simp only [Bool.and_false, Bool.false_eq_true, if_false, Bool.false_and]
  refine wpAny_bind (wpAny_pure ?_)
  simp only [Bool.false_eq_true, if_false, if_true]
  refine wpAny_bind (m := tryMethod (.ref x) _ b) ?_
  unfold tryMethod
  refine wpAny_bind (PySem.W.special_fn X I hs (beq_iff_eq.mp hf) (wpAny_mono h (fun v s' hv => ?_) fun _ _ e => e))
  cases v <;> first | exact hv.elim | exact wpAny_pure (wpAny_pure (wpAny_pure hv))
/-- b op o, b of a built-in type without the slot: o's reflected method -/
theorem binR {op : Operator} {b : Value} {T : String} {g : Addr} {Q : Value → Shared → Prop} (X : K.In s.heap) (I : PySem.W.InstAt s.heap x ox C od) (hb : s.TypeIs b T) (hno : fillsNumberSlot (.type T) op.info.2 = pure false) (hc : PySem.W.selfFirst K C = true)
    (hs0 : PySem.W.findIn K (.ref C) (PySem.dunder op.info.2) = some (some (.ref g))) (hs : PySem.W.findIn K (.ref C) (PySem.dunderR op.info.2) = some (some (.ref f))) (hf : PySem.W.isFn K (.ref f) = true)
    (h : wpAny (model prog w) A (call (.ref f) [.ref x, b]) (PySem.W.CmpBack Q) E s) : wpAny (model prog w) A (binaryOp op b (.ref x)) Q E s := by
  obtain ⟨cd, rest, hcd, hm⟩ := mro_self hc
  unfold binaryOp
  refine wpAny_holding (wpAny_bind ?_)
  unfold binaryOp1
  refine wpAny_bind (wpAny_typeOf hb (wpAny_bind (I.type.here (wpAny_bind (wpAny_of_eq hno ?_)))))
  have hne : ((Value.type T) == (Value.ref C)) = false := by simp
  rw [hne]
  simp only [Bool.false_eq_true, if_false]
  refine wpAny_bind ((PySem.W.fills_K X hcd hm hs0).here ?_)
  simp only [Bool.and_false, Bool.false_eq_true, if_false, Bool.false_and]
  refine wpAny_bind (wpAny_pure ?_)
  simp only [Bool.false_eq_true, if_false, Bool.not_false, Bool.and_true, if_true]
  refine wpAny_bind (m := tryMethod (.ref x) _ b) ?_
  unfold tryMethod
  refine wpAny_bind (PySem.W.special_fn X I hs (beq_iff_eq.mp hf) (wpAny_mono h (fun v s' hv => ?_) fun _ _ e => e))
  cases v <;> first | exact hv.elim | exact wpAny_pure (wpAny_bind (wpAny_rule (wpAny_pure (wpAny_pure hv))))
/-- o op o', both of C -/
theorem binS {op : Operator} {b : Value} {Q : Value → Shared → Prop} (X : K.In s.heap) (I : PySem.W.InstAt s.heap x ox C od) (hb : PySem.W.Looks (model prog w) s.heap (typeOf b) (.ref C)) (hc : PySem.W.selfFirst K C = true)
    (hs : PySem.W.findIn K (.ref C) (PySem.dunder op.info.2) = some (some (.ref f))) (hf : PySem.W.isFn K (.ref f) = true)
    (h : wpAny (model prog w) A (call (.ref f) [.ref x, b]) (PySem.W.CmpBack Q) E s) : wpAny (model prog w) A (binaryOp op (.ref x) b) Q E s := by
  obtain ⟨cd, rest, hcd, hm⟩ := mro_self hc
  unfold binaryOp
  refine wpAny_holding (wpAny_bind ?_)
  unfold binaryOp1
  refine wpAny_bind (I.type.here (wpAny_bind (hb.here (wpAny_bind ((PySem.W.fills_K X hcd hm hs).here ?_)))))
  simp only [beq_self_eq_true, if_true]
  refine wpAny_bind (wpAny_pure ?_)
  simp only [Bool.and_false, Bool.false_eq_true, if_false, Bool.false_and]
  refine wpAny_bind (wpAny_pure ?_)
  simp only [Bool.false_eq_true, if_false]
  refine wpAny_bind (m := tryMethod (.ref x) _ b) ?_
  unfold tryMethod
  refine wpAny_bind (PySem.W.special_fn X I hs (beq_iff_eq.mp hf) (wpAny_mono h (fun v s' hv => ?_) fun _ _ e => e))
  cases v <;> first | exact hv.elim | exact wpAny_pure (wpAny_pure (wpAny_pure hv))
/-- o op b by a comparison's own method -/
theorem cmpO {op : CmpOp} {b tb : Value} {Q : Value → Shared → Prop} (hu : A.units < cLine) (X : K.In s.heap) (I : PySem.W.InstAt s.heap x ox C od) (hb : PySem.W.Looks (model prog w) s.heap (typeOf b) tb) (hn : PySem.W.notFirst K C tb = true)
    (hs : PySem.W.findIn K (.ref C) (cmpInfo op).2.1 = some (some (.ref f))) (hf : PySem.W.isFn K (.ref f) = true)
    (h : wpAny (model prog w) A (call (.ref f) [.ref x, b]) (PySem.W.CmpBack Q) E s) : wpAny (model prog w) A (richCompare op (.ref x) b) Q E s := by
  have one : wpAny (model prog w) A (tryCompare (.ref x) (cmpInfo op).2.1 b) (fun r s' => ∃ v, r = some v ∧ Q v s') E s := by
    unfold tryCompare
    refine wpAny_bind (PySem.W.ifBound_K X I hs hf (wpAny_mono h (fun v s' hv => ?_) fun _ _ e => e))
    cases v <;> first | exact hv.elim | exact wpAny_pure ⟨_, rfl, hv⟩
  unfold richCompare
  simp only [oneThing_ref]
  refine wpAny_holding (wpAny_bind (wpAny_cRoomFor hu ?_))
  refine wpAny_bind (I.type.here (wpAny_bind (hb.here ?_)))
  split
  · rename_i q
    have e : PySem.W.subIn K tb (.ref C) = some false := by
      rcases Bool.or_eq_true_iff.mp hn with e | e
      · rw [beq_iff_eq.mp e] at q; simp at q
      · exact beq_iff_eq.mp e
    refine wpAny_bind ((PySem.W.looks_subIn X e).here ?_)
    simp only [Bool.false_eq_true, if_false]
    refine wpAny_bind (wpAny_mono one (fun r s' z => ?_) fun _ _ e => e)
    obtain ⟨v, rfl, hq⟩ := z
    exact wpAny_pure hq
  · refine wpAny_bind (wpAny_pure ?_)
    simp only [Bool.false_eq_true, if_false]
    refine wpAny_bind (wpAny_mono one (fun r s' z => ?_) fun _ _ e => e)
    obtain ⟨v, rfl, hq⟩ := z
    exact wpAny_pure hq
/-- v in o -/
theorem inO {v : Value} {Q : Bool → Shared → Prop} (X : K.In s.heap) (I : PySem.W.InstAt s.heap x ox C od) (hs : PySem.W.findIn K (.ref C) "__contains__" = some (some (.ref f))) (hf : PySem.W.isFn K (.ref f) = true)
    (h : wpAny (model prog w) A (call (.ref f) [.ref x, v]) (fun r s' => wpAny (model prog w) A (truthy r) Q E s') E s) : wpAny (model prog w) A (contains (.ref x) v) Q E s := by
  unfold contains
  refine wpAny_holding (wpAny_bind (wpAny_bind (I.type.here ((PySem.W.looks_findIn X hs).here ?_))))
  rw [if_neg (by simp)]
  exact wpAny_bind (PySem.W.unlessNone_K X I hs hf h)
end
section
variable {X : Cx} {CX : CXT} {k j : Nat} {C : Addr} {m q : Str} {st : Stmt} {ps : List Str} {sp : Sp} {E : XK}
/-- a call of the method with these values -/
theorem run_mth (c : Mth X.prog X.w X.K X.mg X.base CX k C m q st ps sp) (hr : RoomG j X.A) (hk : k ≤ j) (hx : Passes CX X E) (b : BndMP m q st ps) :
    ∃ f, Meth X.K C m f ∧ ∀ {pins : List (Addr × Obj)} {σ : L2.St} {H : Hp} {s : Shared} {us : List Value} {vs : List V} {Q : VK}, Inv X pins σ H s → Vals vs us → sp vs H Q E → wpAny (model X.prog X.w) X.A (call (.ref f) us) (EP X pins σ Q) X.xe s := by
  obtain ⟨f, fd, F, hm, hfi, G⟩ := c.ex
  obtain ⟨oc, od, kV, doc, pm, an, cdv, ct, osl, rfl, lk, hcd⟩ := F.ex
  refine ⟨f, hm, fun I r h => run_g (kw := []) G (hr.mono hk) (.of_eq (b kV doc pm cdv ct an _ ?_)) hx I r h⟩
  have h0 := r.length
  have h1 := G.len _ _ _ _ h
  omega
theorem ins_at {pins : List (Addr × Obj)} {σ : L2.St} {H : Hp} {s : Shared} {a dx : Addr} {fs : List (Str × V)} (I : Inv X pins σ H s) (e : H a = some (.ins C dx fs)) : ∃ od, PySem.W.InstAt s.heap a (PySem.W.instObj C dx) C od := by
  obtain ⟨mA, O, _⟩ := ins_get I.hok e
  obtain ⟨od, J, _⟩ := O.look
  exact ⟨_, J⟩
def IsI (H : Hp) (C : Addr) (x : V) : Prop := ∃ a dx fs, x = .ref a ∧ H a = some (.ins C dx fs)
/-- of the built-in class T -/
def TyB (K : PySem.W.Frag) (T : String) (y : V) (H : Hp) : Prop := tyV K T y H ∨ (T = "tuple" ∧ ∃ t xs, y = .ref t ∧ H t = some (.tup xs))
theorem tyB_is {pins : List (Addr × Obj)} {σ : L2.St} {H : Hp} {s : Shared} {T : String} {y : V} {u : Value} (I : Inv X pins σ H s) (r : RelV y u) (ty : TyB X.K T y H) : s.TypeIs u T := by
  rcases ty with ty | ⟨rfl, t, xs, rfl, ht⟩
  · exact (tyV_is I r ty).1
  · obtain rfl : u = Value.ref t := r
    obtain ⟨_, its, r2, o, ho, hc, n, hd⟩ := I.hok _ _ ht
    exact ⟨o, ho, hc⟩
def rBinL (K : PySem.W.Frag) (C : Addr) (T : String) (sp : Sp) (E : XK) : R2 := fun x y H Q => IsI H C x ∧ TyB K T y H ∧ sp [x, y] H Q E
def rBinR (K : PySem.W.Frag) (C : Addr) (T : String) (sp : Sp) (E : XK) : R2 := fun y x H Q => IsI H C x ∧ TyB K T y H ∧ sp [x, y] H Q E
def rBinS (C : Addr) (sp : Sp) (E : XK) : R2 := fun x y H Q => IsI H C x ∧ IsI H C y ∧ sp [x, y] H Q E
theorem op_binL {op : Operator} {T : String} (c : Mth X.prog X.w X.K X.mg X.base CX k C (PySem.dunder op.info.2) q st ps sp) (hc : PySem.W.selfFirst X.K C = true) (hr : RoomG j X.A) (hk : k ≤ j) (hx : Passes CX X E) (b : BndMP (PySem.dunder op.info.2) q st ps)
    (hno : fillsNumberSlot (.type T) op.info.2 = pure false) : OpR X (binaryOp op) (rBinL X.K C T sp E) := by
  intro pins s σ H x y v u Q I rx ry h
  obtain ⟨⟨a, dx, fs, rfl, ea⟩, ty, q⟩ := h
  obtain rfl : v = Value.ref a := rx
  obtain ⟨f, hm, run⟩ := run_mth c hr hk hx b
  obtain ⟨od, J⟩ := ins_at I ea
  exact binL I.kIn J (tyB_is I ry ty) hno hc hm.at_ hm.fn (wpAny_mono (run I (.cons (rv_ref a) (.cons ry .nil)) q) (fun _ _ z => cb_of z) fun _ _ z => z)
theorem op_binR {op : Operator} {T : String} {g : Addr} (c : Mth X.prog X.w X.K X.mg X.base CX k C (PySem.dunderR op.info.2) q st ps sp) (hc : PySem.W.selfFirst X.K C = true) (hr : RoomG j X.A) (hk : k ≤ j) (hx : Passes CX X E) (b : BndMP (PySem.dunderR op.info.2) q st ps)
    (hno : fillsNumberSlot (.type T) op.info.2 = pure false) (h0 : Meth X.K C (PySem.dunder op.info.2) g) : OpR X (binaryOp op) (rBinR X.K C T sp E) := by
  intro pins s σ H y x u v Q I ry rx h
  obtain ⟨⟨a, dx, fs, rfl, ea⟩, ty, q⟩ := h
  obtain rfl : v = Value.ref a := rx
  obtain ⟨f, hm, run⟩ := run_mth c hr hk hx b
  obtain ⟨od, J⟩ := ins_at I ea
  exact binR I.kIn J (tyB_is I ry ty) hno hc h0.at_ hm.at_ hm.fn (wpAny_mono (run I (.cons (rv_ref a) (.cons ry .nil)) q) (fun _ _ z => cb_of z) fun _ _ z => z)
theorem op_binS {op : Operator} (c : Mth X.prog X.w X.K X.mg X.base CX k C (PySem.dunder op.info.2) q st ps sp) (hc : PySem.W.selfFirst X.K C = true) (hr : RoomG j X.A) (hk : k ≤ j) (hx : Passes CX X E) (b : BndMP (PySem.dunder op.info.2) q st ps) : OpR X (binaryOp op) (rBinS C sp E) := by
  intro pins s σ H x y v u Q I rx ry h
  obtain ⟨⟨a, dx, fs, rfl, ea⟩, ⟨a', dx', fs', rfl, ea'⟩, q⟩ := h
  obtain rfl : v = Value.ref a := rx
  obtain rfl : u = Value.ref a' := ry
  obtain ⟨f, hm, run⟩ := run_mth c hr hk hx b
  obtain ⟨od, J⟩ := ins_at I ea
  obtain ⟨od', J'⟩ := ins_at I ea'
  exact binS I.kIn J J'.type hc hm.at_ hm.fn (wpAny_mono (run I (.cons (rv_ref a) (.cons (rv_ref a') .nil)) q) (fun _ _ z => cb_of z) fun _ _ z => z)
/-- a comparison of two of C by its own method -/
theorem op_cmpS {op : CmpOp} (c : Mth X.prog X.w X.K X.mg X.base CX k C (cmpInfo op).2.1 q st ps sp) (hr : RoomG j X.A) (hk : k ≤ j) (hx : Passes CX X E) (b : BndMP (cmpInfo op).2.1 q st ps) (he : compareOp op = richCompare op) : OpR X (compareOp op) (rBinS C sp E) := by
  intro pins s σ H x y v u Q I rx ry h
  obtain ⟨⟨a, dx, fs, rfl, ea⟩, ⟨a', dx', fs', rfl, ea'⟩, q⟩ := h
  obtain rfl : v = Value.ref a := rx
  obtain rfl : u = Value.ref a' := ry
  obtain ⟨f, hm, run⟩ := run_mth c hr hk hx b
  obtain ⟨od, J⟩ := ins_at I ea
  obtain ⟨od', J'⟩ := ins_at I ea'
  rw [he]
  have hn : PySem.W.notFirst X.K C (.ref C) = true := by
    unfold PySem.W.notFirst
    rw [beq_self_eq_true, Bool.true_or]
  exact cmpO hr.r.units0 I.kIn J J'.type hn hm.at_ hm.fn (wpAny_mono (run I (.cons (rv_ref a) (.cons (rv_ref a') .nil)) q) (fun _ _ z => cb_of z) fun _ _ z => z)
/-- y in o: the method tells a truth value -/
def rInO (C : Addr) (neg : Bool) (sp : Sp) (E : XK) : R2 := fun y x H Q => IsI H C x ∧ sp [x, y] H (fun v H' => ∃ b, v = .bl b ∧ Q (.bl (if neg then !b else b)) H') E
theorem op_inO (c : Mth X.prog X.w X.K X.mg X.base CX k C "__contains__" q st ps sp) (hr : RoomG j X.A) (hk : k ≤ j) (hx : Passes CX X E) (b : BndMP "__contains__" q st ps) : OpR X (compareOp .In) (rInO C false sp E) := by
  intro pins s σ H y x u v Q I ry rx h
  obtain ⟨⟨a, dx, fs, rfl, ea⟩, q⟩ := h
  obtain rfl : v = Value.ref a := rx
  obtain ⟨f, hm, run⟩ := run_mth c hr hk hx b
  obtain ⟨od, J⟩ := ins_at I ea
  refine wpAny_bind (inO I.kIn J hm.at_ hm.fn (wpAny_mono (run I (.cons (rv_ref a) (.cons ry .nil)) q) (fun r s' z => ?_) fun _ _ z => z))
  obtain ⟨_, H', I3, rv, b, rfl, q3⟩ := z
  cases rv
  exact wpAny_pure (wpAny_pure ⟨.bl b, H', I3, rfl, q3⟩)
theorem op_notInO (c : Mth X.prog X.w X.K X.mg X.base CX k C "__contains__" q st ps sp) (hr : RoomG j X.A) (hk : k ≤ j) (hx : Passes CX X E) (b : BndMP "__contains__" q st ps) : OpR X (compareOp .NotIn) (rInO C true sp E) := by
  intro pins s σ H y x u v Q I ry rx h
  obtain ⟨⟨a, dx, fs, rfl, ea⟩, q⟩ := h
  obtain rfl : v = Value.ref a := rx
  obtain ⟨f, hm, run⟩ := run_mth c hr hk hx b
  obtain ⟨od, J⟩ := ins_at I ea
  refine wpAny_bind (inO I.kIn J hm.at_ hm.fn (wpAny_mono (run I (.cons (rv_ref a) (.cons ry .nil)) q) (fun r s' z => ?_) fun _ _ z => z))
  obtain ⟨_, H', I3, rv, b, rfl, q3⟩ := z
  cases rv
  exact wpAny_pure (wpAny_pure ⟨.bl (!b), H', I3, rfl, q3⟩)
end
open PySem PySem.Spec PySem.Calls PyProof.Rows L2
/-! ## instances made -/
/-- C(..) with n values and the keywords ks: its own __init__ keeps sp, called with g -/
structure Mkr (P : Program) (w : World) (K : PySem.W.Frag) (mg : Str → Option Value) (base : Heap) (CX : CXT) (k : Nat) (x : Str) (C : Addr) (ps : List Str) (sp : Sp) : Prop where
  ex : ∃ (f : Addr) (fd : FuncData), Mk K C f ∧ mg x = some (.ref C) ∧ FnG P w K mg base CX k f fd ps sp
/-- how arguments come to the parameters, defaults among them -/
def BndI (P : Program) (w : World) (K : PySem.W.Frag) (mg : Str → Option Value) (base : Heap) (CX : CXT) (k : Nat) (x : Str) (C : Addr) (ps : List Str) (sp : Sp) (n : Nat) (ks : List Str) (gV : List V → List V → List V) : Prop :=
  ∃ (f : Addr) (fd : FuncData) (g : List Value → List Value → List Value), Mk K C f ∧ mg x = some (.ref C) ∧ FnG P w K mg base CX k f fd ps sp ∧ KBn K fd ps (n + 1) ks g gV
section
variable {X : Cx} {CX : CXT} {k j n : Nat} {C : Addr} {ps ks : List Str} {sp : Sp} {E : XK} {x : Str} {p pos : Pos} {e : Expr} {es : List Expr} {kws : List Keyword} {t tk : TA} {gV : List V → List V → List V}
theorem run_mk {pins : List (Addr × Obj)} {σ : L2.St} {H : Hp} {s : Shared} {Q : VK} {us ws : List Value} {vs zs : List V} {f : Addr} {fd : FuncData} {g : List Value → List Value → List Value} (M : Mk X.K C f) (F : FnG X.prog X.w X.K X.mg X.base CX k f fd ps sp) (hr : RoomG (k + 1) X.A)
    (hb : KBn X.K fd ps (n + 1) ks g gV) (hx : Passes CX X E) (I : Inv X pins σ H s) (r : Vals vs us) (rz : Vals zs ws) (l1 : vs.length = n) (l2 : zs.length = ks.length)
    (h : ∀ x dx, H x = none → H dx = none → dx ≠ x → sp (gV (.ref x :: vs) zs) (upd (upd H dx (.own x)) x (.ins C dx [])) (fun v H2 => v = .non ∧ Q (.ref x) H2) E) :
    wpAny (model X.prog X.w) X.A (call (.ref C) us (ks.zip ws)) (EP X pins σ Q) X.xe s := by
  have hq := h (s.heap.objs.size + 1) s.heap.objs.size (I.hok.fresh (Nat.le_succ _)) (I.hok.fresh (Nat.le_refl _)) (Nat.ne_of_lt (Nat.lt_succ_self _))
  have I2 := Inv.made (C := C) I
  have r1 : Vals (V.ref (s.heap.objs.size + 1) :: vs) (Value.ref (s.heap.objs.size + 1) :: us) := .cons rfl r
  have r2 := hb.rel r1 rz
  have e1 : (Value.ref (s.heap.objs.size + 1) :: us).length = n + 1 := r1.length.symm.trans (congrArg Nat.succ l1)
  have e2 : ws.length = ks.length := rz.length.symm.trans l2
  refine wpAny_call (make_map (f := f) I.kIn M.makes M.init (beq_iff_eq.mp M.fn) (codeAny_mono (F.run _ X.stack _ _ ⟨Value.ref (s.heap.objs.size + 1) :: us, ks.zip ws⟩ (g (Value.ref (s.heap.objs.size + 1) :: us) ws) _ _ E (hr.make C us (ks.zip ws))
    (I2.env0.make C us (ks.zip ws)) (hb.to _ (Value.ref (s.heap.objs.size + 1) :: us) ws I2.kIn e1 e2) r2 hq) fun r s' hq' => ?_))
  cases r with
  | error e => exact hx pins σ _ _ e s' I2 hq'
  | ok fl =>
    cases fl with
    | ret u =>
      obtain ⟨v, H', I3, rv, ev, q3⟩ := I2.after hq'
      subst ev
      exact ⟨rv, ⟨V.ref (s.heap.objs.size + 1), H', I3, rfl, q3⟩⟩
    | next => exact False.elim hq'
    | brk => exact False.elim hq'
    | cont => exact False.elim hq'
def tMk (C : Addr) (n m : Nat) (sp : Sp) (gV : List V → List V → List V) (E : XK) (t tk : TA) : TE := fun σ H Q => t σ H fun vs H1 => tk σ H1 fun zs H2 => vs.length = n ∧ zs.length = m ∧
  ∀ x dx, H2 x = none → H2 dx = none → dx ≠ x → sp (gV (.ref x :: vs) zs) (upd (upd H2 dx (.own x)) x (.ins C dx [])) (fun v H3 => v = .non ∧ Q (.ref x) H3) E
/-- C(e, .., k = e, ..) -/
theorem pe_mk (c : BndI X.prog X.w X.K X.mg X.base CX k x C ps sp n ks gV) (hr : RoomG j X.A) (hk : k + 1 ≤ j) (hx : Passes CX X E) (hg : Gl X x)
    (ha : PA X (e :: es) t) (hkw : PK X kws tk) (hall : (backToKw pos (keywordEach kws X.env)).all (·.1.isSome) = true := by rfl) (hks : (backToKw pos (keywordEach kws X.env)).filterMap (·.1) = ks := by rfl)
    (hdb : (x == ("__debug__" : Str)) = false := by decide) (he : starEach (e :: es) X.env = (false, eval e X.env) :: starEach es X.env := by rfl)
    (hpl : ((backTo pos (starEach (e :: es) X.env)).any (·.1) || (backToKw pos (keywordEach kws X.env)).any (·.1.isNone)) = false := by rfl) :
    PE X (.Call (.Name x p) (e :: es) kws pos) (tMk C n ks.length sp gV E t tk) := by
  obtain ⟨f, fd, g, M, hm, F, hb⟩ := c
  refine ⟨fun pins s σ H Q I h => wpAny_Call_Name_kw (ld_glob I hg hm ?_ hdb)⟩
  refine PySem.W.callWith_KW (h₀ := X.base) I.ok.mod.kin M.kp hall (thn (ha.run pos pins s σ H _ I h) fun us s1 ⟨vs, H1, I1, r, q⟩ => ?_) hpl he
  refine thn (hkw.run pos pins s1 σ H1 _ I1 q) fun ws s2 ⟨zs, H2, I2, rz, l1, l2, q2⟩ => ⟨I2.kIn, ?_⟩
  rw [hks]
  exact run_mk M F (hr.mono hk) hb hx I2 r rz l1 l2 q2
/-! ## an instance called by keywords -/
theorem callO_kw {M : Model} {A : Around} {E : Value → Shared → Prop} {s : Shared} {a : Addr} {pos : Pos} {Q : Value → Shared → Prop} {args : List (Bool × Sem Value)} {kws : List (Option Str × Sem Value)} (hplain : (args.any (·.1) || kws.any (·.1.isNone)) = false)
    (h : wpAny M A (evalArgs (.ref a) true args kws) (fun z s₁ => (∃ C ox od, PySem.W.InstAt s₁.heap a ox C od ∧ ox.data = .plain) ∧ wpAny M A (call (.ref a) ([] ++ z.pos) z.kw) Q E s₁) E s) : wpAny M A (callWith pos (.ref a) [] args kws) Q E s := by
  unfold callWith
  refine wpAny_bind (wpAny_holding (wpAny_mono h (fun z s₁ h₁ => wpAny_bind (wpAny_standAt ?_)) fun _ _ y => y))
  obtain ⟨⟨C, ox, od, J, hd⟩, h₁⟩ := h₁
  have L := PySem.W.kco_keeper (M := M) J hd
  simp only [hplain]
  refine wpAny_bind (L.here ?_)
  have tail : ∀ {t : Sem Value}, wpAny M A t Q E s₁ → wpAny M A (t >>= fun r => holding [r] point >>= fun _ => pure r) Q E s₁ :=
    fun ht => wpAny_bind (wpAny_mono ht (fun r s₂ hr => wpAny_bind (wpAny_holding (wpAny_point (wpAny_pure hr)))) fun _ _ y => y)
  exact tail (wpAny_operateT h₁)
def tOK (C : Addr) (sp : Sp) (n : Nat) (ix : List Nat) (E : XK) (tf : TE) (tk : TA) : TE := fun σ H Q => tf σ H fun y H1 => ∃ a, y = V.ref a ∧ tk σ H1 fun zs H2 => (∃ dx fs, H2 a = some (.ins C dx fs)) ∧ zs.length = n ∧ sp (sel ix (.ref a :: zs)) H2 Q E
theorem pe_oK {q : Str} {st : Stmt} {fe : Expr} {tf : TE} {ix : List Nat} (c : Mth X.prog X.w X.K X.mg X.base CX k C "__call__" q st ps sp) (hr : RoomG j X.A) (hk : k ≤ j) (hx : Passes CX X E) (b : BndM "__call__" q st ps 1 ks ix) (hf : PE X fe tf) (hkw : PK X kws tk)
    (hall : (backToKw pos (keywordEach kws X.env)).all (·.1.isSome) = true := by rfl) (hks : (backToKw pos (keywordEach kws X.env)).filterMap (·.1) = ks := by rfl)
    (ht : eval (.Call fe [] kws pos) X.env = (do callWith pos (← eval fe X.env) [] (backTo pos (starEach [] X.env)) (backToKw pos (keywordEach kws X.env))) := by rfl)
    (hpl : ((backTo pos (starEach [] X.env)).any (·.1) || (backToKw pos (keywordEach kws X.env)).any (·.1.isNone)) = false := by rfl) : PE X (.Call fe [] kws pos) (tOK C sp ks.length ix E tf tk) := by
  obtain ⟨f, fd, F, hm, hfi, G⟩ := c.ex
  obtain ⟨oc, od, kV, doc, pm, an, cdv, ct, osl, rfl, lk, hcd⟩ := F.ex
  refine ⟨fun pins s σ H Q I h => ?_⟩
  rw [ht]
  refine wpAny_bind (thn (hf.run pins s σ H _ I h) fun u s1 ⟨y, H1, I1, ry, a, ey, q⟩ => ?_)
  subst ey
  obtain rfl : u = Value.ref a := ry
  refine callO_kw hpl (evalArgs_kw2_nil hall (thn (hkw.run pos pins s1 σ H1 _ I1 q) fun ws s2 ⟨zs, H2, I2, rz, ⟨dx, fs, hi⟩, l2, q2⟩ => ?_))
  obtain ⟨ox, od, J, hd⟩ := StX.insC_at I2 (.inr ⟨dx, fs, hi⟩)
  refine ⟨⟨C, ox, od, J, hd⟩, wpAny_call (PySem.W.kco_code I2.kIn J hd hm.at_ hm.fn hfi ?_)⟩
  rw [hks]
  refine codeAny_mono (G.run X.A X.stack s2 H2 ⟨[.ref a], ks.zip ws⟩ (sel ix (.ref a :: ws)) (sel ix (.ref a :: zs)) Q E (hr.mono hk) I2.env0 (.of_eq (b kV doc pm cdv ct an [.ref a] ws rfl (rz.length.symm.trans l2))) (sel_vals (xs := .ref a :: zs) (us := .ref a :: ws) (.cons rfl rz) ix) q2) fun y s' z => ?_
  match y, z with
  | .error e, z => exact hx pins σ H2 s2 e s' I2 z
  | .ok (.ret u), z => exact I2.after z
  | .ok .next, z => exact z.elim
  | .ok .brk, z => exact z.elim
  | .ok .cont, z => exact z.elim
end
open PySem PySem.Spec PySem.Calls PyProof.Rows L2
section
variable {prog : Program} {w : World} {K : Type} [DecidableEq K] {knd : KeyKind prog w K} {A : Around} {E : Value → Shared → Prop} {s : Shared}
theorem dictPut_pairs {d : Addr} {kvs : List (K × Value)} {k : K} {key v : Value} {Q : Unit → Shared → Prop} (hkey : knd.is k key = true) (hm : s.heap.DictOf knd d kvs)
    (hQ : ∀ h', h'.DictOf knd d (stored kvs k v) → Heap.SameBut d s.heap h' → Q () { s with heap := h' })
    (hsz : kvs.length ≤ sizeLine) : wpAny (model prog w) A (dictPut d (knd.hash k) key v) Q E s := by
  obtain ⟨o, es, ep, ho, hc, hd, hk, hp, hn⟩ := hm
  have hes : es.size ≤ sizeLine := by have e1 := hp.length; have e2 : es.toList.length = es.size := by simp
                                      omega
  unfold dictPut
  refine wpAny_bind (wpAny_dictFind_of hkey ho hd hk ?_)
  have hidx : (es.findIdx? fun e => knd.is k e.key) = kvs.findIdx? fun kv => decide (kv.1 = k) := by
    rw [← hp.findIdx k]; obtain ⟨l⟩ := es; simp
  cases hi : es.findIdx? fun e => knd.is k e.key with
  | some i =>
    refine wpAny_updateDict ho hd (hQ _ ⟨_, _, ep, Heap.get?_update_self _ ho (Obj.isFreed_of_dict (Obj.data_mapDict hd _)),
      hc.mapDict _, Obj.data_mapDict hd _, hk.modify _ _, ?_, ?_⟩ (Heap.SameBut.update ..))
    · rw [stored, if_pos (any_of_findIdx_some (hidx ▸ hi))]
      have hl : (es.toList.findIdx? fun e => knd.is k e.key) = some i := by rw [← hi]; obtain ⟨l⟩ := es; simp
      have := hp.modify hn hl v
      obtain ⟨l⟩ := es
      simpa using this
    · rw [stored, if_pos (any_of_findIdx_some (hidx ▸ hi)), keys_map_store]; exact hn
  | none =>
    have hnot : k ∉ kvs.map (·.1) := not_mem_of_findIdx_none (hidx ▸ hi)
    have hany : ¬ (kvs.any fun kv => decide (kv.1 = k)) = true := by
      rw [List.any_eq_true]; rintro ⟨kv, hkv, he⟩
      exact hnot (List.mem_map.mpr ⟨kv, hkv, of_decide_eq_true he⟩)
    refine wpAny_updateDictKeys (hz := hes) ho hd (hQ _ ⟨_, _, ep + 1, Heap.get?_update_self _ ho (Obj.isFreed_of_dict (Obj.data_mapDictKeys hd _)),
      hc.mapDictKeys _, Obj.data_mapDictKeys hd _, hk.push hkey _, ?_, ?_⟩ (Heap.SameBut.update ..))
    · rw [stored, if_neg hany]
      have := hp.append hkey (knd.hash k) v
      obtain ⟨l⟩ := es
      simpa using this
    · rw [stored, if_neg hany, List.map_append, List.nodup_append]
      refine ⟨hn, by simp, ?_⟩
      intro a ha b hb
      simp only [List.map_cons, List.map_nil, List.mem_singleton] at hb
      subst hb
      exact fun e => hnot (e ▸ ha)
/-- the keys of the dict are told by value -/
theorem merge_map {d o : Addr} {kvs more : List (K × Value)} {Q : Unit → Shared → Prop} (hdo : d ≠ o) (hoS : (o == sysModules) = false) (hd : s.heap.DictOf knd d kvs) (ho : s.heap.DictOf knd o more)
    (href : ∀ (k : K) (v : Value), knd.is k v = true → ∀ a, v ≠ .ref a)
    (hQ : ∀ h', h'.DictOf knd d (merged kvs more) → h'.DictOf knd o more → Heap.SameBut d s.heap h' → Q () { s with heap := h' })
    (hsz : kvs.length + more.length ≤ sizeLine) : wpAny (model prog w) A (mergeMapping d (.ref o) false) Q E s := by
  obtain ⟨od, esd, epd, hod, hcd, hdd, hkd, hpd, hnd⟩ := id hd
  obtain ⟨oo, eso, epo, hoo, hco, hdo', hko, hpo, hno⟩ := id ho
  have hlen : more.length = eso.size := by rw [← hpo.length]; simp
  unfold mergeMapping
  refine wpAny_bind (wpAny_isInstance ho.typeIs isSubtype_dict_dict ?_)
  rw [if_pos rfl]
  refine wpAny_bind (wpAny_specialOf ho.typeIs F.slot_dict_iter.lookup ?_)
  rw [show (some (Value.builtin "dict.__iter__") == some (Value.builtin "dict.__iter__")) = true from rfl]
  refine wpAny_bind (wpAny_pure ?_)
  dsimp only
  rw [if_neg (show ¬ (o == sysModules) = true by rw [hoS]; exact Bool.false_ne_true)]
  refine wpAny_bind (wpAny_dictEntries hod hdd ?_)
  have loop : ∀ s1 : Shared, s1 = s → wpAny (model prog w) A (do
      let l ← dictEntries o
      let epoch ← dictEpoch o
      forIn (List.range l.size) PUnit.unit fun i (_ : PUnit) => (do
          let l' ← dictEntries o
          match l'[i]? with
            | some e => do
              holding [e.key, e.val] (dictPut d e.hash e.key e.val)
              let ep' ← dictEpoch o
              if (ep' != epoch) = true then do
                  (unsupported "dict.changed-during-merge" : Sem PUnit)
                  pure (ForInStep.yield PUnit.unit)
                else pure (ForInStep.yield PUnit.unit)
            | _ => do
              (unsupported "dict.changed-during-merge" : Sem PUnit)
              pure (ForInStep.yield PUnit.unit) : Sem (ForInStep PUnit))
      pure ()) Q E s1 := by
    intro s1 e1
    subst e1
    refine wpAny_bind (wpAny_dictEntries hoo hdo' ?_)
    refine wpAny_bind (wpAny_dictEpoch hoo hdo' ?_)
    refine wpAny_bind ?_
    rw [List.range_eq_range']
    refine wpAny_forIn_list _
      (fun rest _ s' => ∃ h' i, s' = { s1 with heap := h' } ∧ rest = List.range' i (eso.size - i) ∧ i ≤ eso.size ∧ h'.DictOf knd d (merged kvs (more.take i)) ∧ h'.get? o = some oo ∧ Heap.SameBut d s1.heap h')
      _ ?_ ?_ _ _ ⟨s1.heap, 0, rfl, by simp, Nat.zero_le _, by simpa [merged] using hd, hoo, Heap.SameBut.refl _ _⟩
    · rintro x rest b s' ⟨h', i, rfl, hr, hi, hd', hoo', hs'⟩
      have hlt : i < eso.size := by
        rcases Nat.lt_or_ge i eso.size with h | h
        · exact h
        · rw [Nat.sub_eq_zero_of_le h] at hr; simp at hr
      obtain ⟨rfl, hrest⟩ : x = i ∧ rest = List.range' (i + 1) (eso.size - (i + 1)) := by
        have e : eso.size - i = (eso.size - (i + 1)) + 1 := by omega
        rw [e, List.range'_succ] at hr
        injection hr with h1 h2
        exact ⟨h1, h2⟩
      refine wpAny_bind (wpAny_dictEntries hoo' hdo' ?_)
      rw [Array.getElem?_eq_getElem hlt]
      obtain ⟨kv, hkv⟩ : ∃ kv, more[x]? = some kv := ⟨more[x]'(by rw [hlen]; exact hlt), List.getElem?_eq_getElem _⟩
      obtain ⟨k, v⟩ := kv
      obtain ⟨hkey, hval⟩ := hpo.get? (e := eso[x]) (by simp [hlt]) hkv
      obtain ⟨k', hkey', hhash⟩ := hko eso[x] (Array.getElem_mem hlt)
      obtain rfl : k' = k := knd.inj _ _ _ hkey' hkey
      show wpAny _ _ (holding [eso[x].key, eso[x].val] (dictPut d eso[x].hash eso[x].key eso[x].val) >>= _) _ _ _
      rw [hhash, hval]
      have hmx : (merged kvs (more.take x)).length ≤ sizeLine := by
        have e1 := merged_length_le kvs (more.take x)
        have e2 : (more.take x).length ≤ more.length := by rw [List.length_take]; omega
        omega
      refine wpAny_bind (wpAny_holding (dictPut_pairs (hsz := hmx) hkey hd' fun h'' hd'' hs'' => ?_))
      have hoo'' : h''.get? o = some oo := (hs''.2 o (Ne.symm hdo)).trans hoo'
      refine wpAny_bind (wpAny_dictEpoch hoo'' hdo' ?_)
      rw [if_neg (by simp)]
      exact wpAny_pure ⟨h'', x + 1, rfl, hrest, hlt, by rw [merged_take_succ kvs more x (k', v) hkv]; exact hd'', hoo'', hs'.trans hs''⟩
    · rintro b s' ⟨h', i, rfl, hr, hi, hd', hoo', hs'⟩
      have hin : i = eso.size := by
        rcases Nat.lt_or_ge i eso.size with h | h
        · have e : eso.size - i = (eso.size - (i + 1)) + 1 := by omega
          rw [e, List.range'_succ] at hr; exact nomatch hr
        · exact Nat.le_antisymm hi h
      refine wpAny_pure (hQ h' ?_ ⟨oo, eso, epo, hoo', hco, hdo', hko, hpo, hno⟩ hs')
      rw [hin, ← hlen, List.take_length] at hd'; exact hd'
  split
  · refine wpAny_bind (wpAny_dictEntries hoo hdo' ?_)
    have hloop : (forIn eso PUnit.unit fun e (_ : PUnit) => (match e.key with
          | Value.ref a => do
            let lk ← specialOf e.key (Str.ofString "__eq__")
            if (lk != some (Value.builtin "object.__eq__")) = true then
                if (Array.filter (fun x => x.hash == e.hash) eso).size > 1 then do
                  (unsupported "dict.merge-into-an-empty-dict:keys-of-equal-hash" : Sem PUnit)
                  pure (ForInStep.yield PUnit.unit)
                else pure (ForInStep.yield PUnit.unit)
              else pure (ForInStep.yield PUnit.unit)
          | x => pure (ForInStep.yield PUnit.unit) : Sem (ForInStep PUnit))) = pure PUnit.unit := by
      rw [← Array.forIn_toList]
      refine forIn_yield_id _ fun e he c => ?_
      obtain ⟨k, hkey, _⟩ := hko e (Array.mem_toList_iff.mp he)
      have hn := href k e.key hkey
      split
      · rename_i a q
        exact absurd q (hn a)
      · rfl
    refine wpAny_bind (wpAny_of_eq hloop ?_)
    exact loop s rfl
  · exact loop s rfl
end
open PySem PySem.Spec PySem.Calls PyProof.Rows L2
section
variable {prog : Program} {w : World} {A : Around} {s : Shared} {K : Type} [DecidableEq K] {knd : KeyKind prog w K}
theorem wp_onR {M : Model} {α : Type} {t : Sem α} {h : Value → Sem Unit} {Q : α → Shared → Prop} {E : Value → Shared → Prop} (ht : wpAny M A t Q (fun _ _ => False) s) : wpAny M A (t.onRaise h) Q E s :=
  wpAny_onRaise (wpAny_mono ht (fun _ _ z => z) fun _ _ z => z.elim)
theorem wp_tryC {M : Model} {α : Type} {t : Sem α} {h : Value → Sem α} {Q : α → Shared → Prop} {E : Value → Shared → Prop} (ht : wpAny M A t Q (fun _ _ => False) s) : wpAny M A (t.tryCatch h) Q E s :=
  wpAny_tryCatch (wpAny_mono ht (fun _ _ z => z) fun _ _ z => z.elim)
/-- the dict at o into the one at d -/
def Mrg1 (knd : KeyKind prog w K) (d : Addr) (s : Shared) (o : Addr) (Q : Shared → Prop) : Prop :=
  ∃ kvs more, d ≠ o ∧ (o == sysModules) = false ∧ s.heap.DictOf knd d kvs ∧ s.heap.DictOf knd o more ∧ kvs.length + more.length ≤ sizeLine ∧ ∀ h', h'.DictOf knd d (merged kvs more) → Heap.SameBut d s.heap h' → Q { s with heap := h' }
theorem mrg1_run {d o : Addr} {Q : Shared → Prop} {E : Value → Shared → Prop} (href : ∀ (k : K) (v : Value), knd.is k v = true → ∀ a, v ≠ .ref a) (h : Mrg1 knd d s o Q) : wpAny (model prog w) A (mergeMapping d (.ref o) false) (fun _ => Q) E s := by
  obtain ⟨kvs, more, h1, h2, h3, h4, h5, h6⟩ := h
  exact merge_map h1 h2 h3 h4 href (fun h' a _ c => h6 h' a c) h5
theorem disp_star1 {m k v : Sem Value} {E : Value → Shared → Prop} {Q : Value → Shared → Prop} (href : ∀ (k : K) (v : Value), knd.is k v = true → ∀ a, v ≠ .ref a)
    (hx : wpAny (model prog w) A m (fun x s1 => ∃ o, x = .ref o ∧ Mrg1 knd s.heap.objs.size s1 o fun s2 => wpAny (model prog w) A (subDict [(k, v)]) (fun b s3 => Mrg1 knd s.heap.objs.size s3 b fun s4 => Q (.ref s.heap.objs.size) s4) E s2) E
      { s with heap := s.heap.push { cls := .type "dict", data := .dict #[] } }) : wpAny (model prog w) A (dictDisplay [(none, m), (some k, v)]) Q E s := by
  unfold dictDisplay
  dsimp only
  simp only [List.forIn_cons, List.forIn_nil, List.isEmpty_nil, if_true, pure_bind]
  refine wpAny_bind (wpAny_bind (wpAny_bind (wpAny_alloc ?_)))
  refine wpAny_bind (wpAny_holding (wpAny_mono hx (fun x s1 z => ?_) fun _ _ z => z))
  obtain ⟨o, rfl, z⟩ := z
  refine wpAny_bind (wp_onR (wp_tryC (wp_onR (wpAny_holding (wpAny_mono (mrg1_run href z) (fun _ s2 z2 => ?_) fun _ _ z => z)))))
  refine wpAny_pure ?_
  refine wpAny_bind (wpAny_pure (wpAny_pure ?_))
  refine wpAny_bind (wpAny_bind (wpAny_holding (wpAny_mono z2 (fun b s3 z3 => ?_) fun _ _ z => z)))
  refine wpAny_bind (wp_onR (wpAny_holding (wpAny_mono (mrg1_run href z3) (fun _ s4 z4 => ?_) fun _ _ z => z)))
  exact wpAny_pure (wpAny_pure z4)
theorem disp_star2 {m m2 : Sem Value} {E : Value → Shared → Prop} {Q : Value → Shared → Prop} (href : ∀ (k : K) (v : Value), knd.is k v = true → ∀ a, v ≠ .ref a)
    (hx : wpAny (model prog w) A m (fun x s1 => ∃ o, x = .ref o ∧ Mrg1 knd s.heap.objs.size s1 o fun s2 => wpAny (model prog w) A m2 (fun y s3 => ∃ b, y = .ref b ∧ Mrg1 knd s.heap.objs.size s3 b fun s4 => Q (.ref s.heap.objs.size) s4) E s2) E
      { s with heap := s.heap.push { cls := .type "dict", data := .dict #[] } }) : wpAny (model prog w) A (dictDisplay [(none, m), (none, m2)]) Q E s := by
  unfold dictDisplay
  dsimp only
  simp only [List.forIn_cons, List.forIn_nil, List.isEmpty_nil, if_true, pure_bind]
  refine wpAny_bind (wpAny_bind (wpAny_bind (wpAny_alloc ?_)))
  refine wpAny_bind (wpAny_holding (wpAny_mono hx (fun x s1 z => ?_) fun _ _ z => z))
  obtain ⟨o, rfl, z⟩ := z
  refine wpAny_bind (wp_onR (wp_tryC (wp_onR (wpAny_holding (wpAny_mono (mrg1_run href z) (fun _ s2 z2 => ?_) fun _ _ z => z)))))
  refine wpAny_pure ?_
  simp only [List.isEmpty_nil, if_true, pure_bind]
  refine wpAny_bind (wpAny_bind (wpAny_holding (wpAny_mono z2 (fun y s3 z3 => ?_) fun _ _ z => z)))
  obtain ⟨b, rfl, z3⟩ := z3
  refine wpAny_bind (wp_onR (wp_tryC (wp_onR (wpAny_holding (wpAny_mono (mrg1_run href z3) (fun _ s4 z4 => ?_) fun _ _ z => z)))))
  refine wpAny_pure ?_
  exact wpAny_pure (wpAny_pure z4)
end
theorem szl1 : 1 ≤ sizeLine := by rw [sizeLine_eq]; decide
/-! ## {**a, k: v}, {**a, **b} over the layer -/
theorem mix_href {P : Program} {w : World} (k : Key) (v : Value) (h : (mixKind P w).is k v = true) (a : Addr) : v ≠ .ref a := by
  rcases keyIs_shape (k := k) (v := v) h with ⟨i, t, _, e⟩ | ⟨i, t, _, e⟩ <;> (rw [e]; intro z; cases z)
section
variable {X : Cx} {pins : List (Addr × Obj)} {σ : L2.St} {H : Hp} {s : Shared}
/-- one merging -/
theorem mrg_lay {d o : Addr} {kvs more : List (Key × V)} {Q : Shared → Prop} (I : Inv X pins σ H s) (hd : H d = some (.dK kvs)) (ho : Rd H o (.dK more)) (hne : d ≠ o) (hz : kvs.length + more.length ≤ sizeLine)
    (hq : ∀ s', Inv X pins σ (upd H d (.dK (mergeK kvs more))) s' → Q s') : Mrg1 (mixKind X.prog X.w) d s o Q := by
  obtain ⟨z1, l1, vs1, r1, d1⟩ := dk_of I.hok hd
  obtain ⟨z2, l2, vs2, r2, d2⟩ := dk_rd I.hok ho
  refine ⟨vs1, vs2, hne, l2, d1, d2, by rw [← r1.length, ← r2.length]; exact hz, fun h' dd hs => hq _ ?_⟩
  have he : ∃ q, h'.get? d = some q := let ⟨q, _, _, hq, _⟩ := dd; ⟨q, hq⟩
  exact d_write I (by rw [hd]; exact True.intro) hs he (dk_new (Nat.le_trans (length_mergeK more kvs) hz) l1 (r2.merge r1) dd)
end
section
variable {X : Cx} {pos : Pos} {e1 e2 k v : Expr} {t1 t2 tk tv : TE}
def tStar1 (t1 tk tv : TE) : TE := fun σ H Q => ∀ d, H d = none → t1 σ (upd H d (.dK [])) fun x H1 => ∃ a more, x = .ref a ∧ d ≠ a ∧ H1 d = some (.dK []) ∧ Rd H1 a (.dK more) ∧
  ∀ b, upd H1 d (.dK (mergeK [] more)) b = none → tPairs [(tk, tv)] σ (upd (upd H1 d (.dK (mergeK [] more))) b (.dK [])) fun ps H2 => ∃ (key : Key) (y : V) (kvs : List (Key × V)), ps = [(kV key, y)] ∧ H2 b = some (.dK []) ∧ H2 d = some (.dK kvs) ∧ kvs.length + 1 ≤ sizeLine ∧
    Q (.ref d) (upd (upd H2 b (.dK [(key, y)])) d (.dK (putK kvs key y)))
theorem pe_star1 (h1 : PE X e1 t1) (hk : PE X k tk) (hv : PE X v tv) : PE X (.Dict [none, some k] [e1, v] pos) (tStar1 t1 tk tv) := by
  refine ⟨fun pins s σ H Q I q => ?_⟩
  rw [arm_eval_Dict]
  refine wpAny_bind (wpAny_standAt ?_)
  show wpAny _ _ (dictDisplay [(none, do let x ← eval e1 X.env; standAt pos; pure x), (some (eval k X.env), do let x ← eval v X.env; standAt pos; pure x)]) _ _ _
  have hn := I.hok.fresh (Nat.le_refl s.heap.objs.size)
  have I1 := I.laid (a := s.heap.objs.size) (o := .dK []) (h' := s.heap.push { cls := .type "dict", data := .dict #[] }) (t' := s.toks) (fun _ _ q => Heap.get?_push_of_some _ q) (Nat.le_refl _) (dk_empty s.heap I.big)
  refine disp_star1 (knd := mixKind X.prog X.w) mix_href (wpAny_bind (thn (h1.run pins _ σ _ _ I1 (q _ hn)) fun u s1 ⟨x, H1, I2, rx, a, more, ex, hne, hd, hr, q2⟩ => wpAny_bind (wpAny_standAt (wpAny_pure ?_))))
  subst ex
  obtain rfl : u = Value.ref a := rx
  have hz0 : more.length ≤ sizeLine := (dk_rd I2.hok hr).1
  refine ⟨a, rfl, mrg_lay I2 hd hr hne (by rw [List.length_nil, Nat.zero_add]; exact hz0) fun s2 I3 => ?_⟩
  have hn3 := I3.hok.fresh (Nat.le_refl s2.heap.objs.size)
  have I4 := I3.laid (a := s2.heap.objs.size) (o := .dK []) (h' := s2.heap.push { cls := .type "dict", data := .dict #[] }) (t' := s2.toks) (fun _ _ q => Heap.get?_push_of_some _ q) (Nat.le_refl _) (dk_empty s2.heap I3.big)
  refine wpAny_subDict (knd := mixKind X.prog X.w) (Nat.le_of_ble_eq_true rfl) (thn ((pps_cons hk hv pps_nil).run pins _ σ _ _ I4 (q2 _ hn3)) fun ws s4 ⟨ps, H4, I5, rel, key, y, kvs, ep, lb, ld, hz, q5⟩ => ?_)
  subst ep
  obtain ⟨rs, c, rk⟩ := carries_of (P := X.prog) (w := X.w) (kvs := [(key, y)]) rel
  obtain ⟨z, hb, vs0, r0, dd⟩ := dk_of I5.hok lb
  cases r0
  refine ⟨rs, c, dd, fun h' dd' hs => ?_⟩
  have he : ∃ q, h'.get? s2.heap.objs.size = some q := let ⟨q, _, _, hq, _⟩ := dd'; ⟨q, hq⟩
  have I6 : Inv X pins σ (upd H4 s2.heap.objs.size (.dK [(key, y)])) { s4 with heap := h', toks := s4.toks + ws.length } := d_write I5 (by rw [lb]; exact True.intro) hs he (dk_new (kvs := mergeK [] [(key, y)]) szl1 hb (rk.merge .nil) dd')
  have hdb : s.heap.objs.size ≠ s2.heap.objs.size := fun z => by
    rw [← z, ] at hn3
    rw [upd_same] at hn3
    cases hn3
  refine mrg_lay I6 (kvs := kvs) (more := [(key, y)]) (by rw [upd_ne hdb]; exact ld) (.inl upd_same) hdb hz fun s6 I7 => ⟨.ref s.heap.objs.size, _, I7, rfl, q5⟩
def tStar2 (t1 t2 : TE) : TE := fun σ H Q => ∀ d, H d = none → t1 σ (upd H d (.dK [])) fun x H1 => ∃ a more, x = .ref a ∧ d ≠ a ∧ H1 d = some (.dK []) ∧ Rd H1 a (.dK more) ∧
  t2 σ (upd H1 d (.dK (mergeK [] more))) fun y H2 => ∃ b kvs more2, y = .ref b ∧ d ≠ b ∧ H2 d = some (.dK kvs) ∧ Rd H2 b (.dK more2) ∧ kvs.length + more2.length ≤ sizeLine ∧ Q (.ref d) (upd H2 d (.dK (mergeK kvs more2)))
theorem pe_star2 (h1 : PE X e1 t1) (h2 : PE X e2 t2) : PE X (.Dict [none, none] [e1, e2] pos) (tStar2 t1 t2) := by
  refine ⟨fun pins s σ H Q I q => ?_⟩
  rw [arm_eval_Dict]
  refine wpAny_bind (wpAny_standAt ?_)
  show wpAny _ _ (dictDisplay [(none, do let x ← eval e1 X.env; standAt pos; pure x), (none, do let x ← eval e2 X.env; standAt pos; pure x)]) _ _ _
  have hn := I.hok.fresh (Nat.le_refl s.heap.objs.size)
  have I1 := I.laid (a := s.heap.objs.size) (o := .dK []) (h' := s.heap.push { cls := .type "dict", data := .dict #[] }) (t' := s.toks) (fun _ _ q => Heap.get?_push_of_some _ q) (Nat.le_refl _) (dk_empty s.heap I.big)
  refine disp_star2 (knd := mixKind X.prog X.w) mix_href (wpAny_bind (thn (h1.run pins _ σ _ _ I1 (q _ hn)) fun u s1 ⟨x, H1, I2, rx, a, more, ex, hne, hd, hr, q2⟩ => wpAny_bind (wpAny_standAt (wpAny_pure ?_))))
  subst ex
  obtain rfl : u = Value.ref a := rx
  have hz0 : more.length ≤ sizeLine := (dk_rd I2.hok hr).1
  refine ⟨a, rfl, mrg_lay I2 hd hr hne (by rw [List.length_nil, Nat.zero_add]; exact hz0) fun s2 I3 => ?_⟩
  refine wpAny_bind (thn (h2.run pins _ σ _ _ I3 q2) fun u2 s3 ⟨y, H2, I4, ry, b, kvs, more2, ey, hne2, hd2, hr2, hz2, q3⟩ => wpAny_bind (wpAny_standAt (wpAny_pure ?_)))
  subst ey
  obtain rfl : u2 = Value.ref b := ry
  exact ⟨b, rfl, mrg_lay I4 hd2 hr2 hne2 hz2 fun s6 I7 => ⟨.ref s.heap.objs.size, _, I7, rfl, q3⟩⟩
end
/-! zip of two texts of small signs -/
open PySem PySem.Spec PyProof.Rows
/-- an iterator over a text of small signs -/
abbrev SIt (h : Heap) (it : Addr) (x : Str) (t : Tok) (i : Nat) : Prop := h.IsStrIter it "str_ascii_iterator" x t i
theorem SIt.ext {h h' : Heap} {it b : Addr} {x : Str} {t : Tok} {i : Nat} (a : SIt h it x t i) (e : Heap.ExtBut b h h') (n : it ≠ b) : SIt h' it x t i :=
  let ⟨o, ho, r⟩ := a; ⟨o, e it o n ho, r⟩
section
variable {prog : Program} {w : World} {A : Around} {E : Value → Shared → Prop} {s : Shared}
theorem nextOf_s_item {it : Addr} {x : Str} {t : Tok} {i c : Nat} {Q : Value → Shared → Prop} (hit : SIt s.heap it x t i) (hx : x.cps[i]? = some c)
    (hQ : ∀ h', SIt h' it x t (i + 1) → Heap.SameBut it s.heap h' → Q (.str ⟨#[c]⟩ s.toks) { s with heap := h', toks := s.toks + 1 }) :
    wpAny (model prog w) A (Builtin.SmallTypes.nextOf (.ref it)) Q E s := by
  obtain ⟨o, ho, hc, hd⟩ := id hit
  unfold Builtin.SmallTypes.nextOf
  refine wpAny_bind (wpAny_callSpecial?_slot (name := Str.ofString "__next__") hit.typeIs F.slot_str_ascii_iterator_next (wpAny_call_entry F.slot_str_ascii_iterator_next hit.typeIs F.entry_str_ascii_iterator_next ?_ (F.args_str_ascii_iterator_next_1 _)))
  show wpAny _ _ (field (.ref it) 0 >>= _) _ _ s; refine wpAny_bind (wpAny_field ho hd (x := .str x t) rfl ?_)
  show wpAny _ _ (field (.ref it) 1 >>= _) _ _ s; refine wpAny_bind (wpAny_field ho hd (x := .int i 0) rfl ?_)
  simp only [Int.toNat_natCast, hx]
  refine wpAny_bind (wpAny_setField ho hd (by simp) (wpAny_bind (wpAny_mkStr (wpAny_pure ⟨_, rfl, wpAny_pure (hQ _ ⟨_, Heap.get?_update_self _ ho (Obj.isFreed_of_fields (Obj.data_mapFields hd _)), (Obj.cls_mapFields ..).trans hc, by rw [Obj.data_mapFields hd]; simp [rawInt]⟩ (Heap.SameBut.update ..))⟩) (by show 1 ≤ sizeLine; decide))))
theorem nextOf_s_end {it : Addr} {x : Str} {t : Tok} {i : Nat} {Q : Value → Shared → Prop} (hh : A.handled = none) (hit : SIt s.heap it x t i) (hx : x.cps[i]? = none)
    (hE : ∀ h' e, Heap.ExtBut it s.heap h' → (∃ o, h'.get? e = some o ∧ o.cls = .type "StopIteration") → E (.ref e) { s with heap := h' }) :
    wpAny (model prog w) A (Builtin.SmallTypes.nextOf (.ref it)) Q E s := by
  obtain ⟨o, ho, hc, hd⟩ := id hit
  unfold Builtin.SmallTypes.nextOf
  refine wpAny_bind (wpAny_callSpecial?_slot (name := Str.ofString "__next__") hit.typeIs F.slot_str_ascii_iterator_next (wpAny_call_entry F.slot_str_ascii_iterator_next hit.typeIs F.entry_str_ascii_iterator_next ?_ (F.args_str_ascii_iterator_next_1 _)))
  show wpAny _ _ (field (.ref it) 0 >>= _) _ _ s; refine wpAny_bind (wpAny_field ho hd (x := .str x t) rfl ?_)
  show wpAny _ _ (field (.ref it) 1 >>= _) _ _ s; refine wpAny_bind (wpAny_field ho hd (x := .int i 0) rfl ?_)
  simp only [Int.toNat_natCast, hx]
  refine wpAny_bind (wpAny_rule (wpAny_bind (wpAny_setField ho hd (by simp) (wpAny_bind (wpAny_letGo ?_)))))
  show wpAny _ _ (newExc (.type "StopIteration") [] >>= _) _ _ _; refine wpAny_bind ?_
  simp only [newExc, newTuple]
  refine wpAny_bind (wpAny_newObj_type ?_ (by size_fits)); refine wpAny_bind (m := firstArgMember _ _) (wpAny_of_eq (a := Value.none) (by first | rfl | (simp only [firstArgMember]; rfl)) ?_)
  refine wpAny_newObj_type ?_ (by size_fits); simp only [raiseNew]; refine wpAny_bind (wpAny_handled ?_)
  first | rw [show A.in1.handled = none from hh] | rw [hh]
  refine wpAny_bind (wpAny_pure (wpAny_throw ?_)); exact hE _ _ (((Heap.SameBut.update ..).extBut.push _).push _) ⟨_, Heap.get?_push_size _ rfl, rfl⟩
theorem zipS_next_item {z TI TO i1 i2 l1 l2 : Addr} {k1 k2 c1 c2 : Nat} {x y : Str} {t1 t2 : Tok} {a b : Value} {Q : Value → Shared → Prop} (D : ZipApart z TI TO i1 i2 l1 l2)
    (hz : IsZip s.heap z TI TO .none) (hTI : IsPair s.heap TI (.ref i1) (.ref i2)) (hTO : IsPair s.heap TO a b) (h1 : SIt s.heap i1 x t1 k1) (h2 : SIt s.heap i2 y t2 k2) (hx : x.cps[k1]? = some c1) (hy : y.cps[k2]? = some c2)
    (hQ : ∀ h' u v t, IsZip h' z TI TO (rawInt s.heap.objs.size) → IsPair h' TO (.str ⟨#[c1]⟩ u) (.str ⟨#[c2]⟩ v) → SIt h' i1 x t1 (k1 + 1) → SIt h' i2 y t2 (k2 + 1) → IsPair h' s.heap.objs.size (.str ⟨#[c1]⟩ u) (.str ⟨#[c2]⟩ v) →
      (∀ c o, c ≠ z → c ≠ TO → c ≠ i1 → c ≠ i2 → s.heap.get? c = some o → h'.get? c = some o) → Q (.ref s.heap.objs.size) { s with heap := h', toks := t }) :
    wpAny (model prog w) A (Builtin.«zip.__next__» ⟨[.ref z], []⟩) (fun fin s' => ∃ v, fin = .done (.ret v) ∧ Q v s') E s := by
  show wpAny _ _ (field (.ref z) 2 >>= _) _ _ _; refine wpAny_bind (wpAny_field hz rfl (x := .bool false) rfl ?_)
  show wpAny _ _ (field (.ref z) 3 >>= _) _ _ _; refine wpAny_bind (wpAny_field hz rfl (x := .ref TI) rfl ?_)
  refine wpAny_bind (wpAny_seqItems hTI rfl ?_); show wpAny _ _ (Builtin.SmallTypes.ownedTupleIsFree (.ref z) >>= _) _ _ _; refine wpAny_bind ?_
  unfold Builtin.SmallTypes.ownedTupleIsFree; refine wpAny_bind (wpAny_field hz rfl (x := .none) rfl (wpAny_pure ?_))
  simp only [if_true]; refine wpAny_bind (wpAny_rule ?_); refine wpAny_bind (wpAny_field hz rfl (x := .ref TO) rfl ?_)
  refine wpAny_bind (wpAny_setField_rec hz (by simp) fun h₁ hz₁ hs₁ => ?_); replace hz₁ : IsZip h₁ z TI TO .ellipsis := hz₁
  refine wpAny_bind ?_; simp only [List.zipIdx_cons, List.zipIdx_nil, List.forIn_cons, List.forIn_nil]
  refine wpAny_bind (wpAny_bind (wpAny_onRaise ?_)); show wpAny _ _ (Builtin.SmallTypes.nextOf (.ref i1) >>= _) _ _ _
  refine wpAny_bind (nextOf_s_item (h1.ext hs₁.extBut D.i1z) hx fun h₂ h1₂ hs₂ => wpAny_pure ?_)
  have hTO₂ : IsPair h₂ TO a b := hs₂.extBut _ _ D.TOi1 (hs₁.extBut _ _ D.TOz hTO); refine wpAny_bind (wpAny_seqItems hTO₂ rfl ?_)
  refine wpAny_bind (wpAny_updateSeq_pair hTO₂ fun h₃ hTO₃ hs₃ => ?_); replace hTO₃ : IsPair h₃ TO (.str ⟨#[c1]⟩ s.toks) b := hTO₃
  refine wpAny_bind (wpAny_letGo (wpAny_pure ?_)); refine wpAny_bind (wpAny_bind (wpAny_onRaise ?_)); show wpAny _ _ (Builtin.SmallTypes.nextOf (.ref i2) >>= _) _ _ _
  refine wpAny_bind (nextOf_s_item (((h2.ext hs₁.extBut D.i2z).ext hs₂.extBut D.i12.symm).ext hs₃.extBut D.TOi2.symm) hy fun h₄ h2₄ hs₄ => wpAny_pure ?_)
  have hTO₄ : IsPair h₄ TO (.str ⟨#[c1]⟩ s.toks) b := hs₄.extBut _ _ D.TOi2 hTO₃; refine wpAny_bind (wpAny_seqItems hTO₄ rfl ?_)
  refine wpAny_bind (wpAny_updateSeq_pair hTO₄ fun h₅ hTO₅ hs₅ => ?_); replace hTO₅ : IsPair h₅ TO (.str ⟨#[c1]⟩ s.toks) (.str ⟨#[c2]⟩ (s.toks + 1)) := hTO₅
  refine wpAny_bind (wpAny_letGo (wpAny_pure (wpAny_pure ?_))); refine wpAny_bind (wpAny_seqItems hTO₅ rfl ?_); refine wpAny_bind (wpAny_newTuple ?_)
  have hsz : h₅.objs.size = s.heap.objs.size := by rw [hs₅.1, hs₄.1, hs₃.1, hs₂.1]; exact hs₁.1
  have hz₅ : IsZip h₅ z TI TO .ellipsis := hs₅.extBut _ _ D.TOz.symm (hs₄.extBut _ _ D.i2z.symm (hs₃.extBut _ _ D.TOz.symm (hs₂.extBut _ _ D.i1z.symm hz₁)))
  have hk₅ : ∀ c o, c ≠ z → c ≠ TO → c ≠ i1 → c ≠ i2 → s.heap.get? c = some o → h₅.get? c = some o := fun c o n1 n2 n3 n4 e => hs₅.extBut _ _ n2 (hs₄.extBut _ _ n4 (hs₃.extBut _ _ n2 (hs₂.extBut _ _ n3 (hs₁.extBut _ _ n1 e))))
  have h1₅ : SIt h₅ i1 x t1 (k1 + 1) := ((h1₂.ext hs₃.extBut D.TOi1.symm).ext hs₄.extBut D.i12).ext hs₅.extBut D.TOi1.symm
  have h2₅ : SIt h₅ i2 y t2 (k2 + 1) := h2₄.ext hs₅.extBut D.TOi2.symm
  have hzlt : z < h₅.objs.size := Heap.lt_size hz₅
  show wpAny _ _ (Builtin.SmallTypes.ownedTupleHandOut (.ref z) (.ref h₅.objs.size) >>= _) _ _ _; refine wpAny_bind ?_; unfold Builtin.SmallTypes.ownedTupleHandOut
  have hz₆ : IsZip (h₅.push { cls := .type "tuple", data := .seq #[.str ⟨#[c1]⟩ s.toks, .str ⟨#[c2]⟩ (s.toks + 1)] }) z TI TO .ellipsis := Heap.get?_push_of_some _ hz₅
  refine wpAny_bind (wpAny_setField_rec hz₆ (by simp) fun h₇ hz₇ hs₇ => ?_); replace hz₇ : IsZip h₇ z TI TO (rawInt h₅.objs.size) := hz₇
  refine wpAny_setField_rec hz₇ (by simp) fun h₈ hz₈ hs₈ => ?_; replace hz₈ : IsZip h₈ z TI TO (rawInt h₅.objs.size) := hz₈
  have up : ∀ c o, c ≠ z → h₅.get? c = some o → h₈.get? c = some o := fun c o n e => hs₈.extBut _ _ n (hs₇.extBut _ _ n (Heap.get?_push_of_some _ e))
  have hT₈ : IsPair h₈ h₅.objs.size (.str ⟨#[c1]⟩ s.toks) (.str ⟨#[c2]⟩ (s.toks + 1)) := hs₈.extBut _ _ (Nat.ne_of_gt hzlt) (hs₇.extBut _ _ (Nat.ne_of_gt hzlt) (Heap.get?_push_size _ rfl))
  rw [hsz] at hz₈ hT₈
  refine wpAny_pure ⟨_, rfl, ?_⟩; show Q (.ref h₅.objs.size) _; rw [hsz]
  exact hQ h₈ _ _ _ hz₈ (up _ _ D.TOz hTO₅) (let ⟨o, e, r⟩ := h1₅; ⟨o, up _ o D.i1z e, r⟩) (let ⟨o, e, r⟩ := h2₅; ⟨o, up _ o D.i2z e, r⟩) hT₈ fun c o n1 n2 n3 n4 e => up c o n1 (hk₅ c o n1 n2 n3 n4 e)
theorem zipS_next_end {z TI TO i1 i2 l1 l2 : Addr} {k1 k2 : Nat} {x y : Str} {t1 t2 : Tok} {a b : Value} {Q : Fin → Shared → Prop} (hh : A.handled = none) (D : ZipApart z TI TO i1 i2 l1 l2)
    (hz : IsZip s.heap z TI TO .none) (hTI : IsPair s.heap TI (.ref i1) (.ref i2)) (hTO : IsPair s.heap TO a b) (h1 : SIt s.heap i1 x t1 k1) (h2 : SIt s.heap i2 y t2 k2) (hend : x.cps[k1]? = none ∨ y.cps[k2]? = none)
    (hE : ∀ h' t e, (∀ c o, c ≠ z → c ≠ TO → c ≠ i1 → c ≠ i2 → s.heap.get? c = some o → h'.get? c = some o) → (∃ o, h'.get? e = some o ∧ o.cls = .type "StopIteration") → E (.ref e) { s with heap := h', toks := t }) :
    wpAny (model prog w) A (Builtin.«zip.__next__» ⟨[.ref z], []⟩) Q E s := by
  show wpAny _ _ (field (.ref z) 2 >>= _) _ _ _; refine wpAny_bind (wpAny_field hz rfl (x := .bool false) rfl ?_)
  show wpAny _ _ (field (.ref z) 3 >>= _) _ _ _; refine wpAny_bind (wpAny_field hz rfl (x := .ref TI) rfl ?_)
  refine wpAny_bind (wpAny_seqItems hTI rfl ?_); show wpAny _ _ (Builtin.SmallTypes.ownedTupleIsFree (.ref z) >>= _) _ _ _; refine wpAny_bind ?_
  unfold Builtin.SmallTypes.ownedTupleIsFree; refine wpAny_bind (wpAny_field hz rfl (x := .none) rfl (wpAny_pure ?_))
  simp only [if_true]; refine wpAny_bind (wpAny_rule ?_); refine wpAny_bind (wpAny_field hz rfl (x := .ref TO) rfl ?_)
  refine wpAny_bind (wpAny_setField_rec hz (by simp) fun h₁ hz₁ hs₁ => ?_); replace hz₁ : IsZip h₁ z TI TO .ellipsis := hz₁
  refine wpAny_bind ?_; simp only [List.zipIdx_cons, List.zipIdx_nil, List.forIn_cons, List.forIn_nil]
  refine wpAny_bind (wpAny_bind (wpAny_onRaise ?_)); show wpAny _ _ (Builtin.SmallTypes.nextOf (.ref i1) >>= _) _ _ _
  cases hx : x.cps[k1]? with
  | none =>
    refine wpAny_bind (nextOf_s_end hh (h1.ext hs₁.extBut D.i1z) hx fun h₂ e hs₂ he => ?_); obtain ⟨oe, hoe, hce⟩ := he
    have hz₂ : IsZip h₂ z TI TO .ellipsis := hs₂ _ _ D.i1z.symm hz₁
    have hez : e ≠ z := fun q => by subst q; rw [hz₂] at hoe; cases hoe; simp at hce
    refine wpAny_setField_rec hz₂ (by simp) fun h₃ _ hs₃ => hE h₃ _ e (fun c o n1 _ n3 _ q => hs₃.extBut _ _ n1 (hs₂ _ _ n3 (hs₁.extBut _ _ n1 q))) ⟨oe, hs₃.extBut _ _ hez hoe, hce⟩
  | some c =>
    have hy : y.cps[k2]? = none := by rcases hend with h | h; (rw [hx] at h; cases h); exact h
    refine wpAny_bind (nextOf_s_item (h1.ext hs₁.extBut D.i1z) hx fun h₂ h1₂ hs₂ => wpAny_pure ?_)
    have hTO₂ : IsPair h₂ TO a b := hs₂.extBut _ _ D.TOi1 (hs₁.extBut _ _ D.TOz hTO); refine wpAny_bind (wpAny_seqItems hTO₂ rfl ?_)
    refine wpAny_bind (wpAny_updateSeq_pair hTO₂ fun h₃ hTO₃ hs₃ => ?_); refine wpAny_bind (wpAny_letGo (wpAny_pure ?_)); refine wpAny_bind (wpAny_bind (wpAny_onRaise ?_))
    show wpAny _ _ (Builtin.SmallTypes.nextOf (.ref i2) >>= _) _ _ _
    refine wpAny_bind (nextOf_s_end hh (((h2.ext hs₁.extBut D.i2z).ext hs₂.extBut D.i12.symm).ext hs₃.extBut D.TOi2.symm) hy fun h₄ e hs₄ he => ?_); obtain ⟨oe, hoe, hce⟩ := he
    have hz₄ : IsZip h₄ z TI TO .ellipsis := hs₄ _ _ D.i2z.symm (hs₃.extBut _ _ D.TOz.symm (hs₂.extBut _ _ D.i1z.symm hz₁))
    have hez : e ≠ z := fun q => by subst q; rw [hz₄] at hoe; cases hoe; simp at hce
    refine wpAny_setField_rec hz₄ (by simp) fun h₅ _ hs₅ => hE h₅ _ e (fun c o n1 n2 n3 n4 q => hs₅.extBut _ _ n1 (hs₄ _ _ n4 (hs₃.extBut _ _ n2 (hs₂.extBut _ _ n3 (hs₁.extBut _ _ n1 q))))) ⟨oe, hs₅.extBut _ _ hez hoe, hce⟩
theorem pyNext_zipS_item {z TI TO i1 i2 l1 l2 : Addr} {k1 k2 c1 c2 : Nat} {x y : Str} {t1 t2 : Tok} {a b : Value} {Q : Option Value → Shared → Prop} (D : ZipApart z TI TO i1 i2 l1 l2)
    (hz : IsZip s.heap z TI TO .none) (hTI : IsPair s.heap TI (.ref i1) (.ref i2)) (hTO : IsPair s.heap TO a b) (h1 : SIt s.heap i1 x t1 k1) (h2 : SIt s.heap i2 y t2 k2) (hx : x.cps[k1]? = some c1) (hy : y.cps[k2]? = some c2)
    (hQ : ∀ h' u v t, IsZip h' z TI TO (rawInt s.heap.objs.size) → IsPair h' TO (.str ⟨#[c1]⟩ u) (.str ⟨#[c2]⟩ v) → SIt h' i1 x t1 (k1 + 1) → SIt h' i2 y t2 (k2 + 1) → IsPair h' s.heap.objs.size (.str ⟨#[c1]⟩ u) (.str ⟨#[c2]⟩ v) →
      (∀ c o, c ≠ z → c ≠ TO → c ≠ i1 → c ≠ i2 → s.heap.get? c = some o → h'.get? c = some o) → Q (some (.ref s.heap.objs.size)) { s with heap := h', toks := t }) :
    wpAny (model prog w) A (pyNext (.ref z)) Q E s := by
  have hT : s.TypeIs (.ref z) "zip" := ⟨_, hz, rfl⟩
  unfold pyNext
  exact wpAny_bind (wpAny_attempt (wpAny_callSpecial?_slot (name := Str.ofString "__next__") hT F.slot_zip_next (wpAny_call_entry F.slot_zip_next hT F.entry_zip_next
      (zipS_next_item D hz hTI hTO h1 h2 hx hy fun h' u v t a1 a2 a3 a4 a5 a7 => wpAny_pure (hQ h' u v t a1 a2 a3 a4 a5 a7)) (F.args_zip_next_1 _))))
theorem pyNext_zipS_end {z TI TO i1 i2 l1 l2 : Addr} {k1 k2 : Nat} {x y : Str} {t1 t2 : Tok} {a b : Value} {Q : Option Value → Shared → Prop} (hh : A.handled = none) (D : ZipApart z TI TO i1 i2 l1 l2)
    (hz : IsZip s.heap z TI TO .none) (hTI : IsPair s.heap TI (.ref i1) (.ref i2)) (hTO : IsPair s.heap TO a b) (h1 : SIt s.heap i1 x t1 k1) (h2 : SIt s.heap i2 y t2 k2) (hend : x.cps[k1]? = none ∨ y.cps[k2]? = none)
    (hQ : ∀ h' t, (∀ c o, c ≠ z → c ≠ TO → c ≠ i1 → c ≠ i2 → s.heap.get? c = some o → h'.get? c = some o) → Q none { s with heap := h', toks := t }) : wpAny (model prog w) A (pyNext (.ref z)) Q E s := by
  have hT : s.TypeIs (.ref z) "zip" := ⟨_, hz, rfl⟩
  unfold pyNext
  refine wpAny_bind (wpAny_attempt (wpAny_callSpecial?_slot (name := Str.ofString "__next__") hT F.slot_zip_next (wpAny_call_entry F.slot_zip_next hT F.entry_zip_next
    (zipS_next_end hh D hz hTI hTO h1 h2 hend fun h' t e hk he => ?_) (F.args_zip_next_1 _))))
  obtain ⟨o, ho, hc⟩ := he
  exact wpAny_bind (wpAny_isInstance (T := "StopIteration") (b := true) ⟨o, ho, hc⟩ isSubtype_stop (wpAny_pure (hQ _ _ hk)))
end
/-! the call -/
abbrev zsH1 (h : Heap) (x : Str) (t : Tok) : Heap := h.push { cls := .type "str_ascii_iterator", data := .fields #[.str x t, .int 0 0] }
abbrev zsH2 (h : Heap) (x y : Str) (t u : Tok) : Heap := (zsH1 h x t).push { cls := .type "str_ascii_iterator", data := .fields #[.str y u, .int 0 0] }
abbrev zsH3 (h : Heap) (x y : Str) (t u : Tok) : Heap := (zsH2 h x y t u).push { cls := .type "tuple", data := .seq #[.ref h.objs.size, .ref (zsH1 h x t).objs.size] }
abbrev zsH4 (h : Heap) (x y : Str) (t u : Tok) : Heap := (zsH3 h x y t u).push { cls := .type "tuple", data := .seq #[.none, .none] }
abbrev zsH5 (h : Heap) (x y : Str) (t u : Tok) : Heap := (zsH4 h x y t u).push { cls := .type "zip", data := .fields #[.none, .bool false, .bool false, .ref (zsH2 h x y t u).objs.size, .ref (zsH3 h x y t u).objs.size] }
theorem meets_zipS (x y : Str) (t u : Tok) (hx : x.cps.all (· < 128) = true) (hy : y.cps.all (· < 128) = true) :
    Meets (Builtin.«zip.__new__» ⟨[.type "zip", .str x t, .str y u], []⟩) (fun _ R s => R (.ok (.ret (.ref (zsH4 s.heap x y t u).objs.size))) { s with heap := zsH5 s.heap x y t u }) :=
  .of_wp fun prog w A R s h => by
    obtain ⟨hp, g, d, tk, os⟩ := s
    have hsub := sub_zip
    wp_walk using wpAny_pyIter_ascii hx, wpAny_pyIter_ascii hy
    exact ⟨_, rfl, h⟩
section
variable {prog : Program} {w : World} {A : Around} {E : Value → Shared → Prop} {s : Shared}
theorem call_zipS {x y : Str} {t u : Tok} {Q : Value → Shared → Prop} (hx : x.cps.all (· < 128) = true) (hy : y.cps.all (· < 128) = true)
    (h : ∀ h', IsZip h' (s.heap.objs.size + 4) (s.heap.objs.size + 2) (s.heap.objs.size + 3) .none → IsPair h' (s.heap.objs.size + 2) (.ref s.heap.objs.size) (.ref (s.heap.objs.size + 1)) →
      IsPair h' (s.heap.objs.size + 3) .none .none → SIt h' s.heap.objs.size x t 0 → SIt h' (s.heap.objs.size + 1) y u 0 → h'.objs.size = s.heap.objs.size + 5 →
      (∀ c o, s.heap.get? c = some o → h'.get? c = some o) → Q (.ref (s.heap.objs.size + 4)) { s with heap := h' }) :
    wpAny (model prog w) A (call (.type "zip") [.str x t, .str y u]) Q E s := by
  refine callType_new F.called_zip (by decide) (F.typeCall_zip_2 _ _) (F.newCall_zip_2 _ _) (fun obj => F.args_object_init_3 obj _ _) F.entry_zip_new (meets_zipS x y t u hx hy) ?_
  have z1 : (zsH1 s.heap x t).objs.size = s.heap.objs.size + 1 := Heap.size_push ..
  have z2 : (zsH2 s.heap x y t u).objs.size = s.heap.objs.size + 2 := by rw [Heap.size_push, z1]
  have z3 : (zsH3 s.heap x y t u).objs.size = s.heap.objs.size + 3 := by rw [Heap.size_push, z2]
  have z4 : (zsH4 s.heap x y t u).objs.size = s.heap.objs.size + 4 := by rw [Heap.size_push, z3]
  have z5 : (zsH5 s.heap x y t u).objs.size = s.heap.objs.size + 5 := by rw [Heap.size_push, z4]
  have g5 : (zsH5 s.heap x y t u).get? (zsH4 s.heap x y t u).objs.size = some _ := Heap.get?_push_size _ rfl
  have g4 : (zsH5 s.heap x y t u).get? (zsH3 s.heap x y t u).objs.size = some _ := Heap.get?_push_of_some _ (Heap.get?_push_size _ rfl)
  have g3 : (zsH5 s.heap x y t u).get? (zsH2 s.heap x y t u).objs.size = some _ := Heap.get?_push_of_some _ (Heap.get?_push_of_some _ (Heap.get?_push_size _ rfl))
  have g2 : (zsH5 s.heap x y t u).get? (zsH1 s.heap x t).objs.size = some _ := Heap.get?_push_of_some _ (Heap.get?_push_of_some _ (Heap.get?_push_of_some _ (Heap.get?_push_size _ rfl)))
  have g1 : (zsH5 s.heap x y t u).get? s.heap.objs.size = some _ := Heap.get?_push_of_some _ (Heap.get?_push_of_some _ (Heap.get?_push_of_some _ (Heap.get?_push_of_some _ (Heap.get?_push_size _ rfl))))
  show _ ∧ _
  rw [z2, z3, z4] at g5
  rw [z1, z2] at g3
  rw [z3] at g4
  rw [z1] at g2
  rw [z4]
  exact ⟨⟨_, g5, rfl⟩, h _ g5 g3 g4 ⟨_, g1, rfl, rfl⟩ ⟨_, g2, rfl, rfl⟩ z5 fun c o q => Heap.get?_push_of_some _ (Heap.get?_push_of_some _ (Heap.get?_push_of_some _ (Heap.get?_push_of_some _ (Heap.get?_push_of_some _ q))))⟩
end
open PySem PySem.Spec PyProof.Rows
open L2
/-! the rule -/
def ItzS (x y : Str) : It :=
  ⟨fun i _ => i < x.cps.size ∧ i < y.cps.size, fun i H v H' => ∃ T c d, v = .ref T ∧ H T = none ∧ H' = upd H T (.tup [.str ⟨#[c]⟩, .str ⟨#[d]⟩]) ∧ x.cps[i]? = some c ∧ y.cps[i]? = some d, fun i _ => x.cps.size ≤ i ∨ y.cps.size ≤ i⟩
theorem apartS (I : Nat) : ZipApart (I + 4) (I + 2) (I + 3) I (I + 1) (I + 2) (I + 2) := by constructor <;> (show ¬ ((_ : Nat) = _); omega)
theorem turn_zipS {P : Program} {w : World} {K : PySem.W.Frag} {elts : List Expr} {kk : Nat} {tpos : Pos} {x y : Str} {t1 t2 : Tok} {a b z TI TO i1 i2 : Addr} (D : ZipApart z TI TO i1 i2 a b) :
    Turn P w K (.Tuple elts kk tpos) (ItzS x y) [z, TI, TO, i1, i2] z (fun i h => IsZip h z TI TO .none ∧ IsPair h TI (.ref i1) (.ref i2) ∧ (∃ x y, IsPair h TO x y) ∧ SIt h i1 x t1 i ∧ SIt h i2 y t2 i) where
  mem := by simp
  obj := fun i h st c hc => by
    obtain ⟨hz, hTI, ⟨u, v, hTO⟩, ⟨o1, e1, _, d1⟩, ⟨o2, e2, _, d2⟩⟩ := st
    have e' : c = z ∨ c = TI ∨ c = TO ∨ c = i1 ∨ c = i2 := by simpa using hc
    rcases e' with q | q | q | q | q <;> rw [q]
    · exact ⟨_, hz, fun v q => nomatch q⟩
    · exact ⟨_, hTI, fun v q => nomatch q⟩
    · exact ⟨_, hTO, fun v q => nomatch q⟩
    · exact ⟨o1, e1, fun v q => by rw [d1] at q; cases q⟩
    · exact ⟨o2, e2, fun v q => by rw [d2] at q; cases q⟩
  keep := fun i h h' st k => by
    obtain ⟨hz, hTI, ⟨u, v, hTO⟩, ⟨o1, e1, r1⟩, ⟨o2, e2, r2⟩⟩ := st
    exact ⟨k z (by simp) _ hz, k TI (by simp) _ hTI, ⟨u, v, k TO (by simp) _ hTO⟩, ⟨o1, k i1 (by simp) _ e1, r1⟩, ⟨o2, k i2 (by simp) _ e2, r2⟩⟩
  item := by
    intro X hP hw hK hc i pins s σ H E I hf st hg
    subst hP hw hK
    obtain ⟨hz, hTI, ⟨x0, y0, hTO⟩, h1, h2⟩ := st
    obtain ⟨lx, ly⟩ := hg
    have hx : x.cps[i]? = some x.cps[i] := Array.getElem?_eq_getElem lx
    have hy : y.cps[i]? = some y.cps[i] := Array.getElem?_eq_getElem ly
    have hzl : z < s.heap.objs.size := Heap.lt_size hz
    refine pyNext_zipS_item D hz hTI hTO h1 h2 hx hy fun h' u v t z' TO' h1' h2' hT hk => ?_
    refine ⟨_, rfl, wpAny_letOwnedTupleGo_zip (s := { s with heap := h', toks := t }) z' fun h'' z'' sb => ?_⟩
    have hT2 : h''.get? s.heap.objs.size = some { cls := .type "tuple", data := .seq #[.str ⟨#[x.cps[i]]⟩ u, .str ⟨#[y.cps[i]]⟩ v] } := (sb.2 _ (Nat.ne_of_gt hzl)).trans hT
    have new : ObjOk X.prog X.w (upd H s.heap.objs.size (.tup [.str ⟨#[x.cps[i]]⟩, .str ⟨#[y.cps[i]]⟩])) h'' s.heap.objs.size (.tup [.str ⟨#[x.cps[i]]⟩, .str ⟨#[y.cps[i]]⟩]) :=
      ⟨by show 2 ≤ sizeLine; decide, [.str ⟨#[x.cps[i]]⟩ u, .str ⟨#[y.cps[i]]⟩ v], .cons ⟨_, rfl⟩ (.cons ⟨_, rfl⟩ .nil), ⟨_, hT2, rfl, _, rfl⟩⟩
    have I1 : Inv X pins σ (upd H s.heap.objs.size (.tup [.str ⟨#[x.cps[i]]⟩, .str ⟨#[y.cps[i]]⟩])) { s with heap := h'', toks := t } :=
      I.turnedNew (t' := t) (ch := [z, TI, TO, i1, i2]) (fun c o hb q => (sb.2 c (fun q' => hb (by simp [q']))).trans (hk c o (fun q' => hb (by simp [q'])) (fun q' => hb (by simp [q'])) (fun q' => hb (by simp [q'])) (fun q' => hb (by simp [q'])) q)) hf (Nat.le_refl _) new
    refine ⟨.ref s.heap.objs.size, _, I1, rfl, ⟨_, _, _, rfl, I.hok.fresh (Nat.le_refl _), rfl, hx, hy⟩, ⟨z'', ?_, ⟨_, _, (sb.2 _ D.TOz).trans TO'⟩, ?_, ?_⟩, fun c hcm => ?_⟩
    · exact (sb.2 _ D.TIz).trans (hk _ _ D.TIz D.TITO D.TIi1 D.TIi2 hTI)
    · exact let ⟨o, e, r⟩ := h1'; ⟨o, (sb.2 _ D.i1z).trans e, r⟩
    · exact let ⟨o, e, r⟩ := h2'; ⟨o, (sb.2 _ D.i2z).trans e, r⟩
    · have hlt : c < s.heap.objs.size := by
        have e' : c = z ∨ c = TI ∨ c = TO ∨ c = i1 ∨ c = i2 := by simpa using hcm
        rcases e' with q | q | q | q | q <;> rw [q]
        · exact hzl
        · exact Heap.lt_size hTI
        · exact Heap.lt_size hTO
        · obtain ⟨_, e1, _⟩ := h1; exact Heap.lt_size e1
        · obtain ⟨_, e2, _⟩ := h2; exact Heap.lt_size e2
      rw [upd_ne (Nat.ne_of_lt hlt)]
      exact (hf c hcm).1
  done := by
    intro X hP hw hK hc i pins s σ H E I hf st hg
    subst hP hw hK
    obtain ⟨hz, hTI, ⟨x0, y0, hTO⟩, h1, h2⟩ := st
    have he : x.cps[i]? = none ∨ y.cps[i]? = none := hg.elim (fun q => .inl (Array.getElem?_eq_none q)) fun q => .inr (Array.getElem?_eq_none q)
    exact pyNext_zipS_end (I.ok.hd hc) D hz hTI hTO h1 h2 he fun h' t hk => ⟨rfl, I.turnedL (t' := t) (ch := [z, TI, TO, i1, i2]) (fun c o hb q =>
      hk c o (fun q' => hb (by simp [q'])) (fun q' => hb (by simp [q'])) (fun q' => hb (by simp [q'])) (fun q' => hb (by simp [q'])) q) hf⟩
  self := fun A i s Q E st h => wpAny_pyIter_zip st.1 h
def SmallS (x : Str) : Prop := x.cps.all (· < 128) = true
def iZipS (ta : TA) : TI := fun σ H R => ta σ H fun vs H1 => ∃ x y, vs = [.str x, .str y] ∧ SmallS x ∧ SmallS y ∧ R (ItzS x y) H1
theorem pi_zipS {X : Cx} {e e2 : Expr} {ta : TA} {p pos tpos : Pos} {elts : List Expr} {kk : Nat} (hg : Gl X "zip") (hm : X.mg "zip" = none) (ha : PA X [e, e2] ta)
    (hs : starEach [e, e2] X.env = (false, eval e X.env) :: starEach [e2] X.env := by rfl) (hpl : (backTo pos (starEach [e2] X.env)).any (·.1) = false := by rfl) :
    PI X (.Tuple elts kk tpos) (.Call (.Name "zip" p) [e, e2] [] pos) (iZipS ta) := by
  refine ⟨fun pins s σ H R I h => ?_⟩
  refine Call_ (ld_blt I hg hm PyProof.Rows.boot_zip (PyProof.Rows.callWith_type1 (thn (ha.run pos pins s σ H _ I h) fun us s1 ⟨vs, H1, I1, r1, q1⟩ => ?_) hs hpl))
  obtain ⟨x, y, ex, hx, hy, q⟩ := q1
  subst ex
  cases r1 with
  | cons r rr =>
    cases rr with
    | cons r' rr =>
      cases rr
      obtain ⟨t, rfl⟩ := r
      obtain ⟨t', rfl⟩ := r'
      refine call_zipS hx hy fun h' hz hTI hTO h1 h2 hsz hk => wpAny_pyIter_zip hz ?_
      have I2 : Inv X pins σ H1 { s1 with heap := h' } := I1.kept (t' := s1.toks) hk
      refine ⟨s1.heap.objs.size + 4, [s1.heap.objs.size + 4, s1.heap.objs.size + 2, s1.heap.objs.size + 3, s1.heap.objs.size, s1.heap.objs.size + 1], _, _, H1, rfl, I2, turn_zipS (apartS s1.heap.objs.size), ⟨hz, hTI, ⟨_, _, hTO⟩, h1, h2⟩, fun c hcm => ?_, q⟩
      have e' : c = s1.heap.objs.size + 4 ∨ c = s1.heap.objs.size + 2 ∨ c = s1.heap.objs.size + 3 ∨ c = s1.heap.objs.size ∨ c = s1.heap.objs.size + 1 := by simpa using hcm
      have hle : s1.heap.objs.size ≤ c := by
        rcases e' with q | q | q | q | q <;> rw [q] <;> first | exact Nat.le_add_right _ _ | exact Nat.le_refl _
      exact I1.fpOk hle (I1.hok.fresh hle)
theorem walk_zipS {x y : Str} : L2.Walk (ItzS x y) (min x.length y.length) (fun _ => True) (fun i H v H' => ∃ T c d, v = .ref T ∧ H T = none ∧ H' = upd H T (.tup [.str ⟨#[c]⟩, .str ⟨#[d]⟩]) ∧ x.cps.toList[i]? = some c ∧ y.cps.toList[i]? = some d) := by
  refine ⟨fun i _ hi _ => ?_, fun _ _ => ?_, fun i H v H' hi _ y => ?_⟩
  · show i < x.length ∧ i < y.length
    omega
  · show x.length ≤ _ ∨ y.length ≤ _
    omega
  · obtain ⟨T, c, d, e1, e2, e3, e4, e5⟩ := y
    exact ⟨T, c, d, e1, e2, e3, by simpa using e4, by simpa using e5⟩
open PySem PySem.Spec PyProof.Rows
open L2 hiding pass0
open L2 (cxOf)
def top (i : Nat) : Stmt := PySem.Challenge.pw_coverways_k14_whole_cells_of_wide_addres.main.body.getD i (.Pass ⟨0, 0, 0, 0⟩)
abbrev s_law_pot : Stmt := top 26
theorem sc_law_pot : FnScope ["_law_script", "_law_k", "_law_cell"] ["_law_script", "_law_k"] (defScope s_law_pot) := ⟨rfl, rfl, rfl, by decide +kernel, rfl, by decide +kernel, by decide +kernel⟩
theorem bp_law_pot : BndP "_law_pot" s_law_pot ["_law_script", "_law_k"] := fun _ _ _ _ _ _ us h => match us, h with | [_, _], _ => rfl
abbrev s_law_draw : Stmt := top 27
theorem sc_law_draw : FnScope ["_law_pot_here", "_law_many", "_law_digit"] ["_law_pot_here", "_law_many"] (defScope s_law_draw) := ⟨rfl, rfl, rfl, by decide +kernel, rfl, by decide +kernel, by decide +kernel⟩
theorem bp_law_draw : BndP "_law_draw" s_law_draw ["_law_pot_here", "_law_many"] := fun _ _ _ _ _ _ us h => match us, h with | [_, _], _ => rfl
abbrev s_law_among : Stmt := top 28
theorem sc_law_among : FnScope ["_law_pot_here", "_law_some_here"] ["_law_pot_here", "_law_some_here"] (defScope s_law_among) := ⟨rfl, rfl, rfl, by decide +kernel, rfl, by decide +kernel, by decide +kernel⟩
theorem bp_law_among : BndP "_law_among" s_law_among ["_law_pot_here", "_law_some_here"] := fun _ _ _ _ _ _ us h => match us, h with | [_, _], _ => rfl
abbrev s_law_bits : Stmt := top 29
theorem sc_law_bits : FnScope ["_law_pot_here", "_law_least_here", "_law_most", "_law_turn"] ["_law_pot_here", "_law_least_here", "_law_most"] (defScope s_law_bits) := ⟨rfl, rfl, rfl, by decide +kernel, rfl, by decide +kernel, by decide +kernel⟩
theorem bp_law_bits : BndP "_law_bits" s_law_bits ["_law_pot_here", "_law_least_here", "_law_most"] := fun _ _ _ _ _ _ us h => match us, h with | [_, _, _], _ => rfl
/-- what the top leaves of the built-in names -/
structure Txt (K : PySem.W.Frag) (mg : Str → Option Value) : Prop where
  b_len : mg "len" = none
  b_abs : mg "abs" = none
  b_max : mg "max" = none
  b_min : mg "min" = none
  b_int : mg "int" = none
  b_divmod : mg "divmod" = none
  b_range : mg "range" = none
  b_repr : mg "repr" = none
  b_all : mg "all" = none
  b_str : mg "str" = none
  b_bool : mg "bool" = none
  b_isinstance : mg "isinstance" = none
  b_tuple : mg "tuple" = none
  b_dict : mg "dict" = none
  b_list : mg "list" = none
  b_sorted : mg "sorted" = none
  b_zip : mg "zip" = none
  b_enumerate : mg "enumerate" = none
  b_sum : mg "sum" = none
  b_any : mg "any" = none
  b_set : mg "set" = none
/-! ### draws -/
def PotAt (H : Hp) (p : Addr) : Prop := ∃ a b : Int, H p = some (.lst [.int a, .int b]) ∧ 0 ≤ a ∧ 0 ≤ b ∧ b < 2147483648
/-- all that stood stands, but for the pot at p -/
structure Go (p : Addr) (H H' : Hp) : Prop where
  pot : PotAt H' p
  keep : ∀ a o, H a = some o → a ≠ p → H' a = some o
theorem Go.trans {p : Addr} {H H1 H2 : Hp} (a : Go p H H1) (b : Go p H1 H2) : Go p H H2 := ⟨b.pot, fun c o h n => b.keep c o (a.keep c o h n) n⟩
theorem Go.refl {p : Addr} {H : Hp} (h : PotAt H p) : Go p H H := ⟨h, fun _ _ e _ => e⟩
theorem Go.new {p q : Addr} {H H1 : Hp} {o : HO} (g : Go p H H1) (h : H1 q = none) : Go p H (upd H1 q o) := by
  obtain ⟨a, b, e, r⟩ := g.pot
  refine ⟨⟨a, b, by rw [upd_ne (ne_of_none e h)]; exact e, r⟩, fun c u hc n => ?_⟩
  have := g.keep c u hc n
  rw [upd_ne (ne_of_none this h)]
  exact this
theorem Go.lst {K : PySem.W.Frag} {p a : Addr} {H H' : Hp} {xs : List V} (g : Go p H H') (n : a ≠ p) (h : SqL K H a xs) : SqL K H' a xs := by
  rcases h with (h | ⟨o, h⟩) | h
  · exact .inl (.inl (g.keep _ _ h n))
  · exact .inl (.inr ⟨o, g.keep _ _ h n⟩)
  · exact .inr h
theorem Go.fresh {p q : Addr} {H H' : Hp} (g : Go p H H') (hp : PotAt H p) (h : H' q = none) : H q = none := by
  cases e : H q with
  | none => rfl
  | some o =>
    by_cases n : q = p
    · subst n
      obtain ⟨a, b, e2, _⟩ := g.pot
      rw [h] at e2
      cases e2
    · have := g.keep q o e n
      rw [h] at this
      cases this
theorem szl {n : Nat} (h : n ≤ 1000000) : n ≤ sizeLine := Nat.le_trans h (by decide)
theorem szt {n : Nat} (h : n < 1000000) : n < sizeLine := Nat.lt_of_lt_of_le h (by decide)
theorem nonn {H : Hp} {a b : Addr} {o : HO} (h' : H b = none) (h : H a = some o) : a ≠ b := ne_of_none h h'
theorem Go.kp {p a : Addr} {H H' : Hp} {o : HO} (g : Go p H H') (h : H a = some o) (n : a ≠ p) : H' a = some o := g.keep a o h n
theorem updn {H : Hp} {a b : Addr} {o u : HO} (n : b ≠ a) (h : H b = some u) : upd H a o b = some u := (upd_ne n).trans h
local macro_rules | `(tactic| walk_at "hp") => `(tactic| first | assumption | exact upd_same | exact updn (by walk_at "ne") (by walk_at "hp") | exact Go.kp (by assumption) (by walk_at "hp") (by walk_at "ne"))
local macro_rules | `(tactic| walk_at "ne") => `(tactic| first | assumption | exact Ne.symm (by assumption) | exact nonn (by assumption) (by walk_at "hp") | exact Ne.symm (nonn (by assumption) (by walk_at "hp")))
local macro_rules | `(tactic| walk_at "sq") => `(tactic| first | assumption | exact SqL.of (by walk_at "hp") | exact SqT.of (by walk_at "hp") | exact Go.lst (by assumption) (by walk_at "ne") (by walk_at "sq"))
local macro_rules | `(tactic| walk_at "sz") => `(tactic| first | assumption | exact szl (Nat.le_of_ble_eq_true rfl) | (apply szl; first | omega | (simp; omega)) | (apply szt; first | omega | (simp; omega)))
local macro_rules | `(tactic| walk_at "len") => `(tactic| first | exact Or.inl ⟨_, (by walk_at "sq"), rfl⟩ | exact ⟨(by walk_at "sz"), rfl⟩ | exact Or.inr ⟨_, (by walk_at "sq"), rfl⟩)
local macro_rules | `(tactic| walk_at "ar") => `(tactic| first | assumption | omega | decide | exact upd_same | rfl | walk_at "sz" | (simp only [CDiv, CMul, CPow]; first | omega | decide) | (refine ⟨?_, ?_⟩ <;> first | omega | decide))
local macro_rules | `(tactic| walk_at "at") => `(tactic| first | rfl | assumption | decide)
/-! one step of a reading -/
local macro_rules | `(tactic| walk_at "s1") => `(tactic| first
  | (refine ⟨_, rfl, ?_⟩)
  | (refine ⟨_, _, rfl, rfl, ?_⟩)
  | (refine Or.inl ⟨_, _, _, _, rfl, rfl, by walk_at "sq", by walk_at "at", ?_⟩)
  | (refine Or.inr (Or.inl ⟨_, _, _, _, rfl, rfl, by walk_at "sq", by walk_at "at", ?_⟩))
  | (refine Or.inl ⟨_, rfl, ?_⟩)
  | (refine And.intro (by walk_at "ar") ?_)
  | (refine ⟨_, _, rfl, ?_⟩)
  | (refine ⟨_, _, rfl, (by walk_at "sq"), rfl, ?_⟩)
  | (refine ⟨_, _, rfl, (by walk_at "len"), ?_⟩)
  | (refine ⟨_, _, _, _, rfl, rfl, (by walk_at "hp"), rfl, ?_⟩)
  | (refine fun q (hq : _ = none) => ?_)
  | (intro _; intros))
local macro_rules | `(tactic| walk_at "go") => `(tactic| first | assumption | exact Go.refl (by assumption) | exact Go.new (by walk_at "go") (by assumption) | exact Go.trans (by walk_at "go") (by assumption))
local macro_rules | `(tactic| walk_at "pot") => `(tactic| first | assumption | exact Go.pot (by assumption) | exact Go.pot (by walk_at "go"))
theorem atI_ok {α : Type} {xs : List α} {d : Int} (h0 : 0 ≤ d) (h1 : d < (xs.length : Int)) : ∃ v, v ∈ xs ∧ atI xs d = some v := by
  obtain ⟨j, rfl⟩ := Int.eq_ofNat_of_zero_le h0
  have hj : j < xs.length := by omega
  exact ⟨xs[j], List.getElem_mem hj, atI_nat (by simp [hj])⟩
theorem potb (x M : Int) (h0 : 0 < M) (h1 : M < 2147483648) : 0 ≤ x % M + 1 ∧ x % M + 1 < 2147483648 := by
  have := Int.emod_nonneg x (show M ≠ 0 by omega)
  have := Int.emod_lt_of_pos x h0
  omega
theorem emodb (x M : Int) (h0 : 0 < M) (h1 : M ≤ 2147483648) : x % M < 2147483648 := by
  have := Int.emod_lt_of_pos x h0
  omega
theorem max0 {x : Int} : 0 ≤ (if x > 0 then x else 0) := by split <;> omega
theorem Go.mut {p D : Addr} {H H1 : Hp} {o : HO} (g : Go p H H1) (n : H D = none) (np : D ≠ p) : Go p H (upd H1 D o) := by
  obtain ⟨a, b, e, r⟩ := g.pot
  exact ⟨⟨a, b, by rw [upd_ne (Ne.symm np)]; exact e, r⟩, fun c u hc nc => by rw [upd_ne (ne_of_none hc n)]; exact g.keep c u hc nc⟩
theorem PotAt.ne {p q : Addr} {H : Hp} (h : PotAt H p) (n : H q = none) : q ≠ p := by
  obtain ⟨a, b, e, _⟩ := h
  exact (ne_of_none e n).symm
/-- a def that raises nothing -/
theorem nm_of0 {P : Program} {w : World} {K : PySem.W.Frag} {mg : Str → Option Value} {base : Heap} {CX : CXT} {x : Str} {st : Stmt} {f : Addr} {fd : FuncData} {N ps : List Str} {k : Nat} {sp : Sp} (F : Fun K x x st f fd) (hm : mg x = some (.ref f)) (S : FnScope N ps (defScope st)) (len : ∀ vs H Q E, sp vs H Q E → vs.length = ps.length)
    (hb : ∀ (cdv : Value) (A : Around) (outer : List Env) (s : Shared) (H : Hp) (vs : List V) (Q : VK) (E : XK), RoomG k (A.deeper (envOfC x (defScope st) s.heap.objs.size f cdv)) → sp vs H Q E →
      ∃ t, PSs (cxOf CX P w K mg base N x (defScope st) f cdv A outer s H E).nox (defBody st) t ∧ t { nx := fun _ H' => Q .non H', rt := Q } (start N vs) H) : Nm P w K mg base CX (k + 1) x st ps sp :=
  nm_of F hm S len fun cdv A outer s H vs Q E hr h => let ⟨t, h1, h2⟩ := hb cdv A outer s H vs Q E hr h; ⟨t, h1.nox, h2⟩
/-- texts of single signs -/
def sg (c : Nat) : Str := ⟨#[c]⟩
theorem joinL_sg : ∀ zs : List Nat, TL.joinL [] (zs.map fun c => [c]) = zs
  | [] => rfl
  | [c] => rfl
  | c :: d :: r => by
    show [c] ++ [] ++ TL.joinL [] ((d :: r).map fun c => [c]) = c :: d :: r
    rw [joinL_sg (d :: r)]
    rfl
theorem join_sg (zs : List Nat) : Txt.join ("" : Str) (zs.map sg) = SX.S zs := by
  have h := SX.join_S [] (zs.map fun c => [c])
  rw [joinL_sg, List.map_map] at h
  exact h
theorem sum_sg : ∀ zs : List Nat, ((zs.map sg).map (·.length)).sum = zs.length
  | [] => rfl
  | c :: r => by
    rw [List.map_cons, List.map_cons, List.sum_cons, sum_sg r]
    show 1 + r.length = r.length + 1
    omega
theorem Go.put {p : Addr} {H H1 : Hp} {a b : Int} (g : Go p H H1) (ha : 0 ≤ a) (hb : 0 ≤ b) (hb2 : b < 2147483648) : Go p H (upd H1 p (.lst [.int a, .int b])) :=
  ⟨⟨a, b, upd_same, ha, hb, hb2⟩, fun c o e n => by rw [upd_ne n]; exact g.keep c o e n⟩
theorem Go.any {p : Addr} {H : Hp} (q : Addr) (o : HO) (h : PotAt H p) (n : H q = none) : Go p H (upd H q o) := (Go.refl h).new n
@[irreducible] def spPot (K : PySem.W.Frag) : Sp := fun vs H Q _ => ∃ (a : Addr) (ns : List Int) (k : Int), vs = [.ref a, .int k] ∧ SqL K H a (ns.map V.int) ∧ ns.length ≤ 63 ∧ 0 ≤ k ∧ k ≤ 100 ∧
  ∀ p H', H p = none → PotAt H' p → (∀ b o, H b = some o → H' b = some o) → Q (.ref p) H'
@[irreducible] def spDraw : Sp := fun vs H Q _ => ∃ (p : Addr) (n : Int), vs = [.ref p, .int n] ∧ PotAt H p ∧ 0 < n ∧ n < 1073741824 ∧ ∀ (d : Int) H', 0 ≤ d → d < n → Go p H H' → Q (.int d) H'
@[irreducible] def spAmong (K : PySem.W.Frag) : Sp := fun vs H Q _ => ∃ (p : Addr) (x : V), vs = [.ref p, x] ∧ PotAt H p ∧
  ((∃ (a : Addr) (xs : List V), x = .ref a ∧ a ≠ p ∧ SqL K H a xs ∧ 0 < xs.length ∧ xs.length ≤ 1000 ∧ ∀ v ∈ xs, ∀ H', Go p H H' → Q v H') ∨
   (∃ z : Str, x = .str z ∧ 0 < z.length ∧ z.length ≤ 1000 ∧ ∀ c ∈ z.cps.toList, ∀ H', Go p H H' → Q (.str ⟨#[c]⟩) H'))
def Bits (z : Str) : Prop := ∀ c ∈ z.cps.toList, c = 48 ∨ c = 49
@[irreducible] def spBits : Sp := fun vs H Q _ => ∃ (p : Addr) (lo hi : Int), vs = [.ref p, .int lo, .int hi] ∧ PotAt H p ∧ 0 ≤ lo ∧ lo ≤ hi ∧ hi ≤ 1000 ∧
  ∀ (z : Str) H', Bits z → lo ≤ (z.length : Int) → (z.length : Int) ≤ hi → Go p H H' → Q (.str z) H'
section
variable {K : PySem.W.Frag} {p a : Addr} {n lo hi k : Int} {H : Hp} {Q : VK} {E : XK} {xs : List V} {z : Str} {ns : List Int}
theorem pot_go (hS : SqL K H a (ns.map V.int)) (hl : ns.length ≤ 63) (h0 : 0 ≤ k) (h1 : k ≤ 100) (q : ∀ p H', H p = none → PotAt H' p → (∀ b o, H b = some o → H' b = some o) → Q (.ref p) H') : spPot K [.ref a, .int k] H Q E := by
  unfold spPot
  exact ⟨a, ns, k, rfl, hS, hl, h0, h1, q⟩
theorem draw_go (hp : PotAt H p) (h0 : 0 < n) (h1 : n < 1073741824) (q : ∀ (d : Int) H', 0 ≤ d → d < n → Go p H H' → Q (.int d) H') : spDraw [.ref p, .int n] H Q E := by
  unfold spDraw
  exact ⟨p, n, rfl, hp, h0, h1, q⟩
theorem among_l (hp : PotAt H p) (na : a ≠ p) (hS : SqL K H a xs) (h0 : 0 < xs.length) (h1 : xs.length ≤ 1000) (q : ∀ v ∈ xs, ∀ H', Go p H H' → Q v H') : spAmong K [.ref p, .ref a] H Q E := by
  unfold spAmong
  exact ⟨p, _, rfl, hp, .inl ⟨a, xs, rfl, na, hS, h0, h1, q⟩⟩
theorem among_s (hp : PotAt H p) (h0 : 0 < z.length) (h1 : z.length ≤ 1000) (q : ∀ c ∈ z.cps.toList, ∀ H', Go p H H' → Q (.str ⟨#[c]⟩) H') : spAmong K [.ref p, .str z] H Q E := by
  unfold spAmong
  exact ⟨p, _, rfl, hp, .inr ⟨z, rfl, h0, h1, q⟩⟩
theorem bits_go (hp : PotAt H p) (h0 : 0 ≤ lo) (h1 : lo ≤ hi) (h2 : hi ≤ 1000) (q : ∀ (z : Str) H', Bits z → lo ≤ (z.length : Int) → (z.length : Int) ≤ hi → Go p H H' → Q (.str z) H') : spBits [.ref p, .int lo, .int hi] H Q E := by
  unfold spBits
  exact ⟨p, lo, hi, rfl, hp, h0, h1, h2, q⟩
end
section
variable {P : Program} {w : World} {K : PySem.W.Frag} {mg : Str → Option Value} {base : Heap} {f : Addr} {fd : FuncData}
theorem ok_draw (F : Fun K "_law_draw" "_law_draw" s_law_draw f fd) (hm : mg "_law_draw" = some (.ref f)) (T : Txt K mg) : Nm P w K mg base CX0 1 "_law_draw" s_law_draw ["_law_pot_here", "_law_many"] spDraw := by
  refine nm_of F hm sc_law_draw (fun vs H Q E h => ?_) fun cdv A outer s H vs Q E hr h => ?_
  · unfold spDraw at h
    obtain ⟨p, n, rfl, _⟩ := h
    rfl
  · unfold spDraw at h
    obtain ⟨p, n, rfl, ⟨a, b, hp, ha, hb, hb2⟩, hn, hn2, k⟩ := h
    refine ⟨_, (pss_cons (ps_if (pt_cmpR op_gt (pe_ix (ix_seqK (K := K) rfl) (pv 0) pe_int (fun _ _ => rfl)) pe_int (nomark _)) (pss_cons (ps_asg (pe_callB call_divmod (by rfl) T.b_divmod (by decide +kernel) (pa_cons (pe_ix (ix_seqK (K := K) rfl) (pv 0) pe_int (fun _ _ => rfl)) (pa_cons (pv 1) pa_nil))) (pg_tup (by rfl) (pgs_cons (pg_sub (pv 0) pe_int set_list) (pgs_cons (pg_name (i := 2) sc_law_draw.nd rfl (by first | exact Or.inl rfl | exact Or.inr rfl)) pgs_nil))))
      (pss_one (ps_ret (pv 2)))) pss_nil)
      (pss_cons (ps_asg (pe_op op_mod (pe_callTy call_int1 (by rfl) T.b_int (by decide +kernel) (pa_cons (pe_op op_add (pe_op op_mul (pe_ix (ix_seqK (K := K) rfl) (pv 0) pe_int (fun _ _ => rfl)) pe_int) pe_int) pa_nil)) pe_int) (pg_sub (pv 0) pe_int set_list))
      (pss_one (ps_ret (pe_op op_mod (pe_callTy call_int1 (by rfl) T.b_int (by decide +kernel) (pa_cons (pe_op op_fdiv (pe_op op_mod (pe_callTy call_int1 (by rfl) T.b_int (by decide +kernel) (pa_cons (pe_op op_mul (pe_ix (ix_seqK (K := K) rfl) (pv 0) pe_int (fun _ _ => rfl)) (pe_ix (ix_seqK (K := K) rfl) (pv 0) pe_int (fun _ _ => rfl))) pa_nil)) pe_int) pe_int) pa_nil)) (pv 1)))))), ?_⟩
    have g0 : PotAt H p := ⟨a, b, hp, ha, hb, hb2⟩
    repeat walk_at "s1"
    refine ite2 (fun c => ?_) fun c => ?_
    · have c' : 0 < a := of_decide_eq_true c
      repeat walk_at "s1"
      rename_i q hq
      exact k _ _ (Int.emod_nonneg _ (by omega)) (Int.emod_lt_of_pos _ hn) (((Go.refl g0).new hq).put (Int.ediv_nonneg ha (by omega)) hb hb2)
    · repeat walk_at "s1"
      exact k _ _ (Int.emod_nonneg _ (by omega)) (Int.emod_lt_of_pos _ hn) ((Go.refl g0).put ha (Int.emod_nonneg _ (by decide)) (emodb _ _ (by decide) (by decide)))
theorem ok_pot (F : Fun K "_law_pot" "_law_pot" s_law_pot f fd) (hm : mg "_law_pot" = some (.ref f)) (T : Txt K mg) : Nm P w K mg base CX0 1 "_law_pot" s_law_pot ["_law_script", "_law_k"] (spPot K) := by
  refine nm_of F hm sc_law_pot (fun vs H Q E h => ?_) fun cdv A outer s H vs Q E hr h => ?_
  · unfold spPot at h
    obtain ⟨a, ns, k, rfl, _⟩ := h
    rfl
  · unfold spPot at h
    obtain ⟨a, ns, k, rfl, hS, hl, hk, hk2, kk⟩ := h
    refine ⟨_, (pss_cons (ps_set (i := 2) sc_law_pot.nd rfl (by first | exact Or.inl rfl | exact Or.inr rfl) (pe_op op_add (pe_op op_mul pe_int (pv 1)) pe_int))
      (pss_cons (ps_if (pt_cmpR op_lt (pv 1) (pe_callB (call_lenK (K := K) rfl) (by rfl) T.b_len PySem.boot_len (pa_cons (pv 0) pa_nil)) (nomark _)) (pss_one (ps_set (i := 2) sc_law_pot.nd rfl (by first | exact Or.inl rfl | exact Or.inr rfl) (pe_callB call_abs (by rfl) T.b_abs (by decide +kernel) (pa_cons (pe_ix (ix_seqK (K := K) rfl) (pv 0) (pv 1) (fun _ _ => rfl)) pa_nil)))) pss_nil)
      (pss_one (ps_ret (pe_lst (pa_cons (pe_callB (call_max2 rfl) (by rfl) T.b_max (by decide +kernel) (pa_cons pe_int (pa_cons (pe_op op_sub (pv 2) (pe_op op_pow pe_int pe_int)) pa_nil))) (pa_cons (pe_op op_add (pe_op op_mod (pe_callTy call_int1 (by rfl) T.b_int (by decide +kernel) (pa_cons (pe_op op_add (pe_op op_add (pe_op op_mul (pe_op op_mod (pe_callTy call_int1 (by rfl) T.b_int (by decide +kernel) (pa_cons (pv 2) pa_nil)) pe_int) pe_int) (pe_op op_mul pe_int (pv 1))) pe_int) pa_nil)) pe_int) pe_int) pa_nil))))))), ?_⟩
    repeat walk_at "s1"
    refine ite2 (fun c => ?_) fun c => ?_
    · have c' : k < (ns.length : Int) := by have := of_decide_eq_true c; rw [List.length_map] at this; exact this
      have hat : atI (ns.map V.int) k = some (.int (ns.getD k.toNat 0)) := by
        obtain ⟨j, rfl⟩ := Int.eq_ofNat_of_zero_le hk
        have hj : j < ns.length := by omega
        refine atI_nat ?_
        simp [List.getElem?_map, hj, List.getD]
      iterate 30 (try walk_at "s1")
      refine kk _ _ (by assumption) ⟨_, _, upd_same, ?_, ?_, ?_⟩ fun b o e => updn (nonn (by assumption) e) e
      · exact max0
      · exact (potb _ _ (by decide) (by decide)).1
      · exact (potb _ _ (by decide) (by decide)).2
    · iterate 30 (try walk_at "s1")
      refine kk _ _ (by assumption) ⟨_, _, upd_same, ?_, ?_, ?_⟩ fun b o e => updn (nonn (by assumption) e) e
      · exact max0
      · exact (potb _ _ (by decide) (by decide)).1
      · exact (potb _ _ (by decide) (by decide)).2
theorem ok_among (F : Fun K "_law_among" "_law_among" s_law_among f fd) (hm : mg "_law_among" = some (.ref f)) (T : Txt K mg) (c_law_draw : Nm P w K mg base CX0 1 "_law_draw" s_law_draw ["_law_pot_here", "_law_many"] spDraw) :
    Nm P w K mg base CX0 2 "_law_among" s_law_among ["_law_pot_here", "_law_some_here"] (spAmong K) := by
  refine nm_of F hm sc_law_among (fun vs H Q E h => ?_) fun cdv A outer s H vs Q E hr h => ?_
  · unfold spAmong at h
    obtain ⟨p, x, rfl, _⟩ := h
    rfl
  · unfold spAmong at h
    obtain ⟨p, x, rfl, hp, h⟩ := h
    refine ⟨_, (pss_one (ps_ret (pe_ix (ix_seqK (K := K) rfl) (pv 1) (pe_g c_law_draw hr (by decide) L2.pass0 bp_law_draw (by rfl) (pa_cons (pv 0) (pa_cons (pe_callB (call_lenK (K := K) rfl) (by rfl) T.b_len PySem.boot_len (pa_cons (pv 1) pa_nil)) pa_nil))) (fun _ _ => rfl)))), ?_⟩
    rcases h with ⟨a, xs, rfl, na, hS, l0, l1, k⟩ | ⟨z, rfl, l0, l1, k⟩
    · iterate 4 walk_at "s1"
      refine draw_go hp (by omega) (by omega) fun d H' h0 h1 g => ?_
      obtain ⟨v, hv, hat⟩ := atI_ok (xs := xs) h0 h1
      exact Or.inl ⟨_, _, _, _, rfl, rfl, g.lst na hS, hat, k v hv H' g⟩
    · iterate 4 walk_at "s1"
      refine draw_go hp (by omega) (by omega) fun d H' h0 h1 g => ?_
      obtain ⟨c, hc, hat⟩ := atI_ok (xs := z.cps.toList) h0 (by rw [Array.length_toList]; exact h1)
      exact Or.inr (Or.inr ⟨_, _, c, rfl, rfl, szl (by omega), hat, k c hc H' g⟩)
theorem ok_bits (F : Fun K "_law_bits" "_law_bits" s_law_bits f fd) (hm : mg "_law_bits" = some (.ref f)) (T : Txt K mg) (c_law_draw : Nm P w K mg base CX0 1 "_law_draw" s_law_draw ["_law_pot_here", "_law_many"] spDraw)
    (c_law_among : Nm P w K mg base CX0 2 "_law_among" s_law_among ["_law_pot_here", "_law_some_here"] (spAmong K)) :
    Nm P w K mg base CX0 3 "_law_bits" s_law_bits ["_law_pot_here", "_law_least_here", "_law_most"] spBits := by
  refine nm_of F hm sc_law_bits (fun vs H Q E h => ?_) fun cdv A outer s H vs Q E hr h => ?_
  · unfold spBits at h
    obtain ⟨p, lo, hi, rfl, _⟩ := h
    rfl
  · unfold spBits at h
    obtain ⟨p, lo, hi, rfl, hp, h0, h1, h2, k⟩ := h
    refine ⟨_, (pss_one (ps_ret (pe_join pe_str (pe_lc (own := [("_law_turn", 3)]) (g := (gName 3)) (by rfl) sc_law_bits.nd (pi_range1 (by rfl) T.b_range (pa_cons (pe_op op_add (pv 1) (pe_g c_law_draw hr (by decide) L2.pass0 bp_law_draw (by rfl) (pa_cons (pv 0) (pa_cons (pe_op op_add (pe_op op_sub (pv 2) (pv 1)) pe_int) pa_nil)))) pa_nil)) (blkOk_by (own := [("_law_turn", 3)]) (N := ["_law_pot_here", "_law_least_here", "_law_most", "_law_turn"]) (sc := defScope s_law_bits) (by decide +kernel)) (fun _ _ _ _ _ => (pg_name (i := 3) sc_law_bits.nd rfl (by first | exact Or.inl rfl | exact Or.inr rfl))) (fun _ _ _ _ _ => pts_nil) (fun _ _ _ _ _ => (pe_g c_law_among hr (by decide) L2.pass0 bp_law_among (by rfl) (pa_cons (pv 0) (pa_cons pe_str pa_nil)))))))), ?_⟩
    refine ⟨⟨_, rfl⟩, ?_⟩
    iterate 6 (try walk_at "s1")
    refine draw_go hp (by omega) (by omega) fun d H1 d0 d1 g => ?_
    have d1' : d < hi - lo + 1 := d1
    iterate 2 (try walk_at "s1")
    refine ⟨by show -(2 ^ 62) ≤ lo + d; omega, by show lo + d < 2 ^ 62; omega, fun D nD => ?_⟩
    have nDp : D ≠ p := g.pot.ne nD
    refine lc_it walk_range (fun i H => ∃ zs : List Nat, H D = some (.lst ((zs.map sg).map V.str)) ∧ zs.length = i ∧ (∀ c ∈ zs, c = 48 ∨ c = 49) ∧ Go p H1 H) ⟨[], upd_same, rfl, (fun c hc => by cases hc), (Go.refl g.pot).new nD⟩ (fun _ _ _ _ => trivial) ?_ ?_
    · rintro i x H2 H3 hi ⟨zs, hD, hl, hz, g2⟩ ⟨rfl, rfl⟩
      refine ⟨rfl, ?_⟩
      dsimp only [tYes]
      rw [if_pos rfl]
      walk_at "s1"
      refine among_s g2.pot (by decide) (by decide) fun c hc H4 g3 => ?_
      refine ⟨_, g3.kp hD nDp, szt (by rw [List.length_map, List.length_map, hl]; have := d1'; omega), zs ++ [c], ?_, ?_, ?_, (g2.trans g3).mut nD nDp⟩
      · rw [upd_same, List.map_append, List.map_append]; rfl
      · rw [List.length_append, hl]; rfl
      · intro e he
        rcases List.mem_append.mp he with he | he
        · exact hz e he
        · rw [List.mem_singleton] at he
          subst he
          have : e ∈ [48, 49] := hc
          simpa using this
    · rintro H2 ⟨zs, hD, hl, hz, g2⟩
      have hn : ((lo + d - 0).toNat : Int) = lo + d := by omega
      refine ⟨_, _, zs.map sg, rfl, rfl, Or.inl (SqL.of hD), ?_, ?_⟩
      · rw [sum_sg, List.length_map]
        show zs.length + zs.length * 0 ≤ _
        omega
      · show Q (.str (Txt.join "" (zs.map sg))) H2
        rw [join_sg]
        refine k _ _ hz ?_ ?_ (g.trans g2)
        · rw [SX.S_len]; omega
        · rw [SX.S_len]; omega
end
namespace M
/-! ## texts of 0 and 1 as numbers -/
def BL (l : List Nat) : Prop := ∀ c ∈ l, c = 48 ∨ c = 49
def bn : List Nat → Nat
  | [] => 0
  | c :: r => (c - 48) * 2 ^ r.length + bn r
theorem BL.tl {c : Nat} {l : List Nat} (h : BL (c :: l)) : BL l := fun d hd => h d (List.mem_cons_of_mem _ hd)
theorem BL.hd {c : Nat} {l : List Nat} (h : BL (c :: l)) : c = 48 ∨ c = 49 := h c (List.mem_cons_self ..)
theorem BL.app {x y : List Nat} (h : BL x) (k : BL y) : BL (x ++ y) := fun d hd => (List.mem_append.mp hd).elim (h d) (k d)
theorem BL.l {x y : List Nat} (h : BL (x ++ y)) : BL x := fun d hd => h d (List.mem_append_left _ hd)
theorem BL.r {x y : List Nat} (h : BL (x ++ y)) : BL y := fun d hd => h d (List.mem_append_right _ hd)
theorem BL.rep (n : Nat) : BL (List.replicate n 48) := fun d hd => .inl (List.eq_of_mem_replicate hd)
theorem bn_app : ∀ x y : List Nat, bn (x ++ y) = bn x * 2 ^ y.length + bn y
  | [], y => by simp [bn]
  | c :: x, y => by
    show (c - 48) * 2 ^ (x ++ y).length + bn (x ++ y) = ((c - 48) * 2 ^ x.length + bn x) * 2 ^ y.length + bn y
    rw [bn_app x y, List.length_append, Nat.pow_add, Nat.add_mul, Nat.mul_assoc, Nat.add_assoc]
theorem bn_rep : ∀ n : Nat, bn (List.replicate n 48) = 0
  | 0 => rfl
  | n + 1 => by
    show (48 - 48) * _ + bn (List.replicate n 48) = 0
    rw [bn_rep n]; simp
theorem bn_lt : ∀ {l : List Nat}, BL l → bn l < 2 ^ l.length
  | [], _ => by simp [bn]
  | c :: l, h => by
    have ih := bn_lt h.tl
    show (c - 48) * 2 ^ l.length + bn l < 2 ^ (l.length + 1)
    rw [Nat.pow_succ]
    rcases h.hd with rfl | rfl <;> simp <;> omega
theorem bn_inj : ∀ {x y : List Nat}, BL x → BL y → x.length = y.length → bn x = bn y → x = y
  | [], [], _, _, _, _ => rfl
  | [], _ :: _, _, _, h, _ => by simp at h
  | _ :: _, [], _, _, h, _ => by simp at h
  | c :: x, d :: y, hx, hy, hl, h => by
    have hl' : x.length = y.length := by simpa using hl
    have h' : (c - 48) * 2 ^ x.length + bn x = (d - 48) * 2 ^ y.length + bn y := h
    have l1 := bn_lt hx.tl
    have l2 := bn_lt hy.tl
    rw [hl'] at h' l1
    rcases hx.hd with rfl | rfl <;> rcases hy.hd with rfl | rfl
    · rw [bn_inj hx.tl hy.tl hl' (by simpa using h')]
    · simp at h'; omega
    · simp at h'; omega
    · rw [bn_inj hx.tl hy.tl hl' (by simpa using h')]
theorem bn_foldl : ∀ (l : List Nat) (a : Nat), l.foldl (fun a c => a * 2 + (c - 48)) a = a * 2 ^ l.length + bn l
  | [], a => by simp [bn]
  | c :: l, a => by
    rw [List.foldl_cons, bn_foldl l]
    show (a * 2 + (c - 48)) * 2 ^ l.length + bn l = a * 2 ^ (l.length + 1) + ((c - 48) * 2 ^ l.length + bn l)
    rw [Nat.pow_succ, Nat.add_mul, Nat.mul_assoc, Nat.mul_comm 2 (2 ^ l.length)]
    omega
/-! ## stretches as intervals -/
def size (w : Nat) (t : List Nat) : Nat := 2 ^ (w - t.length)
def lo (w : Nat) (t : List Nat) : Nat := bn t * size w t
def hi (w : Nat) (t : List Nat) : Nat := lo w t + size w t
theorem size_pos (w : Nat) (t : List Nat) : 0 < size w t := Nat.two_pow_pos _
theorem lo_first (w : Nat) (t : List Nat) : bn (t ++ List.replicate (w - t.length) 48) = lo w t := by
  rw [bn_app, bn_rep, List.length_replicate]; rfl
theorem hi_le {w : Nat} {t : List Nat} (h : BL t) (hl : t.length ≤ w) : hi w t ≤ 2 ^ w := by
  have l := bn_lt h
  have e : 2 ^ w = 2 ^ t.length * size w t := by unfold size; rw [← Nat.pow_add]; congr 1; omega
  unfold hi lo
  have : (bn t + 1) * size w t ≤ 2 ^ t.length * size w t := Nat.mul_le_mul_right _ l
  rw [Nat.add_mul, Nat.one_mul] at this
  omega
theorem pre_iff {w : Nat} {t a : List Nat} (ht : BL t) (ha : BL a) (hl : t.length ≤ w) (hw : a.length = w) : t <+: a ↔ lo w t ≤ bn a ∧ bn a < hi w t := by
  have e : a = a.take t.length ++ a.drop t.length := (List.take_append_drop ..).symm
  have h1 : BL (a.take t.length) := fun c hc => ha c (List.mem_of_mem_take hc)
  have h2 : BL (a.drop t.length) := fun c hc => ha c (List.mem_of_mem_drop hc)
  have l1 : (a.take t.length).length = t.length := by rw [List.length_take]; omega
  have l2 : (a.drop t.length).length = w - t.length := by rw [List.length_drop]; omega
  have b2 := bn_lt h2
  have eb : bn a = bn (a.take t.length) * size w t + bn (a.drop t.length) := by
    have := bn_app (a.take t.length) (a.drop t.length)
    rw [← e, l2] at this
    exact this
  have b2' : bn (a.drop t.length) < size w t := by rw [l2] at b2; exact b2
  rw [List.prefix_iff_eq_take]
  unfold hi lo
  rw [eb]
  have sp := size_pos w t
  constructor
  · intro q
    rw [← q]
    omega
  · rintro ⟨q1, q2⟩
    refine bn_inj ht h1 l1.symm ?_
    have : bn t * size w t < (bn (a.take t.length) + 1) * size w t := by rw [Nat.add_mul, Nat.one_mul]; omega
    have i1 := Nat.lt_of_mul_lt_mul_right this
    have : bn (a.take t.length) * size w t < (bn t + 1) * size w t := by rw [Nat.add_mul, Nat.one_mul]; omega
    have i2 := Nat.lt_of_mul_lt_mul_right this
    omega
theorem lo_cons {w c : Nat} {t : List Nat} : lo (w + 1) (c :: t) = if t.length ≤ w then (c - 48) * 2 ^ w + lo w t else (c - 48) * 2 ^ t.length + bn t := by
  unfold lo size
  show ((c - 48) * 2 ^ t.length + bn t) * 2 ^ (w + 1 - (t.length + 1)) = _
  rw [Nat.add_sub_add_right]
  split
  · rename_i h
    rw [Nat.add_mul, Nat.mul_assoc, ← Nat.pow_add]
    congr 3
    omega
  · rename_i h
    rw [show w - t.length = 0 by omega]
    simp
theorem lex_hi : ∀ {w : Nat} {x y : List Nat}, BL x → BL y → x.length ≤ w → y.length ≤ w → x < y → ¬ x <+: y → hi w x ≤ lo w y
  | w, [], y, _, _, _, _, _, np => absurd (List.nil_prefix) np
  | w, c :: x, [], _, _, _, _, h, _ => by cases h
  | 0, _ :: _, _ :: _, _, _, h, _, _, _ => by simp at h
  | w + 1, c :: x, d :: y, hx, hy, lx, ly, h, np => by
    have lx' : x.length ≤ w := by simpa using lx
    have ly' : y.length ≤ w := by simpa using ly
    have sz : ∀ (e : Nat) (z : List Nat), size (w + 1) (e :: z) = size w z := fun e z => by unfold size; rw [List.length_cons, Nat.add_sub_add_right]
    unfold hi
    rw [sz, lo_cons, if_pos lx', lo_cons, if_pos ly']
    have hh : lo w x + size w x ≤ 2 ^ w := hi_le hx.tl lx'
    rcases hx.hd with rfl | rfl <;> rcases hy.hd with rfl | rfl
    · have := lex_hi (w := w) hx.tl hy.tl lx' ly' (by
        rw [List.cons_lt_cons_iff] at h
        rcases h with h | h
        · omega
        · exact h.2) (fun q => np (List.prefix_cons_inj _ |>.mpr q))
      unfold hi at this
      simpa using this
    · simp; omega
    · rw [List.cons_lt_cons_iff] at h
      omega
    · have := lex_hi (w := w) hx.tl hy.tl lx' ly' (by
        rw [List.cons_lt_cons_iff] at h
        rcases h with h | h
        · omega
        · exact h.2) (fun q => np (List.prefix_cons_inj _ |>.mpr q))
      unfold hi at this
      omega
end M
namespace M
/-! ## longest beginnings -/
/-- the longest of the beginnings of a up to k signs that is among ts -/
def lgN (ts : List (List Nat)) (a : List Nat) : Nat → List Nat
  | 0 => []
  | k + 1 => if a.take (k + 1) ∈ ts then a.take (k + 1) else lgN ts a k
def lg (ts : List (List Nat)) (a : List Nat) : List Nat := lgN ts a a.length
/-- p is the longest one of ts with which a begins -/
structure IsLg (ts : List (List Nat)) (a p : List Nat) : Prop where
  mem : p ∈ ts
  pre : p <+: a
  top : ∀ q ∈ ts, q <+: a → q.length ≤ p.length
theorem IsLg.uniq {ts : List (List Nat)} {a p q : List Nat} (h : IsLg ts a p) (k : IsLg ts a q) : p = q := by
  have e : p.length = q.length := Nat.le_antisymm (k.top p h.mem h.pre) (h.top q k.mem k.pre)
  rw [List.prefix_iff_eq_take.mp h.pre, List.prefix_iff_eq_take.mp k.pre, e]
theorem lgN_is {ts : List (List Nat)} {a : List Nat} (h0 : [] ∈ ts) : ∀ k, k ≤ a.length → (∀ q ∈ ts, q <+: a → q.length ≤ k) → IsLg ts a (lgN ts a k)
  | 0, _, h => ⟨h0, List.nil_prefix, h⟩
  | k + 1, hk, h => by
    unfold lgN
    split
    · rename_i hm
      exact ⟨hm, List.take_prefix _ _, fun q hq hp => by rw [List.length_take]; have := h q hq hp; omega⟩
    · rename_i hm
      refine lgN_is h0 k (by omega) fun q hq hp => ?_
      have l := h q hq hp
      by_cases e : q.length = k + 1
      · refine absurd ?_ hm
        rw [← e, ← List.prefix_iff_eq_take.mp hp]
        exact hq
      · omega
theorem lg_is {ts : List (List Nat)} {a : List Nat} (h0 : [] ∈ ts) : IsLg ts a (lg ts a) := lgN_is h0 a.length (Nat.le_refl _) fun q _ hp => hp.length_le
theorem lg_eq {ts : List (List Nat)} {a p : List Nat} (h0 : [] ∈ ts) (h : IsLg ts a p) : lg ts a = p := (lg_is h0).uniq h
theorem lgN_step {ts : List (List Nat)} {a : List Nat} {k : Nat} (hk : k + 1 ≤ a.length) (h : a.take (k + 1) ∉ ts) : lgN ts a (k + 1) = lgN ts a k := by
  rw [lgN, if_neg h]
/-- whose cell a stretch lies in, itself left out -/
def par (ts : List (List Nat)) (t : List Nat) : List Nat := lg ts t.dropLast
/-- the widest stretches inside one -/
def ch (ts : List (List Nat)) (s : List Nat) : List (List Nat) := ts.filter fun t => decide (t ≠ [] ∧ par ts t = s)
theorem mem_ch {ts : List (List Nat)} {s t : List Nat} : t ∈ ch ts s ↔ t ∈ ts ∧ t ≠ [] ∧ par ts t = s := by
  unfold ch
  rw [List.mem_filter, decide_eq_true_eq]
theorem pre_dropLast {q t : List Nat} : q <+: t.dropLast ↔ q <+: t ∧ q.length ≤ t.length - 1 := by
  constructor
  · intro h
    exact ⟨h.trans (List.dropLast_prefix t), by have := h.length_le; rwa [List.length_dropLast] at this⟩
  · rintro ⟨h, l⟩
    rw [List.prefix_iff_eq_take] at h ⊢
    rw [List.dropLast_eq_take, List.take_take, Nat.min_eq_left l]
    exact h
theorem ch_iff {ts : List (List Nat)} {s t : List Nat} (h0 : [] ∈ ts) : t ∈ ch ts s ↔ t ∈ ts ∧ t ≠ [] ∧ s ∈ ts ∧ s <+: t ∧ s.length < t.length ∧ ∀ q ∈ ts, q <+: t → q.length < t.length → q.length ≤ s.length := by
  rw [mem_ch]
  constructor
  · rintro ⟨h1, h2, h3⟩
    have h4 : IsLg ts t.dropLast s := h3 ▸ lg_is h0
    have p := pre_dropLast.mp h4.pre
    have lp : 0 < t.length := List.length_pos_iff.mpr h2
    exact ⟨h1, h2, h4.mem, p.1, by omega, fun q hq hp hl => h4.top q hq (pre_dropLast.mpr ⟨hp, by omega⟩)⟩
  · rintro ⟨h1, h2, h3, h4, h5, h6⟩
    exact ⟨h1, h2, lg_eq h0 ⟨h3, pre_dropLast.mpr ⟨h4, by omega⟩, fun q hq hp => h6 q hq (pre_dropLast.mp hp).1 (by have := (pre_dropLast.mp hp).2; have : 0 < t.length := List.length_pos_iff.mpr h2; omega)⟩⟩
/-- a least one of a list -/
theorem least {α : Type} (f : α → Nat) (P : α → Prop) : ∀ (n : Nat) (x : α), P x → f x ≤ n → ∃ y, P y ∧ ∀ z, P z → f y ≤ f z
  | 0, x, h, l => ⟨x, h, fun z _ => by omega⟩
  | n + 1, x, h, l => by
    by_cases e : ∃ z, P z ∧ f z < f x
    · obtain ⟨z, hz, hl⟩ := e
      exact least f P n z hz (by omega)
    · exact ⟨x, h, fun z hz => by
        by_cases q : f x ≤ f z
        · exact q
        · exact absurd ⟨z, hz, by omega⟩ e⟩
theorem pre_both {p q a : List Nat} (h : p <+: a) (k : q <+: a) (l : p.length ≤ q.length) : p <+: q := List.prefix_of_prefix_length_le h k l
/-- the cell of s: its addresses but for those of the widest ones inside -/
theorem cell_iff {ts : List (List Nat)} {s a : List Nat} (h0 : [] ∈ ts) (hs : s ∈ ts) : lg ts a = s ↔ s <+: a ∧ ∀ c ∈ ch ts s, ¬ c <+: a := by
  constructor
  · intro e
    have h : IsLg ts a s := e ▸ lg_is h0
    refine ⟨h.pre, fun c hc hp => ?_⟩
    have hc' := (ch_iff h0).mp hc
    have := h.top c hc'.1 hp
    omega
  · rintro ⟨hp, hn⟩
    refine lg_eq h0 ⟨hs, hp, fun q hq hqa => ?_⟩
    refine Decidable.byContradiction fun hl => ?_
    obtain ⟨c, ⟨hc1, hc2, hc3⟩, hc4⟩ := least List.length (fun c => c ∈ ts ∧ c <+: a ∧ s.length < c.length) q.length q ⟨hq, hqa, by omega⟩ (Nat.le_refl _)
    refine hn c ((ch_iff h0).mpr ⟨hc1, ?_, hs, pre_both hp hc2 (by omega), hc3, fun r hr hrc hrl => ?_⟩) hc2
    · rintro rfl
      simp at hc3
    · refine Decidable.byContradiction fun hl2 => ?_
      have := hc4 r ⟨hr, hrc.trans hc2, by omega⟩
      omega
/-- two of them have no address in common -/
theorem ch_apart {ts : List (List Nat)} {s c d : List Nat} (h0 : [] ∈ ts) (hc : c ∈ ch ts s) (hd : d ∈ ch ts s) (h : c <+: d) : c = d := by
  have hc' := (ch_iff h0).mp hc
  have hd' := (ch_iff h0).mp hd
  by_cases e : c.length < d.length
  · have := hd'.2.2.2.2.2 c hc'.1 h e
    omega
  · exact h.eq_of_length (by have := h.length_le; omega)
/-! ## counting -/
def inI (w : Nat) (t : List Nat) (v : Nat) : Bool := decide (lo w t ≤ v) && decide (v < hi w t)
theorem cnt_and {α : Type} (p q : α → Bool) : ∀ l : List α, l.countP p = l.countP (fun x => p x && q x) + l.countP (fun x => p x && !q x)
  | [] => rfl
  | x :: l => by
    rw [List.countP_cons, List.countP_cons, List.countP_cons, cnt_and p q l]
    cases p x <;> cases q x <;> simp <;> omega
theorem cnt_sum {α : Type} (l : List α) : ∀ (cs : List (α → Bool)) (p : α → Bool), cs.Pairwise (fun c d => ∀ x, c x = true → d x = false) → (∀ c ∈ cs, ∀ x, c x = true → p x = true) →
    l.countP p = l.countP (fun x => p x && cs.all fun c => !c x) + (cs.map fun c => l.countP c).sum
  | [], p, _, _ => by simp
  | c :: cs, p, h, k => by
    have hc := List.pairwise_cons.mp h
    have ih := cnt_sum l cs (fun x => p x && !c x) hc.2 fun d hd x hx => by
      rw [k d (List.mem_cons_of_mem _ hd) x hx, Bool.true_and]
      cases e : c x with
      | false => rfl
      | true => rw [hc.1 d hd x e] at hx; cases hx
    have e1 : l.countP (fun x => p x && c x) = l.countP c := by
      congr 1
      funext x
      cases e : c x with
      | false => rw [Bool.and_false]
      | true => rw [k c (List.mem_cons_self ..) x e]; rfl
    rw [cnt_and p c l, e1, ih, List.map_cons, List.sum_cons]
    have e2 : (fun x => p x && (c :: cs).all fun c => !c x) = fun x => (p x && !c x) && cs.all fun c => !c x := by
      funext x
      rw [List.all_cons, Bool.and_assoc]
    rw [e2]
    omega
theorem cnt_range : ∀ (n a b : Nat), a ≤ b → b ≤ n → (List.range n).countP (fun v => decide (a ≤ v) && decide (v < b)) = b - a
  | 0, a, b, h1, h2 => by simp; omega
  | n + 1, a, b, h1, h2 => by
    rw [List.range_succ, List.countP_append]
    by_cases e : b ≤ n
    · rw [cnt_range n a b h1 e]
      simp [show ¬ n < b by omega]
    · have eb : b = n + 1 := by omega
      subst eb
      by_cases ea : a ≤ n
      · have ih := cnt_range n a n ea (Nat.le_refl _)
        have e2 : (List.range n).countP (fun v => decide (a ≤ v) && decide (v < n + 1)) = (List.range n).countP (fun v => decide (a ≤ v) && decide (v < n)) := by
          refine List.countP_congr fun v hv => ?_
          have := List.mem_range.mp hv
          simp; omega
        rw [e2, ih]
        simp [ea]
        omega
      · have e2 : (List.range n).countP (fun v => decide (a ≤ v) && decide (v < n + 1)) = 0 := by
          rw [List.countP_eq_zero]
          intro v hv
          have := List.mem_range.mp hv
          simp; omega
        rw [e2]
        simp [ea]
        omega
theorem cnt_inI {w : Nat} {t : List Nat} (h : BL t) (l : t.length ≤ w) : (List.range (2 ^ w)).countP (inI w t) = size w t := by
  show (List.range (2 ^ w)).countP (fun v => decide (lo w t ≤ v) && decide (v < hi w t)) = _
  rw [cnt_range _ _ _ (by unfold hi; omega) (hi_le h l)]
  unfold hi; omega
/-! ## the first place that no part holds -/
def scan (w : Nat) : Nat → List (List Nat) → Nat
  | place, [] => place
  | place, c :: r => if lo w c = place then scan w (place + size w c) r else place
theorem scan_ok (w : Nat) : ∀ (cs : List (List Nat)) (place : Nat), cs.Pairwise (fun c d => hi w c ≤ lo w d) → (∀ c ∈ cs, place ≤ lo w c) →
    place ≤ scan w place cs ∧ (∀ v, place ≤ v → v < scan w place cs → ∃ c ∈ cs, inI w c v = true) ∧ ∀ c ∈ cs, inI w c (scan w place cs) = false
  | [], place, _, _ => ⟨Nat.le_refl _, fun v h1 h2 => by simp [scan] at h2; omega, fun c hc => by cases hc⟩
  | c :: cs, place, h, k => by
    have hc := List.pairwise_cons.mp h
    have sp := size_pos w c
    unfold scan
    split
    · rename_i e
      have ih := scan_ok w cs (place + size w c) hc.2 fun d hd => by
        have := hc.1 d hd
        unfold hi at this
        omega
      refine ⟨by omega, fun v h1 h2 => ?_, fun d hd => ?_⟩
      · by_cases q : v < place + size w c
        · refine ⟨c, List.mem_cons_self .., ?_⟩
          unfold inI hi
          rw [Bool.and_eq_true, decide_eq_true_eq, decide_eq_true_eq]
          omega
        · obtain ⟨d, hd, e2⟩ := ih.2.1 v (by omega) h2
          exact ⟨d, List.mem_cons_of_mem _ hd, e2⟩
      · rcases List.mem_cons.mp hd with rfl | hd
        · unfold inI hi
          rw [Bool.and_eq_false_iff, decide_eq_false_iff_not, decide_eq_false_iff_not]
          omega
        · exact ih.2.2 d hd
    · rename_i e
      have kc := k c (List.mem_cons_self ..)
      refine ⟨Nat.le_refl _, fun v h1 h2 => by omega, fun d hd => ?_⟩
      unfold inI
      rw [Bool.and_eq_false_iff, decide_eq_false_iff_not, decide_eq_false_iff_not]
      rcases List.mem_cons.mp hd with rfl | hd
      · omega
      · have := hc.1 d hd
        unfold hi at this
        omega
end M
namespace M
/-- all addresses -/
def addrs : Nat → List (List Nat)
  | 0 => [[]]
  | n + 1 => (addrs n).flatMap fun r => [r ++ [48], r ++ [49]]
theorem addr_ok : ∀ {w : Nat} {a : List Nat}, a ∈ addrs w → BL a ∧ a.length = w
  | 0, a, h => by
    obtain rfl := List.mem_singleton.mp h
    exact ⟨(fun c hc => by cases hc), rfl⟩
  | w + 1, a, h => by
    obtain ⟨r, hr, h⟩ := List.mem_flatMap.mp h
    have ih := addr_ok hr
    have : a = r ++ [48] ∨ a = r ++ [49] := by simpa using h
    rcases this with rfl | rfl
    · exact ⟨ih.1.app fun c hc => .inl (List.mem_singleton.mp hc), by rw [List.length_append, ih.2]; rfl⟩
    · exact ⟨ih.1.app fun c hc => .inr (List.mem_singleton.mp hc), by rw [List.length_append, ih.2]; rfl⟩
theorem range_two : ∀ n : Nat, (List.range n).flatMap (fun v => [2 * v, 2 * v + 1]) = List.range (2 * n)
  | 0 => rfl
  | n + 1 => by
    rw [List.range_succ, List.flatMap_append, range_two n, show 2 * (n + 1) = 2 * n + 1 + 1 by omega, List.range_succ, List.range_succ, List.append_assoc]
    rfl
theorem addrs_bn : ∀ w : Nat, (addrs w).map bn = List.range (2 ^ w)
  | 0 => rfl
  | w + 1 => by
    show ((addrs w).flatMap fun r => [r ++ [48], r ++ [49]]).map bn = _
    rw [Nat.pow_succ, Nat.mul_comm, ← range_two, ← addrs_bn w, List.map_flatMap, List.flatMap_map]
    congr 1
    funext r
    have e0 : bn (r ++ [48]) = 2 * bn r := by rw [bn_app]; simp [bn]; omega
    have e1 : bn (r ++ [49]) = 2 * bn r + 1 := by rw [bn_app]; simp [bn]; omega
    show [bn (r ++ [48]), bn (r ++ [49])] = _
    rw [e0, e1]
theorem addrs_len (w : Nat) : (addrs w).length = 2 ^ w := by
  have := congrArg List.length (addrs_bn w)
  simpa using this
theorem addrs_lt (w : Nat) : (addrs w).Pairwise fun a b => bn a < bn b := by
  have h : ((addrs w).map bn).Pairwise (· < ·) := by rw [addrs_bn]; exact List.pairwise_lt_range
  rwa [List.pairwise_map] at h
theorem addr_of {w : Nat} {a : List Nat} (h : BL a) (l : a.length = w) : a ∈ addrs w := by
  have hl : bn a < 2 ^ w := l ▸ bn_lt h
  have : bn a ∈ (addrs w).map bn := by rw [addrs_bn]; exact List.mem_range.mpr hl
  obtain ⟨b, hb, e⟩ := List.mem_map.mp this
  have hb' := addr_ok hb
  rw [← bn_inj hb'.1 h (hb'.2.trans l.symm) e]
  exact hb
theorem find_least {w : Nat} {p : List Nat → Bool} {a : List Nat} (ha : a ∈ addrs w) (hp : p a = true) (hl : ∀ b ∈ addrs w, p b = true → bn a ≤ bn b) : (addrs w).find? p = some a := by
  cases e : (addrs w).find? p with
  | none => exact absurd hp (List.find?_eq_none.mp e a ha)
  | some b =>
    obtain ⟨pb, as, bs, e2, e3⟩ := List.find?_eq_some_iff_append.mp e
    have hb : b ∈ addrs w := by rw [e2]; simp
    have l1 := hl b hb pb
    have ha' := ha
    rw [e2] at ha'
    rcases List.mem_append.mp ha' with q | q
    · have := e3 a q
      rw [hp] at this
      cases this
    · rcases List.mem_cons.mp q with rfl | q
      · rfl
      · have s := addrs_lt w
        rw [e2] at s
        have := (List.pairwise_cons.mp (List.pairwise_append.mp s).2.1).1 a q
        omega
/-- the stretches of some cells, in their order -/
structure Known (w : Nat) (ts : List (List Nat)) : Prop where
  all : [] ∈ ts
  bits : ∀ t ∈ ts, BL t
  fit : ∀ t ∈ ts, t.length ≤ w
  ord : ts.Pairwise (· < ·)
def many (w : Nat) (ts : List (List Nat)) (s : List Nat) : Nat := size w s - ((ch ts s).map (size w)).sum
def place (w : Nat) (ts : List (List Nat)) (s : List Nat) : Nat := scan w (lo w s) (ch ts s)
theorem lo_le_of_pre {w : Nat} {s t : List Nat} (hs : BL s) (ht : BL t) (ls : s.length ≤ w) (lt : t.length ≤ w) (h : s <+: t) : lo w s ≤ lo w t ∧ hi w t ≤ hi w s := by
  have hf : BL (t ++ List.replicate (w - t.length) 48) := ht.app (BL.rep _)
  have lf : (t ++ List.replicate (w - t.length) 48).length = w := by rw [List.length_append, List.length_replicate]; omega
  have h1 := (pre_iff hs hf ls lf).mp (h.trans (List.prefix_append _ _))
  rw [lo_first] at h1
  refine ⟨h1.1, ?_⟩
  have hg : BL (t ++ List.replicate (w - t.length) 49) := ht.app fun d hd => .inr (List.eq_of_mem_replicate hd)
  have lg' : (t ++ List.replicate (w - t.length) 49).length = w := by rw [List.length_append, List.length_replicate]; omega
  have h2 := (pre_iff hs hg ls lg').mp (h.trans (List.prefix_append _ _))
  have e : bn (t ++ List.replicate (w - t.length) 49) + 1 = hi w t := by
    rw [bn_app, List.length_replicate]
    have : ∀ n, bn (List.replicate n 49) + 1 = 2 ^ n := by
      intro n
      induction n with
      | zero => rfl
      | succ n ih =>
        show (49 - 48) * 2 ^ (List.replicate n 49).length + bn (List.replicate n 49) + 1 = _
        rw [List.length_replicate, Nat.pow_succ]
        omega
    unfold hi lo size
    rw [Nat.add_assoc, this]
  omega
theorem ch_ord {w : Nat} {ts : List (List Nat)} {s : List Nat} (k : Known w ts) : (ch ts s).Pairwise fun c d => hi w c ≤ lo w d := by
  have h : (ch ts s).Pairwise (· < ·) := k.ord.sublist List.filter_sublist
  refine h.imp_of_mem fun {c d} hc hd l => ?_
  have hc' := mem_ch.mp hc
  have hd' := mem_ch.mp hd
  refine lex_hi (k.bits _ hc'.1) (k.bits _ hd'.1) (k.fit _ hc'.1) (k.fit _ hd'.1) l fun p => ?_
  have := ch_apart k.all hc hd p
  subst this
  exact absurd l (List.lt_irrefl _)
theorem cell_in {w : Nat} {ts : List (List Nat)} {s a : List Nat} (k : Known w ts) (hs : s ∈ ts) (ha : BL a) (la : a.length = w) :
    decide (lg ts a = s) = (inI w s (bn a) && (ch ts s).all fun c => !inI w c (bn a)) := by
  have key := cell_iff (a := a) k.all hs
  have one : ∀ t ∈ ts, (t <+: a ↔ inI w t (bn a) = true) := fun t ht => by
    rw [pre_iff (k.bits t ht) ha (k.fit t ht) la]
    unfold inI
    rw [Bool.and_eq_true, decide_eq_true_eq, decide_eq_true_eq]
  rw [Bool.eq_iff_iff, decide_eq_true_eq, key, Bool.and_eq_true, one s hs, List.all_eq_true]
  refine and_congr_right fun _ => ⟨fun h c hc => ?_, fun h c hc q => ?_⟩
  · have := h c hc
    rw [one c (mem_ch.mp hc).1] at this
    simpa using this
  · have := h c hc
    rw [(one c (mem_ch.mp hc).1).mp q] at this
    cases this
theorem cnt_addrs (w : Nat) (p : Nat → Bool) : (addrs w).countP (fun a => p (bn a)) = (List.range (2 ^ w)).countP p := by
  rw [← addrs_bn, List.countP_map]
  rfl
theorem cnt_cell {w : Nat} {ts : List (List Nat)} {s : List Nat} (k : Known w ts) (hs : s ∈ ts) :
    (addrs w).countP (fun a => decide (lg ts a = s)) + ((ch ts s).map (size w)).sum = size w s := by
  have e : (addrs w).countP (fun a => decide (lg ts a = s)) = (addrs w).countP (fun a => (fun v => inI w s v && (ch ts s).all fun c => !inI w c v) (bn a)) := by
    refine List.countP_congr fun a ha => ?_
    have := addr_ok ha
    rw [cell_in k hs this.1 this.2]
  rw [e, cnt_addrs w fun v => inI w s v && (ch ts s).all fun c => !inI w c v]
  have c := cnt_sum (List.range (2 ^ w)) ((ch ts s).map (inI w)) (inI w s) (by
    rw [List.pairwise_map]
    refine (ch_ord k).imp fun {c d} l x hx => ?_
    unfold inI at hx ⊢
    rw [Bool.and_eq_true, decide_eq_true_eq, decide_eq_true_eq] at hx
    rw [Bool.and_eq_false_iff, decide_eq_false_iff_not]
    left
    omega) (fun q hq x hx => by
    obtain ⟨c, hc, rfl⟩ := List.mem_map.mp hq
    have hc' := (ch_iff k.all).mp hc
    have := lo_le_of_pre (k.bits s hs) (k.bits c hc'.1) (k.fit s hs) (k.fit c hc'.1) hc'.2.2.2.1
    unfold inI at hx ⊢
    rw [Bool.and_eq_true, decide_eq_true_eq, decide_eq_true_eq] at hx ⊢
    omega)
  rw [cnt_inI (k.bits s hs) (k.fit s hs), List.map_map] at c
  have e2 : (ch ts s).map ((fun c => (List.range (2 ^ w)).countP c) ∘ inI w) = (ch ts s).map (size w) := by
    refine List.map_congr_left fun c hc => ?_
    have hc' := mem_ch.mp hc
    exact cnt_inI (k.bits c hc'.1) (k.fit c hc'.1)
  rw [e2] at c
  rw [c]
  congr 1
  refine List.countP_congr fun v _ => ?_
  rw [List.all_map]
  rfl
theorem cnt_many {w : Nat} {ts : List (List Nat)} {s : List Nat} (k : Known w ts) (hs : s ∈ ts) : (addrs w).countP (fun a => decide (lg ts a = s)) = many w ts s ∧ ((ch ts s).map (size w)).sum ≤ size w s := by
  have := cnt_cell k hs
  unfold many
  omega
theorem find_cell {w : Nat} {ts : List (List Nat)} {s : List Nat} (k : Known w ts) (hs : s ∈ ts) :
    (many w ts s = 0 → (addrs w).find? (fun a => decide (lg ts a = s)) = none) ∧
    (many w ts s ≠ 0 → place w ts s < 2 ^ w ∧ ∀ a, BL a → a.length = w → bn a = place w ts s → (addrs w).find? (fun a => decide (lg ts a = s)) = some a) := by
  have hc := (cnt_many k hs).1
  constructor
  · intro h
    rw [h, List.countP_eq_zero] at hc
    exact List.find?_eq_none.mpr hc
  · intro h
    have sc := scan_ok w (ch ts s) (lo w s) (ch_ord k) fun c hc => by
      have hc' := (ch_iff k.all).mp hc
      exact (lo_le_of_pre (k.bits s hs) (k.bits c hc'.1) (k.fit s hs) (k.fit c hc'.1) hc'.2.2.2.1).1
    have low : ∀ b, BL b → b.length = w → decide (lg ts b = s) = true → place w ts s ≤ bn b ∧ bn b < hi w s := by
      intro b hb lb e
      rw [cell_in k hs hb lb, Bool.and_eq_true, List.all_eq_true] at e
      have e1 := e.1
      unfold inI at e1
      rw [Bool.and_eq_true, decide_eq_true_eq, decide_eq_true_eq] at e1
      refine ⟨?_, e1.2⟩
      refine Decidable.byContradiction fun q => ?_
      obtain ⟨c, hc1, hc2⟩ := sc.2.1 (bn b) e1.1 (by unfold place at q; omega)
      have := e.2 c hc1
      rw [hc2] at this
      cases this
    have pos : 0 < (addrs w).countP (fun a => decide (lg ts a = s)) := by rw [hc]; omega
    obtain ⟨b, hb1, hb2⟩ := List.countP_pos_iff.mp pos
    have hb := addr_ok hb1
    have lb := low b hb.1 hb.2 hb2
    have hh := hi_le (k.bits s hs) (k.fit s hs)
    refine ⟨by omega, fun a ha la ea => find_least (addr_of ha la) ?_ fun c hc1 hc2 => ?_⟩
    · rw [cell_in k hs ha la, ea, Bool.and_eq_true, List.all_eq_true]
      refine ⟨?_, fun c hc => ?_⟩
      · unfold inI
        rw [Bool.and_eq_true, decide_eq_true_eq, decide_eq_true_eq]
        have := sc.1
        exact ⟨this, by omega⟩
      · have := sc.2.2 c hc
        unfold place
        rw [this]; rfl
    · have := addr_ok hc1
      rw [ea]
      exact (low c this.1 this.2 hc2).1
theorem sum_many {w : Nat} {ts : List (List Nat)} (k : Known w ts) : (ts.map (many w ts)).sum = 2 ^ w := by
  have e : ts.map (many w ts) = ts.map fun s => (addrs w).countP (fun a => decide (lg ts a = s)) := List.map_congr_left fun s hs => (cnt_many k hs).1.symm
  rw [e]
  have nd : ts.Nodup := k.ord.imp fun {a b} l => by rintro rfl; exact List.lt_irrefl _ l
  have : ∀ l : List (List Nat), (ts.map fun s => l.countP (fun a => decide (lg ts a = s))).sum = l.length := by
    intro l
    induction l with
    | nil =>
      have : ∀ us : List (List Nat), (us.map fun s => List.countP (fun a => decide (lg ts a = s)) []).sum = 0 := by
        intro us
        induction us with
        | nil => rfl
        | cons u us ih => rw [List.map_cons, List.sum_cons, ih]; rfl
      exact this ts
    | cons a l ih =>
      have hm := (lg_is (a := a) k.all).mem
      have : ∀ us : List (List Nat), us.Nodup → (us.map fun s => (a :: l).countP (fun a => decide (lg ts a = s))).sum = (us.map fun s => l.countP (fun a => decide (lg ts a = s))).sum + if lg ts a ∈ us then 1 else 0 := by
        intro us
        induction us with
        | nil => intro _; rfl
        | cons u us ih2 =>
          intro hn
          have hn' := List.nodup_cons.mp hn
          rw [List.map_cons, List.sum_cons, ih2 hn'.2, List.map_cons, List.sum_cons, List.countP_cons]
          by_cases e : lg ts a = u
          · subst e
            simp [hn'.1]
            omega
          · simp [e]
            omega
      rw [this ts nd, ih, if_pos hm]
      rfl
  rw [this, addrs_len]
end M
open PySem PySem.Spec PyProof.Rows
open L2 hiding pass0
abbrev s_is_count : Stmt := top 8
theorem sc_is_count : FnScope ["value"] ["value"] (defScope s_is_count) := ⟨rfl, rfl, rfl, by decide +kernel, rfl, by decide +kernel, by decide +kernel⟩
theorem bp_is_count : BndP "is_count" s_is_count ["value"] := fun _ _ _ _ _ _ us h => match us, h with | [_], _ => rfl
abbrev s_is_width : Stmt := top 9
theorem sc_is_width : FnScope ["value"] ["value"] (defScope s_is_width) := ⟨rfl, rfl, rfl, by decide +kernel, rfl, by decide +kernel, by decide +kernel⟩
theorem bp_is_width : BndP "is_width" s_is_width ["value"] := fun _ _ _ _ _ _ us h => match us, h with | [_], _ => rfl
abbrev s_is_bits : Stmt := top 10
theorem sc_is_bits : FnScope ["value", "bit"] ["value"] (defScope s_is_bits) := ⟨rfl, rfl, rfl, by decide +kernel, rfl, by decide +kernel, by decide +kernel⟩
theorem bp_is_bits : BndP "is_bits" s_is_bits ["value"] := fun _ _ _ _ _ _ us h => match us, h with | [_], _ => rfl
abbrev s_check_width : Stmt := top 13
theorem sc_check_width : FnScope ["width"] ["width"] (defScope s_check_width) := ⟨rfl, rfl, rfl, by decide +kernel, rfl, by decide +kernel, by decide +kernel⟩
theorem bp_check_width : BndP "check_width" s_check_width ["width"] := fun _ _ _ _ _ _ us h => match us, h with | [_], _ => rfl
abbrev s_is_stretch : Stmt := top 12
theorem sc_is_stretch : FnScope ["width", "value"] ["width", "value"] (defScope s_is_stretch) := ⟨rfl, rfl, rfl, by decide +kernel, rfl, by decide +kernel, by decide +kernel⟩
theorem bp_is_stretch : BndP "is_stretch" s_is_stretch ["width", "value"] := fun _ _ _ _ _ _ us h => match us, h with | [_, _], _ => rfl
abbrev s_is_address : Stmt := top 11
theorem sc_is_address : FnScope ["width", "value"] ["width", "value"] (defScope s_is_address) := ⟨rfl, rfl, rfl, by decide +kernel, rfl, by decide +kernel, by decide +kernel⟩
theorem bp_is_address : BndP "is_address" s_is_address ["width", "value"] := fun _ _ _ _ _ _ us h => match us, h with | [_, _], _ => rfl
abbrev s_check_stretch : Stmt := top 14
theorem sc_check_stretch : FnScope ["width", "stretch"] ["width", "stretch"] (defScope s_check_stretch) := ⟨rfl, rfl, rfl, by decide +kernel, rfl, by decide +kernel, by decide +kernel⟩
theorem bp_check_stretch : BndP "check_stretch" s_check_stretch ["width", "stretch"] := fun _ _ _ _ _ _ us h => match us, h with | [_, _], _ => rfl
abbrev s_check_stretches : Stmt := top 15
theorem sc_check_stretches : FnScope ["width", "stretches", "position", "stretch"] ["width", "stretches"] (defScope s_check_stretches) := ⟨rfl, rfl, rfl, by decide +kernel, rfl, by decide +kernel, by decide +kernel⟩
theorem bp_check_stretches : BndP "check_stretches" s_check_stretches ["width", "stretches"] := fun _ _ _ _ _ _ us h => match us, h with | [_, _], _ => rfl
abbrev s_check_address : Stmt := top 16
theorem sc_check_address : FnScope ["width", "address"] ["width", "address"] (defScope s_check_address) := ⟨rfl, rfl, rfl, by decide +kernel, rfl, by decide +kernel, by decide +kernel⟩
theorem bp_check_address : BndP "check_address" s_check_address ["width", "address"] := fun _ _ _ _ _ _ us h => match us, h with | [_, _], _ => rfl
abbrev s_number : Stmt := top 17
theorem sc_number : FnScope ["width", "stretch", "many", "_"] ["width", "stretch"] (defScope s_number) := ⟨rfl, rfl, rfl, by decide +kernel, rfl, by decide +kernel, by decide +kernel⟩
theorem bp_number : BndP "number" s_number ["width", "stretch"] := fun _ _ _ _ _ _ us h => match us, h with | [_, _], _ => rfl
abbrev s_first : Stmt := top 18
theorem sc_first : FnScope ["width", "stretch"] ["width", "stretch"] (defScope s_first) := ⟨rfl, rfl, rfl, by decide +kernel, rfl, by decide +kernel, by decide +kernel⟩
theorem bp_first : BndP "first" s_first ["width", "stretch"] := fun _ _ _ _ _ _ us h => match us, h with | [_, _], _ => rfl
/-- the constants of the text -/
structure Cst (K : PySem.W.Frag) (mg : Str → Option Value) where
  c_MOST_WIDTH : ∃ u, mg "MOST_WIDTH" = some u ∧ RelV (.int 100) u
/-! ### words, of whole numbers and texts -/
def bitsB (z : Str) : Bool := z.cps.toList.all fun c => decide (c ∈ ("01" : Str).cps.toList)
theorem bitsB_of {z : Str} (h : Bits z) : bitsB z = true := List.all_eq_true.mpr fun c hc => by
  rcases h c hc with rfl | rfl <;> exact decide_eq_true (by decide)
theorem Bits.of {z : Str} (h : bitsB z = true) : Bits z := fun c hc => by
  have := of_decide_eq_true (List.all_eq_true.mp h c hc)
  have h2 : c ∈ [48, 49] := this
  simpa using h2
def Low (z : Str) : Prop := ∀ c ∈ z.cps.toList, c < 128
theorem Bits.low {z : Str} (h : Bits z) : Low z := fun c hc => by
  have := h c hc
  omega
theorem Low.small {z : Str} (h : Low z) : SmallS z := by
  refine Array.all_eq_true_iff_forall_mem.mpr fun c hc => decide_eq_true (h c (by simpa using hc))
@[irreducible] def spI (g : Int → Bool) : Sp := fun vs H Q _ => ∃ n : Int, vs = [.int n] ∧ Q (.bl (g n)) H
@[irreducible] def spT (g : Str → Bool) : Sp := fun vs H Q _ => ∃ z : Str, vs = [.str z] ∧ z.length ≤ 1000 ∧ ∀ H', Same H H' → Q (.bl (g z)) H'
@[irreducible] def spIT (g : Int → Str → Bool) : Sp := fun vs H Q _ => ∃ (n : Int) (z : Str), vs = [.int n, .str z] ∧ 1 ≤ n ∧ n ≤ 100 ∧ z.length ≤ 1000 ∧ ∀ H', Same H H' → Q (.bl (g n z)) H'
@[irreducible] def spCW : Sp := fun vs H Q _ => ∃ n : Int, vs = [.int n] ∧ 1 ≤ n ∧ n ≤ 100 ∧ ∀ H', Same H H' → Q .non H'
/-- a check of a text that is right -/
@[irreducible] def spCT (g : Int → Str → Bool) : Sp := fun vs H Q _ => ∃ (n : Int) (z : Str), vs = [.int n, .str z] ∧ 1 ≤ n ∧ n ≤ 100 ∧ z.length ≤ 1000 ∧ g n z = true ∧ ∀ H', Same H H' → Q .non H'
def cntB (n : Int) : Bool := decide (0 ≤ n)
def widB (n : Int) : Bool := decide (1 ≤ n) && decide (n ≤ 100)
def strB (n : Int) (z : Str) : Bool := bitsB z && decide ((z.length : Int) ≤ n)
def adrB (n : Int) (z : Str) : Bool := bitsB z && decide ((z.length : Int) = n)
section
variable {g : Int → Bool} {gt : Str → Bool} {g2 : Int → Str → Bool} {n : Int} {z : Str} {H : Hp} {Q : VK} {E : XK}
theorem i_go (q : Q (.bl (g n)) H) : spI g [.int n] H Q E := by
  unfold spI
  exact ⟨n, rfl, q⟩
theorem t_go (h : z.length ≤ 1000) (q : ∀ H', Same H H' → Q (.bl (gt z)) H') : spT gt [.str z] H Q E := by
  unfold spT
  exact ⟨z, rfl, h, q⟩
theorem it_go (h0 : 1 ≤ n) (h1 : n ≤ 100) (h : z.length ≤ 1000) (q : ∀ H', Same H H' → Q (.bl (g2 n z)) H') : spIT g2 [.int n, .str z] H Q E := by
  unfold spIT
  exact ⟨n, z, rfl, h0, h1, h, q⟩
theorem cw_go (h0 : 1 ≤ n) (h1 : n ≤ 100) (q : ∀ H', Same H H' → Q .non H') : spCW [.int n] H Q E := by
  unfold spCW
  exact ⟨n, rfl, h0, h1, q⟩
theorem ct_go (h0 : 1 ≤ n) (h1 : n ≤ 100) (h : z.length ≤ 1000) (hg : g2 n z = true) (q : ∀ H', Same H H' → Q .non H') : spCT g2 [.int n, .str z] H Q E := by
  unfold spCT
  exact ⟨n, z, rfl, h0, h1, h, hg, q⟩
end
theorem k_ii : kitB "int" "int" = some true := by decide +kernel
theorem k_ib : kitB "int" "bool" = some false := by decide +kernel
theorem k_ss : kitB "str" "str" = some true := by decide +kernel
section
variable {P : Program} {w : World} {K : PySem.W.Frag} {mg : Str → Option Value} {base : Heap} {f : Addr} {fd : FuncData}
theorem ok_is_count (F : Fun K "is_count" "is_count" s_is_count f fd) (hm : mg "is_count" = some (.ref f)) (T : Txt K mg) : Nm P w K mg base CX0 1 "is_count" s_is_count ["value"] (spI cntB) := by
  refine nm_of F hm sc_is_count (fun vs H Q E h => ?_) fun cdv A outer s H vs Q E hr h => ?_
  · unfold spI at h
    obtain ⟨n, rfl, k⟩ := h
    subst_vars
    rfl
  unfold spI at h
  obtain ⟨n, rfl, k⟩ := h
  refine ⟨_, (pss_one (ps_ret (pe_and (pe_callB (call_isiK' (K := K) rfl) (by rfl) T.b_isinstance (by decide +kernel) (pa_cons (pv 0) (pa_cons (pe_ty "int" (by rfl) T.b_int (by decide +kernel)) pa_nil))) (pe_and (pe_not (pe_callB (call_isiK' (K := K) rfl) (by rfl) T.b_isinstance (by decide +kernel) (pa_cons (pv 0) (pa_cons (pe_ty "bool" (by rfl) T.b_bool (by decide +kernel)) pa_nil)))) (pe_one (pe_cmpR op_ge (pv 0) pe_int (nomark _))))))), ?_⟩
  repeat walk_at "s1"
  refine ⟨_, _, _, _, _, rfl, .ty _, .base (.int _), kit_ty k_ii, ?_⟩
  refine ⟨_, rfl, iteT ?_⟩
  repeat walk_at "s1"
  refine ⟨_, _, _, _, _, rfl, .ty _, .base (.int _), kit_ty k_ib, ?_⟩
  repeat walk_at "s1"
  exact k
theorem ok_is_width (F : Fun K "is_width" "is_width" s_is_width f fd) (hm : mg "is_width" = some (.ref f)) (T : Txt K mg) (C : Cst K mg) (c_is_count : Nm P w K mg base CX0 1 "is_count" s_is_count ["value"] (spI cntB)) : Nm P w K mg base CX0 2 "is_width" s_is_width ["value"] (spI widB) := by
  refine nm_of F hm sc_is_width (fun vs H Q E h => ?_) fun cdv A outer s H vs Q E hr h => ?_
  · unfold spI at h
    obtain ⟨n, rfl, k⟩ := h
    subst_vars
    rfl
  unfold spI at h
  obtain ⟨n, rfl, k⟩ := h
  refine ⟨_, (pss_one (ps_ret (pe_and (pe_g c_is_count hr (by decide) L2.pass0 bp_is_count (by rfl) (pa_cons (pv 0) pa_nil)) (pe_one (pe_chain op_le op_le pe_int (pv 0) (pe_cst (by rfl) C.c_MOST_WIDTH)))))), ?_⟩
  repeat walk_at "s1"
  refine i_go ?_
  refine ⟨_, rfl, ?_⟩
  refine ite2 (fun c => ?_) fun c => ?_
  · repeat walk_at "s1"
    refine ite2 (fun c1 => ?_) fun c1 => ?_
    · repeat walk_at "s1"
      have e : widB n = decide (n ≤ 100) := by show (decide _ && _) = _; rw [c1, Bool.true_and]
      rw [e] at k; exact k
    · have e : widB n = false := by show (decide _ && _) = _; rw [Bool.eq_false_iff.mpr c1, Bool.false_and]
      rw [e] at k; exact k
  · have c' : ¬ 0 ≤ n := fun q => c (decide_eq_true q)
    have e : widB n = false := by show (decide _ && _) = _; rw [decide_eq_false (show ¬ 1 ≤ n by omega)]; rfl
    rw [e] at k; exact k
theorem ok_is_bits (F : Fun K "is_bits" "is_bits" s_is_bits f fd) (hm : mg "is_bits" = some (.ref f)) (T : Txt K mg) : Nm P w K mg base CX0 1 "is_bits" s_is_bits ["value"] (spT bitsB) := by
  refine nm_of F hm sc_is_bits (fun vs H Q E h => ?_) fun cdv A outer s H vs Q E hr h => ?_
  · unfold spT at h
    obtain ⟨z, rfl, hz', k⟩ := h
    subst_vars
    rfl
  unfold spT at h
  obtain ⟨z, rfl, hz', k⟩ := h
  refine ⟨_, (pss_one (ps_ret (pe_and (pe_callB (call_isiK' (K := K) rfl) (by rfl) T.b_isinstance (by decide +kernel) (pa_cons (pv 0) (pa_cons (pe_ty "str" (by rfl) T.b_str (by decide +kernel)) pa_nil))) (pe_one (pe_callB (call_allK (K := K) rfl rfl) (by rfl) T.b_all (by decide +kernel) (pa_cons (pe_lc (own := [("bit", 1)]) (g := (gName 1)) (by rfl) sc_is_bits.nd (pi_str (pv 0)) (blkOk_by (own := [("bit", 1)]) (N := ["value", "bit"]) (sc := defScope s_is_bits) (by decide +kernel)) (fun _ _ _ _ _ => (pg_name (i := 1) sc_is_bits.nd rfl (by first | exact Or.inl rfl | exact Or.inr rfl))) (fun _ _ _ _ _ => pts_nil) (fun _ _ _ _ _ => (pe_cmpR op_in_sign (pv 1) pe_str rfl))) pa_nil)))))), ?_⟩
  repeat walk_at "s1"
  refine ⟨_, _, _, _, _, rfl, .ty _, .base (.str _), kit_ty k_ss, ?_⟩
  refine ⟨_, rfl, iteT ?_⟩
  repeat walk_at "s1"
  rename_i D nD
  have hz : z.cps.size ≤ 1000 := hz'
  refine lc_it walk_str (fun i H1 => H1 D = some (.lst (((z.cps.toList.take i).map fun c => decide (c ∈ ("01" : Str).cps.toList)).map V.bl)) ∧ Same H H1) ⟨upd_same, fun b o e => updn (nonn nD e) e⟩ (fun _ _ _ _ => trivial) ?_ ?_
  · rintro i x H1 H2 hi ⟨hD, sm⟩ ⟨rfl, c, hc, rfl⟩
    refine ⟨rfl, ?_⟩
    dsimp only [tYes]
    rw [if_pos rfl]
    repeat walk_at "s1"
    refine ⟨_, hD, szt (by rw [List.length_map, List.length_map, List.length_take]; omega), ?_, fun b o e => updn (nonn nD e) (sm b o e)⟩
    rw [upd_same, List.take_add_one, Array.getElem?_toList, hc, List.map_append, List.map_append]
    rfl
  · rintro H1 ⟨hD, sm⟩
    rw [List.take_of_length_le (by rw [Array.length_toList]; exact Nat.le_refl _)] at hD
    refine ⟨_, _, rfl, SqL.of hD, ?_⟩
    have hk := k H1 sm
    have e : bitsB z = ((z.cps.toList.map fun c => decide (c ∈ ("01" : Str).cps.toList)).all id) := by rw [List.all_map]; rfl
    rw [e] at hk
    exact hk
theorem ok_check_width (F : Fun K "check_width" "check_width" s_check_width f fd) (hm : mg "check_width" = some (.ref f)) (T : Txt K mg) (c_is_width : Nm P w K mg base CX0 2 "is_width" s_is_width ["value"] (spI widB)) : Nm P w K mg base CX0 3 "check_width" s_check_width ["width"] (spCW) := by
  refine nm_of F hm sc_check_width (fun vs H Q E h => ?_) fun cdv A outer s H vs Q E hr h => ?_
  · unfold spCW at h
    obtain ⟨n, rfl, h0, h1, k⟩ := h
    subst_vars
    rfl
  unfold spCW at h
  obtain ⟨n, rfl, h0, h1, k⟩ := h
  refine ⟨_, (pss_one (ps_if (pt_not (pt_val (pe_g c_is_width hr (by decide) L2.pass0 bp_is_width (by rfl) (pa_cons (pv 0) pa_nil)))) (pss_one ps_never) pss_nil)), ?_⟩
  repeat walk_at "s1"
  refine i_go ?_
  repeat walk_at "s1"
  have e : widB n = true := by show (decide _ && decide _) = true; rw [decide_eq_true h0, decide_eq_true h1]; rfl
  rw [e]
  refine iteF ?_
  exact k H (Same.refl H)
theorem ok_is_stretch (F : Fun K "is_stretch" "is_stretch" s_is_stretch f fd) (hm : mg "is_stretch" = some (.ref f)) (T : Txt K mg) (c_check_width : Nm P w K mg base CX0 3 "check_width" s_check_width ["width"] (spCW)) (c_is_bits : Nm P w K mg base CX0 1 "is_bits" s_is_bits ["value"] (spT bitsB)) : Nm P w K mg base CX0 4 "is_stretch" s_is_stretch ["width", "value"] (spIT strB) := by
  refine nm_of F hm sc_is_stretch (fun vs H Q E h => ?_) fun cdv A outer s H vs Q E hr h => ?_
  · unfold spIT at h
    obtain ⟨n, z, rfl, h0, h1, hz, k⟩ := h
    subst_vars
    rfl
  unfold spIT at h
  obtain ⟨n, z, rfl, h0, h1, hz, k⟩ := h
  refine ⟨_, (pss_cons (ps_expr (pe_g c_check_width hr (by decide) L2.pass0 bp_check_width (by rfl) (pa_cons (pv 0) pa_nil)))
      (pss_one (ps_ret (pe_and (pe_g c_is_bits hr (by decide) L2.pass0 bp_is_bits (by rfl) (pa_cons (pv 1) pa_nil)) (pe_one (pe_cmpR op_le (pe_callB (call_lenK (K := K) rfl) (by rfl) T.b_len PySem.boot_len (pa_cons (pv 1) pa_nil)) (pv 0) (nomark _))))))), ?_⟩
  repeat walk_at "s1"
  refine cw_go h0 h1 fun H1 sm => ?_
  repeat walk_at "s1"
  refine t_go hz fun H2 sm2 => ?_
  have hk := k H2 (sm.trans sm2)
  refine ⟨_, rfl, ?_⟩
  cases c : bitsB z with
  | true =>
    refine iteT ?_
    repeat walk_at "s1"
    have e : strB n z = decide ((z.length : Int) ≤ n) := by show (bitsB _ && _) = _; rw [c]; rfl
    rw [e] at hk
    exact hk
  | false =>
    have e : strB n z = false := by show (bitsB _ && _) = _; rw [c]; rfl
    rw [e] at hk
    exact iteF hk
theorem ok_is_address (F : Fun K "is_address" "is_address" s_is_address f fd) (hm : mg "is_address" = some (.ref f)) (T : Txt K mg) (c_is_stretch : Nm P w K mg base CX0 4 "is_stretch" s_is_stretch ["width", "value"] (spIT strB)) : Nm P w K mg base CX0 5 "is_address" s_is_address ["width", "value"] (spIT adrB) := by
  refine nm_of F hm sc_is_address (fun vs H Q E h => ?_) fun cdv A outer s H vs Q E hr h => ?_
  · unfold spIT at h
    obtain ⟨n, z, rfl, h0, h1, hz, k⟩ := h
    subst_vars
    rfl
  unfold spIT at h
  obtain ⟨n, z, rfl, h0, h1, hz, k⟩ := h
  refine ⟨_, (pss_one (ps_ret (pe_and (pe_g c_is_stretch hr (by decide) L2.pass0 bp_is_stretch (by rfl) (pa_cons (pv 0) (pa_cons (pv 1) pa_nil))) (pe_one (pe_cmpR op_eq (pe_callB (call_lenK (K := K) rfl) (by rfl) T.b_len PySem.boot_len (pa_cons (pv 1) pa_nil)) (pv 0) (nomark _)))))), ?_⟩
  repeat walk_at "s1"
  refine it_go h0 h1 hz fun H2 sm2 => ?_
  have hk := k H2 sm2
  refine ⟨_, rfl, ?_⟩
  cases c : strB n z with
  | true =>
    refine iteT ?_
    repeat walk_at "s1"
    have c' : (bitsB z && decide ((z.length : Int) ≤ n)) = true := c
    have e : adrB n z = decide (V.int (z.length : Int) = V.int n) := by
      show (bitsB z && decide ((z.length : Int) = n)) = _
      rw [Bool.and_eq_true] at c'
      rw [c'.1, Bool.true_and]
      exact decide_eq_decide.mpr ⟨fun q => by rw [q], fun q => V.int.inj q⟩
    rw [e] at hk
    exact hk
  | false =>
    have e : adrB n z = false := by
      have c' : (bitsB z && decide ((z.length : Int) ≤ n)) = false := c
      show (bitsB z && decide ((z.length : Int) = n)) = false
      cases b : bitsB z with
      | false => rfl
      | true =>
        rw [b, Bool.true_and] at c'
        have := of_decide_eq_false c'
        rw [Bool.true_and]
        exact decide_eq_false (by omega)
    rw [e] at hk
    exact iteF hk
theorem ok_check_stretch (F : Fun K "check_stretch" "check_stretch" s_check_stretch f fd) (hm : mg "check_stretch" = some (.ref f)) (T : Txt K mg) (c_is_stretch : Nm P w K mg base CX0 4 "is_stretch" s_is_stretch ["width", "value"] (spIT strB)) : Nm P w K mg base CX0 5 "check_stretch" s_check_stretch ["width", "stretch"] (spCT strB) := by
  refine nm_of F hm sc_check_stretch (fun vs H Q E h => ?_) fun cdv A outer s H vs Q E hr h => ?_
  · unfold spCT at h
    obtain ⟨n, z, rfl, h0, h1, hz, hg, k⟩ := h
    subst_vars
    rfl
  unfold spCT at h
  obtain ⟨n, z, rfl, h0, h1, hz, hg, k⟩ := h
  refine ⟨_, (pss_one (ps_if (pt_not (pt_val (pe_g c_is_stretch hr (by decide) L2.pass0 bp_is_stretch (by rfl) (pa_cons (pv 0) (pa_cons (pv 1) pa_nil))))) (pss_one ps_never) pss_nil)), ?_⟩
  repeat walk_at "s1"
  refine it_go h0 h1 hz fun H2 sm2 => ?_
  repeat walk_at "s1"
  rw [hg]
  refine iteF ?_
  exact k H2 sm2
theorem ok_check_address (F : Fun K "check_address" "check_address" s_check_address f fd) (hm : mg "check_address" = some (.ref f)) (T : Txt K mg) (c_is_address : Nm P w K mg base CX0 5 "is_address" s_is_address ["width", "value"] (spIT adrB)) : Nm P w K mg base CX0 6 "check_address" s_check_address ["width", "address"] (spCT adrB) := by
  refine nm_of F hm sc_check_address (fun vs H Q E h => ?_) fun cdv A outer s H vs Q E hr h => ?_
  · unfold spCT at h
    obtain ⟨n, z, rfl, h0, h1, hz, hg, k⟩ := h
    subst_vars
    rfl
  unfold spCT at h
  obtain ⟨n, z, rfl, h0, h1, hz, hg, k⟩ := h
  refine ⟨_, (pss_one (ps_if (pt_not (pt_val (pe_g c_is_address hr (by decide) L2.pass0 bp_is_address (by rfl) (pa_cons (pv 0) (pa_cons (pv 1) pa_nil))))) (pss_one ps_never) pss_nil)), ?_⟩
  repeat walk_at "s1"
  refine it_go h0 h1 hz fun H2 sm2 => ?_
  repeat walk_at "s1"
  rw [hg]
  refine iteF ?_
  exact k H2 sm2
end
open PySem PySem.Spec PyProof.Rows
open L2 hiding pass0
/-! ### stretches -/
def sx (t : List Nat) : V := .str (SX.S t)
theorem sx_bits {t : List Nat} (h : M.BL t) : Bits (SX.S t) := fun c hc => h c (by rw [SX.S] at hc; simpa using hc)
theorem sx_len (t : List Nat) : (SX.S t).length = t.length := SX.S_len t
theorem tl_S (t : List Nat) : (SX.S t).cps.toList = t := by unfold SX.S; simp
theorem S_inj {a b : List Nat} (h : SX.S a = SX.S b) : a = b := by
  have := congrArg (fun z : Str => z.cps.toList) h
  rwa [tl_S, tl_S] at this
/-- a list or a tuple of stretches -/
def ArgAt (H : Hp) (a : Addr) (ts : List (List Nat)) : Prop := H a = some (.lst (ts.map sx)) ∨ H a = some (.tup (ts.map sx))
def Fits (n : Nat) (ts : List (List Nat)) : Prop := ∀ t ∈ ts, M.BL t ∧ t.length ≤ n
theorem ArgAt.same {H H' : Hp} {a : Addr} {ts : List (List Nat)} (h : ArgAt H a ts) (s : Same H H') : ArgAt H' a ts := h.elim (fun e => .inl (s _ _ e)) fun e => .inr (s _ _ e)
@[irreducible] def spCS : Sp := fun vs H Q _ => ∃ (n : Nat) (a : Addr) (ts : List (List Nat)), vs = [.int n, .ref a] ∧ 1 ≤ n ∧ n ≤ 100 ∧ ArgAt H a ts ∧ Fits n ts ∧ ∀ H', Same H H' → Q .non H'
@[irreducible] def spNum : Sp := fun vs H Q _ => ∃ (n : Nat) (t : List Nat), vs = [.int n, sx t] ∧ 1 ≤ n ∧ n ≤ 100 ∧ M.BL t ∧ t.length ≤ n ∧ ∀ H', Same H H' → Q (.int ((M.size n t : Nat) : Int)) H'
@[irreducible] def spFirst : Sp := fun vs H Q _ => ∃ (n : Nat) (t : List Nat), vs = [.int n, sx t] ∧ 1 ≤ n ∧ n ≤ 100 ∧ M.BL t ∧ t.length ≤ n ∧ ∀ H', Same H H' → Q (sx (t ++ List.replicate (n - t.length) 48)) H'
theorem cs_go {n : Nat} {a : Addr} {ts : List (List Nat)} {H : Hp} {Q : VK} {E : XK} (h0 : 1 ≤ n) (h1 : n ≤ 100) (ha : ArgAt H a ts) (hf : Fits n ts) (k : ∀ H', Same H H' → Q .non H') : spCS [.int n, .ref a] H Q E := by
  unfold spCS
  exact ⟨n, a, ts, rfl, h0, h1, ha, hf, k⟩
theorem num_go {n : Nat} {t : List Nat} {H : Hp} {Q : VK} {E : XK} (h0 : 1 ≤ n) (h1 : n ≤ 100) (hb : M.BL t) (hl : t.length ≤ n) (k : ∀ H', Same H H' → Q (.int ((M.size n t : Nat) : Int)) H') : spNum [.int n, sx t] H Q E := by
  unfold spNum
  exact ⟨n, t, rfl, h0, h1, hb, hl, k⟩
theorem first_go {n : Nat} {t : List Nat} {H : Hp} {Q : VK} {E : XK} (h0 : 1 ≤ n) (h1 : n ≤ 100) (hb : M.BL t) (hl : t.length ≤ n) (k : ∀ H', Same H H' → Q (sx (t ++ List.replicate (n - t.length) 48)) H') : spFirst [.int n, sx t] H Q E := by
  unfold spFirst
  exact ⟨n, t, rfl, h0, h1, hb, hl, k⟩
theorem str_ok {n : Nat} {t : List Nat} (hb : M.BL t) (hl : t.length ≤ n) : strB n (SX.S t) = true := by
  show (bitsB _ && decide (((SX.S t).length : Int) ≤ n)) = true
  rw [bitsB_of (sx_bits hb), sx_len, decide_eq_true (by omega)]
  rfl
theorem lj_eq {n : Nat} {t : List Nat} (hl : t.length ≤ n) : Txt.ljustF (SX.S t) (n : Int) 48 = SX.S (t ++ List.replicate (n - t.length) 48) := by
  unfold Txt.ljustF
  rw [sx_len]
  split
  · rename_i h
    have : n - t.length = 0 := by omega
    rw [this, List.replicate_zero, List.append_nil]
  · rw [Int.toNat_natCast]
    unfold PySem.Builtin.Str.padded SX.S
    simp
theorem pad_ok {n : Nat} (h : n ≤ 100) : PadOk (n : Int) = true := by
  have : ∀ m : Fin 101, PadOk ((m.val : Nat) : Int) = true := by decide +kernel
  exact this ⟨n, by omega⟩
section
variable {P : Program} {w : World} {K : PySem.W.Frag} {mg : Str → Option Value} {base : Heap} {f : Addr} {fd : FuncData}
theorem ok_check_stretches (F : Fun K "check_stretches" "check_stretches" s_check_stretches f fd) (hm : mg "check_stretches" = some (.ref f)) (T : Txt K mg) (c_check_width : Nm P w K mg base CX0 3 "check_width" s_check_width ["width"] (spCW)) (c_is_stretch : Nm P w K mg base CX0 4 "is_stretch" s_is_stretch ["width", "value"] (spIT strB)) : Nm P w K mg base CX0 5 "check_stretches" s_check_stretches ["width", "stretches"] (spCS) := by
  refine nm_of0 F hm sc_check_stretches (fun vs H Q E h => ?_) fun cdv A outer s H vs Q E hr h => ?_
  · unfold spCS at h
    obtain ⟨n, a, ts, rfl, h0, h1, ha, hf, k⟩ := h
    subst_vars
    rfl
  unfold spCS at h
  obtain ⟨n, a, ts, rfl, h0, h1, ha, hf, k⟩ := h
  refine ⟨_, (pss_cons (ps_expr (pe_g c_check_width hr (by decide) L2.pass0 bp_check_width (by rfl) (pa_cons (pv 0) pa_nil)))
      (pss_cons (ps_if (pt_not (pt_val (pe_callB call_isiT (by rfl) T.b_isinstance (by decide +kernel) (pa_cons (pv 1) (pa_cons (pe_tup (pa_cons (pe_ty "list" (by rfl) T.b_list (by decide +kernel)) (pa_cons (pe_ty "tuple" (by rfl) T.b_tuple (by decide +kernel)) pa_nil))) pa_nil))))) (pss_one ps_never) pss_nil)
      (pss_one (ps_for PassesOwn.never rfl (pi_enumA (by rfl) T.b_enumerate (pa_cons (pv 1) pa_nil)) (pg_tup (by rfl) (pgs_cons (pg_name (i := 2) sc_check_stretches.nd rfl (by first | exact Or.inl rfl | exact Or.inr rfl)) (pgs_cons (pg_name (i := 3) sc_check_stretches.nd rfl (by first | exact Or.inl rfl | exact Or.inr rfl)) pgs_nil))) (pss_one (ps_if (pt_not (pt_val (pe_g c_is_stretch hr (by decide) L2.pass0 bp_is_stretch (by rfl) (pa_cons (pv 0) (pa_cons (pv 3) pa_nil))))) (pss_one ps_never) pss_nil)))))), ?_⟩
  repeat walk_at "s1"
  refine cw_go (by omega) (by omega) fun H1 sm1 => ?_
  have ha1 := ha.same sm1
  refine ⟨_, rfl, ?_⟩
  refine ⟨szl (by show 2 ≤ 1000000; decide), fun T nT => ?_⟩
  have e2 : kitB "tuple" "list" = some false := by decide +kernel
  have e3 : kitB "tuple" "tuple" = some true := by decide +kernel
  have e1 : kitB "list" "list" = some true := by decide +kernel
  have ty : ∃ t, TyX K (upd H1 T (.tup [.ty "list", .ty "tuple"])) (.ref a) t ∧ PySem.W.kitAny K t [.type "list", .type "tuple"] = some true := by
    rcases ha1 with e | e
    · exact ⟨_, .base (.lst (updn (nonn nT e) e)), kitAny_cons (kit_ty e1) (fun z => nomatch z) fun _ => rfl⟩
    · exact ⟨_, .base (.tup (updn (nonn nT e) e)), kitAny_cons (kit_ty e2) (fun _ => kitAny_cons (kit_ty e3) (fun z => nomatch z) fun _ => rfl) fun z => nomatch z⟩
  obtain ⟨ty, hty, hk⟩ := ty
  refine ⟨_, T, _, ty, _, true, rfl, upd_same, .cons (.ty _) (.cons (.ty _) .nil), hty, hk, ?_⟩
  refine ⟨_, rfl, ?_⟩
  refine iteF ?_
  have sm2 : Same H (upd H1 T (.tup [.ty "list", .ty "tuple"])) := fun b o e => updn (nonn nT (sm1 b o e)) (sm1 b o e)
  generalize upd H1 T (.tup [.ty "list", .ty "tuple"]) = H2 at sm2 ⊢
  clear hty hk nT ha1
  have ha2 := ha.same sm2
  refine ⟨_, rfl, ?_⟩
  rcases ha2 with e | e
  · refine ⟨a, ts.map sx, rfl, .inl ⟨SqL.of e, ?_⟩⟩
    refine for_it (walk_enum (xs := ts.map sx)) (fun i σ' H' => ∃ x2 x3, σ' = [some (.int n), some (.ref a), x2, x3] ∧ Same H2 H') ⟨_, _, rfl, Same.refl H2⟩ (fun i σ' H' _ h => let ⟨_, _, _, s⟩ := h; SqL.of (s _ _ e)) ?_ ?_
    · rintro i x σ' H3 H4 hi ⟨x2, x3, rfl, sm⟩ ⟨T2, y, z, rfl, nT2, rfl, e5, e6⟩
      obtain rfl : y = .int (i : Nat) := (Option.some.inj e5).symm
      obtain ⟨t, ht, rfl⟩ : ∃ t, ts[i]? = some t ∧ z = sx t := by
        dsimp only at e6
        rw [List.getElem?_map] at e6
        cases q : ts[i]? with
        | none => rw [q] at e6; cases e6
        | some t => rw [q] at e6; exact ⟨t, rfl, (Option.some.inj e6).symm⟩
      obtain ⟨hb, hl⟩ := hf t (List.mem_of_getElem? ht)
      have sm3 : Same H2 (upd H3 T2 (.tup [.int (i : Nat), sx t])) := fun b o q => updn (nonn nT2 (sm b o q)) (sm b o q)
      refine ⟨T2, [.int (i : Nat), sx t], rfl, SqT.of upd_same, rfl, ?_⟩
      refine ⟨_, _, rfl, ?_⟩
      refine ⟨_, _, rfl, ?_⟩
      refine ⟨rfl, ?_⟩
      refine ⟨_, rfl, ?_⟩
      refine ⟨_, rfl, ?_⟩
      refine it_go (by omega) (by omega) (by rw [sx_len]; omega) fun H5 sm5 => ?_
      rw [str_ok hb hl]
      refine ⟨_, rfl, iteF ?_⟩
      exact ⟨_, _, rfl, fun b o q => sm5 b o (sm3 b o q)⟩
    · rintro σ' H3 ⟨x2, x3, rfl, sm⟩
      exact k _ fun b o q => sm b o (sm2 b o q)
  · refine ⟨a, ts.map sx, rfl, .inr ⟨SqT.of e, ?_⟩⟩
    refine for_it (walk_enumT (xs := ts.map sx)) (fun i σ' H' => ∃ x2 x3, σ' = [some (.int n), some (.ref a), x2, x3] ∧ Same H2 H') ⟨_, _, rfl, Same.refl H2⟩ (fun i σ' H' _ h => let ⟨_, _, _, s⟩ := h; SqT.of (s _ _ e)) ?_ ?_
    · rintro i x σ' H3 H4 hi ⟨x2, x3, rfl, sm⟩ ⟨T2, y, z, rfl, nT2, rfl, e5, e6⟩
      obtain rfl : y = .int (i : Nat) := (Option.some.inj e5).symm
      obtain ⟨t, ht, rfl⟩ : ∃ t, ts[i]? = some t ∧ z = sx t := by
        dsimp only at e6
        rw [List.getElem?_map] at e6
        cases q : ts[i]? with
        | none => rw [q] at e6; cases e6
        | some t => rw [q] at e6; exact ⟨t, rfl, (Option.some.inj e6).symm⟩
      obtain ⟨hb, hl⟩ := hf t (List.mem_of_getElem? ht)
      have sm3 : Same H2 (upd H3 T2 (.tup [.int (i : Nat), sx t])) := fun b o q => updn (nonn nT2 (sm b o q)) (sm b o q)
      refine ⟨T2, [.int (i : Nat), sx t], rfl, SqT.of upd_same, rfl, ?_⟩
      refine ⟨_, _, rfl, ?_⟩
      refine ⟨_, _, rfl, ?_⟩
      refine ⟨rfl, ?_⟩
      refine ⟨_, rfl, ?_⟩
      refine ⟨_, rfl, ?_⟩
      refine it_go (by omega) (by omega) (by rw [sx_len]; omega) fun H5 sm5 => ?_
      rw [str_ok hb hl]
      refine ⟨_, rfl, iteF ?_⟩
      exact ⟨_, _, rfl, fun b o q => sm5 b o (sm3 b o q)⟩
    · rintro σ' H3 ⟨x2, x3, rfl, sm⟩
      exact k _ fun b o q => sm b o (sm2 b o q)
theorem ok_number (F : Fun K "number" "number" s_number f fd) (hm : mg "number" = some (.ref f)) (T : Txt K mg) (c_check_stretch : Nm P w K mg base CX0 5 "check_stretch" s_check_stretch ["width", "stretch"] (spCT strB)) : Nm P w K mg base CX0 6 "number" s_number ["width", "stretch"] (spNum) := by
  refine nm_of0 F hm sc_number (fun vs H Q E h => ?_) fun cdv A outer s H vs Q E hr h => ?_
  · unfold spNum at h
    obtain ⟨n, t, rfl, h0, h1, hb, hl, k⟩ := h
    subst_vars
    rfl
  unfold spNum at h
  obtain ⟨n, t, rfl, h0, h1, hb, hl, k⟩ := h
  refine ⟨_, (pss_cons (ps_expr (pe_g c_check_stretch hr (by decide) L2.pass0 bp_check_stretch (by rfl) (pa_cons (pv 0) (pa_cons (pv 1) pa_nil))))
      (pss_cons (ps_set (i := 2) sc_number.nd rfl (by first | exact Or.inl rfl | exact Or.inr rfl) pe_int)
      (pss_cons (ps_for PassesOwn.never rfl (pi_range1 (by rfl) T.b_range (pa_cons (pe_op op_sub (pv 0) (pe_callB (call_lenK (K := K) rfl) (by rfl) T.b_len PySem.boot_len (pa_cons (pv 1) pa_nil))) pa_nil)) (pg_name (i := 3) sc_number.nd rfl (by first | exact Or.inl rfl | exact Or.inr rfl)) (pss_one (ps_set (i := 2) sc_number.nd rfl (by first | exact Or.inl rfl | exact Or.inr rfl) (pe_op op_mul (pv 2) pe_int))))
      (pss_one (ps_ret (pv 2)))))), ?_⟩
  refine ⟨_, rfl, ?_⟩
  refine ⟨_, rfl, ?_⟩
  refine ct_go (by omega) (by omega) (by rw [sx_len]; omega) (str_ok hb hl) fun H1 sm1 => ?_
  refine ⟨_, rfl, ⟨_, rfl, ⟨_, _, rfl, ⟨szl (by rw [sx_len]; omega), rfl⟩, ⟨_, _, rfl, rfl, ?_⟩⟩⟩⟩
  have en : ((n : Int) - ((SX.S t).length : Int)).toNat = n - t.length := by rw [sx_len]; omega
  refine ⟨_, rfl, by rw [sx_len]; omega, by omega, ?_⟩
  rw [en]
  refine for_it walk_range (fun i σ' H' => ∃ x3, σ' = [some (.int n), some (sx t), some (.int ((2 ^ i : Nat) : Int)), x3] ∧ H' = H1) ⟨_, rfl, rfl⟩ (fun _ _ _ _ _ => trivial) ?_ ?_
  · rintro i x σ' H2 H3 hi ⟨x3, rfl, rfl⟩ ⟨rfl, rfl⟩
    refine ⟨_, rfl, ?_⟩
    refine ⟨_, _, rfl, rfl, .inr ⟨by decide, by decide⟩, ?_⟩
    rw [Nat.pow_succ, Int.natCast_mul]
    exact ⟨_, rfl, rfl⟩
  · rintro σ' H2 ⟨x3, rfl, rfl⟩
    refine ⟨_, rfl, ?_⟩
    exact k _ sm1
theorem ok_first (F : Fun K "first" "first" s_first f fd) (hm : mg "first" = some (.ref f)) (T : Txt K mg) (c_check_stretch : Nm P w K mg base CX0 5 "check_stretch" s_check_stretch ["width", "stretch"] (spCT strB)) : Nm P w K mg base CX0 6 "first" s_first ["width", "stretch"] (spFirst) := by
  refine nm_of F hm sc_first (fun vs H Q E h => ?_) fun cdv A outer s H vs Q E hr h => ?_
  · unfold spFirst at h
    obtain ⟨n, t, rfl, h0, h1, hb, hl, k⟩ := h
    subst_vars
    rfl
  unfold spFirst at h
  obtain ⟨n, t, rfl, h0, h1, hb, hl, k⟩ := h
  refine ⟨_, (pss_cons (ps_expr (pe_g c_check_stretch hr (by decide) L2.pass0 bp_check_stretch (by rfl) (pa_cons (pv 0) (pa_cons (pv 1) pa_nil))))
      (pss_one (ps_ret (pe_bm PySem.F.plainAttrs_str PySem.F.slot_str_ljust PySem.F.type_str_ljust mt_ljust2 (pv 1) (pa_cons (pv 0) (pa_cons pe_str pa_nil)))))), ?_⟩
  refine ⟨_, rfl, ?_⟩
  refine ⟨_, rfl, ?_⟩
  refine ct_go (by omega) (by omega) (by rw [sx_len]; omega) (str_ok hb hl) fun H1 sm1 => ?_
  refine ⟨_, rfl, ?_⟩
  have hp : PadOk (n : Int) = true := pad_ok h1
  refine ⟨rfl, ⟨_, rfl, ⟨SX.S t, n, "0", rfl, rfl, hp, rfl, ?_⟩⟩⟩
  have hk := k _ sm1
  unfold sx at hk
  rw [← lj_eq hl] at hk
  exact hk
end
open PySem PySem.Spec PyProof.Rows
open L2 hiding pass0
abbrev s_longest_beginning : Stmt := top 21
theorem sc_longest_beginning : FnScope ["known", "bits", "length"] ["known", "bits"] (defScope s_longest_beginning) := ⟨rfl, rfl, rfl, by decide +kernel, rfl, by decide +kernel, by decide +kernel⟩
theorem bp_longest_beginning : BndP "longest_beginning" s_longest_beginning ["known", "bits"] := fun _ _ _ _ _ _ us h => match us, h with | [_, _], _ => rfl
abbrev s_with_all : Stmt := top 22
theorem sc_with_all : FnScope ["stretches", "stretch"] ["stretches"] (defScope s_with_all) := ⟨rfl, rfl, rfl, by decide +kernel, rfl, by decide +kernel, by decide +kernel⟩
theorem bp_with_all : BndP "_with_all" s_with_all ["stretches"] := fun _ _ _ _ _ _ us h => match us, h with | [_], _ => rfl
/-! ### dicts of stretches -/
def skey (t : List Nat) : Key := Sum.inr (SX.S t)
theorem skey_inj {a b : List Nat} (h : skey a = skey b) : a = b := S_inj (Sum.inr.inj h)
def fd (ks : List (List Nat)) (g : List Nat → V) : List (Key × V) := ks.map fun t => (skey t, g t)
theorem fd_len (ks : List (List Nat)) (g : List Nat → V) : (fd ks g).length = ks.length := List.length_map ..
theorem fd_keys (ks : List (List Nat)) (g : List Nat → V) : (fd ks g).map (·.1) = (ks.map SX.S).map Sum.inr := by
  unfold fd
  rw [List.map_map, List.map_map]
  rfl
theorem fd_get (ks : List (List Nat)) (g : List Nat → V) (i : Nat) : (fd ks g)[i]? = (ks[i]?).map fun t => (skey t, g t) := List.getElem?_map ..
theorem fd_val {ks : List (List Nat)} {g : List Nat → V} {t : List Nat} : valV (fd ks g) (skey t) = if t ∈ ks then some (g t) else none := by
  induction ks with
  | nil => rfl
  | cons s ks ih =>
    show valV ((skey s, g s) :: fd ks g) (skey t) = _
    by_cases e : s = t
    · subst e
      rw [valV_pos rfl, if_pos (List.mem_cons_self ..)]
    · rw [valV_neg (fun q => e (skey_inj q)), ih]
      by_cases m : t ∈ ks
      · rw [if_pos m, if_pos (List.mem_cons_of_mem _ m)]
      · rw [if_neg m, if_neg (fun q => (List.mem_cons.mp q).elim (fun q => e q.symm) m)]
theorem fd_has {ks : List (List Nat)} {g : List Nat → V} {t : List Nat} : (valV (fd ks g) (skey t)).isSome = decide (t ∈ ks) := by
  rw [fd_val]
  by_cases m : t ∈ ks <;> simp [m]
theorem fd_congr {ks : List (List Nat)} {g g' : List Nat → V} (h : ∀ t ∈ ks, g t = g' t) : fd ks g = fd ks g' := List.map_congr_left fun t ht => by rw [h t ht]
def fup {α : Type} (g : List Nat → α) (t : List Nat) (v : α) : List Nat → α := fun x => if x = t then v else g x
theorem fup_at {α : Type} {g : List Nat → α} {t : List Nat} {v : α} : fup g t v t = v := if_pos rfl
theorem fup_ne {α : Type} {g : List Nat → α} {t x : List Nat} {v : α} (h : x ≠ t) : fup g t v x = g x := if_neg h
theorem fd_any {ks : List (List Nat)} {g : List Nat → V} {t : List Nat} : ((fd ks g).any fun kv => decide (kv.1 = skey t)) = decide (t ∈ ks) := by
  rw [valV_any, fd_has]
theorem fd_put {ks : List (List Nat)} {g : List Nat → V} {t : List Nat} {v : V} : putK (fd ks g) (skey t) v = fd (if t ∈ ks then ks else ks ++ [t]) (fup g t v) := by
  unfold putK
  rw [fd_any]
  by_cases m : t ∈ ks
  · rw [decide_eq_true m, if_pos rfl, if_pos m]
    unfold fd
    rw [List.map_map]
    refine List.map_congr_left fun s hs => ?_
    show (if skey s = skey t then (skey s, v) else (skey s, g s)) = _
    by_cases e : s = t
    · rw [if_pos (by rw [e]), e, fup_at]
    · rw [if_neg (fun q => e (skey_inj q)), fup_ne e]
  · rw [decide_eq_false m, if_neg Bool.false_ne_true, if_neg m]
    unfold fd
    rw [List.map_append]
    show _ = _ ++ [(skey t, fup g t v t)]
    rw [fup_at]
    congr 1
    exact List.map_congr_left fun s hs => by rw [fup_ne (fun q : s = t => m (q ▸ hs))]
/-! ### the longest beginning -/
@[irreducible] def spLB : Sp := fun vs H Q _ => ∃ (D : Addr) (ks : List (List Nat)) (g : List Nat → V) (a : List Nat), vs = [.ref D, sx a] ∧ Rd H D (.dK (fd ks g)) ∧ [] ∈ ks ∧ a.length ≤ 1000 ∧ ∀ H', Same H H' → Q (sx (M.lg ks a)) H'
theorem lb_go {D : Addr} {ks : List (List Nat)} {g : List Nat → V} {a : List Nat} {H : Hp} {Q : VK} {E : XK} (hD : Rd H D (.dK (fd ks g))) (h0 : [] ∈ ks) (hl : a.length ≤ 1000) (k : ∀ H', Same H H' → Q (sx (M.lg ks a)) H') : spLB [.ref D, sx a] H Q E := by
  unfold spLB
  exact ⟨D, ks, g, a, rfl, hD, h0, hl, k⟩
theorem cut_S (t : List Nat) {d : Int} {k : Nat} (h : d = k) : cutS (SX.S t) none (some d) = SX.S (t.take k) := by
  subst h
  show SX.S _ = SX.S _
  refine congrArg SX.S ?_
  show ((SX.S t).cps.toList.drop 0).take (HT.sIx (SX.S t).length (SX.S t).length (some (k : Int)) - 0) = t.take k
  rw [HT.sIx_nat, List.drop_zero, Nat.sub_zero, tl_S, sx_len]
  by_cases c : k ≤ t.length
  · rw [Nat.min_eq_left c]
  · rw [List.take_of_length_le (by omega), List.take_of_length_le (by omega)]
theorem rd_same {H H' : Hp} {a : Addr} {o : HO} (h : Rd H a o) (s : Same H H') : Rd H' a o := h.elim (fun e => .inl (s _ _ e)) fun ⟨b, e⟩ => .inr ⟨b, s _ _ e⟩
/-! ### stretches in order, each once -/
def stp (acc : List Str) (z : Str) : List Str := if z ∈ acc then acc else acc ++ [z]
def dd (zs : List Str) : List Str := zs.foldl stp []
theorem fold_mem : ∀ (zs acc : List Str) {z : Str}, z ∈ zs.foldl stp acc ↔ z ∈ acc ∨ z ∈ zs
  | [], acc, z => by simp
  | y :: zs, acc, z => by
    rw [List.foldl_cons, fold_mem zs]
    unfold stp
    by_cases m : y ∈ acc
    · rw [if_pos m]
      constructor
      · rintro (h | h)
        · exact .inl h
        · exact .inr (List.mem_cons_of_mem _ h)
      · rintro (h | h)
        · exact .inl h
        · rcases List.mem_cons.mp h with h | h
          · exact .inl (h ▸ m)
          · exact .inr h
    · rw [if_neg m, List.mem_append, List.mem_singleton, List.mem_cons, or_assoc]
theorem fold_sub : ∀ (zs acc : List Str), (zs.foldl stp acc).Sublist (acc ++ zs)
  | [], acc => by simp
  | y :: zs, acc => by
    rw [List.foldl_cons]
    refine (fold_sub zs _).trans ?_
    unfold stp
    split
    · exact (List.Sublist.refl acc).append (List.sublist_cons_self y zs)
    · rw [List.append_assoc]
      exact List.Sublist.refl _
theorem fold_nd : ∀ (zs acc : List Str), acc.Nodup → (zs.foldl stp acc).Nodup
  | [], acc, h => h
  | y :: zs, acc, h => by
    rw [List.foldl_cons]
    refine fold_nd zs _ ?_
    unfold stp
    split
    · exact h
    · rename_i m
      exact List.nodup_append.mpr ⟨h, by simp, fun a ha b hb e => m (by rw [List.mem_singleton.mp hb] at e; exact e ▸ ha)⟩
theorem dd_snoc {zs : List Str} {i : Nat} {z : Str} (h : zs[i]? = some z) : dd (zs.take (i + 1)) = stp (dd (zs.take i)) z := by
  unfold dd
  rw [List.take_add_one, h, List.foldl_append]
  rfl
/-- the stretches, that of all addresses ahead -/
def ksOf (ts : List (List Nat)) : List (List Nat) := (dd (tsort (("" : Str) :: ts.map SX.S))).map fun z => z.cps.toList
theorem ks_mem {ts : List (List Nat)} {t : List Nat} : t ∈ ksOf ts ↔ t = [] ∨ t ∈ ts := by
  unfold ksOf dd
  rw [List.mem_map]
  constructor
  · rintro ⟨z, hz, rfl⟩
    rw [fold_mem] at hz
    rcases hz with hz | hz
    · cases hz
    · rcases List.mem_cons.mp ((tsort_perm _).mem_iff.mp hz) with h | h
      · rw [h]; exact .inl rfl
      · obtain ⟨t, ht, rfl⟩ := List.mem_map.mp h
        rw [tl_S]
        exact .inr ht
  · intro h
    refine ⟨SX.S t, ?_, tl_S t⟩
    rw [fold_mem, (tsort_perm _).mem_iff]
    rcases h with rfl | h
    · exact .inr (List.mem_cons_self ..)
    · exact .inr (List.mem_cons_of_mem _ (List.mem_map_of_mem h))
theorem ks_ord (ts : List (List Nat)) : (ksOf ts).Pairwise (· < ·) := by
  unfold ksOf
  rw [List.pairwise_map]
  have h1 : (dd (tsort (("" : Str) :: ts.map SX.S))).Pairwise fun a b => tLt b a = false := by
    have := fold_sub (tsort (("" : Str) :: ts.map SX.S)) []
    rw [List.nil_append] at this
    exact (tsort_ts _).sublist this
  have h2 : (dd (tsort (("" : Str) :: ts.map SX.S))).Pairwise (· ≠ ·) := fold_nd _ [] .nil
  refine (h1.and h2).imp fun {a b} h => ?_
  by_cases c : tLt a b = true
  · exact of_decide_eq_true c
  · exact absurd (tLt_tot (by simpa using c) h.1) h.2
theorem ks_known {n : Nat} {ts : List (List Nat)} (h : Fits n ts) : M.Known n (ksOf ts) := by
  refine ⟨ks_mem.mpr (.inl rfl), fun t ht => ?_, fun t ht => ?_, ks_ord ts⟩
  · rcases ks_mem.mp ht with rfl | ht
    · exact fun c hc => by cases hc
    · exact (h t ht).1
  · rcases ks_mem.mp ht with rfl | ht
    · exact Nat.zero_le _
    · exact (h t ht).2
theorem ord_eq : ∀ {xs ys : List (List Nat)}, xs.Pairwise (· < ·) → ys.Pairwise (· < ·) → (∀ t, t ∈ xs ↔ t ∈ ys) → xs = ys
  | [], [], _, _, _ => rfl
  | [], y :: ys, _, _, h => by have := (h y).mpr (List.mem_cons_self ..); cases this
  | x :: xs, [], _, _, h => by have := (h x).mp (List.mem_cons_self ..); cases this
  | x :: xs, y :: ys, hx, hy, h => by
    have px := List.pairwise_cons.mp hx
    have py := List.pairwise_cons.mp hy
    have e : x = y := by
      rcases List.mem_cons.mp ((h x).mp (List.mem_cons_self ..)) with e | m1
      · exact e
      · rcases List.mem_cons.mp ((h y).mpr (List.mem_cons_self ..)) with e | m2
        · exact e.symm
        · exact absurd (List.lt_trans (px.1 y m2) (py.1 x m1)) (List.lt_irrefl _)
    subst e
    rw [ord_eq px.2 py.2 fun t => ⟨fun m => ?_, fun m => ?_⟩]
    · rcases List.mem_cons.mp ((h t).mp (List.mem_cons_of_mem _ m)) with e | q
      · exact absurd (e ▸ px.1 t m) (List.lt_irrefl _)
      · exact q
    · rcases List.mem_cons.mp ((h t).mpr (List.mem_cons_of_mem _ m)) with e | q
      · exact absurd (e ▸ py.1 t m) (List.lt_irrefl _)
      · exact q
theorem ks_eq {a b : List (List Nat)} (h : ∀ t, t ∈ a ↔ t ∈ b) : ksOf a = ksOf b := ord_eq (ks_ord a) (ks_ord b) fun t => by rw [ks_mem, ks_mem, h]
theorem sub_perm_len {α : Type} {a b : List α} (h : a.Sublist b) : a.length ≤ b.length := h.length_le
theorem ks_len (ts : List (List Nat)) : (ksOf ts).length ≤ ts.length + 1 := by
  unfold ksOf
  rw [List.length_map]
  have h := (fold_sub (tsort (("" : Str) :: ts.map SX.S)) []).length_le
  rw [List.nil_append, (tsort_perm _).length_eq, List.length_cons, List.length_map] at h
  exact h
@[irreducible] def spWA : Sp := fun vs H Q _ => ∃ (a : Addr) (ts : List (List Nat)), vs = [.ref a] ∧ ArgAt H a ts ∧ ts.length ≤ 1000 ∧ ∀ D H', H D = none → Same H H' → H' D = some (.dK (fd (ksOf ts) fun _ => .bl true)) → Q (.ref D) H'
theorem wa_go {a : Addr} {ts : List (List Nat)} {H : Hp} {Q : VK} {E : XK} (ha : ArgAt H a ts) (hl : ts.length ≤ 1000) (k : ∀ D H', H D = none → Same H H' → H' D = some (.dK (fd (ksOf ts) fun _ => .bl true)) → Q (.ref D) H') : spWA [.ref a] H Q E := by
  unfold spWA
  exact ⟨a, ts, rfl, ha, hl, k⟩
theorem dc_it {J : It} {n : Nat} {G : Hp → Prop} {Y : Nat → Hp → V → Hp → Prop} (w : L2.Walk J n G Y) {g : TG} {tt : TT} {tk tv : TE} {vs : List Nat} {σ : L2.St} {H1 : Hp} {D : Addr} {Qd : Hp → Prop} (Pv : Nat → Hp → Prop) (h0 : Pv 0 (upd H1 D (.dK []))) (hG : ∀ i H, i ≤ n → Pv i H → G H)
    (hs : ∀ i x H H', i < n → Pv i H → Y i H x H' → g x (wipe σ vs) H' fun σ2 H2 => wipe σ2 vs = wipe σ vs ∧ tt σ2 H2 fun b H3 =>
      if b = true then tk σ2 H3 fun y H4 => tv σ2 H4 fun z H5 => ∃ kvs k, y = kV k ∧ H5 D = some (.dK kvs) ∧ kvs.length < sizeLine ∧ Pv (i + 1) (upd H5 D (.dK (putK kvs k z))) else Pv (i + 1) H3) (hd : ∀ H, Pv n H → Qd H) :
    ∃ W : Nat → Nat → Hp → Prop, (∃ m, W 0 m (upd H1 D (.dK []))) ∧ ∀ i m H, W i m H →
      (J.stop i H ∧ Qd H) ∨ (J.go i H ∧ ∃ Nx : Hp → Prop, (∀ H', Nx H' → ∃ m', m' < m ∧ W (i + 1) m' H') ∧ ∀ x H', J.yld i H x H' → g x (wipe σ vs) H' fun σ2 H2 => wipe σ2 vs = wipe σ vs ∧ tt σ2 H2 fun b H3 =>
        if b = true then tk σ2 H3 fun y H4 => tv σ2 H4 fun z H5 => ∃ kvs k, y = kV k ∧ H5 D = some (.dK kvs) ∧ kvs.length < sizeLine ∧ Nx (upd H5 D (.dK (putK kvs k z))) else Nx H3) := by
  refine ⟨fun i m H => m = n - i ∧ i ≤ n ∧ Pv i H, ⟨n, by simp, Nat.zero_le _, h0⟩, ?_⟩
  rintro i m H ⟨rfl, hi, p⟩
  have q := hG i H hi p
  by_cases hlt : i < n
  · refine .inr ⟨w.goes i H hlt q, Pv (i + 1), fun H' p' => ⟨n - (i + 1), by omega, rfl, hlt, p'⟩, fun x H' y => hs i x H H' hlt p (w.yields i H x H' hlt q y)⟩
  · have e : i = n := by omega
    subst e
    exact .inl ⟨w.stops H q, hd H p⟩
section
variable {P : Program} {w : World} {K : PySem.W.Frag} {mg : Str → Option Value} {base : Heap} {f : Addr} {fd' : FuncData}
theorem ok_longest (F : Fun K "longest_beginning" "longest_beginning" s_longest_beginning f fd') (hm : mg "longest_beginning" = some (.ref f)) (T : Txt K mg) : Nm P w K mg base CX0 1 "longest_beginning" s_longest_beginning ["known", "bits"] (spLB) := by
  refine nm_of0 F hm sc_longest_beginning (fun vs H Q E h => ?_) fun cdv A outer s H vs Q E hr h => ?_
  · unfold spLB at h
    obtain ⟨D, ks, g, a, rfl, hD, h0, hl, k⟩ := h
    subst_vars
    rfl
  unfold spLB at h
  obtain ⟨D, ks, g, a, rfl, hD, h0, hl, k⟩ := h
  refine ⟨_, (pss_cons (ps_for PassesOwn.never rfl (pi_range3 (by rfl) T.b_range (pa_cons (pe_callB (call_lenK (K := K) rfl) (by rfl) T.b_len PySem.boot_len (pa_cons (pv 1) pa_nil)) (pa_cons (pe_un un_neg pe_int) (pa_cons (pe_un un_neg pe_int) pa_nil)))) (pg_name (i := 2) sc_longest_beginning.nd rfl (by first | exact Or.inl rfl | exact Or.inr rfl)) (pss_one (ps_if (pt_cmp (pc_din hr.u1 (pe_slice sl_str (pv 1) po_none (po_some (pv 2))) (pv 0))) (pss_one (ps_ret (pe_slice sl_str (pv 1) po_none (po_some (pv 2))))) pss_nil)))
      (pss_one (ps_ret pe_non))), ?_⟩
  have en : (((SX.S a).length : Int) - (-1)).toNat = a.length + 1 := by rw [sx_len]; omega
  refine ⟨_, rfl, ⟨_, _, rfl, ⟨szl (by rw [sx_len]; omega), rfl⟩, ?_⟩⟩
  repeat walk_at "s1"
  refine ⟨_, _, _, _, rfl, RgC.neg (by rw [sx_len]; omega) (by omega) (by omega) (by omega), ?_⟩
  rw [en]
  refine for_it walk_rangeC (fun i σ' H' => ∃ x2, σ' = [some (.ref D), some (sx a), x2] ∧ Same H H' ∧ i ≤ a.length ∧ M.lg ks a = M.lgN ks a (a.length - i)) ⟨_, rfl, Same.refl H, Nat.zero_le _, rfl⟩ (fun _ _ _ _ _ => trivial) ?_ ?_
  · rintro i x σ' H1 H2 hi ⟨x2, rfl, sm, hle, hg⟩ ⟨rfl, rfl⟩
    repeat walk_at "s1"
    have ej : ((SX.S a).length : Int) + (i : Int) * -1 = ((a.length - i : Nat) : Int) := by rw [sx_len]; omega
    rw [cut_S a ej]
    refine ⟨D, _, rfl, .inl ⟨fd ks g, skey (a.take (a.length - i)), rd_same hD sm, rfl, rfl⟩, ?_⟩
    rw [fd_has]
    by_cases hc : a.take (a.length - i) ∈ ks
    · rw [decide_eq_true hc]
      refine ⟨_, rfl, iteT ?_⟩
      repeat walk_at "s1"
      rw [cut_S a ej]
      have e : M.lg ks a = a.take (a.length - i) := by
        rw [hg]
        generalize a.length - i = j at hc
        cases j with
        | zero => rfl
        | succ j => exact if_pos hc
      have hk := k _ sm
      rw [e] at hk
      exact hk
    · rw [decide_eq_false hc]
      refine ⟨_, rfl, iteF ?_⟩
      have hi0 : i < a.length := by
        refine Nat.lt_of_le_of_ne hle fun q => hc ?_
        rw [q, Nat.sub_self]
        exact h0
      refine ⟨_, rfl, sm, by omega, ?_⟩
      obtain ⟨j, hj⟩ : ∃ j, a.length - i = j + 1 := ⟨a.length - i - 1, by omega⟩
      rw [hg, show a.length - (i + 1) = j by omega, hj]
      rw [hj] at hc
      exact if_neg hc
  · rintro σ' H1 ⟨x2, rfl, sm, hle, hg⟩
    omega
theorem ok_with_all (F : Fun K "_with_all" "_with_all" s_with_all f fd') (hm : mg "_with_all" = some (.ref f)) (T : Txt K mg) : Nm P w K mg base CX0 1 "_with_all" s_with_all ["stretches"] (spWA) := by
  refine nm_of F hm sc_with_all (fun vs H Q E h => ?_) fun cdv A outer s H vs Q E hr h => ?_
  · unfold spWA at h
    obtain ⟨a, ts, rfl, ha, hl, k⟩ := h
    subst_vars
    rfl
  unfold spWA at h
  obtain ⟨a, ts, rfl, ha, hl, k⟩ := h
  refine ⟨_, (pss_one (ps_ret (pe_dc (own := [("stretch", 1)]) (g := (gName 1)) (by rfl) sc_with_all.nd (pi_listK (K := K) rfl (pe_callBK (cr_sortK hr.u) (by rfl) T.b_sorted (by decide +kernel) (pa_cons (pe_lst (pa_cons pe_str (StX.pa_star (pv 0) pa_nil))) pa_nil) (pk_cons (pe_ty "str" (by rfl) T.b_str (by decide +kernel)) pk_nil))) (blkOk_by (own := [("stretch", 1)]) (N := ["stretches", "stretch"]) (sc := defScope s_with_all) (by decide +kernel)) (fun _ _ _ _ _ => (pg_name (i := 1) sc_with_all.nd rfl (by first | exact Or.inl rfl | exact Or.inr rfl))) (fun _ _ _ _ _ => pts_nil) (fun _ _ _ _ _ => (pv 1)) (fun _ _ _ _ _ => pe_bl)))), ?_⟩
  refine ⟨_, rfl, ?_⟩
  refine ⟨a, ts.map sx, rfl, ha.elim (fun e => .inr (SqL.of e)) fun e => .inl (SqT.of e), ?_⟩
  have eL : (V.str "" :: (ts.map sx ++ [])) = (("" : Str) :: ts.map SX.S).map V.str := by
    rw [List.append_nil, List.map_cons, List.map_map]
    rfl
  refine ⟨szl (by show (V.str "" :: (ts.map sx ++ [])).length ≤ _; rw [eL]; simp; omega), fun L nL => ?_⟩
  have hl2 : (tsort (("" : Str) :: ts.map SX.S)).length ≤ 1001 := by
    rw [(tsort_perm _).length_eq]
    simp
    omega
  refine ⟨L, ("" : Str) :: ts.map SX.S, rfl, rfl, SqL.of (by rw [upd_same]; exact congrArg (fun z => some (HO.lst z)) eL), fun L2 nL2 => ?_⟩
  have k' : ∀ D H', H D = none → Same H H' → H' D = some (.dK (fd ((dd (tsort (("" : Str) :: ts.map SX.S))).map fun z => z.cps.toList) fun _ => .bl true)) → Q (.ref D) H' := k
  generalize tsort (("" : Str) :: ts.map SX.S) = zs at hl2 nL2 k' ⊢
  have sm1 : Same H (upd (upd H L (.lst (V.str "" :: (ts.map sx ++ [])))) L2 (.lst (zs.map V.str))) := fun b o e => updn (nonn nL2 (updn (nonn nL e) e)) (updn (nonn nL e) e)
  have e1 : upd (upd H L (.lst (V.str "" :: (ts.map sx ++ [])))) L2 (.lst (zs.map V.str)) L2 = some (.lst (zs.map V.str)) := upd_same
  generalize upd (upd H L (.lst (V.str "" :: (ts.map sx ++ [])))) L2 (.lst (zs.map V.str)) = H1 at sm1 e1
  refine ⟨L2, rfl, ⟨_, SqL.of e1⟩, fun D nD => ?_⟩
  have nD0 : H D = none := by
    cases q : H D with
    | none => rfl
    | some o => rw [sm1 _ _ q] at nD; cases nD
  refine dc_it (walk_list (xs := zs.map V.str)) (fun i H' => H' D = some (.dK (fd ((dd (zs.take i)).map fun z => z.cps.toList) fun _ => .bl true)) ∧ H' L2 = some (.lst (zs.map V.str)) ∧ Same H H') ⟨upd_same, updn (nonn nD e1) e1, fun b o q => updn (nonn nD0 q) (sm1 b o q)⟩ (fun i H' _ h => SqL.of h.2.1) ?_ ?_
  · rintro i x H2 H3 hi ⟨hD, hL, sm⟩ ⟨rfl, hx⟩
    obtain ⟨z, hz, rfl⟩ : ∃ z, zs[i]? = some z ∧ x = .str z := by
      rw [List.getElem?_map] at hx
      cases e : zs[i]? with
      | none => rw [e] at hx; cases hx
      | some z => rw [e] at hx; exact ⟨z, rfl, (Option.some.inj hx).symm⟩
    refine ⟨rfl, ?_⟩
    dsimp only [tYes]
    rw [if_pos rfl]
    refine ⟨_, rfl, ?_⟩
    have ez : (Sum.inr z : Key) = skey z.cps.toList := by unfold skey; rw [SX.S_tl]
    have ln : (dd (zs.take i)).length ≤ 1001 := by
      have h := (fold_sub (zs.take i) []).length_le
      rw [List.nil_append, List.length_take] at h
      unfold dd
      omega
    refine ⟨_, Sum.inr z, rfl, hD, szt (by rw [fd_len, List.length_map]; omega), ?_, updn (nonn nD e1) hL, fun b o q => updn (nonn nD0 q) (sm b o q)⟩
    rw [upd_same, ez, fd_put, dd_snoc hz]
    have e2 : (if z.cps.toList ∈ (dd (zs.take i)).map (fun z => z.cps.toList) then (dd (zs.take i)).map (fun z => z.cps.toList) else (dd (zs.take i)).map (fun z => z.cps.toList) ++ [z.cps.toList]) = (stp (dd (zs.take i)) z).map fun z => z.cps.toList := by
      unfold stp
      by_cases m : z ∈ dd (zs.take i)
      · rw [if_pos m, if_pos (List.mem_map_of_mem m)]
      · rw [if_neg m, if_neg, List.map_append]
        · rfl
        · intro q
          obtain ⟨y, hy, e⟩ := List.mem_map.mp q
          have : y = z := by rw [← SX.S_tl y, ← SX.S_tl z, e]
          exact m (this ▸ hy)
    rw [e2]
    exact congrArg (fun z => some (HO.dK z)) (fd_congr fun t _ => by unfold fup; split <;> rfl)
  · rintro H2 ⟨hD, hL, sm⟩
    rw [List.length_map, List.take_length] at hD
    exact k' D H2 nD0 sm hD
end
open PySem PySem.Spec PyProof.Rows
open L2 hiding pass0
abbrev s_widest_inside : Stmt := top 23
theorem sc_widest_inside : FnScope ["known", "inside", "stretch"] ["known"] (defScope s_widest_inside) := ⟨rfl, rfl, rfl, by decide +kernel, rfl, by decide +kernel, by decide +kernel⟩
theorem bp_widest_inside : BndP "_widest_inside" s_widest_inside ["known"] := fun _ _ _ _ _ _ us h => match us, h with | [_], _ => rfl
theorem cut_last (t : List Nat) (h : t ≠ []) : cutS (SX.S t) none (some (-1)) = SX.S t.dropLast := by
  show SX.S _ = SX.S _
  refine congrArg SX.S ?_
  show ((SX.S t).cps.toList.drop 0).take (HT.sIx (SX.S t).length (SX.S t).length (some (-1)) - 0) = t.dropLast
  rw [List.drop_zero, Nat.sub_zero, tl_S, sx_len, List.dropLast_eq_take]
  congr 1
  have : 0 < t.length := List.length_pos_iff.mpr h
  unfold HT.sIx
  simp
  omega
/-- the dict of the widest ones inside each: lists of their own at ad; all else but at D stands -/
structure Ins (D : Addr) (H0 H : Hp) (ks : List (List Nat)) (ad : List Nat → Addr) (B : Addr) (vs : List Nat → List (List Nat)) : Prop where
  same : ∀ b o, b ≠ D → H0 b = some o → H b = some o
  newB : H0 B = none
  dict : H B = some (.dK (fd ks fun t => .ref (ad t)))
  lst : ∀ t ∈ ks, H (ad t) = some (.lst ((vs t).map sx))
  new : ∀ t ∈ ks, H0 (ad t) = none
  inj : ∀ s ∈ ks, ∀ t ∈ ks, ad s = ad t → s = t
  offB : ∀ t ∈ ks, ad t ≠ B
section
variable {D B : Addr} {H0 H : Hp} {ks : List (List Nat)} {ad : List Nat → Addr} {vs : List Nat → List (List Nat)}
theorem Ins.updD (h : Ins D H0 H ks ad B vs) {u : HO} (hD : H0 D = some u) (o : HO) : Ins D H0 (upd H D o) ks ad B vs :=
  ⟨fun b u' n e => updn n (h.same b u' n e), h.newB, updn (nonn h.newB hD).symm h.dict, fun t ht => updn (nonn (h.new t ht) hD).symm (h.lst t ht), h.new, h.inj, h.offB⟩
theorem Ins.to {H' : Hp} (h : Ins D H0 H ks ad B vs) (s : Same H H') : Ins D H0 H' ks ad B vs :=
  ⟨fun b u' n e => s _ _ (h.same b u' n e), h.newB, s _ _ h.dict, fun t ht => s _ _ (h.lst t ht), h.new, h.inj, h.offB⟩
theorem Ins.congr {vs' : List Nat → List (List Nat)} (h : Ins D H0 H ks ad B vs) (e : ∀ t ∈ ks, vs t = vs' t) : Ins D H0 H ks ad B vs' :=
  ⟨h.same, h.newB, h.dict, fun t ht => e t ht ▸ h.lst t ht, h.new, h.inj, h.offB⟩
theorem Ins.push (h : Ins D H0 H ks ad B vs) {s : List Nat} (hs : s ∈ ks) (l : List (List Nat)) : Ins D H0 (upd H (ad s) (.lst (l.map sx))) ks ad B (fup vs s l) := by
  refine ⟨fun b u' n e => updn (nonn (h.new s hs) e) (h.same b u' n e), h.newB, updn (h.offB s hs).symm h.dict, fun t ht => ?_, h.new, h.inj, h.offB⟩
  by_cases e : t = s
  · subst e
    rw [upd_same, fup_at]
  · rw [fup_ne e]
    exact updn (fun q => e (h.inj t ht s hs q)) (h.lst t ht)
theorem Ins.all (h : Ins D H0 H ks ad B vs) {u : HO} (hD : H0 D = some u) (e : H D = some u) : Same H0 H := fun b o q => by
  by_cases n : b = D
  · subst n
    rw [hD] at q
    cases q
    exact e
  · exact h.same b o n q
/-- one more key, with a new list -/
theorem Ins.more (h : Ins D H0 H ks ad B fun _ => []) {u : HO} (eD : H D = some u) {t : List Nat} (ht : t ∉ ks) {L : Addr} (nL : H L = none) :
    Ins D H0 (upd (upd H L (.lst [])) B (.dK (putK (fd ks fun t => .ref (ad t)) (skey t) (.ref L)))) (ks ++ [t]) (fup ad t L) B fun _ => [] := by
  have nLD : L ≠ D := fun q => by rw [q, eD] at nL; cases nL
  have nLB : L ≠ B := fun q => by rw [q, h.dict] at nL; cases nL
  have fL : H0 L = none := by
    cases e : H0 L with
    | none => rfl
    | some o => rw [h.same L o nLD e] at nL; cases nL
  have ne : ∀ s ∈ ks, s ≠ t := fun s hs q => ht (q ▸ hs)
  have nLa : ∀ s ∈ ks, ad s ≠ L := fun s hs => nonn nL (h.lst s hs)
  refine ⟨fun b o n e => ?_, h.newB, ?_, fun s hs => ?_, fun s hs => ?_, fun s hs r hr q => ?_, fun s hs => ?_⟩
  · have e1 := h.same b o n e
    exact updn (nonn h.newB e) (updn (nonn nL e1) e1)
  · rw [upd_same, fd_put, if_neg ht]
    exact congrArg (fun z => some (HO.dK z)) (fd_congr fun s hs => by unfold fup; split <;> rfl)
  · rcases List.mem_append.mp hs with hs | hs
    · rw [fup_ne (ne s hs)]
      exact updn (h.offB s hs) (updn (nLa s hs) (h.lst s hs))
    · rw [List.mem_singleton.mp hs, fup_at]
      exact updn nLB upd_same
  · rcases List.mem_append.mp hs with hs | hs
    · rw [fup_ne (ne s hs)]
      exact h.new s hs
    · rw [List.mem_singleton.mp hs, fup_at]
      exact fL
  · rcases List.mem_append.mp hs with hs | hs <;> rcases List.mem_append.mp hr with hr | hr
    · rw [fup_ne (ne s hs), fup_ne (ne r hr)] at q
      exact h.inj s hs r hr q
    · rw [List.mem_singleton.mp hr, fup_at, fup_ne (ne s hs)] at q
      exact absurd q (nLa s hs)
    · rw [List.mem_singleton.mp hs, fup_at, fup_ne (ne r hr)] at q
      exact absurd q.symm (nLa r hr)
    · rw [List.mem_singleton.mp hs, List.mem_singleton.mp hr]
  · rcases List.mem_append.mp hs with hs | hs
    · rw [fup_ne (ne s hs)]
      exact h.offB s hs
    · rw [List.mem_singleton.mp hs, fup_at]
      exact nLB
end
def vsAt (ks : List (List Nat)) (i : Nat) (s : List Nat) : List (List Nat) := (ks.take i).filter fun t => decide (t ≠ [] ∧ M.par ks t = s)
theorem vs_len (ks : List (List Nat)) (i : Nat) (s : List Nat) : (vsAt ks i s).length ≤ ks.length := by
  unfold vsAt
  refine Nat.le_trans (List.length_filter_le _ _) ?_
  rw [List.length_take]
  omega
theorem vs_skip {ks : List (List Nat)} {i : Nat} (h : ks[i]? = some []) (s : List Nat) : vsAt ks (i + 1) s = vsAt ks i s := by
  unfold vsAt
  rw [List.take_add_one, h, List.filter_append]
  simp
theorem vs_more {ks : List (List Nat)} {i : Nat} {t : List Nat} (h : ks[i]? = some t) (ht : t ≠ []) (s : List Nat) : fup (vsAt ks i) (M.par ks t) (vsAt ks i (M.par ks t) ++ [t]) s = vsAt ks (i + 1) s := by
  by_cases e : s = M.par ks t
  · subst e
    rw [fup_at]
    unfold vsAt
    rw [List.take_add_one, h, List.filter_append]
    simp [ht]
  · rw [fup_ne e]
    unfold vsAt
    rw [List.take_add_one, h, List.filter_append]
    simp [Ne.symm e]
theorem nd_of_ord {ks : List (List Nat)} (h : ks.Pairwise (· < ·)) : ks.Nodup := h.imp fun {a b} l => by rintro rfl; exact List.lt_irrefl _ l
theorem take_new {ks : List (List Nat)} (h : ks.Nodup) {i : Nat} {t : List Nat} (e : ks[i]? = some t) : t ∉ ks.take i := by
  intro hin
  have hn : (ks.take (i + 1)).Nodup := (List.take_sublist _ _).nodup h
  rw [List.take_add_one, e] at hn
  exact (List.nodup_append.mp hn).2.2 t hin t (List.mem_singleton.mpr rfl) rfl
theorem key_at {ks : List (List Nat)} {g : List Nat → V} {i : Nat} {k : Key} {v : V} (h : (fd ks g)[i]? = some (k, v)) : ∃ t, ks[i]? = some t ∧ k = skey t ∧ v = g t := by
  rw [fd_get] at h
  cases e : ks[i]? with
  | none => rw [e] at h; cases h
  | some t =>
    rw [e] at h
    cases Option.some.inj h
    exact ⟨t, rfl, rfl, rfl⟩
@[irreducible] def spWI : Sp := fun vs H Q _ => ∃ (n : Nat) (D : Addr) (ks : List (List Nat)), vs = [.ref D] ∧ H D = some (.dK (fd ks fun _ => .bl true)) ∧ M.Known n ks ∧ n ≤ 100 ∧ ks.length ≤ 1001 ∧
  ∀ B ad H', Ins D H H' ks ad B (M.ch ks) → H' D = some (.dK (fd ks fun _ => .bl true)) → Q (.ref B) H'
theorem wi_go {n : Nat} {D : Addr} {ks : List (List Nat)} {H : Hp} {Q : VK} {E : XK} (hD : H D = some (.dK (fd ks fun _ => .bl true))) (kn : M.Known n ks) (hn : n ≤ 100) (hl : ks.length ≤ 1001)
    (k : ∀ B ad H', Ins D H H' ks ad B (M.ch ks) → H' D = some (.dK (fd ks fun _ => .bl true)) → Q (.ref B) H') : spWI [.ref D] H Q E := by
  unfold spWI
  exact ⟨n, D, ks, rfl, hD, kn, hn, hl, k⟩
section
variable {P : Program} {w : World} {K : PySem.W.Frag} {mg : Str → Option Value} {base : Heap} {f : Addr} {fd' : FuncData}
theorem ok_widest (F : Fun K "_widest_inside" "_widest_inside" s_widest_inside f fd') (hm : mg "_widest_inside" = some (.ref f)) (T : Txt K mg) (c_longest_beginning : Nm P w K mg base CX0 1 "longest_beginning" s_longest_beginning ["known", "bits"] (spLB)) : Nm P w K mg base CX0 2 "_widest_inside" s_widest_inside ["known"] (spWI) := by
  refine nm_of0 F hm sc_widest_inside (fun vs H Q E h => ?_) fun cdv A outer s H vs Q E hr h => ?_
  · unfold spWI at h
    obtain ⟨n, D, ks, rfl, hD, kn, hn, hl, k⟩ := h
    subst_vars
    rfl
  unfold spWI at h
  obtain ⟨n, D, ks, rfl, hD, kn, hn, hl, k⟩ := h
  refine ⟨_, (pss_cons (ps_lock (ps_setDc (i := 1) (own := [("stretch", 2)]) (g := (gName 2)) (by rfl) sc_widest_inside.nd rfl rfl (sw_trueD rfl rfl rfl (by decide +kernel)) (pi_keys (pv 0)) (blkOk_by (own := [("stretch", 2)]) (N := ["known", "inside", "stretch"]) (sc := defScope s_widest_inside) (by decide +kernel)) (fun _ _ _ _ _ => (pg_name (i := 2) sc_widest_inside.nd rfl (by first | exact Or.inl rfl | exact Or.inr rfl))) (fun _ _ _ _ _ => pts_nil) (fun _ _ _ _ _ => (pv 2)) (fun _ _ _ _ _ => (pe_lst pa_nil))))
      (pss_cons (ps_lock (ps_for PassesOwn.never rfl (pi_keys (pv 0)) (pg_name (i := 2) sc_widest_inside.nd rfl (by first | exact Or.inl rfl | exact Or.inr rfl)) (pss_one (ps_if (pt_cmpR op_ne (pv 2) pe_str (nomark _)) (pss_one (ps_expr (pe_bm PySem.F.plainAttrs_list PySem.F.slot_list_append PySem.F.type_list_append mt_append (pe_dget hr.u1 (pv 1) (pe_g c_longest_beginning hr (by decide) L2.pass0 bp_longest_beginning (by rfl) (pa_cons (pv 0) (pa_cons (pe_slice sl_str (pv 2) po_none (po_some (pe_un un_neg pe_int))) pa_nil))) (fun _ _ => rfl)) (pa_cons (pv 2) pa_nil)))) pss_nil))))
      (pss_one (ps_ret (pv 1))))), ?_⟩
  show ∃ d u, _
  refine ⟨D, _, hD, trivial, fun od => ?_⟩
  refine ⟨_, rfl, ?_⟩
  refine ⟨D, od, rfl, .inl ⟨_, upd_same, fun B nB => ?_⟩⟩
  have nd := nd_of_ord kn.ord
  have hBD : D ≠ B := nonn nB upd_same
  have nB0 : H B = none := by rw [upd_ne hBD.symm] at nB; exact nB
  refine dc_it walk_keys (fun i H' => (∃ ad, Ins D H H' (ks.take i) ad B fun _ => []) ∧ H' D = some (.frz od (.dK (fd ks fun _ => .bl true)))) ⟨⟨fun _ => 0, fun b o n e => updn (nonn nB0 e) (updn n e), nB0, upd_same, (fun t ht => by cases ht), (fun t ht => by cases ht), (fun t ht => by cases ht), (fun t ht => by cases ht)⟩, updn hBD upd_same⟩ (fun _ H' _ h => h.2) ?_ ?_
  · rintro i x H1 H2 hi ⟨⟨ad, g1⟩, e1⟩ ⟨rfl, key, v, hkv, rfl⟩
    obtain ⟨t, ht, rfl, rfl⟩ := key_at hkv
    refine ⟨rfl, ?_⟩
    dsimp only [tYes]
    rw [if_pos rfl]
    refine ⟨_, rfl, ?_⟩
    refine ⟨szl (Nat.zero_le _), fun L nL => ?_⟩
    have g2 := g1.more e1 (take_new nd ht) nL
    have nLB : B ≠ L := nonn nL g1.dict
    refine ⟨_, skey t, rfl, updn nLB g1.dict, szt (by rw [fd_len, List.length_take]; omega), ⟨fup ad t L, ?_⟩, updn hBD (updn (nonn nL e1) e1)⟩
    rw [List.take_add_one, ht]
    exact g2
  · rintro H1 ⟨⟨ad, g1⟩, e1⟩
    rw [fd_len, List.take_length] at g1
    refine ⟨e1, ?_⟩
    have g2 := (g1.updD hD (.dK (fd ks fun _ => .bl true))).congr (vs' := vsAt ks 0) fun t _ => by unfold vsAt; rfl
    have e2 : upd H1 D (.dK (fd ks fun _ => .bl true)) D = some (.dK (fd ks fun _ => .bl true)) := upd_same
    generalize upd H1 D (.dK (fd ks fun _ => .bl true)) = H2 at g2 e2 ⊢
    clear g1 e1
    show ∃ d u, _
    refine ⟨D, _, e2, trivial, fun od2 => ?_⟩
    refine ⟨_, rfl, ⟨D, od2, rfl, .inl ⟨_, upd_same, ?_⟩⟩⟩
    have g3 := g2.updD hD (.frz od2 (.dK (fd ks fun _ => .bl true)))
    have e3 : upd H2 D (.frz od2 (.dK (fd ks fun _ => .bl true))) D = some (.frz od2 (.dK (fd ks fun _ => .bl true))) := upd_same
    generalize upd H2 D (.frz od2 (.dK (fd ks fun _ => .bl true))) = H3 at g3 e3 ⊢
    clear g2 e2
    refine for_it walk_keys (fun i σ' H' => ∃ x2, σ' = [some (.ref D), some (.ref B), x2] ∧ Ins D H H' ks ad B (vsAt ks i) ∧ H' D = some (.frz od2 (.dK (fd ks fun _ => .bl true)))) ⟨_, rfl, g3, e3⟩ (fun i σ' H' _ h => let ⟨_, _, _, e⟩ := h; e) ?_ ?_
    · clear g3 e3
      rintro i x σ' H4 H5 hi ⟨x2, rfl, g4, e4⟩ ⟨rfl, key, v, hkv, rfl⟩
      obtain ⟨t, ht, rfl, rfl⟩ := key_at hkv
      have htm := List.mem_of_getElem? ht
      refine ⟨_, rfl, ?_⟩
      refine ⟨rfl, ?_⟩
      refine ⟨_, rfl, ?_⟩
      have et : decide (kV (skey t) = V.str "") = decide (t = []) := decide_eq_decide.mpr ⟨fun q => S_inj (V.str.inj q), fun q => by rw [q]; rfl⟩
      rw [et]
      by_cases c : t = []
      · subst c
        rw [decide_eq_true rfl]
        refine iteF ?_
        exact ⟨_, rfl, g4.congr fun s _ => (vs_skip ht s).symm, e4⟩
      · rw [decide_eq_false c]
        refine iteT ?_
        refine ⟨_, rfl, ⟨_, rfl, ⟨_, rfl, ?_⟩⟩⟩
        refine ⟨_, rfl, ?_⟩
        refine ⟨_, rfl, ?_⟩
        have hlt : t.length ≤ n := kn.fit t htm
        refine ⟨SX.S t, rfl, szl (by rw [sx_len]; omega), ?_⟩
        rw [show (-(1 : Int)) = -1 from rfl, cut_last t c]
        have hpar : M.par ks t ∈ ks := (M.lg_is kn.all).mem
        refine lb_go (g := fun _ => .bl true) (.inr ⟨_, e4⟩) kn.all (by rw [List.length_dropLast]; omega) fun H6 s6 => ?_
        have g6 := g4.to s6
        have e6 := s6 _ _ e4
        refine ⟨B, .ref (ad (M.par ks t)), rfl, .inl ⟨_, skey (M.par ks t), .inl g6.dict, rfl, by rw [fd_val, if_pos hpar]⟩, ?_⟩
        have g7 := g6.lst _ hpar
        refine ⟨.inl ⟨rfl, _, SqL.of g7⟩, ?_⟩
        refine ⟨_, rfl, ?_⟩
        refine ⟨_, _, _, rfl, rfl, g7, szt (by rw [List.length_map]; have := vs_len ks i (M.par ks t); omega), ?_⟩
        have g8 := (g6.push hpar (vsAt ks i (M.par ks t) ++ [t])).congr (vs' := vsAt ks (i + 1)) fun s _ => vs_more ht c s
        rw [List.map_append] at g8
        exact ⟨_, rfl, g8, updn (nonn (g6.new _ hpar) hD) e6⟩
    · rintro σ' H4 ⟨x2, rfl, g4, e4⟩
      refine ⟨e4, ?_⟩
      rw [fd_len] at g4
      have g5 := (g4.updD hD (.dK (fd ks fun _ => .bl true))).congr (vs' := M.ch ks) fun s _ => by
        unfold vsAt M.ch
        rw [List.take_length]
      refine ⟨_, rfl, ?_⟩
      exact k B ad _ g5 upd_same
end
namespace M
/-! ## numbers as texts of 0 and 1 -/
theorem dig2 : ∀ (fuel n : Nat) (ds : List Char), n < fuel → ∃ l : List Char, Nat.toDigitsCore 2 fuel n ds = l ++ ds ∧ BL (l.map Char.toNat) ∧ bn (l.map Char.toNat) = n ∧ ∀ w, 1 ≤ w → n < 2 ^ w → l.length ≤ w
  | 0, n, ds, h => absurd h (Nat.not_lt_zero _)
  | fuel + 1, n, ds, h => by
    have e2 : (Nat.digitChar (n % 2)).toNat = 48 + n % 2 := by
      rcases Nat.mod_two_eq_zero_or_one n with q | q <;> rw [q] <;> rfl
    have hb : BL [(Nat.digitChar (n % 2)).toNat] := fun c hc => by
      rw [List.mem_singleton.mp hc, e2]
      omega
    unfold Nat.toDigitsCore
    by_cases c : n / 2 = 0
    · refine ⟨[Nat.digitChar (n % 2)], ?_, hb, ?_, fun w hw _ => hw⟩
      · simp [c]
      · show ((Nat.digitChar (n % 2)).toNat - 48) * 2 ^ 0 + 0 = n
        rw [e2]
        omega
    · obtain ⟨l, h1, h2, h3, h4⟩ := dig2 fuel (n / 2) (Nat.digitChar (n % 2) :: ds) (by omega)
      refine ⟨l ++ [Nat.digitChar (n % 2)], ?_, ?_, ?_, fun w hw hn => ?_⟩
      · simp only [c, if_false]
        rw [h1, List.append_assoc]
        rfl
      · rw [List.map_append]
        exact h2.app hb
      · rw [List.map_append, bn_app, h3]
        show n / 2 * 2 ^ 1 + (((Nat.digitChar (n % 2)).toNat - 48) * 2 ^ 0 + 0) = n
        rw [e2]
        omega
      · rw [List.length_append]
        show l.length + 1 ≤ w
        match w, hw with
        | 1, _ =>
          exfalso
          apply c
          have : n < 2 := by simpa using hn
          omega
        | w + 2, _ =>
          have := h4 (w + 1) (by omega) (by rw [Nat.pow_succ] at hn; omega)
          omega
def dg (n : Nat) : List Nat := (Nat.toDigits 2 n).map Char.toNat
theorem dg_ok (n : Nat) : BL (dg n) ∧ bn (dg n) = n ∧ ∀ w, 1 ≤ w → n < 2 ^ w → (dg n).length ≤ w := by
  obtain ⟨l, h1, h2, h3, h4⟩ := dig2 (n + 1) n [] (Nat.lt_succ_self _)
  have e : Nat.toDigits 2 n = l := by
    unfold Nat.toDigits
    rw [h1, List.append_nil]
  unfold dg
  rw [e]
  exact ⟨h2, h3, fun w a b => by rw [List.length_map]; exact h4 w a b⟩
/-- the address at a place -/
def adr (w v : Nat) : List Nat := List.replicate (w - (dg v).length) 48 ++ dg v
theorem adr_ok {w v : Nat} (hw : 1 ≤ w) (hv : v < 2 ^ w) : BL (adr w v) ∧ (adr w v).length = w ∧ bn (adr w v) = v := by
  have h := dg_ok v
  have l := h.2.2 w hw hv
  unfold adr
  refine ⟨(BL.rep _).app h.1, ?_, ?_⟩
  · rw [List.length_append, List.length_replicate]; omega
  · rw [bn_app, bn_rep, h.2.1]; omega
/-- what a cell tells -/
def cellA (w : Nat) (ts : List (List Nat)) (s : List Nat) : Option (List Nat) := if many w ts s = 0 then none else some (adr w (place w ts s))
theorem find_is {w : Nat} {ts : List (List Nat)} {s : List Nat} (hw : 1 ≤ w) (k : Known w ts) (hs : s ∈ ts) : (addrs w).find? (fun a => decide (lg ts a = s)) = cellA w ts s := by
  unfold cellA
  have f := find_cell k hs
  by_cases c : many w ts s = 0
  · rw [if_pos c, f.1 c]
  · rw [if_neg c]
    obtain ⟨h1, h2⟩ := f.2 c
    have a := adr_ok hw h1
    exact h2 _ a.1 a.2.1 a.2.2
end M
open PySem PySem.Spec PyProof.Rows
open L2 hiding pass0
abbrev s_cell : Stmt := top 24
theorem sc_cell : FnScope ["width", "stretch", "inner", "many", "place", "part"] ["width", "stretch", "inner"] (defScope s_cell) := ⟨rfl, rfl, rfl, by decide +kernel, rfl, by decide +kernel, by decide +kernel⟩
theorem bp_cell : BndP "_cell" s_cell ["width", "stretch", "inner"] := fun _ _ _ _ _ _ us h => match us, h with | [_, _, _], _ => rfl
theorem num_bn (l : List Nat) : B2.num l = M.bn l := by
  unfold B2.num
  rw [M.bn_foldl, Nat.zero_mul, Nat.zero_add]
def oA : Option (List Nat) → V
  | some a => sx a
  | none => .non
def cellS (w : Nat) (s : List Nat) (cs : List (List Nat)) : List V :=
  [sx s, .int ((M.size w s - (cs.map (M.size w)).sum : Nat) : Int), oA (if M.size w s - (cs.map (M.size w)).sum = 0 then none else some (M.adr w (M.scan w (M.lo w s) cs)))]
@[irreducible] def spCell : Sp := fun vs H Q _ => ∃ (n : Nat) (s : List Nat) (a : Addr) (cs : List (List Nat)), vs = [.int n, sx s, .ref a] ∧ 1 ≤ n ∧ n ≤ 100 ∧ M.BL s ∧ s.length ≤ n ∧ H a = some (.lst (cs.map sx)) ∧ cs.length ≤ 1001 ∧ Fits n cs ∧ (cs.map (M.size n)).sum ≤ M.size n s ∧
  (M.size n s - (cs.map (M.size n)).sum ≠ 0 → M.scan n (M.lo n s) cs < 2 ^ n) ∧ ∀ t H', Same H H' → H t = none → H' t = some (.tup (cellS n s cs)) → Q (.ref t) H'
theorem cell_go {n : Nat} {s : List Nat} {a : Addr} {cs : List (List Nat)} {H : Hp} {Q : VK} {E : XK} (h0 : 1 ≤ n) (h1 : n ≤ 100) (hb : M.BL s) (hl : s.length ≤ n) (ha : H a = some (.lst (cs.map sx))) (hc : cs.length ≤ 1001) (hf : Fits n cs) (hs : (cs.map (M.size n)).sum ≤ M.size n s)
    (hp : M.size n s - (cs.map (M.size n)).sum ≠ 0 → M.scan n (M.lo n s) cs < 2 ^ n) (k : ∀ t H', Same H H' → H t = none → H' t = some (.tup (cellS n s cs)) → Q (.ref t) H') : spCell [.int n, sx s, .ref a] H Q E := by
  unfold spCell
  exact ⟨n, s, a, cs, rfl, h0, h1, hb, hl, ha, hc, hf, hs, hp, k⟩
theorem sum_cast {α : Type} (g : α → Nat) : ∀ l : List α, (l.map fun x => ((g x : Nat) : Int)).sum = (((l.map g).sum : Nat) : Int)
  | [] => rfl
  | x :: l => by rw [List.map_cons, List.sum_cons, sum_cast g l, List.map_cons, List.sum_cons]; omega
theorem zf_eq {n v : Nat} (h : (M.dg v).length ≤ n) : Txt.zfill ⟨(FB.dg v).toArray⟩ (n : Int) = SX.S (M.adr n v) := by
  have e : FB.dg v = M.dg v := rfl
  rw [e]
  have hb := (M.dg_ok v).1
  unfold Txt.zfill M.adr
  show (if (n : Int) ≤ (((M.dg v).toArray.size : Nat) : Int) then _ else _) = _
  rw [List.size_toArray]
  split
  · rename_i c
    rw [show n - (M.dg v).length = 0 by omega, List.replicate_zero, List.nil_append]
  · rename_i c
    rw [Int.toNat_natCast]
    show zfilled ⟨(M.dg v).toArray⟩ (n - (M.dg v).toArray.size) = _
    rw [List.size_toArray]
    generalize n - (M.dg v).length = m
    cases e2 : M.dg v with
    | nil =>
      unfold zfilled PySem.Builtin.Str.padded SX.S
      simp
    | cons d r =>
      rw [e2] at hb
      rcases hb.hd with q | q <;> (subst q; unfold zfilled PySem.Builtin.Str.padded SX.S; simp)
section
variable {P : Program} {w : World} {K : PySem.W.Frag} {mg : Str → Option Value} {base : Heap} {f : Addr} {fd' : FuncData}
theorem ok_cell (F : Fun K "_cell" "_cell" s_cell f fd') (hm : mg "_cell" = some (.ref f)) (T : Txt K mg) (c_number : Nm P w K mg base CX0 6 "number" s_number ["width", "stretch"] (spNum)) (c_first : Nm P w K mg base CX0 6 "first" s_first ["width", "stretch"] (spFirst)) : Nm P w K mg base CX0 7 "_cell" s_cell ["width", "stretch", "inner"] (spCell) := by
  refine nm_of0 F hm sc_cell (fun vs H Q E h => ?_) fun cdv A outer s H vs Q E hr h => ?_
  · unfold spCell at h
    obtain ⟨n, s0, a, cs, rfl, h0, h1, hb, hl, ha, hc, hf, hs, hp, k⟩ := h
    subst_vars
    rfl
  unfold spCell at h
  obtain ⟨n, s0, a, cs, rfl, h0, h1, hb, hl, ha, hc, hf, hs, hp, k⟩ := h
  refine ⟨_, (pss_cons (ps_set (i := 3) sc_cell.nd rfl (by first | exact Or.inl rfl | exact Or.inr rfl) (pe_op op_sub (pe_g c_number hr (by decide) L2.pass0 bp_number (by rfl) (pa_cons (pv 0) (pa_cons (pv 1) pa_nil))) (pe_callB (cr_sum rfl) (by rfl) T.b_sum (by decide +kernel) (pa_cons (pe_lc (own := [("part", 5)]) (g := (gName 5)) (by rfl) sc_cell.nd (pi_listK (K := K) rfl (pv 2)) (blkOk_by (own := [("part", 5)]) (N := ["width", "stretch", "inner", "many", "place", "part"]) (sc := defScope s_cell) (by decide +kernel)) (fun _ _ _ _ _ => (pg_name (i := 5) sc_cell.nd rfl (by first | exact Or.inl rfl | exact Or.inr rfl))) (fun _ _ _ _ _ => pts_nil) (fun _ _ _ _ _ => (pe_g c_number hr (by decide) L2.pass0 bp_number (by rfl) (pa_cons (pv 0) (pa_cons (pv 5) pa_nil))))) pa_nil))))
      (pss_cons (ps_if (pt_cmpR op_eq (pv 3) pe_int (nomark _)) (pss_one (ps_ret (pe_tup (pa_cons (pv 1) (pa_cons pe_int (pa_cons pe_non pa_nil)))))) pss_nil)
      (pss_cons (ps_set (i := 4) sc_cell.nd rfl (by first | exact Or.inl rfl | exact Or.inr rfl) (pe_callTy call_intB (by rfl) T.b_int (by decide +kernel) (pa_cons (pe_g c_first hr (by decide) L2.pass0 bp_first (by rfl) (pa_cons (pv 0) (pa_cons (pv 1) pa_nil))) (pa_cons pe_int pa_nil))))
      (C8.pss_cut (ps_for PassesOwn.never rfl (pi_listK (K := K) rfl (pv 2)) (pg_name (i := 5) sc_cell.nd rfl (by first | exact Or.inl rfl | exact Or.inr rfl)) (pss_cons (ps_if (pt_cmpR op_ne (pe_callTy call_intB (by rfl) T.b_int (by decide +kernel) (pa_cons (pe_g c_first hr (by decide) L2.pass0 bp_first (by rfl) (pa_cons (pv 0) (pa_cons (pv 5) pa_nil))) (pa_cons pe_int pa_nil))) (pv 4) (nomark _)) (pss_one ps_break) pss_nil)
      (pss_one (ps_set (i := 4) sc_cell.nd rfl (by first | exact Or.inl rfl | exact Or.inr rfl) (pe_op op_add (pv 4) (pe_g c_number hr (by decide) L2.pass0 bp_number (by rfl) (pa_cons (pv 0) (pa_cons (pv 5) pa_nil))))))))
      (pss_one (ps_ret (pe_tup (pa_cons (pv 1) (pa_cons (pv 3) (pa_cons (pe_bm PySem.F.plainAttrs_str PySem.F.slot_str_zfill PySem.F.type_str_zfill mt_zfill (pe_joined1 (pe_fmtB (pv 4))) (pa_cons (pv 0) pa_nil)) pa_nil)))))))))), ?_⟩
  refine ⟨_, rfl, ⟨_, rfl, ?_⟩⟩
  refine num_go h0 h1 hb hl fun H1 sm1 => ?_
  have ha1 := sm1 _ _ ha
  refine ⟨_, rfl, ⟨a, rfl, ⟨_, SqL.of ha1⟩, fun B nB => ?_⟩⟩
  refine lc_it (walk_list (xs := cs.map sx)) (fun i H' => H' B = some (.lst (((cs.take i).map fun c => ((M.size n c : Nat) : Int)).map V.int)) ∧ Same H1 H') ⟨upd_same, fun b o e => updn (nonn nB e) e⟩ (fun i H' _ h => SqL.of (h.2 _ _ ha1)) ?_ ?_
  · rintro i x H2 H3 hi ⟨hB, sm⟩ ⟨rfl, hx⟩
    obtain ⟨c, hcm, rfl⟩ : ∃ c, cs[i]? = some c ∧ x = sx c := by
      rw [List.getElem?_map] at hx
      cases e : cs[i]? with
      | none => rw [e] at hx; cases hx
      | some z => rw [e] at hx; exact ⟨z, rfl, (Option.some.inj hx).symm⟩
    obtain ⟨cb, cl⟩ := hf c (List.mem_of_getElem? hcm)
    refine ⟨rfl, ?_⟩
    dsimp only [tYes]
    rw [if_pos rfl]
    refine ⟨_, rfl, ⟨_, rfl, ?_⟩⟩
    refine num_go h0 h1 cb cl fun H4 s4 => ?_
    refine ⟨_, s4 _ _ hB, szt (by rw [List.length_map, List.length_map, List.length_take]; omega), ?_, fun b o e => updn (nonn nB e) (s4 _ _ (sm _ _ e))⟩
    rw [upd_same, List.take_add_one, hcm, List.map_append, List.map_append]
    rfl
  rintro H2 ⟨hB, sm2⟩
  rw [List.length_map, List.take_length] at hB
  refine ⟨B, _, rfl, SqL.of hB, ?_⟩
  rw [sum_cast (M.size n)]
  refine ⟨_, _, rfl, rfl, ?_⟩
  have sm : Same H H2 := sm1.trans sm2
  clear hB sm2 nB ha1 sm1
  rw [show ((fun i j : Int => V.int (i - j)) ((M.size n s0 : Nat) : Int) (((cs.map (M.size n)).sum : Nat) : Int)) = V.int ((M.size n s0 - (cs.map (M.size n)).sum : Nat) : Int) from congrArg V.int (by omega)]
  have k' := k
  unfold cellS at k'
  generalize M.size n s0 - (cs.map (M.size n)).sum = many at hp k' ⊢
  refine ⟨_, rfl, ⟨rfl, ⟨_, rfl, ?_⟩⟩⟩
  have em : decide (V.int (many : Int) = V.int 0) = decide (many = 0) := decide_eq_decide.mpr ⟨fun q => by have := V.int.inj q; omega, fun q => by rw [q]; rfl⟩
  rw [em]
  by_cases c0 : many = 0
  · subst c0
    rw [decide_eq_true rfl]
    refine iteT ?_
    refine ⟨_, rfl, ⟨szl (by show 3 ≤ 1000000; decide), fun t nT => ?_⟩⟩
    refine k' t _ (fun b o e => updn (nonn nT (sm b o e)) (sm b o e)) ?_ upd_same
    cases e : H t with
    | none => rfl
    | some o => rw [sm _ _ e] at nT; cases nT
  rw [decide_eq_false c0]
  refine iteF ?_
  rw [if_neg c0] at k'
  have hp' := hp c0
  refine ⟨_, rfl, ⟨_, rfl, ?_⟩⟩
  refine first_go h0 h1 hb hl fun H3 s3 => ?_
  have fb := hb.app (M.BL.rep (n - s0.length))
  have fl : (s0 ++ List.replicate (n - s0.length) 48).length = n := by rw [List.length_append, List.length_replicate]; omega
  refine ⟨SX.S (s0 ++ List.replicate (n - s0.length) 48), rfl, (by rw [tl_S]; intro q; rw [q] at fl; simp at fl; omega), by rw [sx_len]; omega, by rw [tl_S]; exact fb, ?_⟩
  rw [tl_S, num_bn, M.lo_first]
  have sm3 := sm.trans s3
  clear s3 sm hp fb fl em
  generalize hG : M.scan n (M.lo n s0) cs = G at hp' k'
  refine ⟨fun σ' H' => ∃ x5, σ' = [some (.int n), some (sx s0), some (.ref a), some (.int many), some (.int (G : Int)), x5] ∧ Same H H', ?_, ?_⟩
  · refine ⟨_, rfl, ⟨a, rfl, ⟨_, SqL.of (sm3 _ _ ha)⟩, ?_⟩⟩
    refine for_it (walk_list (xs := cs.map sx)) (fun i σ' H' => ∃ (p : Nat) (x5 : Option V), σ' = [some (.int n), some (sx s0), some (.ref a), some (.int many), some (.int p), x5] ∧ Same H H' ∧ M.scan n p (cs.drop i) = G) ⟨_, _, rfl, sm3, hG⟩ (fun i σ' H' _ h => let ⟨_, _, _, s, _⟩ := h; SqL.of (s _ _ ha)) ?_ ?_
    · clear sm3
      rintro i x σ' H4 H5 hi ⟨p, x5, rfl, sm, hsc⟩ ⟨rfl, hx⟩
      obtain ⟨c, hcm, rfl⟩ : ∃ c, cs[i]? = some c ∧ x = sx c := by
        rw [List.getElem?_map] at hx
        cases e : cs[i]? with
        | none => rw [e] at hx; cases hx
        | some z => rw [e] at hx; exact ⟨z, rfl, (Option.some.inj hx).symm⟩
      obtain ⟨cb, cl⟩ := hf c (List.mem_of_getElem? hcm)
      have ed : cs.drop i = c :: cs.drop (i + 1) := by
        obtain ⟨hlt, e⟩ := List.getElem?_eq_some_iff.mp hcm
        rw [List.drop_eq_getElem_cons hlt, e]
      rw [ed] at hsc
      unfold M.scan at hsc
      refine ⟨_, rfl, ⟨_, rfl, ?_⟩⟩
      refine first_go h0 h1 cb cl fun H6 s6 => ?_
      have fb := cb.app (M.BL.rep (n - c.length))
      have fl : (c ++ List.replicate (n - c.length) 48).length = n := by rw [List.length_append, List.length_replicate]; omega
      refine ⟨SX.S (c ++ List.replicate (n - c.length) 48), rfl, (by rw [tl_S]; intro q; rw [q] at fl; simp at fl; omega), by rw [sx_len]; omega, by rw [tl_S]; exact fb, ?_⟩
      rw [tl_S, num_bn, M.lo_first]
      refine ⟨_, rfl, ⟨rfl, ⟨_, rfl, ?_⟩⟩⟩
      have em : decide (V.int ((M.lo n c : Nat) : Int) = V.int (p : Int)) = decide (M.lo n c = p) := decide_eq_decide.mpr ⟨fun q => by have := V.int.inj q; omega, fun q => by rw [q]⟩
      rw [em]
      by_cases c1 : M.lo n c = p
      · rw [decide_eq_true c1]
        rw [if_pos c1] at hsc
        refine iteF ?_
        refine ⟨_, rfl, ⟨_, rfl, ⟨_, rfl, ?_⟩⟩⟩
        refine num_go h0 h1 cb cl fun H7 s7 => ?_
        refine ⟨_, _, rfl, rfl, ?_⟩
        rw [show ((fun i j : Int => V.int (i + j)) (p : Int) ((M.size n c : Nat) : Int)) = V.int ((p + M.size n c : Nat) : Int) from congrArg V.int (by omega)]
        exact ⟨_, _, rfl, (sm.trans s6).trans s7, hsc⟩
      · rw [decide_eq_false c1]
        rw [if_neg c1] at hsc
        refine iteT ?_
        refine ⟨some (sx c), ?_, sm.trans s6⟩
        rw [← hsc]
        rfl
    · rintro σ' H4 ⟨p, x5, rfl, sm, hsc⟩
      rw [List.length_map, List.drop_length] at hsc
      exact ⟨x5, by rw [← hsc]; rfl, sm⟩
  · rintro σ' H4 ⟨x5, rfl, sm⟩
    refine ⟨_, rfl, ⟨_, rfl, ?_⟩⟩
    have hd := (M.dg_ok G).2.2 n h0 hp'
    refine ⟨_, rfl, ⟨G, rfl, (by show (M.dg G).length ≤ 1000; omega), ?_⟩⟩
    refine ⟨rfl, ⟨_, rfl, ⟨_, n, rfl, rfl, pad_ok h1, ?_⟩⟩⟩
    rw [zf_eq hd]
    refine ⟨szl (by show 3 ≤ 1000000; decide), fun t nT => ?_⟩
    refine k' t _ (fun b o e => updn (nonn nT (sm b o e)) (sm b o e)) ?_ upd_same
    cases e : H t with
    | none => rfl
    | some o => rw [sm _ _ e] at nT; cases nT
end
open PySem PySem.Spec PyProof.Rows
open L2 hiding pass0
abbrev s_cells : Stmt := top 19
theorem sc_cells : FnScope ["width", "stretches", "inside", "stretch", "inner"] ["width", "stretches"] (defScope s_cells) := ⟨rfl, rfl, rfl, by decide +kernel, rfl, by decide +kernel, by decide +kernel⟩
theorem bp_cells : BndP "cells" s_cells ["width", "stretches"] := fun _ _ _ _ _ _ us h => match us, h with | [_, _], _ => rfl
abbrev s_cell_of : Stmt := top 20
theorem sc_cell_of : FnScope ["width", "stretches", "address"] ["width", "stretches", "address"] (defScope s_cell_of) := ⟨rfl, rfl, rfl, by decide +kernel, rfl, by decide +kernel, by decide +kernel⟩
theorem bp_cell_of : BndP "cell_of" s_cell_of ["width", "stretches", "address"] := fun _ _ _ _ _ _ us h => match us, h with | [_, _, _], _ => rfl
/-- the tuples of cells at these places -/
inductive Tc (H : Hp) (w : Nat) (ks : List (List Nat)) : List Addr → List (List Nat) → Prop
  | nil : Tc H w ks [] []
  | cons {a : Addr} {s : List Nat} {as : List Addr} {ss : List (List Nat)} : H a = some (.tup [sx s, .int ((M.many w ks s : Nat) : Int), oA (M.cellA w ks s)]) → Tc H w ks as ss → Tc H w ks (a :: as) (s :: ss)
theorem Tc.mono {H H' : Hp} {w : Nat} {ks : List (List Nat)} (k : ∀ a l, H a = some (.tup l) → H' a = some (.tup l)) : ∀ {as : List Addr} {ss : List (List Nat)}, Tc H w ks as ss → Tc H' w ks as ss
  | _, _, .nil => .nil
  | _, _, .cons h r => .cons (k _ _ h) (r.mono k)
theorem Tc.snoc {H : Hp} {w : Nat} {ks : List (List Nat)} {a : Addr} {s : List Nat} (u : H a = some (.tup [sx s, .int ((M.many w ks s : Nat) : Int), oA (M.cellA w ks s)])) : ∀ {as : List Addr} {ss : List (List Nat)}, Tc H w ks as ss → Tc H w ks (as ++ [a]) (ss ++ [s])
  | _, _, .nil => .cons u .nil
  | _, _, .cons h r => .cons h (r.snoc u)
theorem Tc.len {H : Hp} {w : Nat} {ks : List (List Nat)} : ∀ {as : List Addr} {ss : List (List Nat)}, Tc H w ks as ss → as.length = ss.length
  | _, _, .nil => rfl
  | _, _, .cons _ r => congrArg (· + 1) r.len
/-- the cells told at L -/
def Told (H : Hp) (w : Nat) (ks : List (List Nat)) (L : Addr) : Prop := ∃ as : List Addr, H L = some (.lst (as.map V.ref)) ∧ Tc H w ks as ks
@[irreducible] def spCells : Sp := fun vs H Q _ => ∃ (n : Nat) (a : Addr) (ts : List (List Nat)), vs = [.int n, .ref a] ∧ 1 ≤ n ∧ n ≤ 100 ∧ ArgAt H a ts ∧ Fits n ts ∧ ts.length ≤ 1000 ∧ ∀ L H', Same H H' → H L = none → Told H' n (ksOf ts) L → Q (.ref L) H'
@[irreducible] def spCellOf : Sp := fun vs H Q _ => ∃ (n : Nat) (a : Addr) (ts : List (List Nat)) (z : List Nat), vs = [.int n, .ref a, sx z] ∧ 1 ≤ n ∧ n ≤ 100 ∧ ArgAt H a ts ∧ Fits n ts ∧ ts.length ≤ 1000 ∧ M.BL z ∧ z.length = n ∧ ∀ H', Same H H' → Q (sx (M.lg (ksOf ts) z)) H'
theorem cells_go {n : Nat} {a : Addr} {ts : List (List Nat)} {H : Hp} {Q : VK} {E : XK} (h0 : 1 ≤ n) (h1 : n ≤ 100) (ha : ArgAt H a ts) (hf : Fits n ts) (hl : ts.length ≤ 1000) (k : ∀ L H', Same H H' → H L = none → Told H' n (ksOf ts) L → Q (.ref L) H') : spCells [.int n, .ref a] H Q E := by
  unfold spCells
  exact ⟨n, a, ts, rfl, h0, h1, ha, hf, hl, k⟩
theorem cellof_go {n : Nat} {a : Addr} {ts : List (List Nat)} {z : List Nat} {H : Hp} {Q : VK} {E : XK} (h0 : 1 ≤ n) (h1 : n ≤ 100) (ha : ArgAt H a ts) (hf : Fits n ts) (hl : ts.length ≤ 1000) (hz : M.BL z) (lz : z.length = n) (k : ∀ H', Same H H' → Q (sx (M.lg (ksOf ts) z)) H') : spCellOf [.int n, .ref a, sx z] H Q E := by
  unfold spCellOf
  exact ⟨n, a, ts, z, rfl, h0, h1, ha, hf, hl, hz, lz, k⟩
section
variable {P : Program} {w : World} {K : PySem.W.Frag} {mg : Str → Option Value} {base : Heap} {f : Addr} {fd' : FuncData}
theorem ok_cells (F : Fun K "cells" "cells" s_cells f fd') (hm : mg "cells" = some (.ref f)) (T : Txt K mg) (c_check_stretches : Nm P w K mg base CX0 5 "check_stretches" s_check_stretches ["width", "stretches"] (spCS)) (c_with_all : Nm P w K mg base CX0 1 "_with_all" s_with_all ["stretches"] (spWA)) (c_widest_inside : Nm P w K mg base CX0 2 "_widest_inside" s_widest_inside ["known"] (spWI)) (c_cell : Nm P w K mg base CX0 7 "_cell" s_cell ["width", "stretch", "inner"] (spCell)) : Nm P w K mg base CX0 8 "cells" s_cells ["width", "stretches"] (spCells) := by
  refine nm_of F hm sc_cells (fun vs H Q E h => ?_) fun cdv A outer s H vs Q E hr h => ?_
  · unfold spCells at h
    obtain ⟨n, a, ts, rfl, h0, h1, ha, hf, hl, k⟩ := h
    subst_vars
    rfl
  unfold spCells at h
  obtain ⟨n, a, ts, rfl, h0, h1, ha, hf, hl, k⟩ := h
  refine ⟨_, (pss_cons (ps_expr (pe_g c_check_stretches hr (by decide) L2.pass0 bp_check_stretches (by rfl) (pa_cons (pv 0) (pa_cons (pv 1) pa_nil))))
      (pss_cons (ps_set (i := 2) sc_cells.nd rfl (by first | exact Or.inl rfl | exact Or.inr rfl) (pe_g c_widest_inside hr (by decide) L2.pass0 bp_widest_inside (by rfl) (pa_cons (pe_g c_with_all hr (by decide) L2.pass0 bp_with_all (by rfl) (pa_cons (pv 1) pa_nil)) pa_nil)))
      (pss_one (ps_ret (pe_lock (pe_lc (own := [("stretch", 3), ("inner", 4)]) (g := (gTup K 2 (gCons (gName 3) (gCons (gName 4) gNil)))) (by rfl) sc_cells.nd (pi_items (pv 2)) (blkOk_by (own := [("stretch", 3), ("inner", 4)]) (N := ["width", "stretches", "inside", "stretch", "inner"]) (sc := defScope s_cells) (by decide +kernel)) (fun _ _ _ _ _ => (pg_tup (by rfl) (pgs_cons (pg_name (i := 3) sc_cells.nd rfl (by first | exact Or.inl rfl | exact Or.inr rfl)) (pgs_cons (pg_name (i := 4) sc_cells.nd rfl (by first | exact Or.inl rfl | exact Or.inr rfl)) pgs_nil)))) (fun _ _ _ _ _ => pts_nil) (fun _ _ _ _ _ => (pe_g c_cell hr (by decide) L2.pass0 bp_cell (by rfl) (pa_cons (pv 0) (pa_cons (pv 3) (pa_cons (pv 4) pa_nil))))))))))), ?_⟩
  refine ⟨_, rfl, ⟨_, rfl, ?_⟩⟩
  refine cs_go h0 h1 ha hf fun H1 sm1 => ?_
  refine ⟨_, rfl, ?_⟩
  refine wa_go (ha.same sm1) hl fun D H2 nD sm2 hD => ?_
  have kn := ks_known hf
  have kl := ks_len ts
  refine wi_go hD kn h1 (by omega) fun B ad H3 g3 hD3 => ?_
  have sm3 : Same H H3 := (sm1.trans sm2).trans (g3.all hD hD3)
  show ∃ d u, _
  refine ⟨B, _, g3.dict, trivial, fun od => ?_⟩
  refine ⟨_, rfl, ⟨B, od, _, rfl, upd_same, fun L nL => ?_⟩⟩
  have eB : upd H3 B (.frz od (.dK (fd (ksOf ts) fun t => .ref (ad t)))) B = some (.frz od (.dK (fd (ksOf ts) fun t => .ref (ad t)))) := upd_same
  have nLB : B ≠ L := nonn nL eB
  have nL3 : H3 L = none := by rw [upd_ne nLB.symm] at nL; exact nL
  have hB2 : H2 B = none := g3.newB
  have hB0 : H B = none := by
    cases e : H B with
    | none => rfl
    | some o => rw [(sm1.trans sm2) _ _ e] at hB2; cases hB2
  have lists : ∀ s ∈ ksOf ts, upd H3 B (.frz od (.dK (fd (ksOf ts) fun t => .ref (ad t)))) (ad s) = some (.lst ((M.ch (ksOf ts) s).map sx)) := fun s hs => updn (g3.offB s hs) (g3.lst s hs)
  have keep : ∀ b o, b ≠ B → H3 b = some o → upd H3 B (.frz od (.dK (fd (ksOf ts) fun t => .ref (ad t)))) b = some o := fun b o n e => updn n e
  have k0 : ∀ L H', Same H H' → H L = none → Told H' n (ksOf ts) L → Q (.ref L) H' := k
  generalize ksOf ts = ks at *
  generalize upd H3 B (.frz od (.dK (fd ks fun t => .ref (ad t)))) = H4 at nL eB lists keep ⊢
  refine lc_it walk_items (fun i H' => ∃ as : List Addr, H' L = some (.lst (as.map V.ref)) ∧ Tc H' n ks as (ks.take i) ∧ Same H4 H') ⟨[], upd_same, .nil, fun b o e => updn (nonn nL e) e⟩ (fun _ H' _ h => let ⟨_, _, _, s⟩ := h; s _ _ eB) ?_ ?_
  · rintro i x H5 H6 hi ⟨as, hL, hT, sm⟩ ⟨t, x1, x2, rfl, nt, rfl, e1, e2⟩
    obtain ⟨s0, hs0, rfl, rfl⟩ : ∃ s0, ks[i]? = some s0 ∧ x1 = sx s0 ∧ x2 = .ref (ad s0) := by
      dsimp only at e1 e2
      rw [fd_get] at e1 e2
      cases hx : ks[i]? with
      | none => rw [hx] at e1; cases e1
      | some s0 =>
        rw [hx] at e1 e2
        exact ⟨s0, rfl, (Option.some.inj e1).symm, (Option.some.inj e2).symm⟩
    have hm := List.mem_of_getElem? hs0
    have nLt : L ≠ t := nonn nt hL
    have smt : Same H4 (upd H5 t (.tup [sx s0, .ref (ad s0)])) := fun c o e => updn (nonn nt (sm c o e)) (sm c o e)
    refine ⟨t, [sx s0, .ref (ad s0)], rfl, SqT.of upd_same, rfl, ?_⟩
    refine ⟨_, _, rfl, ?_⟩
    refine ⟨_, _, rfl, ?_⟩
    refine ⟨rfl, rfl, ?_⟩
    dsimp only [tYes]
    rw [if_pos rfl]
    refine ⟨_, rfl, ⟨_, rfl, ⟨_, rfl, ?_⟩⟩⟩
    have cm := M.cnt_many kn hm
    have fc := M.find_cell kn hm
    refine cell_go h0 h1 (kn.bits _ hm) (kn.fit _ hm) (smt _ _ (lists s0 hm)) ?_ (fun c hc => ⟨kn.bits c (M.mem_ch.mp hc).1, kn.fit c (M.mem_ch.mp hc).1⟩) cm.2 (fun q => (fc.2 q).1) fun T H7 s7 nT hT7 => ?_
    · have : (M.ch ks s0).length ≤ ks.length := List.length_filter_le _ _
      omega
    have hL7 : H7 L = some (.lst (as.map V.ref)) := s7 _ _ (updn nLt hL)
    have la := hT.len
    refine ⟨_, hL7, szt (by rw [List.length_map, la, List.length_take]; omega), as ++ [T], ?_, ?_, fun b o e => updn (nonn nL e) (s7 _ _ (smt _ _ e))⟩
    · rw [upd_same, List.map_append]
      rfl
    · rw [List.take_add_one, hs0]
      have mono : ∀ b l, H5 b = some (.tup l) → upd H7 L (.lst (as.map V.ref ++ [.ref T])) b = some (.tup l) := fun b l e => by
        have e1 : H7 b = some (.tup l) := s7 _ _ (updn (nonn nt e) e)
        refine updn (fun q => ?_) e1
        rw [q, hL7] at e1
        cases e1
      refine (hT.mono mono).snoc (updn (fun q => ?_) hT7)
      rw [q, hL7] at hT7
      cases hT7
  · rintro H5 ⟨as, hL, hT, sm⟩
    rw [fd_len, List.take_length] at hT
    refine ⟨sm _ _ eB, ?_⟩
    refine k0 L _ (fun b o e => ?_) ?_ ⟨as, updn nLB.symm hL, hT.mono fun b l e => updn (fun q => ?_) e⟩
    · have nb : b ≠ B := fun q => by rw [q, hB0] at e; cases e
      exact updn nb (sm _ _ (keep b o nb (sm3 b o e)))
    · cases e : H L with
      | none => rfl
      | some o => rw [sm3 _ _ e] at nL3; cases nL3
    · rw [q, sm _ _ eB] at e
      cases e
theorem ok_cell_of (F : Fun K "cell_of" "cell_of" s_cell_of f fd') (hm : mg "cell_of" = some (.ref f)) (T : Txt K mg) (c_check_stretches : Nm P w K mg base CX0 5 "check_stretches" s_check_stretches ["width", "stretches"] (spCS)) (c_check_address : Nm P w K mg base CX0 6 "check_address" s_check_address ["width", "address"] (spCT adrB)) (c_with_all : Nm P w K mg base CX0 1 "_with_all" s_with_all ["stretches"] (spWA)) (c_longest_beginning : Nm P w K mg base CX0 1 "longest_beginning" s_longest_beginning ["known", "bits"] (spLB)) : Nm P w K mg base CX0 7 "cell_of" s_cell_of ["width", "stretches", "address"] (spCellOf) := by
  refine nm_of F hm sc_cell_of (fun vs H Q E h => ?_) fun cdv A outer s H vs Q E hr h => ?_
  · unfold spCellOf at h
    obtain ⟨n, a, ts, z, rfl, h0, h1, ha, hf, hl, hz, lz, k⟩ := h
    subst_vars
    rfl
  unfold spCellOf at h
  obtain ⟨n, a, ts, z, rfl, h0, h1, ha, hf, hl, hz, lz, k⟩ := h
  refine ⟨_, (pss_cons (ps_expr (pe_g c_check_stretches hr (by decide) L2.pass0 bp_check_stretches (by rfl) (pa_cons (pv 0) (pa_cons (pv 1) pa_nil))))
      (pss_cons (ps_expr (pe_g c_check_address hr (by decide) L2.pass0 bp_check_address (by rfl) (pa_cons (pv 0) (pa_cons (pv 2) pa_nil))))
      (pss_one (ps_ret (pe_g c_longest_beginning hr (by decide) L2.pass0 bp_longest_beginning (by rfl) (pa_cons (pe_g c_with_all hr (by decide) L2.pass0 bp_with_all (by rfl) (pa_cons (pv 1) pa_nil)) (pa_cons (pv 2) pa_nil))))))), ?_⟩
  refine ⟨_, rfl, ⟨_, rfl, ?_⟩⟩
  refine cs_go h0 h1 ha hf fun H1 sm1 => ?_
  refine ⟨_, rfl, ⟨_, rfl, ?_⟩⟩
  refine ct_go (by omega) (by omega) (by rw [sx_len]; omega) (by
    show (bitsB _ && decide (((SX.S z).length : Int) = n)) = true
    rw [bitsB_of (sx_bits hz), sx_len, decide_eq_true (by omega)]
    rfl) fun H2 sm2 => ?_
  refine ⟨_, rfl, ?_⟩
  refine wa_go ((ha.same sm1).same sm2) hl fun D H3 nD sm3 hD => ?_
  refine ⟨_, rfl, ?_⟩
  refine lb_go (g := fun _ => .bl true) (.inl hD) (ks_known hf).all (by omega) fun H4 sm4 => ?_
  exact k _ (((sm1.trans sm2).trans sm3).trans sm4)
end
open PySem PySem.Spec PyProof.Rows
open L2 hiding pass0
abbrev s_law_turned : Stmt := top 30
theorem sc_law_turned : FnScope ["_law_part"] ["_law_part"] (defScope s_law_turned) := ⟨rfl, rfl, rfl, by decide +kernel, rfl, by decide +kernel, by decide +kernel⟩
theorem bp_law_turned : BndP "_law_turned" s_law_turned ["_law_part"] := fun _ _ _ _ _ _ us h => match us, h with | [_], _ => rfl
theorem atI_last (b : List Nat) (y : Nat) : atI (SX.S (b ++ [y])).cps.toList (-1) = some y := by
  have e : (SX.S (b ++ [y])).cps.toList = b ++ [y] := by unfold SX.S; simp
  rw [e]
  unfold atI ixN
  rw [List.length_append, if_neg (by decide), if_pos (by show -((b.length + 1 : Nat) : Int) ≤ -1; omega)]
  show (b ++ [y])[_]? = some y
  rw [show (-1 + ((b.length + [y].length : Nat) : Int)).toNat = b.length by show (-1 + ((b.length + 1 : Nat) : Int)).toNat = _; omega]
  simp
theorem S_app (a b : List Nat) : SX.S a ++ SX.S b = SX.S (a ++ b) := by
  show (⟨a.toArray ++ b.toArray⟩ : Str) = ⟨(a ++ b).toArray⟩
  simp
/-- the last sign turned -/
def tl1 (t : List Nat) : List Nat := t.dropLast ++ [97 - t.getLastD 48]
@[irreducible] def spTn : Sp := fun vs H Q _ => ∃ t : List Nat, vs = [sx t] ∧ M.BL t ∧ t ≠ [] ∧ t.length ≤ 1000 ∧ ∀ H', Same H H' → Q (sx (tl1 t)) H'
theorem tn_go {t : List Nat} {H : Hp} {Q : VK} {E : XK} (h : M.BL t) (h0 : t ≠ []) (hl : t.length ≤ 1000) (k : ∀ H', Same H H' → Q (sx (tl1 t)) H') : spTn [sx t] H Q E := by
  unfold spTn
  exact ⟨t, rfl, h, h0, hl, k⟩
section
variable {P : Program} {w : World} {K : PySem.W.Frag} {mg : Str → Option Value} {base : Heap} {f C : Addr} {fd' : FuncData}
theorem ok_turned (F : Fun K "_law_turned" "_law_turned" s_law_turned f fd') (hm : mg "_law_turned" = some (.ref f)) (T : Txt K mg) : Nm P w K mg base CX0 1 "_law_turned" s_law_turned ["_law_part"] (spTn) := by
  refine nm_of F hm sc_law_turned (fun vs H Q E h => ?_) fun cdv A outer s H vs Q E hr h => ?_
  · unfold spTn at h
    obtain ⟨t, rfl, hb, h0, hl, k⟩ := h
    subst_vars
    rfl
  unfold spTn at h
  obtain ⟨t, rfl, hb, h0, hl, k⟩ := h
  refine ⟨_, (pss_one (ps_ret (pe_op op_add_str (pe_slice sl_str (pv 0) po_none (po_some (pe_un un_neg pe_int))) (pe_dget hr.u1 (pe_disp (pps_cons pe_str pe_str (pps_cons pe_str pe_str pps_nil)) (by rfl) (by rfl) (fun z => by cases z) (by decide)) (pe_ix (ix_seqK (K := K) rfl) (pv 0) (pe_un un_neg pe_int) (fun _ _ => rfl)) (fun _ _ => rfl))))), ?_⟩
  refine ⟨_, rfl, ⟨_, rfl, ⟨_, rfl, ⟨_, rfl, szl (by rw [sx_len]; omega), ?_⟩⟩⟩⟩
  rw [cut_last t h0]
  obtain ⟨b, y, rfl⟩ : ∃ b y, t = b ++ [y] := ⟨t.dropLast, t.getLast h0, (List.dropLast_concat_getLast h0).symm⟩
  have hy := hb y (List.mem_append_right _ (List.mem_singleton.mpr rfl))
  rw [List.dropLast_concat]
  have hl2 := hl
  rw [List.length_append] at hl2
  have e1 : [y].length = 1 := rfl
  have bl : (SX.S b).length = b.length := sx_len b
  intro N nN
  refine ⟨upd_same, [(Sum.inr "0", .str "1"), (Sum.inr "1", .str "0")], rfl, by decide, ?_⟩
  refine ⟨_, rfl, ⟨_, rfl, ?_⟩⟩
  refine .inr (.inr ⟨SX.S (b ++ [y]), _, y, rfl, rfl, szl (by rw [sx_len]; omega), atI_last b y, ?_⟩)
  have sN : Same H (upd (upd H N (.dK [])) N (.dK (mergeK [] [(Sum.inr "0", .str "1"), (Sum.inr "1", .str "0")]))) := fun c o e => updn (nonn nN e) (updn (nonn nN e) e)
  have eN : upd (upd H N (.dK [])) N (.dK (mergeK [] [(Sum.inr "0", .str "1"), (Sum.inr "1", .str "0")])) N = some (.dK [(Sum.inr "0", .str "1"), (Sum.inr "1", .str "0")]) := upd_same
  generalize upd (upd H N (.dK [])) N (.dK (mergeK [] [(Sum.inr "0", .str "1"), (Sum.inr "1", .str "0")])) = H1 at sN eN ⊢
  have ed : tl1 (b ++ [y]) = b ++ [97 - y] := by
    unfold tl1
    rw [List.dropLast_concat, List.getLastD_concat]
  rw [ed] at k
  have cat : ∀ d : Nat, SX.S b ++ (⟨#[d]⟩ : Str) = SX.S (b ++ [d]) := fun d => by rw [← S_app]
  rcases hy with rfl | rfl
  · refine ⟨N, .str ⟨#[49]⟩, rfl, .inl ⟨_, Sum.inr "0", .inl eN, rfl, rfl⟩, ?_⟩
    refine ⟨_, _, rfl, rfl, szl (by rw [bl]; show b.length + 1 ≤ _; omega), ?_⟩
    rw [cat]
    exact k _ sN
  · refine ⟨N, .str ⟨#[48]⟩, rfl, .inl ⟨_, Sum.inr "1", .inl eN, rfl, rfl⟩, ?_⟩
    refine ⟨_, _, rfl, rfl, szl (by rw [bl]; show b.length + 1 ≤ _; omega), ?_⟩
    rw [cat]
    exact k _ sN
end
open PySem PySem.Spec PyProof.Rows
open L2 hiding pass0
abbrev s_law_below : Stmt := top 32
theorem sc_law_below : FnScope ["_law_some_here", "_law_part", "_law_inner", "_law_other", "_law_far", "_law_near"] ["_law_some_here", "_law_part"] (defScope s_law_below) := ⟨rfl, rfl, rfl, by decide +kernel, rfl, by decide +kernel, by decide +kernel⟩
theorem bp_law_below : BndP "_law_below" s_law_below ["_law_some_here", "_law_part"] := fun _ _ _ _ _ _ us h => match us, h with | [_, _], _ => rfl
theorem cr_anyK {X : Cx} {K : PySem.W.Frag} (hk : X.K = K) (hc : X.calm = true) : CallR X (.builtin "any") (rAny K) := hk ▸ cr_any hc
def inr14 (ts : List (List Nat)) (s : List Nat) : List (List Nat) := ts.filter fun o => decide (s.length < o.length) && decide (o.take s.length = s)
def blw (ts : List (List Nat)) (s : List Nat) : List (List Nat) := (inr14 ts s).filter fun f => !(inr14 ts s).any fun r => decide (r ≠ f) && decide (f.take r.length = r)
theorem inr_snoc (ts : List (List Nat)) (s t : List Nat) : inr14 (ts ++ [t]) s = inr14 ts s ++ (if s.length < t.length ∧ t.take s.length = s then [t] else []) := by
  unfold inr14
  rw [List.filter_append]
  congr 1
  by_cases h : s.length < t.length <;> by_cases h2 : t.take s.length = s <;> simp [h, h2]
theorem inr_len (ts : List (List Nat)) (s : List Nat) : (inr14 ts s).length ≤ ts.length := List.length_filter_le _ _
theorem _root_.L2.Same.back {H H' : Hp} {a : Addr} (s : Same H H') (n : H' a = none) : H a = none := by
  cases e : H a with
  | none => rfl
  | some o => rw [s _ _ e] at n; cases n
/-- a list made since -/
def NL (H0 : Hp) (B : Addr) (xs : List V) (H : Hp) : Prop := H B = some (.lst xs) ∧ Same H0 H
theorem NL.nil {B : Addr} {H0 : Hp} (nB : H0 B = none) : NL H0 B [] (upd H0 B (.lst [])) := ⟨upd_same, fun b o e => updn (nonn nB e) e⟩
theorem NL.turn {B : Addr} {H0 H1 H2 : Hp} {x : V} {xs : List V} (h : NL H0 B xs H1) (nB : H0 B = none) (s : Same H1 H2) (hl : xs.length ≤ 100000) :
    ∃ acc, H2 B = some (.lst acc) ∧ acc.length < sizeLine ∧ NL H0 B (xs ++ [x]) (upd H2 B (.lst (acc ++ [x]))) :=
  ⟨xs, s _ _ h.1, szt (by omega), upd_same, fun b o e => updn (nonn nB e) (s _ _ (h.2 _ _ e))⟩
theorem sx_at {ts : List (List Nat)} {i : Nat} {x : V} (h : (ts.map sx)[i]? = some x) : ∃ t, ts[i]? = some t ∧ x = sx t := by
  rw [List.getElem?_map] at h
  cases e : ts[i]? with
  | none => rw [e] at h; cases h
  | some t => rw [e] at h; exact ⟨t, rfl, (Option.some.inj h).symm⟩
theorem dec_sx (a b : List Nat) : decide (sx a = sx b) = decide (a = b) := decide_eq_decide.mpr ⟨fun q => S_inj (V.str.inj q), fun q => by rw [q]⟩
@[irreducible] def spBlw : Sp := fun vs H Q _ => ∃ (a : Addr) (ts : List (List Nat)) (s : List Nat), vs = [.ref a, sx s] ∧ H a = some (.lst (ts.map sx)) ∧ ts.length ≤ 1000 ∧ s.length ≤ 1000 ∧ (∀ t ∈ ts, t.length ≤ 1000) ∧ ∀ L H', Same H H' → H L = none → H' L = some (.lst ((blw ts s).map sx)) → Q (.ref L) H'
section
variable {P : Program} {w : World} {K : PySem.W.Frag} {mg : Str → Option Value} {base : Heap} {f C : Addr} {fd' : FuncData}
theorem ok_below (F : Fun K "_law_below" "_law_below" s_law_below f fd') (hm : mg "_law_below" = some (.ref f)) (T : Txt K mg) : Nm P w K mg base CX0 1 "_law_below" s_law_below ["_law_some_here", "_law_part"] (spBlw) := by
  refine nm_of F hm sc_law_below (fun vs H Q E h => ?_) fun cdv A outer s H vs Q E hr h => ?_
  · unfold spBlw at h
    obtain ⟨a, ts, s, rfl, ha, lt, ls, lts, k⟩ := h
    subst_vars
    rfl
  unfold spBlw at h
  obtain ⟨a, ts, s, rfl, ha, lt, ls, lts, k⟩ := h
  refine ⟨_, (C8.pss_cut (ps_set (i := 2) sc_law_below.nd rfl (by first | exact Or.inl rfl | exact Or.inr rfl) (pe_lc (own := [("_law_other", 3)]) (g := (gName 3)) (by rfl) sc_law_below.nd (pi_listK (K := K) rfl (pv 0)) (blkOk_by (own := [("_law_other", 3)]) (N := ["_law_some_here", "_law_part", "_law_inner", "_law_other", "_law_far", "_law_near"]) (sc := defScope s_law_below) (by decide +kernel)) (fun _ _ _ _ _ => (pg_name (i := 3) sc_law_below.nd rfl (by first | exact Or.inl rfl | exact Or.inr rfl))) (fun _ _ _ _ _ => (pts_one (PW.pt (pw_and (pt_cmpR op_gt (pe_callB (call_lenK (K := K) rfl) (by rfl) T.b_len PySem.boot_len (pa_cons (pv 3) pa_nil)) (pe_callB (call_lenK (K := K) rfl) (by rfl) T.b_len PySem.boot_len (pa_cons (pv 1) pa_nil)) (nomark _)) (pw_and1 (pt_cmpR op_eq (pe_slice sl_str (pv 3) po_none (po_some (pe_callB (call_lenK (K := K) rfl) (by rfl) T.b_len PySem.boot_len (pa_cons (pv 1) pa_nil)))) (pv 1) (nomark _))))))) (fun _ _ _ _ _ => (pv 3))))
      (pss_one (ps_ret (pe_lc (own := [("_law_far", 4)]) (g := (gName 4)) (by rfl) sc_law_below.nd (pi_listK (K := K) rfl (pv 2)) (blkOk_by (own := [("_law_far", 4)]) (N := ["_law_some_here", "_law_part", "_law_inner", "_law_other", "_law_far", "_law_near"]) (sc := defScope s_law_below) (by decide +kernel)) (fun _ _ _ _ _ => (pg_name (i := 4) sc_law_below.nd rfl (by first | exact Or.inl rfl | exact Or.inr rfl))) (fun _ _ _ _ _ => (pts_one (pt_not (pt_val (pe_callB (cr_anyK (K := K) rfl rfl) (by rfl) T.b_any (by decide +kernel) (pa_cons (pe_lc (own := [("_law_near", 5)]) (g := (gName 5)) (by rfl) sc_law_below.nd (pi_listK (K := K) rfl (pv 2)) (blkOk_by (own := [("_law_near", 5)]) (N := ["_law_some_here", "_law_part", "_law_inner", "_law_other", "_law_far", "_law_near"]) (by rfl)) (fun _ _ _ _ _ => (pg_name (i := 5) sc_law_below.nd rfl (by first | exact Or.inl rfl | exact Or.inr rfl))) (fun _ _ _ _ _ => pts_nil) (fun _ _ _ _ _ => (pe_and (pe_cmpR op_ne (pv 5) (pv 4) (nomark _)) (pe_one (pe_cmpR op_eq (pe_slice sl_str (pv 4) po_none (po_some (pe_callB (call_lenK (K := K) rfl) (by rfl) T.b_len PySem.boot_len (pa_cons (pv 5) pa_nil)))) (pv 5) (nomark _)))))) pa_nil)))))) (fun _ _ _ _ _ => (pv 4)))))), ?_⟩
  refine ⟨fun σ' H' => ∃ I, σ' = [some (.ref a), some (sx s), some (.ref I), none, none, none] ∧ Same H H' ∧ H I = none ∧ H' I = some (.lst ((inr14 ts s).map sx)), ?_, ?_⟩
  · refine ⟨_, rfl, ⟨a, rfl, ⟨_, SqL.of ha⟩, fun B nB => ?_⟩⟩
    refine lc_it (walk_list (xs := ts.map sx)) (fun i H' => NL H B ((inr14 (ts.take i) s).map sx) H') (.nil nB) (fun i H' _ h => SqL.of (h.2 _ _ ha)) ?_ ?_
    · rintro i x H1 H2 hi hq ⟨rfl, hx⟩
      obtain ⟨t, ht, rfl⟩ := sx_at hx
      have ltt := lts t (List.mem_of_getElem? ht)
      have estep : inr14 (ts.take (i + 1)) s = inr14 (ts.take i) s ++ (if s.length < t.length ∧ t.take s.length = s then [t] else []) := by
        rw [List.take_add_one, ht]
        exact inr_snoc _ _ _
      have ll : ((inr14 (ts.take i) s).map sx).length ≤ 100000 := by
        rw [List.length_map]
        have := inr_len (ts.take i) s
        rw [List.length_take] at this
        omega
      refine ⟨rfl, ?_⟩
      refine ⟨_, rfl, ⟨_, _, rfl, ⟨szl (by rw [sx_len]; omega), rfl⟩, ?_⟩⟩
      refine ⟨_, rfl, ⟨_, _, rfl, ⟨szl (by rw [sx_len]; omega), rfl⟩, ?_⟩⟩
      refine ⟨_, _, rfl, rfl, ?_⟩
      refine ⟨_, rfl, ?_⟩
      rw [sx_len, sx_len]
      by_cases c : s.length < t.length
      · rw [show decide (((s.length : Nat) : Int) < (t.length : Int)) = true from decide_eq_true (by omega)]
        refine iteT ?_
        refine ⟨_, rfl, ⟨_, rfl, ⟨_, _, rfl, ⟨szl (by rw [sx_len]; omega), rfl⟩, ?_⟩⟩⟩
        refine ⟨_, rfl, ?_⟩
        refine ⟨_, rfl, szl (by rw [sx_len]; omega), ?_⟩
        rw [cut_S t (k := s.length) (by rw [sx_len])]
        refine ⟨_, rfl, ⟨rfl, ⟨_, rfl, ?_⟩⟩⟩
        rw [show decide (V.str (SX.S (t.take s.length)) = sx s) = decide (t.take s.length = s) from dec_sx _ _]
        by_cases c2 : t.take s.length = s
        · rw [decide_eq_true c2]
          rw [if_pos ⟨c, c2⟩] at estep
          refine iteT ?_
          rw [estep, List.map_append]
          refine ⟨_, rfl, ?_⟩
          exact hq.turn nB (Same.refl _) ll
        · rw [decide_eq_false c2]
          rw [if_neg (fun h => c2 h.2), List.append_nil] at estep
          refine iteF ?_
          rw [estep]
          exact hq
      · rw [show decide (((s.length : Nat) : Int) < (t.length : Int)) = false from decide_eq_false (by omega)]
        rw [if_neg (fun h => c h.1), List.append_nil] at estep
        refine iteF ?_
        dsimp only
        rw [if_neg Bool.false_ne_true, estep]
        exact hq
    rintro H1 hq
    rw [List.length_map, List.take_length] at hq
    exact ⟨B, rfl, hq.2, nB, hq.1⟩
  rintro σ' H1 ⟨I, rfl, s1, nI, eI⟩
  have li : (inr14 ts s).length ≤ 1000 := Nat.le_trans (inr_len ts s) lt
  have lti : ∀ t ∈ inr14 ts s, t.length ≤ 1000 := fun t ht => lts t (List.mem_filter.mp ht).1
  unfold blw at k
  generalize inr14 ts s = inn at eI li lti k
  refine ⟨_, rfl, ⟨I, rfl, ⟨_, SqL.of eI⟩, fun B nB => ?_⟩⟩
  refine lc_it (walk_list (xs := inn.map sx)) (fun i H' => NL H1 B (((inn.take i).filter fun f => !inn.any fun r => decide (r ≠ f) && decide (f.take r.length = r)).map sx) H') (.nil nB) (fun i H' _ h => SqL.of (h.2 _ _ eI)) ?_ ?_
  · rintro i x H2 H3 hi hq ⟨rfl, hx⟩
    obtain ⟨t, ht, rfl⟩ := sx_at hx
    have ltt := lti t (List.mem_of_getElem? ht)
    have ll : (((inn.take i).filter fun f => !inn.any fun r => decide (r ≠ f) && decide (f.take r.length = r)).map sx).length ≤ 100000 := by
      rw [List.length_map]
      have := List.length_filter_le (fun f => !inn.any fun r => decide (r ≠ f) && decide (f.take r.length = r)) (inn.take i)
      rw [List.length_take] at this
      omega
    refine ⟨rfl, ?_⟩
    have eI3 := hq.2 _ _ eI
    refine ⟨_, rfl, ⟨I, rfl, ⟨_, SqL.of eI3⟩, fun B2 nB2 => ?_⟩⟩
    refine lc_it (walk_list (xs := inn.map sx)) (fun j H' => NL H3 B2 (((inn.take j).map fun r => decide (r ≠ t) && decide (t.take r.length = r)).map V.bl) H') (.nil nB2) (fun j H' _ h => SqL.of (h.2 _ _ eI3)) ?_ ?_
    · rintro j y H4 H5 hj hq2 ⟨rfl, hy⟩
      obtain ⟨r, hr2, rfl⟩ := sx_at hy
      have lr := lti r (List.mem_of_getElem? hr2)
      have estep : ((inn.take (j + 1)).map fun r => decide (r ≠ t) && decide (t.take r.length = r)).map V.bl = ((inn.take j).map fun r => decide (r ≠ t) && decide (t.take r.length = r)).map V.bl ++ [V.bl (decide (r ≠ t) && decide (t.take r.length = r))] := by
        rw [List.take_add_one, hr2]
        simp
      have l2 : (((inn.take j).map fun r => decide (r ≠ t) && decide (t.take r.length = r)).map V.bl).length ≤ 100000 := by
        rw [List.length_map, List.length_map, List.length_take]
        omega
      have turn := hq2.turn (x := V.bl (decide (r ≠ t) && decide (t.take r.length = r))) nB2 (Same.refl _) l2
      rw [← estep] at turn
      refine ⟨rfl, ?_⟩
      dsimp only [tYes]
      rw [if_pos rfl]
      refine ⟨_, rfl, ⟨_, rfl, ⟨rfl, ⟨_, rfl, ?_⟩⟩⟩⟩
      rw [dec_sx]
      by_cases c : r = t
      · rw [show decide (r ≠ t) = false from decide_eq_false (fun h => h c), Bool.false_and] at turn
        rw [decide_eq_true c]
        refine iteF ?_
        exact turn
      · rw [show decide (r ≠ t) = true from decide_eq_true c, Bool.true_and] at turn
        rw [decide_eq_false c]
        refine iteT ?_
        refine ⟨_, rfl, ⟨_, rfl, ⟨_, _, rfl, ⟨szl (by rw [sx_len]; omega), rfl⟩, ?_⟩⟩⟩
        refine ⟨_, rfl, ?_⟩
        refine ⟨_, rfl, szl (by rw [sx_len]; omega), ?_⟩
        rw [cut_S t (k := r.length) (by rw [sx_len])]
        refine ⟨_, rfl, ⟨rfl, ?_⟩⟩
        rw [show decide (V.str (SX.S (t.take r.length)) = sx r) = decide (t.take r.length = r) from dec_sx _ _]
        exact turn
    rintro H4 hq2
    rw [List.length_map, List.take_length] at hq2
    refine ⟨B2, _, rfl, SqL.of hq2.1, ?_⟩
    rw [show ((inn.map fun r => decide (r ≠ t) && decide (t.take r.length = r)).any id) = inn.any fun r => decide (r ≠ t) && decide (t.take r.length = r) from by rw [List.any_map]; rfl]
    refine ⟨_, rfl, ?_⟩
    have estep : (inn.take (i + 1)).filter (fun f => !inn.any fun r => decide (r ≠ f) && decide (f.take r.length = r)) = (inn.take i).filter (fun f => !inn.any fun r => decide (r ≠ f) && decide (f.take r.length = r)) ++ (if (!inn.any fun r => decide (r ≠ t) && decide (t.take r.length = r)) = true then [t] else []) := by
      rw [List.take_add_one, ht, List.filter_append]
      congr 1
      simp only [Option.toList, List.filter_cons, List.filter_nil]
    cases hb : (inn.any fun r => decide (r ≠ t) && decide (t.take r.length = r)) with
    | true =>
      rw [hb, Bool.not_true, if_neg Bool.false_ne_true, List.append_nil] at estep
      dsimp only
      rw [Bool.not_true, if_neg Bool.false_ne_true, estep]
      exact ⟨hq2.2 _ _ hq.1, hq.2.trans hq2.2⟩
    | false =>
      rw [hb, Bool.not_false, if_pos rfl] at estep
      dsimp only
      rw [Bool.not_false, if_pos rfl, estep, List.map_append]
      refine ⟨_, rfl, ?_⟩
      exact hq.turn nB hq2.2 ll
  rintro H2 hq
  rw [List.length_map, List.take_length] at hq
  exact k B H2 (s1.trans hq.2) (s1.back nB) hq.1
end
/-! data that is small: shown and compared -/
open PySem PySem.Spec PyProof.Rows L2
/-- of bulk at most N, depth at most D -/
structure Fit (N D : Nat) (d : PyData) : Prop where
  lay : d.canLay0 = true
  sh : d.showable = true
  dp : d.depth ≤ D
  ls : d.leavesShort 13 = true
  bk : d.bulk ≤ N
theorem Fit.mono {N D N' D' : Nat} {d : PyData} (h : Fit N D d) (hN : N ≤ N') (hD : D ≤ D') : Fit N' D' d := ⟨h.lay, h.sh, Nat.le_trans h.dp hD, h.ls, Nat.le_trans h.bk hN⟩
theorem Fit.non {N D : Nat} : Fit N D .none := ⟨rfl, rfl, Nat.zero_le _, rfl, Nat.zero_le _⟩
theorem Fit.bool {N D : Nat} (b : Bool) : Fit N D (.bool b) := ⟨rfl, rfl, Nat.zero_le _, rfl, Nat.zero_le _⟩
theorem Fit.str {N D : Nat} {z : Str} (h : ∀ c ∈ z.cps.toList, c < 128) (l : z.length ≤ N) : Fit N D (.str z) := by
  refine ⟨?_, rfl, Nat.zero_le _, ?_, l⟩
  · show (z.cps.all fun c => decide (c < 0x110000)) = true
    refine Array.all_eq_true_iff_forall_mem.mpr fun c hc => decide_eq_true ?_
    have := h c (by simpa using hc)
    omega
  · show (z.cps.toList.all fun c => decide (c < 16 ^ 8)) = true
    exact List.all_eq_true.mpr fun c hc => decide_eq_true (by have := h c hc; have : (128 : Nat) ≤ 16 ^ 8 := by decide
                                                              omega)
theorem Fit.int {N D : Nat} {i : Int} (h : ((PyData.shown (.int i)).length ≤ 13 ∧ i.natAbs < 2 ^ 1000)) : Fit N D (.int i) := by
  refine ⟨rfl, ?_, Nat.zero_le _, decide_eq_true h.1, Nat.zero_le _⟩
  refine decide_eq_true ?_
  rcases Nat.eq_zero_or_pos i.natAbs with e | e
  · rw [e]; decide
  · have := (Nat.log2_lt (by omega)).mpr h.2
    omega
theorem fit_all {N D : Nat} : ∀ {ds : List PyData}, (∀ d ∈ ds, Fit N D d) → PyData.canLayAll0 ds = true ∧ PyData.showableAll ds = true ∧ PyData.depthAll ds ≤ D ∧ PyData.leavesShortAll 13 ds = true ∧ PyData.bulkAll ds ≤ (N + 1) * ds.length
  | [], _ => ⟨by simp only [PyData.canLayAll0], by simp only [PyData.showableAll], by simp only [PyData.depthAll]; omega, by simp only [PyData.leavesShortAll], by simp only [PyData.bulkAll]; omega⟩
  | d :: ds, h => by
    have h1 := h d (List.mem_cons_self ..)
    obtain ⟨a1, a2, a3, a4, a5⟩ := fit_all (ds := ds) fun x hx => h x (List.mem_cons_of_mem _ hx)
    have b3 := h1.dp
    have b5 := h1.bk
    refine ⟨?_, ?_, ?_, ?_, ?_⟩
    · simp only [PyData.canLayAll0, h1.lay, a1, Bool.and_self]
    · simp only [PyData.showableAll, h1.sh, a2, Bool.and_self]
    · simp only [PyData.depthAll]; omega
    · simp only [PyData.leavesShortAll, h1.ls, a4, Bool.and_self]
    · simp only [PyData.bulkAll, List.length_cons]
      rw [Nat.mul_add]
      omega
theorem Fit.list {N D : Nat} {ds : List PyData} (h : ∀ d ∈ ds, Fit N D d) : Fit ((N + 1) * ds.length) (D + 1) (.list ds) := by
  obtain ⟨a1, a2, a3, a4, a5⟩ := fit_all h
  exact ⟨by simpa only [PyData.canLay0] using a1, by simpa only [PyData.showable] using a2, by simp only [PyData.depth]; omega, by simpa only [PyData.leavesShort] using a4, by simpa only [PyData.bulk] using a5⟩
theorem Fit.tuple {N D : Nat} {ds : List PyData} (h : ∀ d ∈ ds, Fit N D d) : Fit ((N + 1) * ds.length) (D + 1) (.tuple ds) := by
  obtain ⟨a1, a2, a3, a4, a5⟩ := fit_all h
  exact ⟨by simpa only [PyData.canLay0] using a1, by simpa only [PyData.showable] using a2, by simp only [PyData.depth]; omega, by simpa only [PyData.leavesShort] using a4, by simpa only [PyData.bulk] using a5⟩
theorem Fit.rp {K : PySem.W.Frag} {H : Hp} {x : V} {d : PyData} {N D : Nat} (h : Fit N D d) (g : Dp K H x d) (hN : N ≤ 1048576) (hD : D ≤ 50) : Rp K H x d ∧ PyData.showable d = true ∧ PyData.depth d ≤ 50 ∧ d.shown.length ≤ sizeLine :=
  ⟨.dat g (PyData.hasDict_of_canLay d h.lay), h.sh, Nat.le_trans h.dp hD, PyData.shown_fits_bulk (by decide) (by decide) h.ls (Nat.le_trans h.bk (Nat.le_trans hN (by decide)))⟩
theorem Fit.shp {d : PyData} {N D : Nat} (h : Fit N D d) (hD : D ≤ 50) : SeqAt.shaped d = true := by
  show (d.canLay0 && decide (d.depth ≤ 64)) = true
  rw [h.lay, decide_eq_true (by have := h.dp; omega)]
  rfl
theorem Fit.eqv {d : PyData} {N D : Nat} (h : Fit N D d) : PyData.eqv d d = true := SeqAt.eqv_refl d h.lay
open PySem PySem.Spec PyProof.Rows
open L2 hiding pass0
abbrev s_law_amount : Stmt := top 33
theorem sc_law_amount : FnScope ["_law_span", "_law_some_here", "_law_part", "_law_far"] ["_law_span", "_law_some_here", "_law_part"] (defScope s_law_amount) := ⟨rfl, rfl, rfl, by decide +kernel, rfl, by decide +kernel, by decide +kernel⟩
theorem bp_law_amount : BndP "_law_amount" s_law_amount ["_law_span", "_law_some_here", "_law_part"] := fun _ _ _ _ _ _ us h => match us, h with | [_, _, _], _ => rfl
abbrev s_law_least : Stmt := top 34
theorem sc_law_least : FnScope ["_law_span", "_law_some_here", "_law_part", "_law_under", "_law_waiting", "_law_here", "_law_far"] ["_law_span", "_law_some_here", "_law_part"] (defScope s_law_least) := ⟨rfl, rfl, rfl, by decide +kernel, rfl, by decide +kernel, by decide +kernel⟩
theorem bp_law_least : BndP "_law_least" s_law_least ["_law_span", "_law_some_here", "_law_part"] := fun _ _ _ _ _ _ us h => match us, h with | [_, _, _], _ => rfl
theorem cr_sumK {X : Cx} {K : PySem.W.Frag} (hk : X.K = K) (hc : X.calm = true) : CallR X (.builtin "sum") (rSum K) := hk ▸ cr_sum hc
theorem pre_take {a b : List Nat} : b.take a.length = a ↔ a <+: b := by
  constructor
  · intro h
    rw [← h]
    exact List.take_prefix _ _
  · intro h
    exact (List.prefix_iff_eq_take.mp h).symm
/-- the next ones within are told by below -/
theorem blw_ch {ts : List (List Nat)} {s : List Nat} (h0 : [] ∈ ts) (hs : s ∈ ts) : blw ts s = M.ch ts s := by
  unfold blw inr14 M.ch
  rw [List.filter_filter]
  refine List.filter_congr fun t ht => ?_
  rw [Bool.eq_iff_iff]
  have hc := M.ch_iff (s := s) (t := t) h0
  have hm := M.mem_ch (ts := ts) (s := s) (t := t)
  have e : decide (t ≠ [] ∧ M.par ts t = s) = true ↔ t ∈ M.ch ts s := by
    rw [decide_eq_true_iff, hm]
    exact ⟨fun h => ⟨ht, h⟩, fun h => h.2⟩
  rw [e, hc]
  simp only [Bool.and_eq_true, Bool.not_eq_true', decide_eq_true_eq, List.any_eq_false, List.mem_filter, pre_take, not_and, ne_eq]
  constructor
  · rintro ⟨h1, h2, h3⟩
    refine ⟨ht, fun q => by rw [q] at h2; exact absurd h2 (Nat.not_lt_zero _), hs, h3, h2, fun q hq hqt hl => ?_⟩
    refine Decidable.byContradiction fun c => ?_
    have hsq : s <+: q := M.pre_both h3 hqt (by omega)
    exact h1 q ⟨hq, by omega, hsq⟩ (fun z => by rw [z] at hl; omega) hqt
  · rintro ⟨_, _, _, h3, h2, h4⟩
    refine ⟨fun r hr hn hrt => ?_, h2, h3⟩
    obtain ⟨r1, r2, r3⟩ := hr
    have hl : r.length < t.length := by
      have := hrt.length_le
      rcases Nat.lt_or_ge r.length t.length with h | h
      · exact h
      · exact absurd (List.IsPrefix.eq_of_length hrt (by omega)) hn
    have := h4 r r1 hrt hl
    omega
@[irreducible] def spAm : Sp := fun vs H Q _ => ∃ (n : Nat) (a : Addr) (ks : List (List Nat)) (s : List Nat), vs = [.int n, .ref a, sx s] ∧ H a = some (.lst (ks.map sx)) ∧ M.Known n ks ∧ s ∈ ks ∧ n ≤ 100 ∧ ks.length ≤ 1000 ∧ ∀ H', Same H H' → Q (.int ((M.many n ks s : Nat) : Int)) H'
theorem am_go {n : Nat} {a : Addr} {ks : List (List Nat)} {s : List Nat} {H : Hp} {Q : VK} {E : XK} (ha : H a = some (.lst (ks.map sx))) (kn : M.Known n ks) (hs : s ∈ ks) (h1 : n ≤ 100) (hl : ks.length ≤ 1000) (k : ∀ H', Same H H' → Q (.int ((M.many n ks s : Nat) : Int)) H') : spAm [.int n, .ref a, sx s] H Q E := by
  unfold spAm
  exact ⟨n, a, ks, s, rfl, ha, kn, hs, h1, hl, k⟩
theorem blw_go {n : Nat} {a : Addr} {ks : List (List Nat)} {s : List Nat} {H : Hp} {Q : VK} {E : XK} (ha : H a = some (.lst (ks.map sx))) (kn : M.Known n ks) (hs : s ∈ ks) (h1 : n ≤ 100) (hl : ks.length ≤ 1000) (k : ∀ L H', Same H H' → H L = none → H' L = some (.lst ((M.ch ks s).map sx)) → Q (.ref L) H') : spBlw [.ref a, sx s] H Q E := by
  unfold spBlw
  refine ⟨a, ks, s, rfl, ha, hl, by have := kn.fit s hs; omega, fun t ht => by have := kn.fit t ht; omega, fun L H' s1 n1 e1 => k L H' s1 n1 ?_⟩
  rw [← blw_ch kn.all hs]
  exact e1
theorem ch_len (ks : List (List Nat)) (s : List Nat) : (M.ch ks s).length ≤ ks.length := List.length_filter_le _ _
theorem sum_castI (f : List Nat → Nat) : ∀ l : List (List Nat), (l.map fun t => ((f t : Nat) : Int)).sum = (((l.map f).sum : Nat) : Int)
  | [] => rfl
  | a :: l => by
    rw [List.map_cons, List.map_cons, List.sum_cons, List.sum_cons, sum_castI f l]
    omega
section
variable {P : Program} {w : World} {K : PySem.W.Frag} {mg : Str → Option Value} {base : Heap} {f C : Addr} {fd' : FuncData}
theorem ok_amount (F : Fun K "_law_amount" "_law_amount" s_law_amount f fd') (hm : mg "_law_amount" = some (.ref f)) (T : Txt K mg) (c_law_below : Nm P w K mg base CX0 1 "_law_below" s_law_below ["_law_some_here", "_law_part"] (spBlw)) : Nm P w K mg base CX0 2 "_law_amount" s_law_amount ["_law_span", "_law_some_here", "_law_part"] (spAm) := by
  refine nm_of F hm sc_law_amount (fun vs H Q E h => ?_) fun cdv A outer s H vs Q E hr h => ?_
  · unfold spAm at h
    obtain ⟨n, a, ks, s, rfl, ha, kn, hs, h1, hl, k⟩ := h
    subst_vars
    rfl
  unfold spAm at h
  obtain ⟨n, a, ks, s, rfl, ha, kn, hs, h1, hl, k⟩ := h
  refine ⟨_, (pss_one (ps_ret (pe_op op_sub (pe_op op_oneShl pe_int (pe_op op_sub (pv 0) (pe_callB (call_lenK (K := K) rfl) (by rfl) T.b_len PySem.boot_len (pa_cons (pv 2) pa_nil)))) (pe_callB (cr_sumK (K := K) rfl rfl) (by rfl) T.b_sum (by decide +kernel) (pa_cons (pe_lc (own := [("_law_far", 3)]) (g := (gName 3)) (by rfl) sc_law_amount.nd (pi_listK (K := K) rfl (pe_g c_law_below hr (by decide) L2.pass0 bp_law_below (by rfl) (pa_cons (pv 1) (pa_cons (pv 2) pa_nil)))) (blkOk_by (own := [("_law_far", 3)]) (N := ["_law_span", "_law_some_here", "_law_part", "_law_far"]) (sc := defScope s_law_amount) (by decide +kernel)) (fun _ _ _ _ _ => (pg_name (i := 3) sc_law_amount.nd rfl (by first | exact Or.inl rfl | exact Or.inr rfl))) (fun _ _ _ _ _ => pts_nil) (fun _ _ _ _ _ => (pe_op op_oneShl pe_int (pe_op op_sub (pv 0) (pe_callB (call_lenK (K := K) rfl) (by rfl) T.b_len PySem.boot_len (pa_cons (pv 3) pa_nil)))))) pa_nil))))), ?_⟩
  have fs := kn.fit s hs
  refine ⟨_, rfl, ⟨_, rfl, ⟨_, _, rfl, ⟨szl (by rw [sx_len]; omega), rfl⟩, ⟨_, _, rfl, rfl, ?_⟩⟩⟩⟩
  refine ⟨n - s.length, rfl, congrArg V.int (by rw [sx_len]; omega), by omega, ?_⟩
  refine ⟨_, rfl, ⟨_, rfl, ?_⟩⟩
  refine blw_go ha kn hs h1 hl fun L H1 s1 n1 eL => ?_
  have lc := ch_len ks s
  have sub : ∀ t ∈ M.ch ks s, t.length ≤ n := fun t ht => kn.fit t (M.mem_ch.mp ht).1
  have cm := (M.cnt_many kn hs).2
  have hmany : M.many n ks s = M.size n s - ((M.ch ks s).map (M.size n)).sum := rfl
  rw [hmany] at k
  generalize M.ch ks s = cs at eL lc sub cm k
  refine ⟨L, rfl, ⟨_, SqL.of eL⟩, fun B nB => ?_⟩
  refine lc_it (walk_list (xs := cs.map sx)) (fun i H' => NL H1 B (((cs.take i).map fun t => ((M.size n t : Nat) : Int)).map V.int) H') (.nil nB) (fun i H' _ h => SqL.of (h.2 _ _ eL)) ?_ ?_
  · rintro i x H2 H3 hi hq ⟨rfl, hx⟩
    obtain ⟨t, ht, rfl⟩ := sx_at hx
    have ltt := sub t (List.mem_of_getElem? ht)
    have estep : ((cs.take (i + 1)).map fun t => ((M.size n t : Nat) : Int)).map V.int = ((cs.take i).map fun t => ((M.size n t : Nat) : Int)).map V.int ++ [V.int ((M.size n t : Nat) : Int)] := by
      rw [List.take_add_one, ht]
      simp
    refine ⟨rfl, ?_⟩
    dsimp only [tYes]
    rw [if_pos rfl]
    refine ⟨_, rfl, ⟨_, rfl, ⟨_, _, rfl, ⟨szl (by rw [sx_len]; omega), rfl⟩, ⟨_, _, rfl, rfl, ?_⟩⟩⟩⟩
    refine ⟨n - t.length, rfl, congrArg V.int (by rw [sx_len]; omega), by omega, ?_⟩
    rw [show (2 : Int) ^ (n - t.length) = ((M.size n t : Nat) : Int) from (Int.natCast_pow 2 _).symm, estep]
    exact hq.turn nB (Same.refl _) (by rw [List.length_map, List.length_map, List.length_take]; omega)
  rintro H2 hq
  rw [List.length_map, List.take_length] at hq
  refine ⟨B, _, rfl, SqL.of hq.1, ?_⟩
  refine ⟨_, _, rfl, rfl, ?_⟩
  rw [sum_castI, show (2 : Int) ^ (n - s.length) = ((M.size n s : Nat) : Int) from (Int.natCast_pow 2 _).symm]
  have := k H2 (s1.trans hq.2)
  rw [Int.natCast_sub cm] at this
  exact this
end
open PySem PySem.Spec PyProof.Rows
open L2 hiding pass0
/-- what waits -/
structure Lst (n : Nat) (ks : List (List Nat)) (s : List Nat) (st : List (List Nat)) : Prop where
  ok : ∀ h ∈ st, M.BL h ∧ h.length ≤ n ∧ s <+: h ∧ ∀ u ∈ M.ch ks s, u <+: h → u = h
  ord : st.Pairwise fun b a => M.hi n a ≤ M.lo n b
  cov : ∀ z, M.BL z → z.length = n → M.lg ks z = s → ∃ h ∈ st, h <+: z
  dep : ∀ (i : Nat) (h : List Nat), st[i]? = some h → i ≤ h.length
section
variable {n : Nat} {ks : List (List Nat)} {s h : List Nat} {st : List (List Nat)}
theorem ch_at (kn : M.Known n ks) {u : List Nat} (hu : u ∈ M.ch ks s) : u ∈ ks ∧ s <+: u ∧ s.length < u.length := by
  have := (M.ch_iff kn.all).mp hu
  exact ⟨this.1, this.2.2.2.1, this.2.2.2.2.1⟩
theorem Lst.start (kn : M.Known n ks) (hs : s ∈ ks) : Lst n ks s [s] := by
  refine ⟨fun h hh => ?_, .cons (fun _ h => by cases h) .nil, fun z hz lz hl => ?_, fun i h hi => ?_⟩
  · rw [List.mem_singleton] at hh
    subst hh
    refine ⟨kn.bits _ hs, kn.fit _ hs, List.prefix_refl _, fun u hu hp => ?_⟩
    have := (ch_at kn hu).2.2
    have := hp.length_le
    omega
  · exact ⟨s, List.mem_singleton.mpr rfl, ((M.cell_iff kn.all hs).mp hl).1⟩
  · match i, hi with
    | 0, _ => exact Nat.zero_le _
theorem Lst.tail (w : Lst n ks s (st ++ [h])) : (∀ h ∈ st, M.BL h ∧ h.length ≤ n ∧ s <+: h ∧ ∀ u ∈ M.ch ks s, u <+: h → u = h) ∧ (st.Pairwise fun b a => M.hi n a ≤ M.lo n b) ∧ (∀ (i : Nat) (h : List Nat), st[i]? = some h → i ≤ h.length) ∧ (∀ b ∈ st, M.hi n h ≤ M.lo n b) ∧ st.length ≤ h.length := by
  have hp := List.pairwise_append.mp w.ord
  refine ⟨fun x hx => w.ok x (List.mem_append_left _ hx), hp.1, fun i x hx => w.dep i x ?_, fun b hb => hp.2.2 b hb h (List.mem_singleton.mpr rfl), w.dep st.length h (by simp)⟩
  rw [List.getElem?_append_left]
  · exact hx
  · exact (List.getElem?_eq_some_iff.mp hx).1
theorem Lst.top (w : Lst n ks s (st ++ [h])) : M.BL h ∧ h.length ≤ n ∧ s <+: h ∧ ∀ u ∈ M.ch ks s, u <+: h → u = h := w.ok h (List.mem_append_right _ (List.mem_singleton.mpr rfl))
theorem Lst.skip (kn : M.Known n ks) (hs : s ∈ ks) (w : Lst n ks s (st ++ [h])) (hc : h ∈ M.ch ks s) : Lst n ks s st := by
  obtain ⟨t1, t2, t3, t4, t5⟩ := w.tail
  refine ⟨t1, t2, fun z hz lz hl => ?_, t3⟩
  obtain ⟨x, hx, hp⟩ := w.cov z hz lz hl
  rcases List.mem_append.mp hx with hx | hx
  · exact ⟨x, hx, hp⟩
  · rw [List.mem_singleton] at hx
    subst hx
    exact absurd hp (((M.cell_iff kn.all hs).mp hl).2 x hc)
theorem size_two {l : Nat} (hl : l < n) : 2 ^ (n - l) = 2 ^ (n - (l + 1)) + 2 ^ (n - (l + 1)) := by
  rw [show n - l = (n - (l + 1)) + 1 by omega, Nat.pow_succ]
  omega
theorem lo_kid (hl : h.length < n) (c : Nat) (hc : c = 48 ∨ c = 49) : M.lo n (h ++ [c]) = M.lo n h + (c - 48) * 2 ^ (n - (h.length + 1)) ∧ M.hi n (h ++ [c]) = M.lo n (h ++ [c]) + 2 ^ (n - (h.length + 1)) := by
  have hs : M.size n (h ++ [c]) = 2 ^ (n - (h.length + 1)) := by
    unfold M.size
    rw [List.length_append]
    rfl
  refine ⟨?_, by unfold M.hi; rw [hs]⟩
  unfold M.lo
  rw [hs, M.bn_app]
  have hb : M.bn [c] = c - 48 := by rcases hc with rfl | rfl <;> rfl
  rw [hb]
  show (M.bn h * 2 ^ 1 + (c - 48)) * 2 ^ (n - (h.length + 1)) = M.bn h * 2 ^ (n - h.length) + _
  rw [size_two hl, Nat.add_mul]
  congr 1
  rw [Nat.pow_one, Nat.mul_assoc, Nat.two_mul]
theorem Lst.push (kn : M.Known n ks) (hs : s ∈ ks) (w : Lst n ks s (st ++ [h])) (hc : h ∉ M.ch ks s) (hu : ∃ u ∈ M.ch ks s, h <+: u) : h.length < n ∧ Lst n ks s (st ++ [h ++ [49], h ++ [48]]) := by
  obtain ⟨t1, t2, t3, t4, t5⟩ := w.tail
  obtain ⟨b0, b1, b2, b3⟩ := w.top
  obtain ⟨u, hu, hp⟩ := hu
  have lu := kn.fit u (ch_at kn hu).1
  have ln : h.length < n := by
    have l1 := hp.length_le
    rcases Nat.lt_or_ge h.length u.length with g | g
    · omega
    · exact absurd (by rw [List.IsPrefix.eq_of_length hp (by omega)]; exact hu) hc
  have kid : ∀ c, c = 48 ∨ c = 49 → M.BL (h ++ [c]) ∧ (h ++ [c]).length ≤ n ∧ s <+: h ++ [c] ∧ ∀ u ∈ M.ch ks s, u <+: h ++ [c] → u = h ++ [c] := fun c hcc => by
    refine ⟨M.BL.app b0 fun d hd => by rw [List.mem_singleton] at hd; subst hd; exact hcc, by rw [List.length_append]; exact ln, b2.trans (List.prefix_append _ _), fun u hu hp => ?_⟩
    rcases List.prefix_concat_iff.mp hp with q | q
    · exact q
    · exact absurd (by rw [← b3 u hu q]; exact hu) hc
  obtain ⟨k1, k2⟩ := lo_kid ln 49 (.inr rfl)
  obtain ⟨k3, k4⟩ := lo_kid ln 48 (.inl rfl)
  have hh : M.hi n h = M.lo n h + 2 ^ (n - (h.length + 1)) + 2 ^ (n - (h.length + 1)) := by
    unfold M.hi M.size
    rw [size_two ln, Nat.add_assoc]
  rw [show 49 - 48 = 1 from rfl, Nat.one_mul] at k1
  rw [show 48 - 48 = 0 from rfl, Nat.zero_mul, Nat.add_zero] at k3
  refine ⟨ln, fun x hx => ?_, ?_, fun z hz lz hl => ?_, fun i x hx => ?_⟩
  · rcases List.mem_append.mp hx with hx | hx
    · exact t1 x hx
    · simp only [List.mem_cons, List.not_mem_nil, or_false] at hx
      rcases hx with rfl | rfl
      · exact kid 49 (.inr rfl)
      · exact kid 48 (.inl rfl)
  · rw [List.pairwise_append]
    refine ⟨t2, ?_, fun b hb a ha => ?_⟩
    · refine .cons (fun a ha => ?_) (.cons (fun _ h => by cases h) .nil)
      rw [List.mem_singleton] at ha
      subst ha
      rw [k4, k3, k1]
      exact Nat.le_refl _
    · have := t4 b hb
      simp only [List.mem_cons, List.not_mem_nil, or_false] at ha
      rcases ha with rfl | rfl
      · rw [k2, k1]; omega
      · have := Nat.two_pow_pos (n - (h.length + 1))
        rw [k4, k3]; omega
  · obtain ⟨x, hx, hpz⟩ := w.cov z hz lz hl
    rcases List.mem_append.mp hx with hx | hx
    · exact ⟨x, List.mem_append_left _ hx, hpz⟩
    · rw [List.mem_singleton] at hx
      subst hx
      obtain ⟨r, er⟩ := hpz
      cases r with
      | nil => rw [← er, List.append_nil] at lz; omega
      | cons c r =>
        have hcc := hz c (by rw [← er]; exact List.mem_append_right _ (List.mem_cons_self ..))
        rw [← er]
        have e : x ++ c :: r = (x ++ [c]) ++ r := by rw [List.append_assoc]; rfl
        rw [e]
        rcases hcc with rfl | rfl
        · exact ⟨x ++ [48], List.mem_append_right _ (by simp), List.prefix_append _ _⟩
        · exact ⟨x ++ [49], List.mem_append_right _ (by simp), List.prefix_append _ _⟩
  · rcases Nat.lt_or_ge i st.length with g | g
    · rw [List.getElem?_append_left g] at hx
      exact t3 i x hx
    · rw [List.getElem?_append_right g] at hx
      match j : i - st.length, hx with
      | 0, hx => cases hx; rw [List.length_append]; show i ≤ h.length + 1; omega
      | 1, hx => cases hx; rw [List.length_append]; show i ≤ h.length + 1; omega
theorem Lst.found (hn : 1 ≤ n) (kn : M.Known n ks) (hs : s ∈ ks) (w : Lst n ks s (st ++ [h])) (hu : ∀ u ∈ M.ch ks s, ¬ h <+: u) : M.cellA n ks s = some (h ++ List.replicate (n - h.length) 48) := by
  obtain ⟨t1, t2, t3, t4, t5⟩ := w.tail
  obtain ⟨b0, b1, b2, b3⟩ := w.top
  have zb : M.BL (h ++ List.replicate (n - h.length) 48) := M.BL.app b0 (M.BL.rep _)
  have zl : (h ++ List.replicate (n - h.length) 48).length = n := by rw [List.length_append, List.length_replicate]; omega
  have zc : M.lg ks (h ++ List.replicate (n - h.length) 48) = s := by
    refine (M.cell_iff kn.all hs).mpr ⟨b2.trans (List.prefix_append _ _), fun c hc hp => ?_⟩
    rcases Nat.le_total c.length h.length with g | g
    · have hch := M.pre_both hp (List.prefix_append _ _) g
      have := b3 c hc hch
      exact hu c hc (by rw [this]; exact List.prefix_refl _)
    · exact hu c hc (M.pre_both (List.prefix_append _ _) hp g)
  rw [← M.find_is hn kn hs]
  refine M.find_least (M.addr_of zb zl) (decide_eq_true zc) fun b hb hl => ?_
  obtain ⟨bb, bl⟩ := M.addr_ok hb
  obtain ⟨x, hx, hp⟩ := w.cov b bb bl (of_decide_eq_true hl)
  have hxo := w.ok x hx
  have lx := ((M.pre_iff hxo.1 bb hxo.2.1 bl).mp hp).1
  rw [M.lo_first]
  rcases List.mem_append.mp hx with hx | hx
  · have h1 := t4 x hx
    have h2 := M.size_pos n h
    have h3 : M.hi n h = M.lo n h + M.size n h := rfl
    omega
  · rw [List.mem_singleton] at hx
    subst hx
    exact lx
theorem Lst.empty (hn : 1 ≤ n) (kn : M.Known n ks) (hs : s ∈ ks) (w : Lst n ks s []) : M.cellA n ks s = none := by
  rw [← M.find_is hn kn hs, List.find?_eq_none]
  intro z hz hl
  obtain ⟨zb, zl⟩ := M.addr_ok hz
  obtain ⟨x, hx, _⟩ := w.cov z zb zl (of_decide_eq_true hl)
  cases hx
def lmu (n : Nat) (st : List (List Nat)) : Nat := (st.map fun h => 2 ^ (n + 1 - h.length) - 1).sum
theorem lmu_snoc : lmu n (st ++ [h]) = lmu n st + (2 ^ (n + 1 - h.length) - 1) := by
  unfold lmu
  rw [List.map_append, List.sum_append]
  simp
theorem lmu_skip (hl : h.length ≤ n) : lmu n st < lmu n (st ++ [h]) := by
  rw [lmu_snoc, show n + 1 - h.length = (n - h.length) + 1 by omega, Nat.pow_succ]
  have := Nat.two_pow_pos (n - h.length)
  omega
theorem lmu_push (hl : h.length < n) : lmu n (st ++ [h ++ [49], h ++ [48]]) < lmu n (st ++ [h]) := by
  rw [show st ++ [h ++ [49], h ++ [48]] = (st ++ [h ++ [49]]) ++ [h ++ [48]] by simp, lmu_snoc, lmu_snoc, lmu_snoc, List.length_append, List.length_append]
  show lmu n st + (2 ^ (n + 1 - (h.length + 1)) - 1) + (2 ^ (n + 1 - (h.length + 1)) - 1) < _
  rw [show n + 1 - h.length = (n + 1 - (h.length + 1)) + 1 by omega, Nat.pow_succ]
  have := Nat.two_pow_pos (n + 1 - (h.length + 1))
  omega
end
open PySem PySem.Spec PyProof.Rows
open L2 hiding pass0
theorem dps {K : PySem.W.Frag} {H : Hp} : ∀ zs : List Str, DpAll K H (zs.map V.str) (zs.map PyData.str)
  | [] => .nil
  | z :: zs => .cons (.str z) (dps zs)
theorem strs_fit {N : Nat} {zs : List Str} (h : ∀ z ∈ zs, Low z ∧ z.length ≤ N) : Fit ((N + 1) * zs.length) 1 (.list (zs.map PyData.str)) := by
  have := Fit.list (N := N) (D := 0) (ds := zs.map PyData.str) fun d hd => by
    obtain ⟨z, hz, rfl⟩ := List.mem_map.mp hd
    exact .str (h z hz).1 (h z hz).2
  rw [List.length_map] at this
  exact this
theorem eqv_nil (ps : List Str) : PyData.eqv (.list (ps.map PyData.str)) (.list []) = decide (ps = []) := by
  cases ps with
  | nil => rfl
  | cons a r => rfl
theorem map_sx (ts : List (List Nat)) : ts.map sx = (ts.map SX.S).map V.str := by
  rw [List.map_map]
  rfl
@[irreducible] def spLst : Sp := fun vs H Q _ => ∃ (n : Nat) (a : Addr) (ks : List (List Nat)) (s : List Nat), vs = [.int n, .ref a, sx s] ∧ H a = some (.lst (ks.map sx)) ∧ M.Known n ks ∧ s ∈ ks ∧ 1 ≤ n ∧ n ≤ 100 ∧ ks.length ≤ 1000 ∧ ∀ H', Same H H' → Q (oA (M.cellA n ks s)) H'
theorem lst_go {n : Nat} {a : Addr} {ks : List (List Nat)} {s : List Nat} {H : Hp} {Q : VK} {E : XK} (ha : H a = some (.lst (ks.map sx))) (kn : M.Known n ks) (hs : s ∈ ks) (h0 : 1 ≤ n) (h1 : n ≤ 100) (hl : ks.length ≤ 1000) (k : ∀ H', Same H H' → Q (oA (M.cellA n ks s)) H') : spLst [.int n, .ref a, sx s] H Q E := by
  unfold spLst
  exact ⟨n, a, ks, s, rfl, ha, kn, hs, h0, h1, hl, k⟩
theorem _root_.L2.Same.new {H H' : Hp} {a : Addr} {o : HO} (s : Same H H') (n : H' a = none) : Same H (upd H' a o) := fun b u e => updn (nonn n (s _ _ e)) (s _ _ e)
theorem one_S : ("1" : Str) = SX.S [49] := by decide +kernel
theorem zero_S : ("0" : Str) = SX.S [48] := by decide +kernel
theorem rep_S (k : Nat) : (⟨(List.replicate k ("0" : Str).cps.toList).flatten.toArray⟩ : Str) = SX.S (List.replicate k 48) := by
  have e : ("0" : Str).cps.toList = [48] := by decide +kernel
  rw [e, List.flatten_replicate_singleton]
theorem inV_sx (h : List Nat) (ks : List (List Nat)) : inV (sx h) (ks.map sx) = decide (h ∈ ks) := by
  unfold inV
  rw [List.any_map]
  induction ks with
  | nil => rfl
  | cons a r ih =>
    rw [List.any_cons, ih]
    have e : ((fun z => eqV z (sx h)) ∘ sx) a = decide (SX.S a = SX.S h) := rfl
    have e2 : decide (SX.S a = SX.S h) = decide (a = h) := decide_eq_decide.mpr ⟨fun q => S_inj q, fun q => by rw [q]⟩
    rw [e, e2]
    by_cases q : h = a
    · simp [q]
    · have : ¬ a = h := fun z => q z.symm
      simp [q, this]
theorem flat_sx (ks : List (List Nat)) : (ks.map sx).all flatV = true := by
  rw [List.all_eq_true]
  intro x hx
  obtain ⟨t, _, rfl⟩ := List.mem_map.mp hx
  rfl
section
variable {P : Program} {w : World} {K : PySem.W.Frag} {mg : Str → Option Value} {base : Heap} {f C : Addr} {fd' : FuncData}
theorem ok_least (F : Fun K "_law_least" "_law_least" s_law_least f fd') (hm : mg "_law_least" = some (.ref f)) (T : Txt K mg) (c_law_below : Nm P w K mg base CX0 1 "_law_below" s_law_below ["_law_some_here", "_law_part"] (spBlw)) : Nm P w K mg base CX0 2 "_law_least" s_law_least ["_law_span", "_law_some_here", "_law_part"] (spLst) := by
  refine nm_of0 F hm sc_law_least (fun vs H Q E h => ?_) fun cdv A outer s H vs Q E hr h => ?_
  · unfold spLst at h
    obtain ⟨n, a, ks, s, rfl, ha, kn, hs, h0, h1, hl, k⟩ := h
    subst_vars
    rfl
  unfold spLst at h
  obtain ⟨n, a, ks, s, rfl, ha, kn, hs, h0, h1, hl, k⟩ := h
  refine ⟨_, (C8.pss_cut (ps_par (i := 3) (j := 4) (by rfl) sc_law_least.nd rfl rfl (by decide) rfl rfl (pa_cons (pe_g c_law_below hr (by decide) L2.pass0 bp_law_below (by rfl) (pa_cons (pv 1) (pa_cons (pv 2) pa_nil))) (pa_cons (pe_lst (pa_cons (pv 2) pa_nil)) pa_nil)) (by rfl))
      (pss_cons (ps_while PassesOwn.never (pt_cmpR (op_neDK (K := K) rfl hr.u64) (pv 4) (pe_lst pa_nil) (nomark _)) (pss_cons (ps_set (i := 5) sc_law_least.nd rfl (by first | exact Or.inl rfl | exact Or.inr rfl) (pe_bm0 PySem.F.plainAttrs_list PySem.F.slot_list_pop PySem.F.type_list_pop mt_pop (pv 4)))
      (pss_cons (ps_if (pt_not (pt_val (pe_callB (cr_anyK (K := K) rfl rfl) (by rfl) T.b_any (by decide +kernel) (pa_cons (pe_lc (own := [("_law_far", 6)]) (g := (gName 6)) (by rfl) sc_law_least.nd (pi_listK (K := K) rfl (pv 3)) (blkOk_by (own := [("_law_far", 6)]) (N := ["_law_span", "_law_some_here", "_law_part", "_law_under", "_law_waiting", "_law_here", "_law_far"]) (sc := defScope s_law_least) (by decide +kernel)) (fun _ _ _ _ _ => (pg_name (i := 6) sc_law_least.nd rfl (by first | exact Or.inl rfl | exact Or.inr rfl))) (fun _ _ _ _ _ => pts_nil) (fun _ _ _ _ _ => (pe_cmpR op_eq (pe_slice sl_str (pv 6) po_none (po_some (pe_callB (call_lenK (K := K) rfl) (by rfl) T.b_len PySem.boot_len (pa_cons (pv 5) pa_nil)))) (pv 5) (nomark _)))) pa_nil)))) (pss_one (ps_ret (pe_op op_add_str (pv 5) (pe_op op_mul_str pe_str (pe_op op_sub (pv 0) (pe_callB (call_lenK (K := K) rfl) (by rfl) T.b_len PySem.boot_len (pa_cons (pv 5) pa_nil))))))) pss_nil)
      (pss_one (ps_if (pt_cmpR (op_notInK (K := K) rfl) (pv 5) (pv 3) rfl) (pss_one (ps_expr (pe_bm PySem.F.plainAttrs_list PySem.F.slot_list_extend PySem.F.type_list_extend mt_extend (pv 4) (pa_cons (pe_lst (pa_cons (pe_op op_add_str (pv 5) pe_str) (pa_cons (pe_op op_add_str (pv 5) pe_str) pa_nil))) pa_nil)))) pss_nil)))))
      (pss_one (ps_ret pe_non)))), ?_⟩
  refine ⟨fun σ' H' => ∃ U W, σ' = [some (.int n), some (.ref a), some (sx s), some (.ref U), some (.ref W), none, none] ∧ Same H H' ∧ H' U = some (.lst ((M.ch ks s).map sx)) ∧ H U = none ∧ H W = none ∧ W ≠ U ∧ H' W = some (.lst ([s].map sx)), ?_, ?_⟩
  · refine ⟨_, rfl, ⟨_, rfl, ?_⟩⟩
    refine blw_go ha kn hs h1 hl fun L H1 s1 n1 eL => ?_
    refine ⟨_, rfl, ⟨szl (by show 1 ≤ 1000000; decide), fun W nW => ?_⟩⟩
    refine ⟨_, _, rfl, L, W, rfl, s1.new nW, updn (nonn nW eL) eL, n1, s1.back nW, Ne.symm (nonn nW eL), upd_same⟩
  rintro σ' H1 ⟨U, W, rfl, s1, eU, nU, nW, hWU, eW⟩
  have lc := ch_len ks s
  have sub : ∀ t ∈ M.ch ks s, t.length ≤ n := fun t ht => kn.fit t (M.mem_ch.mp ht).1
  refine ⟨fun mm σ' H' => ∃ x5 st, σ' = [some (.int n), some (.ref a), some (sx s), some (.ref U), some (.ref W), x5, none] ∧ Same H H' ∧ H' U = some (.lst ((M.ch ks s).map sx)) ∧ H' W = some (.lst (st.map sx)) ∧ Lst n ks s st ∧ mm = lmu n st, ⟨_, none, [s], rfl, s1, eU, eW, Lst.start kn hs, rfl⟩, ?_⟩
  rintro mm σ' H2 ⟨x5, st, rfl, s2, eU2, eW2, inv, rfl⟩
  have lst : st.length ≤ n + 1 := by
    rcases Nat.eq_zero_or_pos st.length with g | g
    · omega
    · have := inv.dep (st.length - 1) (st[st.length - 1]'(by omega)) (List.getElem?_eq_getElem _)
      have := (inv.ok _ (List.getElem_mem (l := st) (n := st.length - 1) (by omega))).2.1
      omega
  have fit := strs_fit (N := 100) (zs := st.map SX.S) fun x hx => by
    obtain ⟨t, ht, rfl⟩ := List.mem_map.mp hx
    have := inv.ok t ht
    exact ⟨(sx_bits this.1).low, by rw [sx_len]; omega⟩
  refine ⟨_, rfl, ⟨szl (Nat.zero_le _), fun L3 n3 => ?_⟩⟩
  have s3 := s2.new (o := HO.lst []) n3
  have eU3 := updn (o := HO.lst []) (nonn n3 eU2) eU2
  have eW3 := updn (o := HO.lst []) (nonn n3 eW2) eW2
  have e3 : upd H2 L3 (.lst []) L3 = some (.lst []) := upd_same
  generalize upd H2 L3 (.lst []) = H3 at s3 eU3 eW3 e3 ⊢
  refine ⟨_, _, .lst (SqL.of (by rw [← map_sx]; exact eW3)) (dps (st.map SX.S)), .lst (SqL.of e3) .nil, fit.shp (by decide), rfl, ?_⟩
  rw [eqv_nil]
  refine ⟨_, rfl, ?_⟩
  rcases List.eq_nil_or_concat st with rfl | ⟨st, h, rfl⟩
  · refine iteF ?_
    have := k H3 s3
    rw [Lst.empty h0 kn hs inv] at this
    exact this
  rw [List.concat_eq_append] at *
  obtain ⟨b0, b1, b2, b3⟩ := inv.top
  have hst : st.length ≤ n := by rw [List.length_append] at lst; exact Nat.le_of_succ_le_succ lst
  rw [show (!decide ((st ++ [h]).map SX.S = [])) = true by rw [decide_eq_false (by simp)]; rfl]
  refine iteT ?_
  refine ⟨fun σ' H' => ∃ x5 st', σ' = [some (.int n), some (.ref a), some (sx s), some (.ref U), some (.ref W), x5, none] ∧ Same H H' ∧ H' U = some (.lst ((M.ch ks s).map sx)) ∧ H' W = some (.lst (st'.map sx)) ∧ Lst n ks s st' ∧ lmu n st' < lmu n (st ++ [h]), fun σ' H' ⟨x5, st', e, a, b, c, d, l⟩ => ⟨_, l, x5, st', e, a, b, c, d, rfl⟩, ?_⟩
  refine ⟨_, rfl, ⟨.inl ⟨rfl, _, SqL.of eW3⟩, ⟨W, _, sx h, rfl, rfl, eW3, by simp, ?_⟩⟩⟩
  rw [show ((st ++ [h]).map sx).dropLast = st.map sx by rw [List.map_append]; exact List.dropLast_concat]
  have s4 : Same H (upd H3 W (.lst (st.map sx))) := fun b o e => updn (nonn nW e) (s3 _ _ e)
  have eU4 : upd H3 W (.lst (st.map sx)) U = some (.lst ((M.ch ks s).map sx)) := updn (Ne.symm hWU) eU3
  have eW4 : upd H3 W (.lst (st.map sx)) W = some (.lst (st.map sx)) := upd_same
  generalize upd H3 W (.lst (st.map sx)) = H4 at s4 eU4 eW4 ⊢
  clear s3 eU3 eW3 e3 s2 eU2 eW2
  refine ⟨_, rfl, ⟨U, rfl, ⟨_, SqL.of eU4⟩, fun B nB => ?_⟩⟩
  refine lc_it (walk_list (xs := (M.ch ks s).map sx)) (fun i H' => NL H4 B ((((M.ch ks s).take i).map fun u => decide (u.take h.length = h)).map V.bl) H') (.nil nB) (fun i H' _ h => SqL.of (h.2 _ _ eU4)) ?_ ?_
  · rintro i x H5 H6 hi hq ⟨rfl, hx⟩
    obtain ⟨t, ht, rfl⟩ := sx_at hx
    have ltt := sub t (List.mem_of_getElem? ht)
    have estep : ((((M.ch ks s).take (i + 1)).map fun u => decide (u.take h.length = h)).map V.bl) = ((((M.ch ks s).take i).map fun u => decide (u.take h.length = h)).map V.bl) ++ [V.bl (decide (t.take h.length = h))] := by
      rw [List.take_add_one, ht]
      simp
    refine ⟨rfl, ?_⟩
    dsimp only [tYes]
    rw [if_pos rfl]
    refine ⟨_, rfl, ⟨_, rfl, ⟨_, _, rfl, ⟨szl (by rw [sx_len]; omega), rfl⟩, ?_⟩⟩⟩
    refine ⟨_, rfl, ?_⟩
    refine ⟨_, rfl, szl (by rw [sx_len]; omega), ?_⟩
    rw [cut_S t (k := h.length) (by rw [sx_len])]
    refine ⟨_, rfl, ⟨rfl, ?_⟩⟩
    rw [show decide (V.str (SX.S (t.take h.length)) = sx h) = decide (t.take h.length = h) from dec_sx _ _, estep]
    exact hq.turn nB (Same.refl _) (by rw [List.length_map, List.length_map, List.length_take]; omega)
  rintro H5 hq
  rw [List.length_map, List.take_length] at hq
  have s5 := s4.trans hq.2
  have eU5 := hq.2 _ _ eU4
  have eW5 := hq.2 _ _ eW4
  refine ⟨B, _, rfl, SqL.of hq.1, ?_⟩
  have eany : (((M.ch ks s).map fun u => decide (u.take h.length = h)).any id) = decide (∃ u ∈ M.ch ks s, h <+: u) := by
    rw [Bool.eq_iff_iff, List.any_eq_true, decide_eq_true_iff]
    constructor
    · rintro ⟨b, hb, hb2⟩
      obtain ⟨u, hu, rfl⟩ := List.mem_map.mp hb
      exact ⟨u, hu, pre_take.mp (of_decide_eq_true hb2)⟩
    · rintro ⟨u, hu, hp⟩
      exact ⟨_, List.mem_map_of_mem hu, decide_eq_true (pre_take.mpr hp)⟩
  rw [eany]
  refine ⟨_, rfl, ?_⟩
  by_cases c : ∃ u ∈ M.ch ks s, h <+: u
  · rw [decide_eq_true c]
    refine iteF ?_
    refine ⟨_, rfl, ⟨_, rfl, ⟨U, _, rfl, .inl (SqL.of eU5), rfl, flat_sx _, ?_⟩⟩⟩
    · rw [inV_sx]
      refine ⟨_, rfl, ?_⟩
      by_cases c2 : h ∈ M.ch ks s
      · rw [decide_eq_true c2]
        refine iteF ?_
        exact ⟨_, st, rfl, s5, eU5, eW5, inv.skip kn hs c2, lmu_skip b1⟩
      · rw [decide_eq_false c2]
        refine iteT ?_
        obtain ⟨ln, inv2⟩ := inv.push kn hs c2 c
        have l1 : ("1" : Str).length = 1 := by decide +kernel
        have l2 : ("0" : Str).length = 1 := by decide +kernel
        refine ⟨_, rfl, ⟨.inl ⟨rfl, _, SqL.of eW5⟩, ?_⟩⟩
        refine ⟨_, rfl, ⟨_, _, rfl, rfl, szl (by rw [sx_len, l1]; omega), ?_⟩⟩
        refine ⟨_, rfl, ⟨_, _, rfl, rfl, szl (by rw [sx_len, l2]; omega), ?_⟩⟩
        refine ⟨szl (by show 2 ≤ 1000000; decide), fun B3 nB3 => ?_⟩
        rw [one_S, zero_S, S_app, S_app]
        refine ⟨W, B3, _, _, rfl, rfl, updn (nonn nB3 eW5) eW5, upd_same, szl (by rw [List.length_map]; show _ + 2 ≤ _; omega), ?_⟩
        have eU6 := updn (o := HO.lst [V.str (SX.S (h ++ [49])), V.str (SX.S (h ++ [48]))]) (nonn nB3 eU5) eU5
        refine ⟨_, st ++ [h ++ [49], h ++ [48]], rfl, fun b o e => updn (nonn nW e) (updn (nonn nB3 (s5 _ _ e)) (s5 _ _ e)), updn (Ne.symm hWU) eU6, ?_, inv2, lmu_push ln⟩
        rw [upd_same, List.map_append]
        rfl
  · rw [decide_eq_false c]
    refine iteT ?_
    refine ⟨_, rfl, ?_⟩
    refine ⟨_, rfl, ⟨_, rfl, ⟨_, _, rfl, ⟨szl (by rw [sx_len]; omega), rfl⟩, ⟨_, _, rfl, rfl, ?_⟩⟩⟩⟩
    refine ⟨_, _, rfl, rfl, by decide, by rw [sx_len]; omega, by rw [sx_len]; omega, ?_⟩
    rw [show ((n : Int) - ((SX.S h).length : Int)).toNat = n - h.length by rw [sx_len]; omega, rep_S]
    refine ⟨_, _, rfl, rfl, szl (by rw [sx_len, sx_len, List.length_replicate]; omega), ?_⟩
    rw [S_app]
    have := k H5 s5
    rw [inv.found h0 kn hs fun u hu hp => c ⟨u, hu, hp⟩] at this
    exact this
end
open PySem PySem.Spec PyProof.Rows
open L2 hiding pass0
abbrev s_law_some : Stmt := top 31
theorem sc_law_some : FnScope ["_law_pot_here", "_law_span", "_law_found", "_law_turn", "_law_part", "_law_way"] ["_law_pot_here", "_law_span"] (defScope s_law_some) := ⟨rfl, rfl, rfl, by decide +kernel, rfl, by decide +kernel, by decide +kernel⟩
theorem bp_law_some : BndP "_law_some" s_law_some ["_law_pot_here", "_law_span"] := fun _ _ _ _ _ _ us h => match us, h with | [_, _], _ => rfl
theorem cut_take (xs : List V) (i : Nat) : cutV xs none (some (i : Int)) = xs.take i := by
  unfold cutV
  rw [HT.sIx_none, HT.sIx_nat, List.drop_zero, Nat.sub_zero]
  by_cases h : i ≤ xs.length
  · rw [Nat.min_eq_left h]
  · rw [Nat.min_eq_right (by omega), List.take_of_length_le (Nat.le_refl _), List.take_of_length_le (by omega)]
theorem sx_tl (z : Str) : sx z.cps.toList = V.str z := by unfold sx; rw [SX.S_tl]
theorem bits_BL {z : Str} (h : Bits z) : M.BL z.cps.toList := h
theorem len_tl (z : Str) : z.cps.toList.length = z.length := Array.length_toList
@[irreducible] def spSome : Sp := fun vs H Q _ => ∃ (p : Addr) (n : Nat), vs = [.ref p, .int n] ∧ PotAt H p ∧ 1 ≤ n ∧ n ≤ 100 ∧ ∀ (L : Addr) (ts : List (List Nat)) H', H L = none → Go p H H' → H' L = some (.lst (ts.map sx)) → Fits n ts → 1 ≤ ts.length → ts.length ≤ 14 → Q (.ref L) H'
theorem some_go {p : Addr} {n : Nat} {H : Hp} {Q : VK} {E : XK} (hp : PotAt H p) (h0 : 1 ≤ n) (h1 : n ≤ 100) (k : ∀ (L : Addr) (ts : List (List Nat)) H', H L = none → Go p H H' → H' L = some (.lst (ts.map sx)) → Fits n ts → 1 ≤ ts.length → ts.length ≤ 14 → Q (.ref L) H') : spSome [.ref p, .int n] H Q E := by
  unfold spSome
  exact ⟨p, n, rfl, hp, h0, h1, k⟩
theorem Fits.snoc {n : Nat} {ts us : List (List Nat)} (h : Fits n ts) (h2 : Fits n us) : Fits n (ts ++ us) := fun t ht => (List.mem_append.mp ht).elim (h t) (h2 t)
theorem Go.of {p : Addr} {H H' : Hp} (h : PotAt H p) (s : Same H H') : Go p H H' := by
  obtain ⟨a, b, e, r⟩ := h
  exact ⟨⟨a, b, s _ _ e, r⟩, fun c o e _ => s c o e⟩
theorem zz_S : ("00" : Str) = SX.S [48, 48] := by decide +kernel
theorem zzo_S : ("001" : Str) = SX.S [48, 48, 49] := by decide +kernel
theorem app_ok {n : Nat} {t u : List Nat} (tb : M.BL t) (hu : (u.all fun c => c == 48 || c == 49) = true) (l : t.length + u.length ≤ n) : M.BL (t ++ u) ∧ (t ++ u).length ≤ n := by
  refine ⟨M.BL.app tb fun c hc => ?_, by rw [List.length_append]; exact l⟩
  have := (List.all_eq_true.mp hu) c hc
  simpa using this
theorem tl1_ok {n : Nat} {t : List Nat} (tb : M.BL t) (l : t.length ≤ n) (h : t ≠ []) : M.BL (tl1 t) ∧ (tl1 t).length ≤ n := by
  obtain ⟨b, y, rfl⟩ : ∃ b y, t = b ++ [y] := ⟨t.dropLast, t.getLast h, (List.dropLast_concat_getLast h).symm⟩
  have hy := tb y (List.mem_append_right _ (List.mem_singleton.mpr rfl))
  unfold tl1
  rw [List.dropLast_concat, List.getLastD_concat]
  rw [List.length_append] at l
  refine ⟨M.BL.app (M.BL.l tb) fun c hc => ?_, by rw [List.length_append]; exact l⟩
  rw [List.mem_singleton] at hc
  subst hc
  rcases hy with rfl | rfl
  · exact .inr rfl
  · exact .inl rfl
section
variable {P : Program} {w : World} {K : PySem.W.Frag} {mg : Str → Option Value} {base : Heap} {f C : Addr} {fd' : FuncData}
theorem ok_some (F : Fun K "_law_some" "_law_some" s_law_some f fd') (hm : mg "_law_some" = some (.ref f)) (T : Txt K mg) (c_law_draw : Nm P w K mg base CX0 1 "_law_draw" s_law_draw ["_law_pot_here", "_law_many"] (spDraw)) (c_law_among : Nm P w K mg base CX0 2 "_law_among" s_law_among ["_law_pot_here", "_law_some_here"] (spAmong K)) (c_law_bits : Nm P w K mg base CX0 3 "_law_bits" s_law_bits ["_law_pot_here", "_law_least_here", "_law_most"] (spBits)) (c_law_turned : Nm P w K mg base CX0 1 "_law_turned" s_law_turned ["_law_part"] (spTn)) : Nm P w K mg base CX0 4 "_law_some" s_law_some ["_law_pot_here", "_law_span"] (spSome) := by
  refine nm_of0 F hm sc_law_some (fun vs H Q E h => ?_) fun cdv A outer s H vs Q E hr h => ?_
  · unfold spSome at h
    obtain ⟨p, n, rfl, hp, h0, h1, k⟩ := h
    subst_vars
    rfl
  unfold spSome at h
  obtain ⟨p, n, rfl, hp, h0, h1, k⟩ := h
  refine ⟨_, (C8.pss_cut (ps_set (i := 2) sc_law_some.nd rfl (by first | exact Or.inl rfl | exact Or.inr rfl) (pe_lst (pa_cons (pe_g c_law_bits hr (by decide) L2.pass0 bp_law_bits (by rfl) (pa_cons (pv 0) (pa_cons pe_int (pa_cons (pv 1) pa_nil)))) pa_nil)))
      (pss_cons (ps_for PassesOwn.never rfl (pi_range1 (by rfl) T.b_range (pa_cons (pe_g c_law_draw hr (by decide) L2.pass0 bp_law_draw (by rfl) (pa_cons (pv 0) (pa_cons pe_int pa_nil))) pa_nil)) (pg_name (i := 3) sc_law_some.nd rfl (by first | exact Or.inl rfl | exact Or.inr rfl)) (pss_cons (ps_par (i := 4) (j := 5) (by rfl) sc_law_some.nd rfl rfl (by decide) rfl rfl (pa_cons (pe_g c_law_among hr (by decide) L2.pass0 bp_law_among (by rfl) (pa_cons (pv 0) (pa_cons (pv 2) pa_nil))) (pa_cons (pe_g c_law_draw hr (by decide) L2.pass0 bp_law_draw (by rfl) (pa_cons (pv 0) (pa_cons pe_int pa_nil))) pa_nil)) (by rfl))
      (pss_one (ps_if (pt_cmpR op_eq (pv 5) pe_int (nomark _)) (pss_one (ps_expr (pe_bm PySem.F.plainAttrs_list PySem.F.slot_list_append PySem.F.type_list_append mt_append (pv 2) (pa_cons (pe_g c_law_bits hr (by decide) L2.pass0 bp_law_bits (by rfl) (pa_cons (pv 0) (pa_cons pe_int (pa_cons (pv 1) pa_nil)))) pa_nil)))) (pss_one (ps_if (pt_cmpR op_eq (pv 5) pe_int (nomark _)) (pss_one (ps_expr (pe_bm PySem.F.plainAttrs_list PySem.F.slot_list_append PySem.F.type_list_append mt_append (pv 2) (pa_cons (pe_op op_add_str (pv 4) (pe_g c_law_bits hr (by decide) L2.pass0 bp_law_bits (by rfl) (pa_cons (pv 0) (pa_cons pe_int (pa_cons (pe_op op_sub (pv 1) (pe_callB (call_lenK (K := K) rfl) (by rfl) T.b_len PySem.boot_len (pa_cons (pv 4) pa_nil))) pa_nil))))) pa_nil)))) (pss_one (ps_if (pt_cmpR op_eq (pv 5) pe_int (nomark _)) (pss_one (ps_expr (pe_bm PySem.F.plainAttrs_list PySem.F.slot_list_append PySem.F.type_list_append mt_append (pv 2) (pa_cons (pe_slice sl_str (pv 4) po_none (po_some (pe_g c_law_draw hr (by decide) L2.pass0 bp_law_draw (by rfl) (pa_cons (pv 0) (pa_cons (pe_op op_add (pe_callB (call_lenK (K := K) rfl) (by rfl) T.b_len PySem.boot_len (pa_cons (pv 4) pa_nil)) pe_int) pa_nil))))) pa_nil)))) (pss_one (ps_if (PW.pt (pw_and (pt_cmpR op_eq (pv 5) pe_int (nomark _)) (pw_and1 (pt_cmpR op_ne (pv 4) pe_str (nomark _))))) (pss_one (ps_expr (pe_bm PySem.F.plainAttrs_list PySem.F.slot_list_append PySem.F.type_list_append mt_append (pv 2) (pa_cons (pe_g c_law_turned hr (by decide) L2.pass0 bp_law_turned (by rfl) (pa_cons (pv 4) pa_nil)) pa_nil)))) (pss_one (ps_if (PW.pt (pw_and (pt_cmpR op_eq (pv 5) pe_int (nomark _)) (pw_and1 (pt_cmpR op_lt (pe_callB (call_lenK (K := K) rfl) (by rfl) T.b_len PySem.boot_len (pa_cons (pv 4) pa_nil)) (pv 1) (nomark _))))) (pss_one (ps_expr (pe_bm PySem.F.plainAttrs_list PySem.F.slot_list_extend PySem.F.type_list_extend mt_extend (pv 2) (pa_cons (pe_lst (pa_cons (pe_op op_add_str (pv 4) pe_str) (pa_cons (pe_op op_add_str (pv 4) pe_str) pa_nil))) pa_nil)))) (pss_one (ps_if (PW.pt (pw_and (pt_cmpR op_eq (pv 5) pe_int (nomark _)) (pw_and1 (pt_cmpR op_le (pe_op op_add (pe_callB (call_lenK (K := K) rfl) (by rfl) T.b_len PySem.boot_len (pa_cons (pv 4) pa_nil)) pe_int) (pv 1) (nomark _))))) (pss_one (ps_expr (pe_bm PySem.F.plainAttrs_list PySem.F.slot_list_extend PySem.F.type_list_extend mt_extend (pv 2) (pa_cons (pe_lst (pa_cons (pe_op op_add_str (pv 4) pe_str) (pa_cons (pe_op op_add_str (pv 4) pe_str) (pa_cons (pe_op op_add_str (pv 4) pe_str) pa_nil)))) pa_nil)))) pss_nil))))))))))))))
      (pss_one (ps_ret (pe_slice sl_list (pv 2) po_none (po_some pe_int)))))), ?_⟩
  refine ⟨fun σ' H' => ∃ (F : Addr) (t : List Nat), σ' = [some (.ref p), some (.int n), some (.ref F), none, none, none] ∧ H F = none ∧ Go p H H' ∧ H' F = some (.lst ([t].map sx)) ∧ Fits n [t], ?_, ?_⟩
  · refine ⟨_, rfl, ⟨_, rfl, ?_⟩⟩
    refine bits_go hp (by omega) (by omega) (by omega) fun y H1 hy l1 l1' g1 => ?_
    refine ⟨szl (by show 1 ≤ 1000000; decide), fun F nF => ?_⟩
    refine ⟨F, y.cps.toList, rfl, g1.fresh hp nF, g1.new nF, ?_, fun t ht => ?_⟩
    · rw [List.map_cons, List.map_nil, sx_tl]
      exact upd_same
    · rw [List.mem_singleton] at ht
      subst ht
      exact ⟨bits_BL hy, by rw [len_tl]; omega⟩
  rintro σ' H1 ⟨F, t, rfl, nF, g1, eF, ft⟩
  have hFp := hp.ne nF
  refine ⟨_, rfl, ?_⟩
  refine draw_go g1.pot (by decide) (by decide) fun d H2 d0 d1 g2 => ?_
  obtain ⟨c, rfl⟩ := Int.eq_ofNat_of_zero_le d0
  refine ⟨c, rfl, by omega, by omega, ?_⟩
  refine for_it walk_range (fun i σ' H' => ∃ x3 x4 x5 ts, σ' = [some (.ref p), some (.int n), some (.ref F), x3, x4, x5] ∧ Go p H H' ∧ H' F = some (.lst (ts.map sx)) ∧ Fits n ts ∧ 1 ≤ ts.length ∧ ts.length ≤ 1 + 3 * i) ⟨_, _, _, [t], rfl, g1.trans g2, g2.kp eF hFp, ft, Nat.le_refl _, Nat.le_refl _⟩ (fun _ _ _ _ _ => trivial) ?_ ?_
  · rintro i x σ' H3 H3' hi ⟨x3, x4, x5, ts, rfl, g3, e3, f3, l3, l3'⟩ ⟨rfl, rfl⟩
    have hi8 : i < 9 := by omega
    refine ⟨_, rfl, ⟨_, rfl, ?_⟩⟩
    refine among_l g3.pot hFp (SqL.of e3) (by rw [List.length_map]; omega) (by rw [List.length_map]; omega) fun v hv H4 g4 => ?_
    obtain ⟨t, ht, rfl⟩ := List.mem_map.mp hv
    obtain ⟨tb, tl⟩ := f3 t ht
    have g34 := g3.trans g4
    refine ⟨_, rfl, ?_⟩
    refine draw_go g34.pot (by decide) (by decide) fun d H5 d0 d1 g5 => ?_
    have g35 := g34.trans g5
    have e5 := g5.kp (g4.kp e3 hFp) hFp
    have fin : ∀ (us : List (List Nat)) (H6 : Hp), Go p H5 H6 → Fits n us → us.length ≤ 3 → Go p H (upd H6 F (.lst (ts.map sx ++ us.map sx))) ∧ upd H6 F (.lst (ts.map sx ++ us.map sx)) F = some (.lst ((ts ++ us).map sx)) ∧ Fits n (ts ++ us) ∧ 1 ≤ (ts ++ us).length ∧ (ts ++ us).length ≤ 1 + 3 * (i + 1) := fun us H6 g fu lu => by
      refine ⟨(g35.trans g).mut nF hFp, by rw [upd_same, List.map_append], f3.snoc fu, by rw [List.length_append]; omega, by rw [List.length_append]; omega⟩
    have lsz : (ts.map sx).length < sizeLine := szt (by rw [List.length_map]; omega)
    refine ⟨_, _, rfl, ?_⟩
    have z1 : ("0" : Str).length = 1 := by decide +kernel
    have z2 : ("1" : Str).length = 1 := by decide +kernel
    have z3 : ("00" : Str).length = 2 := by decide +kernel
    have z4 : ("001" : Str).length = 3 := by decide +kernel
    have hd : d = 0 ∨ d = 1 ∨ d = 2 ∨ d = 3 ∨ d = 4 ∨ d = 5 := by omega
    rcases hd with rfl | rfl | rfl | rfl | rfl | rfl
    · refine ⟨_, rfl, ⟨rfl, ⟨_, rfl, ?_⟩⟩⟩
      refine iteT ?_
      refine ⟨_, rfl, ⟨.inl ⟨rfl, _, SqL.of e5⟩, ?_⟩⟩
      refine ⟨_, rfl, ⟨_, rfl, ?_⟩⟩
      refine bits_go g35.pot (by omega) (by omega) (by omega) fun y H6 hy l1 l1' g6 => ?_
      refine ⟨F, _, _, rfl, rfl, g6.kp e5 hFp, lsz, ?_⟩
      obtain ⟨q1, q2, q3, q4, q5⟩ := fin [y.cps.toList] H6 g6 (fun t ht => by
        rw [List.mem_singleton] at ht
        subst ht
        exact ⟨bits_BL hy, by rw [len_tl]; omega⟩) (by show 1 ≤ 3; decide)
      rw [show [y.cps.toList].map sx = [V.str y] by rw [List.map_cons, List.map_nil, sx_tl]] at q1 q2
      exact ⟨_, _, _, _, rfl, q1, q2, q3, q4, q5⟩
    · refine ⟨_, rfl, ⟨rfl, ⟨_, rfl, ?_⟩⟩⟩
      refine iteF ?_
      refine ⟨_, rfl, ⟨rfl, ⟨_, rfl, ?_⟩⟩⟩
      refine iteT ?_
      refine ⟨_, rfl, ⟨.inl ⟨rfl, _, SqL.of e5⟩, ?_⟩⟩
      refine ⟨_, rfl, ?_⟩
      refine ⟨_, rfl, ⟨_, rfl, ⟨_, rfl, ⟨_, _, rfl, ⟨szl (by rw [sx_len]; omega), rfl⟩, ⟨_, _, rfl, rfl, ?_⟩⟩⟩⟩⟩
      refine bits_go g35.pot (by omega) (by rw [sx_len]; omega) (by rw [sx_len]; omega) fun y H6 hy l1 l1' g6 => ?_
      have hly : y.length + t.length ≤ n := by
        have e := sx_len t
        rw [e] at l1'
        have := l1'
        have := tl
        omega
      refine ⟨SX.S t, y, rfl, rfl, szl (by rw [sx_len]; omega), ?_⟩
      refine ⟨F, _, _, rfl, rfl, g6.kp e5 hFp, lsz, ?_⟩
      have ey : SX.S t ++ y = SX.S (t ++ y.cps.toList) := by rw [← S_app, SX.S_tl]
      rw [ey]
      obtain ⟨q1, q2, q3, q4, q5⟩ := fin [t ++ y.cps.toList] H6 g6 (fun x hx => by
        rw [List.mem_singleton] at hx
        subst hx
        exact ⟨M.BL.app tb (bits_BL hy), by rw [List.length_append, len_tl]; omega⟩) (by show 1 ≤ 3; decide)
      exact ⟨_, _, _, _, rfl, q1, q2, q3, q4, q5⟩
    · refine ⟨_, rfl, ⟨rfl, ⟨_, rfl, ?_⟩⟩⟩
      refine iteF ?_
      refine ⟨_, rfl, ⟨rfl, ⟨_, rfl, ?_⟩⟩⟩
      refine iteF ?_
      refine ⟨_, rfl, ⟨rfl, ⟨_, rfl, ?_⟩⟩⟩
      refine iteT ?_
      refine ⟨_, rfl, ⟨.inl ⟨rfl, _, SqL.of e5⟩, ?_⟩⟩
      refine ⟨_, rfl, ⟨_, rfl, ⟨_, rfl, ⟨_, _, rfl, ⟨szl (by rw [sx_len]; omega), rfl⟩, ⟨_, _, rfl, rfl, ?_⟩⟩⟩⟩⟩
      rw [sx_len]
      refine draw_go g35.pot (by omega) (by omega) fun c H6 c0 c1 g6 => ?_
      obtain ⟨j, rfl⟩ := Int.eq_ofNat_of_zero_le c0
      refine ⟨_, rfl, ⟨_, rfl, szl (by rw [sx_len]; omega), ?_⟩⟩
      rw [cut_S t (k := j) rfl]
      refine ⟨F, _, _, rfl, rfl, g6.kp e5 hFp, lsz, ?_⟩
      obtain ⟨q1, q2, q3, q4, q5⟩ := fin [t.take j] H6 g6 (fun x hx => by
        rw [List.mem_singleton] at hx
        subst hx
        exact ⟨fun c hc => tb c (List.mem_of_mem_take hc), by rw [List.length_take]; omega⟩) (by show 1 ≤ 3; decide)
      exact ⟨_, _, _, _, rfl, q1, q2, q3, q4, q5⟩
    · refine ⟨_, rfl, ⟨rfl, ⟨_, rfl, ?_⟩⟩⟩
      refine iteF ?_
      refine ⟨_, rfl, ⟨rfl, ⟨_, rfl, ?_⟩⟩⟩
      refine iteF ?_
      refine ⟨_, rfl, ⟨rfl, ⟨_, rfl, ?_⟩⟩⟩
      refine iteF ?_
      refine ⟨_, rfl, ⟨rfl, ⟨_, rfl, ?_⟩⟩⟩
      refine iteT ?_
      refine ⟨_, rfl, ⟨rfl, ⟨_, rfl, ?_⟩⟩⟩
      have et : decide (sx t = V.str "") = decide (t = []) := by
        have : V.str "" = sx [] := rfl
        rw [this]
        exact dec_sx t []
      rw [et]
      by_cases c : t = []
      · rw [decide_eq_true c]
        refine iteF ?_
        refine ⟨_, rfl, ⟨rfl, ⟨_, rfl, ?_⟩⟩⟩
        refine iteF ?_
        refine iteF ?_
        refine ⟨_, rfl, ⟨rfl, ⟨_, rfl, ?_⟩⟩⟩
        refine iteF ?_
        refine iteF ?_
        exact ⟨_, _, _, ts, rfl, g35, e5, f3, l3, by omega⟩
      · rw [decide_eq_false c]
        refine iteT ?_
        refine ⟨_, rfl, ⟨.inl ⟨rfl, _, SqL.of e5⟩, ?_⟩⟩
        refine ⟨_, rfl, ?_⟩
        refine tn_go tb c (by omega) fun H6 s6 => ?_
        refine ⟨F, _, _, rfl, rfl, s6 _ _ e5, lsz, ?_⟩
        obtain ⟨q1, q2, q3, q4, q5⟩ := fin [tl1 t] H6 (Go.of g35.pot s6) (fun x hx => by
          rw [List.mem_singleton] at hx
          subst hx
          exact tl1_ok tb tl c) (by show 1 ≤ 3; decide)
        exact ⟨_, _, _, _, rfl, q1, q2, q3, q4, q5⟩
    · refine ⟨_, rfl, ⟨rfl, ⟨_, rfl, ?_⟩⟩⟩
      refine iteF ?_
      refine ⟨_, rfl, ⟨rfl, ⟨_, rfl, ?_⟩⟩⟩
      refine iteF ?_
      refine ⟨_, rfl, ⟨rfl, ⟨_, rfl, ?_⟩⟩⟩
      refine iteF ?_
      refine ⟨_, rfl, ⟨rfl, ⟨_, rfl, ?_⟩⟩⟩
      refine iteF ?_
      refine iteF ?_
      refine ⟨_, rfl, ⟨rfl, ⟨_, rfl, ?_⟩⟩⟩
      refine iteT ?_
      refine ⟨_, rfl, ⟨_, _, rfl, ⟨szl (by rw [sx_len]; omega), rfl⟩, ⟨_, rfl, ⟨_, _, rfl, rfl, ⟨_, rfl, ?_⟩⟩⟩⟩⟩
      rw [sx_len]
      by_cases c : (t.length : Int) < n
      · rw [decide_eq_true c]
        refine iteT ?_
        refine ⟨_, rfl, ⟨.inl ⟨rfl, _, SqL.of e5⟩, ?_⟩⟩
        refine ⟨_, rfl, ⟨_, _, rfl, rfl, szl (by rw [sx_len, z1]; omega), ?_⟩⟩
        refine ⟨_, rfl, ⟨_, _, rfl, rfl, szl (by rw [sx_len, z2]; omega), ?_⟩⟩
        refine ⟨szl (by show 2 ≤ 1000000; decide), fun B nB => ?_⟩
        rw [zero_S, one_S, S_app, S_app]
        refine ⟨F, B, _, _, rfl, rfl, updn (nonn nB e5) e5, upd_same, szl (by rw [List.length_map]; show _ + 2 ≤ _; omega), ?_⟩
        obtain ⟨q1, q2, q3, q4, q5⟩ := fin [t ++ [48], t ++ [49]] _ ((Go.refl g35.pot).new (o := HO.lst [V.str (SX.S (t ++ [48])), V.str (SX.S (t ++ [49]))]) nB) (fun x hx => by
          simp only [List.mem_cons, List.not_mem_nil, or_false] at hx
          rcases hx with rfl | rfl
          · exact app_ok tb (u := [48]) (by decide) (by show t.length + 1 ≤ n; omega)
          · exact app_ok tb (u := [49]) (by decide) (by show t.length + 1 ≤ n; omega)) (by show 2 ≤ 3; decide)
        exact ⟨_, _, _, _, rfl, q1, q2, q3, q4, q5⟩
      · rw [decide_eq_false c]
        refine iteF ?_
        refine ⟨_, rfl, ⟨rfl, ⟨_, rfl, ?_⟩⟩⟩
        refine iteF ?_
        refine iteF ?_
        exact ⟨_, _, _, ts, rfl, g35, e5, f3, l3, by omega⟩
    · refine ⟨_, rfl, ⟨rfl, ⟨_, rfl, ?_⟩⟩⟩
      refine iteF ?_
      refine ⟨_, rfl, ⟨rfl, ⟨_, rfl, ?_⟩⟩⟩
      refine iteF ?_
      refine ⟨_, rfl, ⟨rfl, ⟨_, rfl, ?_⟩⟩⟩
      refine iteF ?_
      refine ⟨_, rfl, ⟨rfl, ⟨_, rfl, ?_⟩⟩⟩
      refine iteF ?_
      refine iteF ?_
      refine ⟨_, rfl, ⟨rfl, ⟨_, rfl, ?_⟩⟩⟩
      refine iteF ?_
      refine iteF ?_
      refine ⟨_, rfl, ⟨rfl, ⟨_, rfl, ?_⟩⟩⟩
      refine iteT ?_
      refine ⟨_, rfl, ⟨_, _, rfl, ⟨szl (by rw [sx_len]; omega), rfl⟩, ⟨_, _, rfl, rfl, ⟨_, rfl, ⟨_, _, rfl, rfl, ⟨_, rfl, ?_⟩⟩⟩⟩⟩⟩
      rw [sx_len]
      by_cases c : (t.length : Int) + 3 ≤ n
      · rw [decide_eq_true c]
        refine iteT ?_
        refine ⟨_, rfl, ⟨.inl ⟨rfl, _, SqL.of e5⟩, ?_⟩⟩
        refine ⟨_, rfl, ⟨_, _, rfl, rfl, szl (by rw [sx_len, z1]; omega), ?_⟩⟩
        refine ⟨_, rfl, ⟨_, _, rfl, rfl, szl (by rw [sx_len, z3]; omega), ?_⟩⟩
        refine ⟨_, rfl, ⟨_, _, rfl, rfl, szl (by rw [sx_len, z4]; omega), ?_⟩⟩
        refine ⟨szl (by show 3 ≤ 1000000; decide), fun B nB => ?_⟩
        rw [zero_S, zz_S, zzo_S, S_app, S_app, S_app]
        refine ⟨F, B, _, _, rfl, rfl, updn (nonn nB e5) e5, upd_same, szl (by rw [List.length_map]; show _ + 3 ≤ _; omega), ?_⟩
        obtain ⟨q1, q2, q3, q4, q5⟩ := fin [t ++ [48], t ++ [48, 48], t ++ [48, 48, 49]] _ ((Go.refl g35.pot).new (o := HO.lst [V.str (SX.S (t ++ [48])), V.str (SX.S (t ++ [48, 48])), V.str (SX.S (t ++ [48, 48, 49]))]) nB) (fun x hx => by
          simp only [List.mem_cons, List.not_mem_nil, or_false] at hx
          rcases hx with rfl | rfl | rfl
          · exact app_ok tb (u := [48]) (by decide) (by show t.length + 1 ≤ n; omega)
          · exact app_ok tb (u := [48, 48]) (by decide) (by show t.length + 2 ≤ n; omega)
          · exact app_ok tb (u := [48, 48, 49]) (by decide) (by show t.length + 3 ≤ n; omega)) (by show 3 ≤ 3; decide)
        exact ⟨_, _, _, _, rfl, q1, q2, q3, q4, q5⟩
      · rw [decide_eq_false c]
        refine iteF ?_
        exact ⟨_, _, _, ts, rfl, g35, e5, f3, l3, by omega⟩
  · rintro σ' H3 ⟨x3, x4, x5, ts, rfl, g3, e3, f3, l3, l3'⟩
    refine ⟨_, rfl, ⟨_, rfl, ⟨F, _, rfl, SqL.of e3, fun L nL => ?_⟩⟩⟩
    rw [show ((14 : Int)) = ((14 : Nat) : Int) from rfl, cut_take, ← List.map_take]
    exact k L (ts.take 14) _ (g3.fresh hp nL) (g3.new nL) upd_same (fun t ht => f3 t (List.mem_of_mem_take ht)) (by rw [List.length_take]; omega) (by rw [List.length_take]; omega)
end
open PySem PySem.Spec PyProof.Rows
open L2 hiding pass0
abbrev s_law_place : Stmt := top 35
theorem sc_law_place : FnScope ["_law_pot_here", "_law_span", "_law_some_here", "_law_part", "_law_place_here", "_law_at"] ["_law_pot_here", "_law_span", "_law_some_here"] (defScope s_law_place) := ⟨rfl, rfl, rfl, by decide +kernel, rfl, by decide +kernel, by decide +kernel⟩
theorem bp_law_place : BndP "_law_place" s_law_place ["_law_pot_here", "_law_span", "_law_some_here"] := fun _ _ _ _ _ _ us h => match us, h with | [_, _, _], _ => rfl
theorem cut_D (t : List Nat) {d : Int} {k : Nat} (h : d = k) : cutS (SX.S t) (some d) none = SX.S (t.drop k) := by
  subst h
  show SX.S _ = SX.S _
  refine congrArg SX.S ?_
  show ((SX.S t).cps.toList.drop (HT.sIx (SX.S t).length 0 (some (k : Int)))).take (HT.sIx (SX.S t).length (SX.S t).length none - HT.sIx (SX.S t).length 0 (some (k : Int))) = t.drop k
  rw [HT.sIx_nat, HT.sIx_none, tl_S, sx_len]
  by_cases c : k ≤ t.length
  · rw [Nat.min_eq_left c, List.take_of_length_le]
    rw [List.length_drop]
    exact Nat.le_refl _
  · rw [Nat.min_eq_right (by omega), List.drop_of_length_le (Nat.le_refl _), List.drop_of_length_le (by omega)]
    simp
@[irreducible] def spPlace : Sp := fun vs H Q _ => ∃ (p : Addr) (n : Nat) (F : Addr) (ts : List (List Nat)), vs = [.ref p, .int n, .ref F] ∧ PotAt H p ∧ 1 ≤ n ∧ n ≤ 100 ∧ F ≠ p ∧ H F = some (.lst (ts.map sx)) ∧ Fits n ts ∧ 1 ≤ ts.length ∧ ts.length ≤ 100 ∧ ∀ (z : List Nat) H', M.BL z → z.length = n → Go p H H' → Q (sx z) H'
theorem place_go {p F : Addr} {n : Nat} {ts : List (List Nat)} {H : Hp} {Q : VK} {E : XK} (hp : PotAt H p) (h0 : 1 ≤ n) (h1 : n ≤ 100) (hF : F ≠ p) (eF : H F = some (.lst (ts.map sx))) (ft : Fits n ts) (l0 : 1 ≤ ts.length) (l1 : ts.length ≤ 100) (k : ∀ (z : List Nat) H', M.BL z → z.length = n → Go p H H' → Q (sx z) H') : spPlace [.ref p, .int n, .ref F] H Q E := by
  unfold spPlace
  exact ⟨p, n, F, ts, rfl, hp, h0, h1, hF, eF, ft, l0, l1, k⟩
section
variable {P : Program} {w : World} {K : PySem.W.Frag} {mg : Str → Option Value} {base : Heap} {f C : Addr} {fd' : FuncData}
theorem ok_place (F : Fun K "_law_place" "_law_place" s_law_place f fd') (hm : mg "_law_place" = some (.ref f)) (T : Txt K mg) (c_law_draw : Nm P w K mg base CX0 1 "_law_draw" s_law_draw ["_law_pot_here", "_law_many"] (spDraw)) (c_law_among : Nm P w K mg base CX0 2 "_law_among" s_law_among ["_law_pot_here", "_law_some_here"] (spAmong K)) (c_law_bits : Nm P w K mg base CX0 3 "_law_bits" s_law_bits ["_law_pot_here", "_law_least_here", "_law_most"] (spBits)) : Nm P w K mg base CX0 4 "_law_place" s_law_place ["_law_pot_here", "_law_span", "_law_some_here"] (spPlace) := by
  refine nm_of F hm sc_law_place (fun vs H Q E h => ?_) fun cdv A outer s H vs Q E hr h => ?_
  · unfold spPlace at h
    obtain ⟨p, n, F, ts, rfl, hp, h0, h1, hF, eF, ft, l0, l1, k⟩ := h
    subst_vars
    rfl
  unfold spPlace at h
  obtain ⟨p, n, F, ts, rfl, hp, h0, h1, hF, eF, ft, l0, l1, k⟩ := h
  refine ⟨_, (C8.pss_cut (ps_set (i := 3) sc_law_place.nd rfl (by first | exact Or.inl rfl | exact Or.inr rfl) (pe_g c_law_among hr (by decide) L2.pass0 bp_law_among (by rfl) (pa_cons (pv 0) (pa_cons (pv 2) pa_nil))))
      (C8.pss_cut (ps_if (pt_cmpR op_eq (pe_g c_law_draw hr (by decide) L2.pass0 bp_law_draw (by rfl) (pa_cons (pv 0) (pa_cons pe_int pa_nil))) pe_int (nomark _)) (pss_one (ps_ret (pe_g c_law_bits hr (by decide) L2.pass0 bp_law_bits (by rfl) (pa_cons (pv 0) (pa_cons (pv 1) (pa_cons (pv 1) pa_nil)))))) pss_nil)
      (C8.pss_cut (ps_set (i := 4) sc_law_place.nd rfl (by first | exact Or.inl rfl | exact Or.inr rfl) (pe_op op_add_str (pv 3) (pe_g c_law_bits hr (by decide) L2.pass0 bp_law_bits (by rfl) (pa_cons (pv 0) (pa_cons (pe_op op_sub (pv 1) (pe_callB (call_lenK (K := K) rfl) (by rfl) T.b_len PySem.boot_len (pa_cons (pv 3) pa_nil))) (pa_cons (pe_op op_sub (pv 1) (pe_callB (call_lenK (K := K) rfl) (by rfl) T.b_len PySem.boot_len (pa_cons (pv 3) pa_nil))) pa_nil))))))
      (C8.pss_cut (ps_set (i := 5) sc_law_place.nd rfl (by first | exact Or.inl rfl | exact Or.inr rfl) (pe_g c_law_draw hr (by decide) L2.pass0 bp_law_draw (by rfl) (pa_cons (pv 0) (pa_cons (pv 1) pa_nil))))
      (pss_one (ps_ret (pe_ifExp (pt_cmpR op_eq (pe_g c_law_draw hr (by decide) L2.pass0 bp_law_draw (by rfl) (pa_cons (pv 0) (pa_cons pe_int pa_nil))) pe_int (nomark _)) (pe_op op_add_str (pe_op op_add_str (pe_slice sl_str (pv 4) po_none (po_some (pv 5))) (pe_g c_law_among hr (by decide) L2.pass0 bp_law_among (by rfl) (pa_cons (pv 0) (pa_cons pe_str pa_nil)))) (pe_slice sl_str (pv 4) (po_some (pe_op op_add (pv 5) pe_int)) po_none)) (pv 4)))))))), ?_⟩
  refine ⟨fun σ' H' => ∃ t, σ' = [some (.ref p), some (.int n), some (.ref F), some (sx t), none, none] ∧ M.BL t ∧ t.length ≤ n ∧ Go p H H', ?_, ?_⟩
  · refine ⟨_, rfl, ⟨_, rfl, ?_⟩⟩
    refine among_l hp hF (SqL.of eF) (by rw [List.length_map]; omega) (by rw [List.length_map]; omega) fun v hv H4 g4 => ?_
    obtain ⟨t, ht, rfl⟩ := List.mem_map.mp hv
    exact ⟨t, rfl, (ft t ht).1, (ft t ht).2, g4⟩
  rintro σ' H1 ⟨t, rfl, tb, tl, g1⟩
  refine ⟨fun σ' H' => σ' = [some (.ref p), some (.int n), some (.ref F), some (sx t), none, none] ∧ Go p H H', ?_, ?_⟩
  · refine ⟨_, rfl, ?_⟩
    refine draw_go g1.pot (by decide) (by decide) fun d H2 d0 d1 g2 => ?_
    have g12 := g1.trans g2
    refine ⟨rfl, ⟨_, rfl, ?_⟩⟩
    refine ite2 (fun hq => ?_) fun hq => ?_
    · refine ⟨_, rfl, ⟨_, rfl, ⟨_, rfl, ?_⟩⟩⟩
      refine bits_go g12.pot (by omega) (by omega) (by omega) fun y H3 hy l2 l2' g3 => ?_
      rw [← sx_tl]
      exact k _ _ (bits_BL hy) (by rw [len_tl]; omega) (g12.trans g3)
    · exact ⟨rfl, g12⟩
  rintro σ' H2 ⟨rfl, g2⟩
  refine ⟨fun σ' H' => ∃ z, σ' = [some (.ref p), some (.int n), some (.ref F), some (sx t), some (sx z), none] ∧ M.BL z ∧ z.length = n ∧ Go p H H', ?_, ?_⟩
  · refine ⟨_, rfl, ?_⟩
    refine ⟨_, rfl, ⟨_, rfl, ⟨_, rfl, ⟨_, _, rfl, ⟨szl (by rw [sx_len]; omega), rfl⟩, ⟨_, _, rfl, rfl, ?_⟩⟩⟩⟩⟩
    refine ⟨_, rfl, ⟨_, rfl, ⟨_, _, rfl, ⟨szl (by rw [sx_len]; omega), rfl⟩, ⟨_, _, rfl, rfl, ?_⟩⟩⟩⟩
    refine bits_go g2.pot (by rw [sx_len]; omega) (by omega) (by omega) fun y H3 hy l2 l2' g3 => ?_
    have hly : y.length + t.length = n := by
      have e := sx_len t
      rw [e] at l2 l2'
      have := l2
      have := l2'
      have := tl
      omega
    refine ⟨SX.S t, y, rfl, rfl, szl (by rw [sx_len]; omega), ?_⟩
    have ey : SX.S t ++ y = SX.S (t ++ y.cps.toList) := by rw [← S_app, SX.S_tl]
    rw [ey]
    exact ⟨t ++ y.cps.toList, rfl, M.BL.app tb (bits_BL hy), by rw [List.length_append, len_tl]; omega, g2.trans g3⟩
  rintro σ' H3 ⟨z, rfl, zb, zl, g3⟩
  refine ⟨fun σ' H' => ∃ j : Nat, σ' = [some (.ref p), some (.int n), some (.ref F), some (sx t), some (sx z), some (.int j)] ∧ j < n ∧ Go p H H', ?_, ?_⟩
  · refine ⟨_, rfl, ⟨_, rfl, ?_⟩⟩
    refine draw_go g3.pot (by omega) (by omega) fun d H4 d0 d1 g4 => ?_
    obtain ⟨j, rfl⟩ := Int.eq_ofNat_of_zero_le d0
    exact ⟨j, rfl, by omega, g3.trans g4⟩
  rintro σ' H4 ⟨j, rfl, hj, g4⟩
  refine ⟨_, rfl, ?_⟩
  refine draw_go g4.pot (by decide) (by decide) fun d H5 d0 d1 g5 => ?_
  have g45 := g4.trans g5
  refine ⟨rfl, ⟨_, rfl, ?_⟩⟩
  refine ite2 (fun hq => ?_) fun hq => ?_
  · refine ⟨_, rfl, ⟨_, rfl, ⟨_, rfl, ⟨_, rfl, szl (by rw [sx_len]; omega), ?_⟩⟩⟩⟩
    rw [cut_S z (k := j) rfl]
    refine ⟨_, rfl, ?_⟩
    refine among_s g45.pot (by decide +kernel) (by decide +kernel) fun c hc H6 g6 => ?_
    have hc2 : c = 48 ∨ c = 49 := by
      have : ("01" : Str).cps.toList = [48, 49] := by decide +kernel
      rw [this] at hc
      simpa using hc
    have ec : (⟨#[c]⟩ : Str) = SX.S [c] := rfl
    rw [ec]
    refine ⟨SX.S (z.take j), SX.S [c], rfl, rfl, szl (by rw [sx_len, sx_len, List.length_take]; show _ + 1 ≤ _; omega), ?_⟩
    rw [S_app]
    refine ⟨_, rfl, ⟨_, rfl, ⟨_, _, rfl, rfl, ?_⟩⟩⟩
    refine ⟨_, rfl, ⟨_, rfl, szl (by rw [sx_len]; omega), ?_⟩⟩
    rw [cut_D z (k := j + 1) (by omega)]
    refine ⟨SX.S (z.take j ++ [c]), SX.S (z.drop (j + 1)), rfl, rfl, szl (by rw [sx_len, sx_len, List.length_append, List.length_take, List.length_drop]; show _ + 1 + _ ≤ _; omega), ?_⟩
    rw [S_app]
    refine k (z.take j ++ [c] ++ z.drop (j + 1)) H6 (M.BL.app (M.BL.app (fun x hx => zb x (List.mem_of_mem_take hx)) fun x hx => ?_) fun x hx => zb x (List.mem_of_mem_drop hx)) ?_ (g45.trans g6)
    · rw [List.mem_singleton] at hx
      subst hx
      exact hc2
    · rw [List.length_append, List.length_append, List.length_take, List.length_drop]
      show min j z.length + 1 + _ = n
      omega
  · refine ⟨_, rfl, ?_⟩
    exact k z H5 zb zl g45
end
namespace M
/-! ## counting by cells -/
theorem sum_step {α : Type} (a : α) (l : List α) (f : α → List Nat) (p : List Nat → Bool) : ∀ us : List (List Nat), us.Nodup →
    (us.map fun s => if p s = true then (a :: l).countP (fun x => decide (f x = s)) else 0).sum = (us.map fun s => if p s = true then l.countP (fun x => decide (f x = s)) else 0).sum + if f a ∈ us ∧ p (f a) = true then 1 else 0
  | [], _ => by simp
  | u :: us, h => by
    have hn := List.nodup_cons.mp h
    rw [List.map_cons, List.sum_cons, List.map_cons, List.sum_cons, sum_step a l f p us hn.2, List.countP_cons]
    by_cases e : f a = u
    · subst e
      by_cases c : p (f a) = true
      · simp [hn.1, c]
        omega
      · simp [c]
    · have e' : decide (f a = u) = false := decide_eq_false e
      simp [e]
      omega
theorem sum_by {α : Type} (f : α → List Nat) (p : List Nat → Bool) (ts : List (List Nat)) (hn : ts.Nodup) : ∀ l : List α, (∀ x ∈ l, f x ∈ ts) →
    (ts.map fun s => if p s = true then l.countP (fun x => decide (f x = s)) else 0).sum = l.countP fun x => p (f x)
  | [], _ => by
    have : ∀ us : List (List Nat), (us.map fun s => if p s = true then List.countP (fun x : α => decide (f x = s)) [] else 0).sum = 0 := by
      intro us
      induction us with
      | nil => rfl
      | cons u us ih => rw [List.map_cons, List.sum_cons, ih]; simp
    rw [this]
    rfl
  | a :: l, h => by
    rw [sum_step a l f p ts hn, sum_by f p ts hn l fun x hx => h x (List.mem_cons_of_mem _ hx), List.countP_cons]
    simp [h a (List.mem_cons_self ..)]
theorem nd_known {w : Nat} {ts : List (List Nat)} (k : Known w ts) : ts.Nodup := k.ord.imp fun {a b} l => by rintro rfl; exact List.lt_irrefl _ l
theorem cnt_by {w : Nat} {ts : List (List Nat)} (k : Known w ts) (p : List Nat → Bool) : (ts.map fun s => if p s = true then many w ts s else 0).sum = (addrs w).countP fun z => p (lg ts z) := by
  rw [← sum_by (lg ts) p ts (nd_known k) (addrs w) fun z _ => (lg_is k.all).mem]
  congr 1
  refine List.map_congr_left fun s hs => ?_
  rw [(cnt_many k hs).1]
/-! ## fewer stretches -/
theorem lg_lg {us ts : List (List Nat)} (h0u : [] ∈ us) (h0 : [] ∈ ts) (sub : ∀ t ∈ us, t ∈ ts) (a : List Nat) : lg us a = lg us (lg ts a) := by
  have hs := lg_is (a := a) h0
  have hp := lg_is (a := a) h0u
  refine (lg_eq h0u ⟨hp.mem, pre_both hp.pre hs.pre (hs.top _ (sub _ hp.mem) hp.pre), fun q hq hqs => hp.top q hq (hqs.trans hs.pre)⟩).symm
/-- one of them is its beginning -/
def frB (fs : List (List Nat)) (z : List Nat) : Bool := fs.any fun f => decide (f <+: z)
theorem fr_lg {fs ts : List (List Nat)} (h0 : [] ∈ ts) (sub : ∀ t ∈ fs, t ∈ ts) (a : List Nat) : frB fs a = frB fs (lg ts a) := by
  have hs := lg_is (a := a) h0
  unfold frB
  rw [Bool.eq_iff_iff, List.any_eq_true, List.any_eq_true]
  constructor
  · rintro ⟨f, hf, e⟩
    have e' := of_decide_eq_true e
    exact ⟨f, hf, decide_eq_true (pre_both e' hs.pre (hs.top _ (sub f hf) e'))⟩
  · rintro ⟨f, hf, e⟩
    exact ⟨f, hf, decide_eq_true ((of_decide_eq_true e).trans hs.pre)⟩
/-! ## first addresses -/
theorem lt_bn {a b : List Nat} (ha : BL a) (hb : BL b) (l : a.length = b.length) (h : a < b) : bn a < bn b := by
  have e := lex_hi (w := a.length) ha hb (Nat.le_refl _) (by omega) h fun q => by
    rw [q.eq_of_length l] at h
    exact List.lt_irrefl _ h
  unfold hi lo size at e
  rw [l] at e
  simp only [Nat.sub_self, Nat.pow_zero, Nat.mul_one] at e
  omega
theorem find_min {p : List Nat → Bool} : ∀ {l : List (List Nat)} {a : List Nat}, l.Pairwise (fun a b => bn a < bn b) → l.find? p = some a → ∀ z ∈ l, p z = true → bn a ≤ bn z
  | [], a, _, h, _, _, _ => by cases h
  | x :: l, a, hl, h, z, hz, pz => by
    have hx := List.pairwise_cons.mp hl
    cases c : p x with
    | true =>
      rw [List.find?_cons_of_pos (by simpa using c)] at h
      cases h
      rcases List.mem_cons.mp hz with e | hz
      · rw [e]; exact Nat.le_refl _
      · exact Nat.le_of_lt (hx.1 z hz)
    | false =>
      rw [List.find?_cons_of_neg (by simp [c])] at h
      rcases List.mem_cons.mp hz with e | hz
      · rw [e, c] at pz; cases pz
      · exact find_min hx.2 h z hz pz
theorem cell_first {w : Nat} {ts : List (List Nat)} {s : List Nat} (hw : 1 ≤ w) (k : Known w ts) (hs : s ∈ ts) (h : many w ts s ≠ 0) :
    ∃ a, cellA w ts s = some a ∧ a ∈ addrs w ∧ lg ts a = s ∧ ∀ z ∈ addrs w, lg ts z = s → bn a ≤ bn z := by
  have f := find_is hw k hs
  have c : cellA w ts s = some (adr w (place w ts s)) := by unfold cellA; rw [if_neg h]
  rw [c] at f
  exact ⟨_, c, List.mem_of_find?_eq_some f, by simpa using List.find?_some f, fun z hz e => find_min (addrs_lt w) f z hz (decide_eq_true e)⟩
theorem many_pos {w : Nat} {ts : List (List Nat)} {a : List Nat} (k : Known w ts) (ha : a ∈ addrs w) : many w ts (lg ts a) ≠ 0 := by
  have := (cnt_many k (lg_is (a := a) k.all).mem).1
  have pos : 0 < (addrs w).countP (fun z => decide (lg ts z = lg ts a)) := List.countP_pos_iff.mpr ⟨a, ha, decide_eq_true rfl⟩
  omega
theorem head_least {w : Nat} {q : List Nat → Bool} {y : List Nat} (hy : y ∈ addrs w) (hq : q y = true) (hl : ∀ z ∈ addrs w, q z = true → bn y ≤ bn z) : ((addrs w).filter q).head? = some y := by
  rw [List.head?_filter]
  exact find_least hy hq hl
end M
open PySem PySem.Spec PyProof.Rows
open L2 hiding pass0
/-! ### a crowd: all texts of at most six signs, and a chain of one sign -/
def Crowd (b : Nat) (t : List Nat) : Prop := M.BL t ∧ (t.length ≤ 6 ∨ t = List.replicate t.length b ∧ t.length ≤ 100)
section
variable {b : Nat} {ks : List (List Nat)} {s t : List Nat}
theorem Crowd.chain (hb : b = 48 ∨ b = 49) {k : Nat} (h : k ≤ 100) : Crowd b (List.replicate k b) := by
  refine ⟨fun c hc => ?_, .inr ⟨by rw [List.length_replicate], by rw [List.length_replicate]; exact h⟩⟩
  rw [List.eq_of_mem_replicate hc]
  exact hb
theorem Crowd.up (h : Crowd b t) : Crowd b t.dropLast := by
  refine ⟨fun c hc => h.1 c ((List.dropLast_prefix t).subset hc), ?_⟩
  rw [List.length_dropLast]
  rcases h.2 with l | ⟨e, l⟩
  · exact .inl (by omega)
  · refine .inr ⟨?_, by omega⟩
    rw [List.dropLast_eq_take, e, List.take_replicate, List.length_replicate]
    congr 1
    omega
theorem crowd_ch (kn : M.Known 100 ks) (hk : ∀ t, t ∈ ks ↔ Crowd b t) (hs : Crowd b s) : t ∈ M.ch ks s ↔ Crowd b t ∧ ∃ c, t = s ++ [c] := by
  rw [M.ch_iff kn.all]
  constructor
  · rintro ⟨h1, h2, h3, h4, h5, h6⟩
    have ht := (hk t).mp h1
    refine ⟨ht, t.getLast h2, ?_⟩
    have hd := h6 t.dropLast ((hk _).mpr ht.up) (List.dropLast_prefix t) (by rw [List.length_dropLast]; have := List.length_pos_iff.mpr h2; omega)
    rw [List.length_dropLast] at hd
    have e : s = t.dropLast := by
      rw [List.dropLast_eq_take, List.prefix_iff_eq_take.mp h4]
      congr 1
      have := List.length_take (i := s.length) (l := t)
      omega
    rw [e, List.dropLast_concat_getLast]
  · rintro ⟨ht, c, rfl⟩
    refine ⟨(hk _).mpr ht, by simp, (hk _).mpr hs, List.prefix_append _ _, by simp, fun q hq hp hl => ?_⟩
    rw [List.length_append] at hl
    have e1 : [c].length = 1 := rfl
    omega
theorem ch_nd (kn : M.Known 100 ks) : (M.ch ks s).Nodup := (M.nd_known kn).filter _
theorem nd_perm : ∀ {a b : List (List Nat)}, a.Nodup → b.Nodup → (∀ x, x ∈ a ↔ x ∈ b) → a.Perm b
  | [], b, _, _, h => by
    cases b with
    | nil => exact .nil
    | cons x r => exact absurd ((h x).mpr (List.mem_cons_self ..)) List.not_mem_nil
  | x :: a, b, ha, hb, h => by
    have hx : x ∈ b := (h x).mp (List.mem_cons_self ..)
    have ha' := List.nodup_cons.mp ha
    refine List.Perm.trans (List.Perm.cons x (nd_perm ha'.2 (hb.erase x) fun y => ?_)) (List.perm_cons_erase hx).symm
    rw [hb.mem_erase_iff]
    constructor
    · intro hy
      exact ⟨fun e => ha'.1 (e ▸ hy), (h y).mp (List.mem_cons_of_mem _ hy)⟩
    · rintro ⟨hne, hy⟩
      exact (List.mem_cons.mp ((h y).mpr hy)).resolve_left hne
theorem many_by (kn : M.Known 100 ks) {cs : List (List Nat)} (nd : cs.Nodup) (h : ∀ t, t ∈ M.ch ks s ↔ t ∈ cs) : M.many 100 ks s = M.size 100 s - (cs.map (M.size 100)).sum := by
  unfold M.many
  rw [((nd_perm (ch_nd kn) nd h).map (M.size 100)).sum_nat]
theorem crowd_low (hb : b = 48 ∨ b = 49) (kn : M.Known 100 ks) (hk : ∀ t, t ∈ ks ↔ Crowd b t) (hs : Crowd b s) (hl : s.length < 6) : M.many 100 ks s = 0 ∧ M.cellA 100 ks s = none := by
  have kid : ∀ c, c = 48 ∨ c = 49 → Crowd b (s ++ [c]) := fun c hc => ⟨M.BL.app hs.1 fun d hd => by rw [List.mem_singleton] at hd; subst hd; exact hc, .inl (by rw [List.length_append]; exact hl)⟩
  have hm : M.many 100 ks s = 0 := by
    rw [many_by kn (cs := [s ++ [48], s ++ [49]]) (by simp) fun t => ?_]
    · unfold M.size
      simp only [List.map_cons, List.map_nil, List.sum_cons, List.sum_nil, List.length_append, List.length_cons, List.length_nil, Nat.zero_add]
      rw [size_two (n := 100) (l := s.length) (by omega)]
      omega
    · rw [crowd_ch kn hk hs]
      constructor
      · rintro ⟨ht, c, rfl⟩
        rcases ht.1 c (List.mem_append_right _ (List.mem_singleton.mpr rfl)) with rfl | rfl <;> simp
      · intro h
        simp only [List.mem_cons, List.not_mem_nil, or_false] at h
        rcases h with rfl | rfl
        · exact ⟨kid 48 (.inl rfl), 48, rfl⟩
        · exact ⟨kid 49 (.inr rfl), 49, rfl⟩
  refine ⟨hm, ?_⟩
  unfold M.cellA
  rw [if_pos hm]
theorem crowd_six (kn : M.Known 100 ks) (hk : ∀ t, t ∈ ks ↔ Crowd b t) (hs : Crowd b s) (hl : s.length = 6) (hn : s ≠ List.replicate 6 b) : M.many 100 ks s = 2 ^ 94 ∧ M.cellA 100 ks s = some (s ++ List.replicate 94 48) := by
  have hc : ∀ t, t ∉ M.ch ks s := fun t ht => by
    obtain ⟨ct, c, rfl⟩ := (crowd_ch kn hk hs).mp ht
    rcases ct.2 with l | ⟨e, _⟩
    · rw [List.length_append, hl] at l
      have : [c].length = 1 := rfl
      omega
    · refine hn ?_
      have := congrArg (List.take 6) e
      rw [List.take_replicate, List.take_append_of_le_length (by omega), List.take_of_length_le (by omega), List.length_append, hl] at this
      exact this
  refine ⟨?_, ?_⟩
  · rw [many_by kn (cs := []) .nil fun t => ⟨fun h => absurd h (hc t), fun h => by cases h⟩]
    unfold M.size
    rw [hl]
    rfl
  · have w := Lst.start kn ((hk s).mpr hs)
    have := Lst.found (st := []) (h := s) (by decide) kn ((hk s).mpr hs) w fun u hu => absurd hu (hc u)
    rw [hl] at this
    exact this
theorem rep_kid (k : Nat) : List.replicate (k + 1) b = List.replicate k b ++ [b] := List.replicate_succ'
theorem chain_ch (hb : b = 48 ∨ b = 49) (kn : M.Known 100 ks) (hk : ∀ t, t ∈ ks ↔ Crowd b t) {k : Nat} (h6 : 6 ≤ k) (h1 : k < 100) : t ∈ M.ch ks (List.replicate k b) ↔ t ∈ [List.replicate k b ++ [b]] := by
  rw [crowd_ch kn hk (Crowd.chain hb (by omega)), List.mem_singleton]
  constructor
  · rintro ⟨ct, c, rfl⟩
    rcases ct.2 with l | ⟨e, _⟩
    · rw [List.length_append, List.length_replicate] at l
      have : [c].length = 1 := rfl
      omega
    · have := congrArg (fun l : List Nat => l.getLast?) e
      rw [List.length_append, List.length_replicate] at this
      have e1 : [c].length = 1 := rfl
      rw [e1, rep_kid] at this
      simp at this
      rw [this]
  · rintro rfl
    rw [← rep_kid]
    exact ⟨Crowd.chain hb (by omega), b, rep_kid k⟩
theorem crowd_chain (hb : b = 48 ∨ b = 49) (kn : M.Known 100 ks) (hk : ∀ t, t ∈ ks ↔ Crowd b t) {k : Nat} (h6 : 6 ≤ k) (h1 : k < 100) : M.many 100 ks (List.replicate k b) = 2 ^ (99 - k) ∧ M.cellA 100 ks (List.replicate k b) = some (List.replicate k b ++ [97 - b] ++ List.replicate (99 - k) 48) := by
  have hc := fun t => chain_ch (t := t) hb kn hk h6 h1
  have hs := (hk _).mpr (Crowd.chain hb (show k ≤ 100 by omega))
  refine ⟨?_, ?_⟩
  · rw [many_by kn (cs := [List.replicate k b ++ [b]]) (by simp) hc]
    unfold M.size
    simp only [List.map_cons, List.map_nil, List.sum_cons, List.sum_nil, List.length_append, List.length_cons, List.length_nil, Nat.zero_add, List.length_replicate]
    rw [size_two (n := 100) (l := k) h1, show 100 - (k + 1) = 99 - k by omega]
    have := Nat.two_pow_pos (99 - k)
    omega
  · have w := Lst.start kn hs
    have hin : List.replicate k b ++ [b] ∈ M.ch ks (List.replicate k b) := (hc _).mpr (List.mem_singleton.mpr rfl)
    have hout : List.replicate k b ∉ M.ch ks (List.replicate k b) := fun h => by
      have := List.mem_singleton.mp ((hc _).mp h)
      have := congrArg List.length this
      rw [List.length_append] at this
      simp at this
    obtain ⟨_, w2⟩ := Lst.push (st := []) kn hs w hout ⟨_, hin, List.prefix_append _ _⟩
    rcases hb with rfl | rfl
    · have w3 := Lst.skip (st := [List.replicate k 48 ++ [49]]) (h := List.replicate k 48 ++ [48]) kn hs w2 hin
      have := Lst.found (st := []) (h := List.replicate k 48 ++ [49]) (by decide) kn hs w3 fun u hu hp => by
        have e := List.mem_singleton.mp ((hc u).mp hu)
        rw [e] at hp
        have := List.IsPrefix.eq_of_length hp (by simp)
        have := List.append_cancel_left this
        simp at this
      rw [List.length_append, List.length_replicate, show 100 - (k + [49].length) = 99 - k by show 100 - (k + 1) = _; omega] at this
      exact this
    · have := Lst.found (st := [List.replicate k 49 ++ [49]]) (h := List.replicate k 49 ++ [48]) (by decide) kn hs w2 fun u hu hp => by
        have e := List.mem_singleton.mp ((hc u).mp hu)
        rw [e] at hp
        have := List.IsPrefix.eq_of_length hp (by simp)
        have := List.append_cancel_left this
        simp at this
      rw [List.length_append, List.length_replicate, show 100 - (k + [48].length) = 99 - k by show 100 - (k + 1) = _; omega] at this
      exact this
theorem crowd_end (hb : b = 48 ∨ b = 49) (kn : M.Known 100 ks) (hk : ∀ t, t ∈ ks ↔ Crowd b t) : M.many 100 ks (List.replicate 100 b) = 1 ∧ M.cellA 100 ks (List.replicate 100 b) = some (List.replicate 100 b) := by
  have hs := (hk _).mpr (Crowd.chain hb (show 100 ≤ 100 by omega))
  have hc : ∀ t, t ∉ M.ch ks (List.replicate 100 b) := fun t ht => by
    obtain ⟨ct, c, rfl⟩ := (crowd_ch kn hk (Crowd.chain hb (by omega))).mp ht
    have := kn.fit _ ((hk _).mpr ct)
    rw [List.length_append, List.length_replicate] at this
    have : [c].length = 1 := rfl
    omega
  refine ⟨?_, ?_⟩
  · rw [many_by kn (cs := []) .nil fun t => ⟨fun h => absurd h (hc t), fun h => by cases h⟩]
    unfold M.size
    rw [List.length_replicate]
    rfl
  · have := Lst.found (st := []) (h := List.replicate 100 b) (by decide) kn hs (Lst.start kn hs) fun u hu => absurd hu (hc u)
    rw [List.length_replicate, show 100 - 100 = 0 from rfl, List.replicate_zero, List.append_nil] at this
    exact this
theorem crowd_lg1 (hb : b = 48 ∨ b = 49) (kn : M.Known 100 ks) (hk : ∀ t, t ∈ ks ↔ Crowd b t) : M.lg ks (List.replicate 100 b) = List.replicate 100 b :=
  M.lg_eq kn.all ⟨(hk _).mpr (Crowd.chain hb (by omega)), List.prefix_refl _, fun q _ hp => hp.length_le⟩
theorem crowd_lg2 (hb : b = 48 ∨ b = 49) (kn : M.Known 100 ks) (hk : ∀ t, t ∈ ks ↔ Crowd b t) : M.lg ks (List.replicate 50 b ++ [97 - b] ++ List.replicate 49 b) = List.replicate 50 b := by
  refine (M.cell_iff kn.all ((hk _).mpr (Crowd.chain hb (by omega)))).mpr ⟨by rw [List.append_assoc]; exact List.prefix_append _ _, fun c hc hp => ?_⟩
  have e := List.mem_singleton.mp ((chain_ch hb kn hk (by omega) (by omega)).mp hc)
  subst e
  rw [List.append_assoc, List.prefix_append_right_inj] at hp
  have := List.prefix_cons_iff.mp (show [b] <+: (97 - b) :: List.replicate 49 b from hp)
  rcases this with h | ⟨r, h, _⟩
  · cases h
  · have := (List.cons.inj h).1
    rcases hb with rfl | rfl <;> omega
end
open PySem PySem.Spec PyProof.Rows L2
/-! ## dicts of flat values compared, equal or not -/
def allEq (ks ls : List (Key × V)) : Bool := ks.all fun p => match valV ls p.1 with
  | some v => eqV p.2 v
  | none => false
theorem hits_any {A : Around} {s : Shared} {ls : List (Key × V)} {vb : List (Key × Value)} (rb : KV ls vb) (fl : ∀ p ∈ ls, flatV p.2 = true) {ks : List (Key × V)} {va : List (Key × Value)} (ra : KV ks va) :
    (∀ p ∈ ks, flatV p.2 = true) → PySem.W.KeqHits A s vb va (allEq ks ls) := by
  unfold KV at ra
  induction ra with
  | nil => intro _; exact .nil
  | @cons p q ps qs h t ih =>
    intro hp
    obtain ⟨h1, h2⟩ := h
    obtain ⟨k, v⟩ := q
    have h1' : p.1 = k := h1
    have hv := rb.val p.1
    have ih' := ih fun p' hm => hp p' (List.mem_cons_of_mem _ hm)
    have e : allEq (p :: ps) ls = ((match valV ls p.1 with | some v => eqV p.2 v | none => false) && allEq ps ls) := rfl
    rw [e]
    cases hl : valV ls p.1 with
    | none =>
      rw [hl, h1'] at hv
      have hn : valueAt vb k = none := by
        cases hx : valueAt vb k with
        | none => rfl
        | some y => rw [hx] at hv; cases hv
      exact .miss hn
    | some x =>
      have rr : RelO (some x) (valueAt vb p.1) := by rw [← hl]; exact hv
      obtain ⟨y, hy, ry⟩ := rr.some_of
      rw [h1'] at hy
      have fx : flatV x = true := by
        have hm : ∃ p' ∈ ls, p'.2 = x := by
          unfold valV at hl
          cases hf : ls.find? (fun kv => decide (kv.1 = p.1)) with
          | none => rw [hf] at hl; cases hl
          | some p' =>
            rw [hf] at hl
            exact ⟨p', List.mem_of_find?_eq_some hf, Option.some.inj hl⟩
        obtain ⟨p', hp', rfl⟩ := hm
        exact fl p' hp'
      exact .hit hy (eqAt_V h2 ry (hp p List.mem_cons_self) fx) ih'
section
variable {X : Cx}
def rEqDT : R2 := fun x y H Q => ∃ a b ks ls, x = .ref a ∧ y = .ref b ∧ H a = some (.dK ks) ∧ H b = some (.dK ls) ∧ (∀ p ∈ ks, flatV p.2 = true) ∧ (∀ p ∈ ls, flatV p.2 = true) ∧ Q (.bl (ks.length == ls.length && allEq ks ls)) H
theorem op_eq_dictT (hu : X.A.units < cLine) : OpR X (compareOp .Eq) rEqDT := by
  intro pins s σ H x y v u Q I rx ry h
  obtain ⟨a, b, ks, ls, rfl, rfl, ea, eb, fa, fb, q⟩ := h
  obtain rfl : v = Value.ref a := rx
  obtain rfl : u = Value.ref b := ry
  obtain ⟨_, ya, va, ra, da⟩ := (show ObjOk X.prog X.w H s.heap a (.dK ks) from I.hok a _ ea)
  obtain ⟨_, yb, vb, rb, db⟩ := (show ObjOk X.prog X.w H s.heap b (.dK ls) from I.hok b _ eb)
  have l1 : ks.length = va.length := ra.length
  have l2 : ls.length = vb.length := rb.length
  exact PySem.W.keq_eq (knd := mixKind X.prog X.w) (r := allEq ks ls) ya yb da db hu (fun _ => hits_any rb fb ra fa) (fin_bl I q (by rw [l1, l2]))
end
open PySem PySem.Spec PyProof.Rows L2
/-! ## != of two of a class that has == alone -/
section
variable {M : Model} {prog : Program} {w : World} {A : Around} {E : Value → Shared → Prop} {s : Shared} {K : PySem.W.Frag} {x C f : Addr} {b : Value} {ox : Obj} {od : Option Obj}
theorem entry_ownNe (X : K.In s.heap) (I : PySem.W.InstAt s.heap x ox C od) (hu : A.units < cLine) (he : PySem.W.findIn K (.ref C) "__eq__" = some (some (.ref f))) (hf : PySem.W.isFn K (.ref f) = true) {Q : Fin → Shared → Prop}
    (h : wpAny (model prog w) A (call (.ref f) [.ref x, b]) (fun v s' => ∃ c, v = .bool c ∧ Q (.done (.ret (.bool (!c)))) s') E s) : wpAny (model prog w) A (Builtin.«object.__ne__» ⟨[.ref x, b], []⟩) Q E s := by
  unfold Builtin.«object.__ne__»
  repeat (first
    | with_reducible refine wpAny_cRoomFor hu ?_
    | (refine wpAny_bind (m := callSpecialIfBound? (.ref x) (Str.ofString "__eq__") [b])
        (PySem.W.ifBound_K X I he hf (wpAny_mono h (fun r s' hr => by
          obtain ⟨c, rfl, hq⟩ := hr
          repeat (first | exact hq | exact wpAny_pure hq | exact wpAny_truthy_bool hq | (refine wpAny_bind (m := truthy (.bool _)) (wpAny_truthy_bool ?_)) | wp_step)) fun _ _ e => e)))
    | wp_step)
theorem ifBound_objNe {args : List Value} {Q : Option Value → Shared → Prop} (X : K.In s.heap) (I : PySem.W.InstAt s.heap x ox C od) (hs : PySem.W.findIn K (.ref C) "__ne__" = some (some (.builtin "object.__ne__")))
    (h : wpAny M A (call (.builtin "object.__ne__") (.ref x :: args)) (fun v => Q (some v)) E s) : wpAny M A (callSpecialIfBound? (.ref x) "__ne__" args) Q E s := by
  simp only [callSpecialIfBound?, bindSpecialIfBound?]
  refine wpAny_holding (wpAny_bind (wpAny_bind (wpAny_bind (I.type.here ((PySem.W.looks_findIn X hs).here ?_)))))
  refine wpAny_bind (wpAny_askSetting (wpAny_ite ?_))
  have fin : wpAny M A (call (.builtin "object.__ne__") ([.ref x] ++ args) >>= fun v => pure (some v)) Q E s := wpAny_bind (wpAny_mono h (fun v s' h' => wpAny_pure h') fun _ _ h' => h')
  split
  · exact wpAny_bind (wpAny_of_eq (F.cmp_object.ne.bind _) (wpAny_pure (by exact fin)))
  · exact wpAny_tryCatch (wpAny_bind (wpAny_of_eq (F.cmp_object.ne.bind _) (wpAny_pure (by exact fin))))
theorem neO {tb : Value} {Q : Value → Shared → Prop} (hu : A.units + 1 < cLine) (X : K.In s.heap) (I : PySem.W.InstAt s.heap x ox C od) (hb : PySem.W.Looks (model prog w) s.heap (typeOf b) tb) (hn : PySem.W.notFirst K C tb = true) (hm : PySem.W.mroIn K C (.type "object") = some true)
    (hs : PySem.W.findIn K (.ref C) "__ne__" = some (some (.builtin "object.__ne__"))) (he : PySem.W.findIn K (.ref C) "__eq__" = some (some (.ref f))) (hf : PySem.W.isFn K (.ref f) = true)
    (h : wpAny (model prog w) A.in1 (call (.ref f) [.ref x, b]) (fun v s' => ∃ c, v = .bool c ∧ Q (.bool (!c)) s') E s) : wpAny (model prog w) A (richCompare .NotEq (.ref x) b) Q E s := by
  have one : wpAny (model prog w) A (tryCompare (.ref x) "__ne__" b) (fun r s' => ∃ v, r = some v ∧ Q v s') E s := by
    unfold tryCompare
    refine wpAny_bind (ifBound_objNe X I hs (wpAny_call (codeAny_call_builtin F.cmp_object.ne.plain F.cmpEntry_ne (PySem.W.check_slot F.cmpKind_ne F.cmpSplit_ne (I.type.andThen (PySem.W.looks_mroIn X hm)) (F.cmpArgs_ne _ _)
      (entry_ownNe X I (by exact hu) he hf (wpAny_mono h (fun v s' hv => ?_) fun _ _ e => e))))))
    obtain ⟨c, rfl, hq⟩ := hv
    first | exact ⟨c, rfl, wpAny_pure ⟨_, rfl, hq⟩⟩ | exact ⟨c, rfl, wpAny_pure (wpAny_pure ⟨_, rfl, hq⟩)⟩ | exact ⟨c, rfl, _, rfl, hq⟩
  unfold richCompare
  simp only [oneThing_ref]
  refine wpAny_holding (wpAny_bind (wpAny_cRoomFor (Nat.lt_of_succ_lt hu) ?_))
  rw [cmpInfo_NotEq]
  dsimp only
  refine wpAny_bind (I.type.here (wpAny_bind (hb.here ?_)))
  split
  · rename_i q
    have e : PySem.W.subIn K tb (.ref C) = some false := by
      rcases Bool.or_eq_true_iff.mp hn with e | e
      · rw [beq_iff_eq.mp e] at q; simp at q
      · exact beq_iff_eq.mp e
    refine wpAny_bind ((PySem.W.looks_subIn X e).here ?_)
    simp only [Bool.false_eq_true, if_false]
    refine wpAny_bind (wpAny_mono one (fun r s' z => ?_) fun _ _ e => e)
    obtain ⟨v, rfl, hq⟩ := z
    exact wpAny_pure hq
  · refine wpAny_bind (wpAny_pure ?_)
    simp only [Bool.false_eq_true, if_false]
    refine wpAny_bind (wpAny_mono one (fun r s' z => ?_) fun _ _ e => e)
    obtain ⟨v, rfl, hq⟩ := z
    exact wpAny_pure hq
end
section
variable {X : Cx} {CX : CXT} {k j : Nat} {C : Addr} {q : Str} {st : Stmt} {ps : List Str} {sp : Sp} {E : XK}
def rNeS (C : Addr) (sp : Sp) (E : XK) : R2 := fun x y H Q => IsI H C x ∧ IsI H C y ∧ sp [x, y] H (fun v H' => ∃ c, v = .bl c ∧ Q (.bl (!c)) H') E
theorem op_neS (c : Mth X.prog X.w X.K X.mg X.base CX k C "__eq__" q st ps sp) (hr : RoomG j X.A) (hk : k + 1 ≤ j) (hx : Passes CX X E) (b : BndMP "__eq__" q st ps) (hs : PySem.W.findIn X.K (.ref C) "__ne__" = some (some (.builtin "object.__ne__"))) (ho : PySem.W.mroIn X.K C (.type "object") = some true) :
    OpR X (compareOp .NotEq) (rNeS C sp E) := by
  intro pins s σ H x y v u Q I rx ry h
  obtain ⟨⟨a, dx, fs, rfl, ea⟩, ⟨a', dx', fs', rfl, ea'⟩, q⟩ := h
  obtain rfl : v = Value.ref a := rx
  obtain rfl : u = Value.ref a' := ry
  obtain ⟨f, fd, F, hm, hfi, G⟩ := c.ex
  obtain ⟨oc, od, kV, doc, pm, an, cdv, ct, osl, rfl, lk, hcd⟩ := F.ex
  obtain ⟨od, J⟩ := ins_at I ea
  obtain ⟨od', J'⟩ := ins_at I ea'
  have hn : PySem.W.notFirst X.K C (.ref C) = true := by
    unfold PySem.W.notFirst
    rw [beq_self_eq_true, Bool.true_or]
  have h1 := G.len _ _ _ _ q
  unfold compareOp
  refine neO hr.u1 I.kIn J J'.type hn ho hs hm.at_ hm.fn (run_in1 G (hr.mono hk) (.of_eq (b kV doc pm cdv ct an [.ref a, .ref a'] h1)) hx I (.cons rfl (.cons rfl .nil) : Vals [.ref a, .ref a'] [.ref a, .ref a']) q fun u s' z => ?_)
  obtain ⟨v, H', I3, rv, c, rfl, q3⟩ := z
  cases rv
  exact ⟨c, rfl, .bl (!c), H', I3, rfl, q3⟩
end
section
variable {X : Cx}
def rNeDT : R2 := fun x y H Q => ∃ a b ks ls, x = .ref a ∧ y = .ref b ∧ H a = some (.dK ks) ∧ H b = some (.dK ls) ∧ (∀ p ∈ ks, flatV p.2 = true) ∧ (∀ p ∈ ls, flatV p.2 = true) ∧ Q (.bl (!(ks.length == ls.length && allEq ks ls))) H
theorem op_ne_dictT (hu : X.A.units < cLine) : OpR X (compareOp .NotEq) rNeDT := by
  intro pins s σ H x y v u Q I rx ry h
  obtain ⟨a, b, ks, ls, rfl, rfl, ea, eb, fa, fb, q⟩ := h
  obtain rfl : v = Value.ref a := rx
  obtain rfl : u = Value.ref b := ry
  obtain ⟨_, ya, va, ra, da⟩ := (show ObjOk X.prog X.w H s.heap a (.dK ks) from I.hok a _ ea)
  obtain ⟨_, yb, vb, rb, db⟩ := (show ObjOk X.prog X.w H s.heap b (.dK ls) from I.hok b _ eb)
  have l1 : ks.length = va.length := ra.length
  have l2 : ls.length = vb.length := rb.length
  exact PySem.W.keq_ne (knd := mixKind X.prog X.w) (r := allEq ks ls) ya yb da db hu (fun _ => hits_any rb fb ra fa) (fin_bl I q (by rw [l1, l2]))
end
open PySem PySem.Spec PyProof.Rows L2
/-! ## sorted(d.items()), d a dict of texts -/
def pLt (p q : Str × Str) : Bool := if p.1 = q.1 then tLt p.2 q.2 else tLt p.1 q.1
theorem pLe_tr {a b c : Str × Str} (h1 : pLt b a = false) (h2 : pLt c b = false) : pLt c a = false := by
  unfold pLt at *
  by_cases e1 : b.1 = a.1
  · rw [if_pos e1] at h1
    by_cases e2 : c.1 = b.1
    · rw [if_pos e2] at h2
      rw [if_pos (e2.trans e1)]
      exact tLe_tr h1 h2
    · rw [if_neg e2] at h2
      rw [if_neg (fun e => e2 (e.trans e1.symm)), ← e1]
      exact h2
  · rw [if_neg e1] at h1
    by_cases e2 : c.1 = b.1
    · rw [if_neg (fun e => e1 (e2.symm.trans e)), e2]
      exact h1
    · rw [if_neg e2] at h2
      by_cases e3 : c.1 = a.1
      · rw [e3] at h2
        exact absurd (tLt_tot h1 h2) e1
      · rw [if_neg e3]
        exact tLe_tr h1 h2
theorem pLe_tot (a b : Str × Str) : (!pLt b a || !pLt a b) = true := by
  have as : ∀ x y : Str, tLt x y = true → tLt y x = false := fun x y h => by
    cases e : tLt y x with
    | false => rfl
    | true => exact absurd (tLt_tr h e) (by rw [tLt_irr]; decide)
  unfold pLt
  by_cases e1 : b.1 = a.1
  · rw [if_pos e1, if_pos e1.symm]
    cases e : tLt b.2 a.2 with
    | false => rfl
    | true => rw [as _ _ e]; rfl
  · rw [if_neg e1, if_neg (Ne.symm e1)]
    cases e : tLt b.1 a.1 with
    | false => rfl
    | true => rw [as _ _ e]; rfl
def encP (b : Addr × Str × Str) : PyData := .tuple [.str b.2.1, .str b.2.2]
theorem dle_pair (a b : Addr × Str × Str) : PySem.W.dataLe false encP a b = !pLt b.2 a.2 := by
  rw [PySem.W.dataLe_eq]
  show (!PySem.W.dataLt (.tuple [.str b.2.1, .str b.2.2]) (.tuple [.str a.2.1, .str a.2.2])) = _
  rw [PySem.W.dataLt_pair (by rfl) (by rfl)]
  unfold pLt tLt
  have ev : ∀ x y : Str, PyData.eqv (.str x) (.str y) = decide (x = y) := fun x y => by
    show (x == y) = _
    rw [Bool.eq_iff_iff, beq_iff_eq, decide_eq_true_iff]
  rw [ev, ev, PySem.W.dataLt_str, PySem.W.dataLt_str]
  by_cases e1 : b.2.1 = a.2.1
  · rw [if_pos (decide_eq_true e1), if_pos e1]
    by_cases e2 : b.2.2 = a.2.2
    · rw [if_pos (decide_eq_true e2), e2]
      have := tLt_irr a.2.2
      unfold tLt at this
      rw [this]
    · rw [if_neg (by rw [decide_eq_false e2]; decide)]
  · rw [if_neg (by rw [decide_eq_false e1]; decide), if_neg e1]
theorem sort_pairs (zs : List (Addr × Str × Str)) : (zs.mergeSort (PySem.W.dataLe false encP)).Pairwise (fun a b => pLt b.2 a.2 = false) := by
  have h := List.pairwise_mergeSort (le := PySem.W.dataLe false encP) (fun a b c h1 h2 => by
    rw [dle_pair] at *
    have h1' : pLt b.2 a.2 = false := by simpa using h1
    have h2' : pLt c.2 b.2 = false := by simpa using h2
    rw [pLe_tr h1' h2']
    rfl) (fun a b => by
    rw [dle_pair, dle_pair]
    exact pLe_tot a.2 b.2) zs
  refine h.imp fun {a b} z => ?_
  rw [dle_pair] at z
  simpa using z
theorem each_of {P : Value → Addr × Str × Str → Prop} : ∀ {as : List Addr} {m : List (Str × Str)}, as.length = m.length → (∀ z ∈ as.zip m, P (.ref z.1) z) → PySem.W.EachIs P (as.map Value.ref) (as.zip m)
  | [], [], _, _ => .nil
  | a :: as, q :: m, hl, h => .cons (h (a, q) (List.mem_cons_self ..)) (each_of (by simpa using hl) fun z hz => h z (List.mem_cons_of_mem _ hz))
  | [], _ :: _, hl, _ => by simp at hl
  | _ :: _, [], hl, _ => by simp at hl
theorem each_out : ∀ {out : List Value} {zs : List (Addr × Str × Str)}, PySem.W.EachIs (fun v b => v = Value.ref b.1) out zs → out = zs.map fun z => Value.ref z.1
  | _, _, .nil => rfl
  | _, _, .cons h r => by rw [h, each_out r]; rfl
theorem pairs_at2 {P : Program} {w : World} : ∀ {es : List DictEntry} {kvs : List (Key × Value)}, Pairs (mixKind P w) es kvs → ∀ {j : Nat} {e : DictEntry}, es[j]? = some e → ∃ kv, kvs[j]? = some kv ∧ (mixKind P w).is kv.1 e.key = true ∧ e.val = kv.2
  | _, _, .nil, j, e, h => by simp at h
  | _, _, .cons h1 h2 r, 0, e, h => by cases h; exact ⟨_, rfl, h1, h2⟩
  | _, _, .cons h1 h2 r, j + 1, e, h => pairs_at2 r (by simpa using h)
section
variable {X : Cx}
def rItemsK : V → List V → Hp → VK → Prop := fun x xs H Q => ∃ (a : Addr) (kvs : List (Key × V)), x = .ref a ∧ xs = [] ∧ H a = some (.dK kvs) ∧ ∀ p, H p = none → Q (.ref p) (upd H p (DX.itemsO p a))
theorem mt_itemsK : MtR X "dict.items" rItemsK := by
  intro pins s σ H x xs v us Q I rx rxs h
  obtain ⟨a, kvs, rfl, rfl, ha, q⟩ := h
  cases rx
  cases rxs
  obtain ⟨hz, hs0, vs, kv, hdo⟩ := I.hok a _ ha
  obtain ⟨o, es, ep, ho, hx, hdat, _⟩ := hdo
  refine DT.callItems (es := es) (ep := ep) hs0 ⟨o, ho, hx, hdat⟩ ?_
  have hf : H s.heap.objs.size = none := I.hok.fresh (Nat.le_refl _)
  exact ⟨.ref s.heap.objs.size, upd H s.heap.objs.size (DX.itemsO s.heap.objs.size a), I.laid (t' := s.toks) (fun b u e => Heap.get?_push_of_some _ e) (Nat.le_refl _) (DX.itemsO_ok (Heap.get?_push_size _ rfl)), rfl, q _ hf⟩
def tkP (m : List (Str × Str)) : List (Key × V) := m.map fun p => (Sum.inr p.1, V.str p.2)
def rSortIt2 : List V → Hp → VK → Prop := fun vs H Q => ∃ (p a : Addr) (m : List (Str × Str)), vs = [.ref p] ∧ H p = some (DX.itemsO p a) ∧ H a = some (.dK (tkP m)) ∧ m.length ≤ 1000 ∧
  ∀ (H' : Hp) (l : Addr) (zs : List (Addr × Str × Str)), (∀ b o, H b = some o → H' b = some o) → H l = none → (zs.map (·.2)).Perm m → zs.Pairwise (fun a b => pLt b.2 a.2 = false) → H' l = some (.lst (zs.map fun z => V.ref z.1)) →
    (∀ z ∈ zs, H' z.1 = some (.tup [.str z.2.1, .str z.2.2])) → Q (.ref l) H'
theorem cr_sortedIt (hc : X.calm = true) (hu : X.A.units + 64 < cLine) : CallR X (.builtin "sorted") rSortIt2 := by
  intro pins s σ H xs us Q I r h
  obtain ⟨p, a, m, rfl, hp, ha, hm, q⟩ := h
  obtain rfl := Vals.ref1 r
  have view : s.heap.IsItemsView p a := (show ObjOk X.prog X.w H s.heap p (DX.itemsO p a) from I.hok p _ hp).1
  obtain ⟨hz, hs0, kvs, kv, hdo⟩ := I.hok a _ ha
  obtain ⟨o, es, ep, ho, hx, hdat, _, hes, _⟩ := hdo
  have l1 : (tkP m).length = kvs.length := Paired.length kv
  have l1' : (tkP m).length = m.length := by unfold tkP; rw [List.length_map]
  have les : ∀ {es : List DictEntry} {kvs : List (Key × Value)}, Pairs (mixKind X.prog X.w) es kvs → es.length = kvs.length := fun {es kvs} h => by
    induction h with
    | nil => rfl
    | cons _ _ _ ih => exact congrArg Nat.succ ih
  have l2 : es.size = kvs.length := by rw [← Array.length_toList]; exact les hes
  have hh : X.A.handled = none := I.ok.hd hc
  refine DT.sortedI (es := es) (ep := ep) hh view ⟨o, ho, hx, hdat⟩ (by rw [sizeLine_eq]; omega) fun h' tk as hk hlt hl hG => ?_
  have lak : as.length = m.length := by omega
  have nd : as.Nodup := List.Pairwise.imp (fun h => Nat.ne_of_lt h) hG.rise
  have pr : ∀ (j : Nat) (b : Addr), as[j]? = some b → ∃ (q : Str × Str) (t1 t2 : Tok), m[j]? = some q ∧ h'.get? b = some { cls := .type "tuple", data := .seq #[Value.str q.1 t1, Value.str q.2 t2] } := by
    intro j b hj
    obtain ⟨en, he, hg⟩ := hG.pairs j b hj
    obtain ⟨kv0, k1, k2, k3⟩ := pairs_at2 hes (by rw [Array.getElem?_toList]; exact he)
    have hjl : j < m.length := by
      have := (List.getElem?_eq_some_iff.mp hj).1
      omega
    have hmj : m[j]? = some m[j] := by simp [hjl]
    have htk : (tkP m)[j]? = some (Sum.inr m[j].1, V.str m[j].2) := by
      unfold tkP
      rw [List.getElem?_map, hmj]
      rfl
    obtain ⟨y, g1, g2, g3⟩ := LiI.paired_get kv htk
    obtain rfl : y = kv0 := Option.some.inj (g1.symm.trans k1)
    have rk : RelV (kV (Sum.inr m[j].1)) en.key := by
      have g2' : (Sum.inr m[j].1 : Key) = y.1 := g2
      rw [← g2'] at k2
      exact relV_key k2
    obtain ⟨t1, ht1⟩ := rk
    obtain ⟨t2, ht2⟩ := g3
    refine ⟨m[j], t1, t2, hmj, ?_⟩
    rw [hg, ht1, k3, ht2]
  have hob : (h'.push { cls := .type "list", data := .seq (as.map Value.ref).toArray }).get? h'.objs.size = some (seqObj "list" (as.map Value.ref).toArray 0) := Heap.get?_push_size _ rfl
  have kb : ∀ b o, s.heap.get? b = some o → (h'.push { cls := .type "list", data := .seq (as.map Value.ref).toArray }).get? b = some o := fun b o e => Heap.get?_push_of_some _ (hk b o e)
  have ne0 : ∀ b o, h'.get? b = some o → b ≠ h'.objs.size := fun b o e => Nat.ne_of_lt (Heap.lt_size e)
  generalize hh2 : h'.push { cls := .type "list", data := .seq (as.map Value.ref).toArray } = h2 at hob kb ⊢
  have ka : ∀ b o, h'.get? b = some o → h2.get? b = some o := fun b o e => by rw [← hh2]; exact Heap.get?_push_of_some _ e
  have idx0 : ∀ z ∈ as.zip m, ∃ j : Nat, as[j]? = some z.1 ∧ m[j]? = some z.2 := by
    intro z' hz'
    obtain ⟨j, hj⟩ := List.mem_iff_getElem?.mp hz'
    exact ⟨j, List.getElem?_zip_eq_some.mp hj⟩
  refine PySem.W.list_sort_data (s := { s with heap := h2, toks := tk }) (vs := as.map Value.ref) (bs := as.zip m) (enc := encP) (R := fun v b => v = Value.ref b.1) hob (each_of lak fun _ _ => rfl) (each_of lak fun z hz => ?_)
    (PySem.W.AllAlike.of fun b b' => by rfl) (PySem.W.Sortable.tuples fun b => ⟨_, _, rfl⟩) ?_ (fun b _ => ?_) fun out o1 o2 => ?_
  · obtain ⟨j, j1, j2⟩ := idx0 z hz
    obtain ⟨q0, t1, t2, e1, e2⟩ := pr j z.1 j1
    have e3 : q0 = z.2 := Option.some.inj (e1.symm.trans j2)
    rw [e3] at e2
    exact ⟨[], .tuple (ka _ _ e2) rfl rfl (.cons (.str _ _) (.cons (.str _ _) .nil)), List.not_mem_nil⟩
  · rw [List.length_zip, sizeLine_eq]
    omega
  · have hd : (encP b).depth = 1 := by unfold encP; simp [PyData.depth, PyData.depthAll]
    rw [hd]
    show X.A.units + 1 + 1 + 1 < cLine
    omega
  · show EP X pins σ Q (.ref h'.objs.size) { s with heap := sortedHeap h2 h'.objs.size (as.map Value.ref) (List.toArray out), toks := tk }
    have hout : out = ((as.zip m).mergeSort (PySem.W.dataLe false encP)).map fun z => Value.ref z.1 := each_out o2
    have pz : ((as.zip m).mergeSort (PySem.W.dataLe false encP)).Perm (as.zip m) := List.mergeSort_perm _ _
    have hsort := sort_pairs (as.zip m)
    generalize (as.zip m).mergeSort (PySem.W.dataLe false encP) = zs at hout pz hsort
    have idx : ∀ z ∈ zs, ∃ j : Nat, as[j]? = some z.1 ∧ m[j]? = some z.2 := fun z hz => idx0 z (pz.mem_iff.mp hz)
    have hperm : (zs.map (·.2)).Perm m := by
      have e := pz.map (·.2)
      have m2 : (as.zip m).map (·.2) = m := List.map_snd_zip (by rw [lak]; exact Nat.le_refl _)
      rw [m2] at e
      exact e
    have kF : ∀ b o, b ≠ h'.objs.size → h2.get? b = some o → (sortedHeap h2 h'.objs.size (as.map Value.ref) (List.toArray out)).get? b = some o := fun b o hb e => (PyProof.Rows.sortedHeap_old hb (Heap.lt_size e)).trans e
    have kS : ∀ b o, s.heap.get? b = some o → (sortedHeap h2 h'.objs.size (as.map Value.ref) (List.toArray out)).get? b = some o := fun b o e => kF b o (ne0 _ _ (hk b o e)) (kb b o e)
    obtain ⟨eF, heF⟩ := PyProof.Rows.sortedHeap_at (vs := as.map Value.ref) (out := List.toArray out) hob
    have I1 : Inv X pins σ H { s with heap := sortedHeap h2 h'.objs.size (as.map Value.ref) (List.toArray out), toks := tk } := I.kept (t' := tk) kS
    have hn0 : H h'.objs.size = none := I.hok.fresh (Nat.le_of_lt hlt)
    have hlen : (zs.map fun z => V.ref z.1).length ≤ sizeLine := by
      have e := hperm.length_eq
      rw [List.length_map] at e
      rw [List.length_map, sizeLine_eq]
      omega
    have rv : Vals (zs.map fun z => V.ref z.1) out := by
      rw [hout]
      exact vals_maps (fun z : Addr × Str × Str => V.ref z.1) (fun z => Value.ref z.1) zs fun _ _ => rfl
    have I2 : Inv X pins σ (upd H h'.objs.size (.lst (zs.map fun z => V.ref z.1))) { s with heap := sortedHeap h2 h'.objs.size (as.map Value.ref) (List.toArray out), toks := tk } :=
      I1.take (h' := sortedHeap h2 h'.objs.size (as.map Value.ref) (List.toArray out)) (t' := tk) (fun b ob _ e => e) (I.fpOk (Nat.le_of_lt hlt) hn0) ⟨hlen, out, eF, rv, heF⟩
    obtain ⟨H2, I3, g, qt⟩ := DX.takeT (P := fun b vs => ∃ (j : Nat) (q0 : Str × Str), as[j]? = some b ∧ m[j]? = some q0 ∧ vs = [.str q0.1, .str q0.2]) I as _ I2 nd fun b hb => by
      obtain ⟨j, hj⟩ := List.mem_iff_getElem?.mp hb
      obtain ⟨q0, t1, t2, he, hg⟩ := pr j b hj
      have hbl : s.heap.objs.size ≤ b := Nat.le_of_lt (hG.above b hb)
      refine ⟨hbl, ?_, [.str q0.1, .str q0.2], ⟨j, q0, hj, he, rfl⟩, fun H3 => ⟨(by rw [sizeLine_eq]; show 2 ≤ 16777216; omega), [Value.str q0.1 t1, Value.str q0.2 t2], .cons ⟨t1, rfl⟩ (.cons ⟨t2, rfl⟩ .nil), ⟨_, kF _ _ (ne0 _ _ hg) (ka _ _ hg), rfl, 0, rfl⟩⟩⟩
      rw [upd_ne (ne0 _ _ hg)]
      exact I.hok.fresh hbl
    have gr : ∀ b o, H b = some o → H2 b = some o := fun b o e => g b o (by rw [upd_ne (ne_of_none e hn0)]; exact e)
    refine ⟨.ref h'.objs.size, H2, I3, rfl, q H2 h'.objs.size zs gr hn0 hperm hsort (g _ _ upd_same) fun z' hz' => ?_⟩
    obtain ⟨i, i1, i2⟩ := idx z' hz'
    obtain ⟨vs, ⟨j, q0, j1, j2, ev⟩, hH⟩ := qt z'.1 (List.mem_of_getElem? i1)
    have eij : i = j := (List.getElem?_inj (List.getElem?_eq_some_iff.mp i1).1 nd).mp (i1.trans j1.symm)
    subst eij
    have ee : q0 = z'.2 := Option.some.inj (j2.symm.trans i2)
    rw [ev, ee] at hH
    exact hH
end
/-! ## sorted(xs), xs a list of tuples that begin with unlike texts -/
open PySem PySem.Spec PyProof.Rows L2 SrtO
def IsTx (h : Heap) (v : Value) (z : Str) : Prop := ∃ a o t r n, v = .ref a ∧ h.get? a = some o ∧ o.cls = .type "tuple" ∧ o.data = .seq (Value.str z t :: r).toArray n
theorem IsTx.keeps {h h' : Heap} {v : Value} {z : Str} (p : IsTx h v z) (k : ∀ b o, h.get? b = some o → o.cls = .type "tuple" → h'.get? b = some o) : IsTx h' v z := by
  obtain ⟨a, o, t, r, n, e, ho, hc, hd⟩ := p
  exact ⟨a, o, t, r, n, e, k _ _ ho hc, hc, hd⟩
theorem tx_firsts {h : Heap} : ∀ {vs : List Value}, (∀ v ∈ vs, ∃ z, IsTx h v z) → ∃ fs : List Value, PySem.W.KatTups h vs fs ∧ fs.length = vs.length ∧ ∀ f ∈ fs, ∃ z t, f = Value.str z t
  | [], _ => ⟨[], PySem.W.KatTups.nil, rfl, fun _ hm => by simp at hm⟩
  | v :: vs, hp => by
    obtain ⟨fs, h1, h2, h3⟩ := tx_firsts (vs := vs) fun v' hm => hp v' (List.mem_cons_of_mem _ hm)
    obtain ⟨z, a, o, t, r, n, e, ho, hc, hd⟩ := hp v (List.mem_cons_self ..)
    subst e
    refine ⟨.str z t :: fs, PySem.W.KatTups.cons ho hc hd (by simp) h1, by rw [List.length_cons, List.length_cons, h2], fun f hm => ?_⟩
    rcases List.mem_cons.mp hm with rfl | hm
    · exact ⟨z, t, rfl⟩
    · exact h3 f hm
theorem swo_tx (k : Value → Str) : Swo fun v u => tLt (k v) (k u) := by
  refine ⟨fun x y h => ?_, fun x y z h1 h2 => tLe_tr h1 h2⟩
  cases e : tLt (k y) (k x) with
  | false => rfl
  | true =>
    have := tLt_tr h e
    rw [tLt_irr] at this
    cases this
section
variable {prog : Program} {w : World} {A : Around} {s : Shared}
theorem kat_same {b fin : Bool} {Q : Bool → Shared → Prop} : ∀ (l : List Value) (i : Nat), Q fin s → PySem.W.KatLex prog w A b fin Q (l.zip l) i s
  | [], _, h => PySem.W.kat_nil h
  | v :: l, i, h => PySem.W.kat_cons (SeqAt.EqAt.same v prog w _ _ (PySem.W.kat_yes (kat_same l (i + 1) h)))
theorem tx_cmp {vs : List Value} {k : Value → Str} (hp : ∀ v ∈ vs, IsTx s.heap v (k v)) (inj : ∀ v ∈ vs, ∀ u ∈ vs, k v = k u → v = u) : Cmp prog w A s (tuples' true) (fun p => p.1 ∈ vs) (lt2 fun v u => tLt (k v) (k u)) := by
  intro p q hm hm'
  have h1 := hp _ hm
  have h2 := hp _ hm'
  show wpAny (model prog w) A (keyLt' (tuples' true) p.1 q.1) (fun r s' => s' = s ∧ r = tLt (k p.1) (k q.1)) (fun _ _ => False) s
  by_cases e : k p.1 = k q.1
  · have e2 := inj _ hm _ hm' e
    rw [← e2, tLt_irr]
    obtain ⟨a, o, t, r, n, ea, ho, hc, hd⟩ := h1
    rw [ea]
    refine PySem.W.kat_lt ho hd ho hd ?_
    exact kat_same _ _ ⟨rfl, by simp⟩
  · obtain ⟨a, o, t, r, n, ea, ho, hc, hd⟩ := h1
    obtain ⟨a', o', t', r', n', ea', ho', hc', hd'⟩ := h2
    generalize k p.1 = x at e ho hd ⊢
    generalize k q.1 = y at e ho' hd' ⊢
    rw [ea, ea']
    refine PySem.W.kat_lt ho hd ho' hd' ?_
    show PySem.W.KatLex prog w A true _ _ ((.str x t, .str y t') :: r.zip r') 0 s
    refine PySem.W.kat_cons (SeqAt.EqAt.str_str x t y t' prog w _ _ ?_)
    refine PySem.W.kat_go (fun e1 => ?_) (fun e1 => ?_)
    · exact absurd (beq_iff_eq.mp e1) e
    · exact PySem.W.kat_no (oneLt_str ⟨rfl, rfl⟩)
theorem tx_sortableO {a : Addr} {vs : List Value} {k : Value → Str} (h0 : 0 < vs.length) (hp : ∀ v ∈ vs, IsTx s.heap v (k v)) (inj : ∀ v ∈ vs, ∀ u ∈ vs, k v = k u → v = u) (ha : ∀ o, s.heap.get? a = some o → o.cls ≠ .type "tuple") : SortableO prog w A s a vs fun v u => tLt (k v) (k u) := by
  intro h' keep
  have hp' : ∀ v ∈ vs, IsTx h' v (k v) := fun v hm => (hp v hm).keeps fun b o e c => keep b o (fun z => by subst z; exact ha o e c) e
  obtain ⟨fs, h1, h2, h3⟩ := tx_firsts fun v hm => ⟨_, hp' v hm⟩
  refine ⟨tuples' true, fun Q E hq => ?_, tx_cmp hp' inj⟩
  refine PySem.W.kat_kind (T := .type "str") h1 (by omega) (fun f hm => ?_) (by rfl) ?_
  · obtain ⟨x, t, rfl⟩ := h3 f hm
    exact PySem.W.Looks.now
  · have e : (Value.type "str" != Value.type "tuple") = true := by first | decide +kernel | rfl | decide
    rw [e]
    exact hq
theorem sorted_tx {l : Addr} {vs : List Value} {k : Value → Str} {E : Value → Shared → Prop} {Q : Value → Shared → Prop} (hl : s.heap.IsList l vs.toArray) (hz : vs.length ≤ sizeLine) (hp : ∀ v ∈ vs, IsTx s.heap v (k v)) (inj : ∀ v ∈ vs, ∀ u ∈ vs, k v = k u → v = u)
    (h : ∀ (h' : Heap) (d : Addr) (out : List Value), Srtd (fun v u => tLt (k v) (k u)) out → Stb (fun v u => tLt (k v) (k u)) out vs → (∀ b o, s.heap.get? b = some o → h'.get? b = some o) → s.heap.objs.size ≤ d → (∃ n, h'.get? d = some (seqObj "list" out.toArray n)) → Q (.ref d) { s with heap := h' }) :
    wpAny (model prog w) A (call (.builtin "sorted") [.ref l]) Q E s := by
  refine sorted_ord (swo_tx k) hl hz (fun h2 h₁ a ha kk => ?_) fun out hs hb => ?_
  · refine tx_sortableO (s := { s with heap := h₁ }) (by omega) (fun v hm => (hp v hm).keeps fun b o e _ => (kk b o e).2) inj fun o e => ?_
    have e' : some o = some (seqObj "list" vs.toArray 0) := e.symm.trans ha
    cases e'
    intro c
    exact absurd (Value.type.inj c) (by decide)
  · exact h _ _ out hs hb (fun b o e => sortedAll_old e) (Nat.le_succ _) (sortedAll_at s.heap vs out.toArray)
end
def rSortTx (K : PySem.W.Frag) : List V → Hp → VK → Prop := fun vs H Q => ∃ (a : Addr) (L : List (Addr × Str)), vs = [V.ref a] ∧ SqL K H a (L.map fun p => V.ref p.1) ∧ (∀ p ∈ L, ∃ xs, H p.1 = some (.tup (V.str p.2 :: xs))) ∧ (L.map (·.2)).Nodup ∧
  ∀ (M : List (Addr × Str)) q, M.Perm L → TS (M.map (·.2)) → H q = none → Q (.ref q) (upd H q (.lst (M.map fun p => V.ref p.1)))
def keyA (L : List (Addr × Str)) : Value → Str
  | .ref a => ((L.find? fun p => decide (p.1 = a)).map (·.2)).getD Str.empty
  | _ => Str.empty
theorem keyA_of : ∀ {L : List (Addr × Str)}, (L.map (·.1)).Nodup → ∀ {p : Addr × Str}, p ∈ L → keyA L (.ref p.1) = p.2
  | [], _, p, h => by cases h
  | q :: L, nd, p, h => by
    have nd' := List.nodup_cons.mp nd
    show ((List.find? (fun r => decide (r.1 = p.1)) (q :: L)).map (·.2)).getD Str.empty = p.2
    rcases List.mem_cons.mp h with e | h
    · rw [e, List.find?_cons_of_pos (by simp)]
      rfl
    · have ne : ¬ q.1 = p.1 := fun e => nd'.1 (List.mem_map.mpr ⟨p, h, e.symm⟩)
      rw [List.find?_cons_of_neg (by simpa using ne)]
      exact keyA_of nd'.2 h
section
variable {X : Cx}
theorem cr_sortedTx : CallR X (.builtin "sorted") (rSortTx X.K) := by
  intro pins s σ H vs us Q I r h
  obtain ⟨a, L, rfl, hs, hx, nd, q⟩ := h
  obtain ⟨its, rv, hl, hz⟩ := I.list hs
  obtain ⟨u, rfl, ru⟩ := vals1 r
  obtain rfl : u = Value.ref a := ru
  have eits : its = L.map fun p => Value.ref p.1 := by
    have : ∀ (L : List (Addr × Str)) (us : List Value), Vals (L.map fun p => V.ref p.1) us → us = L.map fun p => Value.ref p.1 := fun L => by
      induction L with
      | nil => intro us h; cases h; rfl
      | cons p L ih =>
        intro us h
        cases h with
        | cons r t =>
          cases r
          rw [ih _ t]
          rfl
    exact this L its rv
  subst eits
  have ndA : (L.map (·.1)).Nodup := by
    refine List.nodup_iff_pairwise_ne.mpr ?_
    rw [List.pairwise_map]
    have n2 := List.nodup_iff_pairwise_ne.mp nd
    rw [List.pairwise_map] at n2
    refine n2.imp_of_mem fun {p p'} hp hp' hne e => hne ?_
    obtain ⟨xs, e1⟩ := hx p hp
    obtain ⟨ys, e2⟩ := hx p' hp'
    rw [e, e2] at e1
    injection e1 with e1
    injection e1 with e1
    injection e1 with e1 _
    injection e1 with e1
    exact e1.symm
  have hk : ∀ p ∈ L, keyA L (.ref p.1) = p.2 := fun p hp => keyA_of ndA hp
  refine sorted_tx (k := keyA L) hl.isList (by rw [← rv.length]; exact hz) (fun v hv => ?_) (fun v hv u hu e => ?_) fun h' d out h1 h2 kp hd hn => ?_
  · obtain ⟨p, hp, rfl⟩ := List.mem_map.mp hv
    rw [hk p hp]
    obtain ⟨xs, ht⟩ := hx p hp
    obtain ⟨_, its2, r2, o, ho, hc, n, hdd⟩ := I.hok _ _ ht
    cases r2 with
    | cons r1 r3 =>
      obtain ⟨t1, rfl⟩ := r1
      exact ⟨p.1, o, t1, _, n, rfl, ho, hc, hdd⟩
  · obtain ⟨p, hp, rfl⟩ := List.mem_map.mp hv
    obtain ⟨p', hp', rfl⟩ := List.mem_map.mp hu
    rw [hk p hp, hk p' hp'] at e
    have n2 := List.nodup_iff_pairwise_ne.mp nd
    have : p = p' := by
      refine Decidable.byContradiction fun c => ?_
      obtain ⟨i, hi⟩ := List.mem_iff_getElem?.mp hp
      obtain ⟨j, hj⟩ := List.mem_iff_getElem?.mp hp'
      have hij : i = j := by
        have e1 : (L.map (·.2))[i]? = some p.2 := by rw [List.getElem?_map, hi]; rfl
        have e2 : (L.map (·.2))[j]? = some p'.2 := by rw [List.getElem?_map, hj]; rfl
        rw [← e] at e2
        exact (List.getElem?_inj (List.getElem?_eq_some_iff.mp e1).1 nd).mp (e1.trans e2.symm)
      subst hij
      exact c (Option.some.inj (hi.symm.trans hj))
    rw [this]
  · have hout : ∀ u ∈ out, ∃ p ∈ L, u = Value.ref p.1 := fun u hu => by
      obtain ⟨p, hp, rfl⟩ := List.mem_map.mp (h2.perm.mem_iff.mp hu)
      exact ⟨p, hp, rfl⟩
    let g : Value → Addr × Str := fun v => ((match v with | .ref a => a | _ => 0), keyA L v)
    have gp : ∀ p ∈ L, g (.ref p.1) = p := fun p hp => by
      show (p.1, keyA L (.ref p.1)) = p
      rw [hk p hp]
    have pm : (out.map g).Perm L := by
      have := h2.perm.map g
      rw [List.map_map] at this
      have e : L.map (g ∘ fun p => Value.ref p.1) = L := by
        conv => rhs; rw [← List.map_id' L]
        exact List.map_congr_left fun p hp => gp p hp
      rw [e] at this
      exact this
    have eo : out = (out.map g).map fun p => Value.ref p.1 := by
      rw [List.map_map]
      conv => lhs; rw [← List.map_id' out]
      refine List.map_congr_left fun v hv => ?_
      obtain ⟨p, hp, rfl⟩ := hout v hv
      show Value.ref p.1 = Value.ref (g (.ref p.1)).1
      rw [gp p hp]
    have ts : TS ((out.map g).map (·.2)) := by
      show List.Pairwise _ _
      rw [List.map_map, List.pairwise_map]
      exact h1
    obtain ⟨n, hn⟩ := hn
    refine ⟨.ref d, upd H d (.lst ((out.map g).map fun p => V.ref p.1)), I.laid (t' := s.toks) kp hd ⟨?_, out, n, ?_, hn⟩, rfl, q (out.map g) d pm ts (I.hok.fresh hd)⟩
    · rw [List.length_map, pm.length_eq]
      have := hz
      rw [List.length_map] at this
      exact this
    · have : ∀ (M : List (Addr × Str)), Vals (M.map fun p => V.ref p.1) (M.map fun p => Value.ref p.1) := fun M => by
        induction M with
        | nil => exact .nil
        | cons p M ih => exact .cons rfl ih
      conv => rhs; rw [eo]
      exact this _
end
/-! ## sets of texts: made of a list, sorted -/
open PySem PySem.Spec PyProof.Rows L2
/-! ### what a set of texts is -/
def keyS (e : Int × Value) : Str := match e.2 with | .str k _ => k | _ => Str.empty
def GoodS (w : World) (e : Int × Value) : Prop := ∃ k tk, e.2 = Value.str k tk ∧ e.1 = hashStr w k
/-- the set of texts at a: S its members, n their number; its table rises and can be walked -/
def SetSR (w : World) (h : Heap) (a : Addr) (S : Str → Bool) (n : Nat) : Prop :=
  ∃ o es ep t, h.get? a = some o ∧ o.ExactSet ∧ o.data = .set es ep t ∧ (∀ e ∈ es.toList, GoodS w e) ∧ (es.toList.map keyS).Nodup ∧ (∀ k, S k = true ↔ k ∈ es.toList.map keyS) ∧
    es.size < scanBound ∧ t.fits es.size = true ∧ es.size = n ∧ Ris t.place.toList ∧ (w.params.followText "set-order" = true ∨ t.led = true)
section
variable {P : Program} {w : World} {h h' : Heap} {a : Addr} {S : Str → Bool} {n : Nat}
theorem SetSR.at (R : SetSR w h a S n) (k : ∀ o, h.get? a = some o → h'.get? a = some o) : SetSR w h' a S n := by
  obtain ⟨o, es, ep, t, ho, r⟩ := R
  exact ⟨o, es, ep, t, k o ho, r⟩
theorem SetSR.lt (R : SetSR w h a S n) : a < h.objs.size := by
  obtain ⟨o, es, ep, t, ho, r⟩ := R
  exact Heap.lt_size ho
theorem SetSR.congr {S' : Str → Bool} (R : SetSR w h a S n) (e : ∀ k, S' k = S k) : SetSR w h a S' n := by
  have q : S' = S := funext e
  rw [q]; exact R
theorem goodS_elems {l : List (Int × Value)} (g : ∀ e ∈ l, GoodS w e) : ElemsOf (strKind P w) l := fun e he => by
  obtain ⟨k, tk, h1, h2⟩ := g e he
  exact ⟨⟨k, by rw [h1]; exact PySem.Froz.is_str k tk, h2⟩, by rw [h1] <;> rfl⟩
theorem goodS_is {e : Int × Value} (g : GoodS w e) (k : Str) : (strKind P w).is k e.2 = true ↔ keyS e = k := by
  obtain ⟨k0, tk, h1, _⟩ := g
  unfold keyS
  rw [h1]
  show (Value.isStrOf k (.str k0 tk) = true) ↔ k0 = k
  simp [Value.isStrOf]
theorem goodS_mem {l : List (Int × Value)} (g : ∀ e ∈ l, GoodS w e) (k : Str) : k ∈ l.map keyS ↔ ∃ e ∈ l, (strKind P w).is k e.2 = true := by
  rw [List.mem_map]
  constructor
  · rintro ⟨e, he, q⟩
    exact ⟨e, he, (goodS_is (g e he) k).2 q⟩
  · rintro ⟨e, he, q⟩
    exact ⟨e, he, (goodS_is (g e he) k).1 q⟩
theorem SetSR.setOf (R : SetSR w h a S n) : h.SetOf (strKind P w) a S n := by
  obtain ⟨o, es, ep, t, ho, hx, hd, g, nd, hm, hb, hf, hn, _⟩ := R
  exact ⟨o, es, ep, t, ho, hx, hd, goodS_elems g, fun k => (hm k).trans (goodS_mem g k), hb, hf, hn⟩
end
section
variable {P : Program} {w : World} {A : Around} {E : Value → Shared → Prop} {s : Shared} {a : Addr} {S : Str → Bool} {n : Nat}
/-! ### add -/
theorem setSR_add_tail {g : Bool → Sem Unit} (hg : ∀ (b : Bool) (s₁ : Shared) (Q' : Unit → Shared → Prop), Q' () s₁ → wpAny (model P w) A (g b) Q' E s₁)
    {o : Obj} {es : Array (Int × Value)} {ep : Nat} {t : SetTable} (ho : s.heap.get? a = some o) (hex : o.ExactSet) (hd : o.data = .set es ep t)
    {es1 : Array (Int × Value)} {t2 : SetTable} {S' : Str → Bool} (g1 : ∀ e ∈ es1.toList, GoodS w e) (nd1 : (es1.toList.map keyS).Nodup) (m1 : ∀ k, S' k = true ↔ k ∈ es1.toList.map keyS)
    (hb1 : es1.size < scanBound) (hf2 : t2.fits es1.size = true) (hr : Ris t2.place.toList) (hl : w.params.followText "set-order" = true ∨ t2.led = true) {wasDummy : Bool} {R : Option Bool → Shared → Prop}
    (hR : ∀ h', Heap.SameBut a s.heap h' → SetSR w h' a S' es1.size → R (some true) { s with heap := h' }) :
    wpAny (model P w) A (do
        storeSet a es1 t2
        if (!wasDummy && t2.tooFull) = true then do
            g (relayAll t2 es1 (SetTable.grown es1.size)).2.2
            storeSet a (relayAll t2 es1 (SetTable.grown es1.size)).1 (relayAll t2 es1 (SetTable.grown es1.size)).2.1
            pure (some true)
          else pure (some true)) R E s := by
  refine wpAny_bind (wpAny_storeSet_of ho hd ?_ (fits_of_scanBound hb1))
  have ho1 := store_at (es' := es1) (t' := t2) ho hd
  have sb1 := Heap.SameBut.update s.heap a (Obj.putSet es1 t2)
  split
  · have pm := relayAll_perm t2 es1 (SetTable.grown es1.size)
    have hf3 := relayAll_fits t2 es1 (SetTable.grown es1.size)
    have hr3 := relayAll_ris t2 es1 (SetTable.grown es1.size)
    have hl3 := relayAll_led t2 es1 (SetTable.grown es1.size)
    generalize relayAll t2 es1 (SetTable.grown es1.size) = Z at pm hf3 hr3 hl3 ⊢
    obtain ⟨es2, t3, gave⟩ := Z
    dsimp only at pm hf3 hr3 hl3 ⊢
    have hsz : es2.size = es1.size := by rw [← Array.length_toList, pm.length_eq, Array.length_toList]
    have hb2 : es2.size < scanBound := by rw [hsz]; exact hb1
    refine wpAny_bind (hg _ _ _ ?_)
    refine wpAny_bind (wpAny_storeSet_of ho1 rfl ?_ (fits_of_scanBound hb2))
    have ho2 := store_at (es' := es2) (t' := t3) ho1 rfl
    refine wpAny_pure (hR _ (sb1.trans (Heap.SameBut.update _ a _)) ?_)
    exact ⟨_, es2, _, t3, ho2, hex, rfl, fun e he => g1 e (pm.mem_iff.mp he), (pm.map keyS).nodup_iff.mpr nd1, fun k => (m1 k).trans (pm.map keyS).mem_iff.symm, hb2, hf3, hsz, hr3,
      hl.imp id fun z => by rw [hl3]; exact z⟩
  · exact wpAny_pure (hR _ sb1 ⟨_, es1, _, t2, ho1, hex, rfl, g1, nd1, m1, hb1, hf2, rfl, hr, hl⟩)
theorem setSR_add_hashed {k : Str} {tk : Tok} {Q : Bool → Shared → Prop} (R : SetSR w s.heap a S n) (room : n + 1 < scanBound)
    (hQ : ∀ h', Heap.SameBut a s.heap h' → SetSR w h' a (fun j => S j || decide (j = k)) (if S k = true then n else n + 1) → Q (!S k) { s with heap := h' }) :
    wpAny (model P w) A (setAddHashed a (.str k tk) ((strKind P w).hash k)) Q E s := by
  obtain ⟨o, es, ep, t, ho, hex, hd, g, nd, hm, hb, hf, hn, hr, hl⟩ := R
  have hkey : (strKind P w).is k (.str k tk) = true := PySem.Froz.is_str k tk
  have hsc : (Value.str k tk).scannable = true := rfl
  have hel : ElemsOf (strKind P w) es.toList := goodS_elems g
  unfold setAddHashed setAddHashedIn
  refine wpAny_holding (wpAny_bind (wpAny_setState_of ho hd hf ?_))
  dsimp only
  rw [byScan_of hsc hb hel]
  simp only [↓reduceIte]
  unfold setAddByScan
  refine wpAny_bind ?_
  refine wpAny_bind (wpAny_rule ?_)
  refine wpAny_bind (wpAny_setScan_of hkey ho hd hf hel ?_)
  cases hfi : List.findIdx? (fun e => (strKind P w).is k e.2) es.toList with
  | some j =>
    dsimp only
    obtain ⟨hj, pj, _⟩ := List.findIdx?_eq_some_iff_getElem.mp hfi
    have hSk : S k = true := (hm k).2 ((goodS_mem (P := P) (w := w) g k).2 ⟨es.toList[j], List.getElem_mem hj, pj⟩)
    refine wpAny_pure (wpAny_pure ?_)
    have q := hQ s.heap (Heap.SameBut.refl a s.heap) ⟨o, es, ep, t, ho, hex, hd, g, nd, fun i => by
      rw [Bool.or_eq_true, decide_eq_true_eq, ← hm i]
      exact ⟨fun z => z.elim id (fun e => e ▸ hSk), .inl⟩, hb, hf, by rw [if_pos hSk]; exact hn, hr, hl⟩
    rw [hSk] at q
    exact q
  | none =>
    dsimp only
    have hnk : k ∉ es.toList.map keyS := fun z => by
      obtain ⟨e, he, q⟩ := (goodS_mem (P := P) (w := w) g k).1 z
      have c := List.findIdx?_eq_none_iff.mp hfi e he
      rw [q] at c
      cases c
    have hSk : S k = false := by
      cases q : S k with
      | false => rfl
      | true => exact absurd ((hm k).1 q) hnk
    have hgw : ∀ (b : Bool) {s₁ : Shared} {Q' : Unit → Shared → Prop}, Q' () s₁ → wpAny (model P w) A (match b with | true => rule "set.scan.the-table-gave-way" | false => pure ()) Q' E s₁ :=
      fun b s₁ Q' q => by cases b <;> first | exact wpAny_pure q | exact wpAny_rule q
    have pm := layNew_perm t es ((strKind P w).hash k) (.str k tk)
    have hf1 := layNew_fits t es ((strKind P w).hash k) (.str k tk)
    have hr1 := layNew_ris t es ((strKind P w).hash k) (.str k tk) hr
    have hl1 := layNew_led t es ((strKind P w).hash k) (.str k tk)
    generalize layNew t es ((strKind P w).hash k) (.str k tk) = Z at pm hf1 hr1 hl1 ⊢
    obtain ⟨es1, t1, wasDummy, gave⟩ := Z
    dsimp only at pm hf1 hr1 hl1 ⊢
    rw [Array.toList_push] at pm
    have pc : es1.toList.Perm (((strKind P w).hash k, Value.str k tk) :: es.toList) := pm.trans (List.perm_append_singleton _ _)
    have pk : (es1.toList.map keyS).Perm (k :: es.toList.map keyS) := pc.map keyS
    have g1 : ∀ e ∈ es1.toList, GoodS w e := fun e he => by
      rcases List.mem_cons.mp (pc.mem_iff.mp he) with z | z
      · rw [z]; exact ⟨k, tk, rfl, rfl⟩
      · exact g e z
    have nd1 : (es1.toList.map keyS).Nodup := pk.nodup_iff.mpr (List.nodup_cons.mpr ⟨hnk, nd⟩)
    have m1 : ∀ i, (S i || decide (i = k)) = true ↔ i ∈ es1.toList.map keyS := fun i => by
      rw [Bool.or_eq_true, decide_eq_true_eq, hm i, pk.mem_iff, List.mem_cons]
      exact Or.comm
    have hsz : es1.size = n + 1 := by rw [← Array.length_toList, pc.length_eq, List.length_cons, Array.length_toList, hn]
    have hb1 : es1.size < scanBound := by rw [hsz]; exact room
    have hled : w.params.followText "set-order" = true ∨ t1.led = true := hl.imp id fun z => by rw [hl1]; exact z
    have fin : ∀ h', Heap.SameBut a s.heap h' → SetSR w h' a (fun j => S j || decide (j = k)) es1.size → Q true { s with heap := h' } := fun h' sb r => by
      have q := hQ h' sb
      rw [hSk] at q
      rw [hsz] at r
      exact q r
    refine wpAny_bind (hgw _ ?_)
    split
    · refine wpAny_bind ?_
      rw [hashByValue_scannable 8 hsc]
      refine wpAny_pure ?_
      refine setSR_add_tail ?_ ho hex hd g1 nd1 m1 hb1 ?_ ?_ ?_ ?_
      · intro b s₁ Q' q; cases b <;> first | exact wpAny_pure q | exact wpAny_rule q
      · first | (split <;> first | exact hf1 | exact SetTable.fits_plain_off hf1) | exact hf1
      · first | (split <;> exact hr1) | exact hr1
      · first | (split <;> exact hled) | exact hled
      · intro h' sb r; dsimp only; exact wpAny_pure (fin h' sb r)
    · refine wpAny_bind (wpAny_pure ?_)
      simp only [↓reduceIte]
      refine setSR_add_tail ?_ ho hex hd g1 nd1 m1 hb1 hf1 hr1 hled ?_
      · intro b s₁ Q' q; cases b <;> first | exact wpAny_pure q | exact wpAny_rule q
      · intro h' sb r; dsimp only; exact wpAny_pure (fin h' sb r)
end
section
variable {P : Program} {w : World} {A : Around} {E : Value → Shared → Prop} {s : Shared}
theorem setSR_fresh {h : Heap} (w : World) : SetSR w (h.push { cls := .type "set", dict := none, data := .set #[] 0 (.fresh 0 0 (!w.params.followText "set-order")) }) h.objs.size (fun _ => false) 0 :=
  ⟨_, #[], 0, _, Heap.get?_push_size _ rfl, ⟨rfl, rfl, rfl⟩, rfl, (fun e he => by simp at he), (by simp), (fun k => by simp), (by decide), (by rfl), rfl, List.Pairwise.nil, by
    show _ ∨ (!w.params.followText "set-order") = true
    cases w.params.followText "set-order"
    · exact .inr rfl
    · exact .inl rfl⟩
theorem strsAre_len : ∀ {vs : List Value} {ks : List Str}, StrsAre vs ks → vs.length = ks.length
  | _, _, .nil => rfl
  | _, _, .cons _ _ r => congrArg (· + 1) (strsAre_len r)
theorem strsAre_at : ∀ {vs : List Value} {ks : List Str} {i : Nat} {v : Value}, StrsAre vs ks → vs[i]? = some v → ∃ z t, ks[i]? = some z ∧ v = .str z t
  | _, _, 0, v, .cons y t r, h => ⟨y, t, rfl, by cases h; rfl⟩
  | _, _, i + 1, v, .cons y t r, h => by
    obtain ⟨z, t', e1, e2⟩ := strsAre_at (i := i) r (by simpa using h)
    exact ⟨z, t', by simpa using e1, e2⟩
  | _, _, _, _, .nil, h => by simp at h
/-- set.update's loop -/
theorem set_update_strs {I : Addr} {fp wr : List Addr} {G : Array GenState → Array GenState → Prop} {n : Nat} {Pv : Nat → Value → Prop} {St : Nat → Shared → Prop} {R : Result → Shared → Prop}
    (W : WalksS P w A.in1 I fp wr G n Pv St) (S : Addr) (hSf : S ∉ fp) (ks : List Str) (hn : n = ks.length) (hfew : ks.length < 64) (hval : ∀ i v, Pv i v → ∃ z t, ks[i]? = some z ∧ v = .str z t)
    (h0 : Heap) (hS0 : h0.get? S = none) (hw0 : ∀ b ∈ wr, h0.get? b = none) :
    ∀ (k i : Nat) (s : Shared), n - i = k → i ≤ n → St i s → (∀ b o, h0.get? b = some o → s.heap.get? b = some o) → (∃ T m, SetSR w s.heap S T m ∧ m ≤ i ∧ ∀ z, T z = true ↔ z ∈ ks.take i) →
      (∀ s' T m, Moved (S :: wr) G s s' → SetSR w s'.heap S T m → m ≤ n → (∀ z, T z = true ↔ z ∈ ks) → (∀ b o, h0.get? b = some o → s'.heap.get? b = some o) → R (.ok (.ret .none)) s') →
      codeAny (model P w) A (.builtin "set.update.loop" ⟨[.ref S, .ref I], []⟩) R s := by
  have hSw : S ∉ wr := fun h => hSf (W.sub _ h)
  have hsub : ∀ b ∈ wr, b ∈ S :: wr := fun b hb => List.mem_cons_of_mem _ hb
  have keepM : ∀ {s s' : Shared}, Moved wr G s s' → (∀ b o, h0.get? b = some o → s.heap.get? b = some o) → ∀ b o, h0.get? b = some o → s'.heap.get? b = some o := fun hm hkp b o e =>
    hm.heap b o (fun hb => by rw [hw0 b hb] at e; cases e) (hkp b o e)
  intro k
  induction k with
  | zero =>
    intro i s hk' hi hst hkp ⟨T, m, hS, hm1, g⟩ hR
    have hin : i = n := by omega
    subst hin
    refine codeAny_builtin F.entry_set_update_loop ?_
    rw [Around.under_plainId F.plain_set_update_loop _]
    show wpAny _ A.in1 (pyNext (.ref I) >>= _) _ _ s
    refine wpAny_bind (W.done s _ _ hst fun s' hm => ?_)
    show wpAny _ A.in1 (ret Value.none) _ _ s'
    have hkp' := keepM hm hkp
    rw [hn, List.take_length] at g
    exact wpAny_pure (hR s' T m (hm.mono hsub) (hS.at fun o e => hm.heap S o hSw e) hm1 g hkp')
  | succ k ih =>
    intro i s hk' hi hst hkp ⟨T, m, hS, hm1, g⟩ hR
    have hlt : i < n := by omega
    refine codeAny_builtin F.entry_set_update_loop ?_
    rw [Around.under_plainId F.plain_set_update_loop _]
    show wpAny _ A.in1 (pyNext (.ref I) >>= _) _ _ s
    refine wpAny_bind (W.item i s _ _ hlt hst fun v s' hP hst' hm => ?_)
    obtain ⟨z, t, hp, rfl⟩ := hval i v hP
    have hkp' := keepM hm hkp
    have hS' : SetSR w s'.heap S T m := hS.at fun o e => hm.heap S o hSw e
    show wpAny _ A.in1 (holding [Value.str z t] (setAdd S (.str z t)) >>= _) _ _ s'
    refine wpAny_bind (wpAny_holding ?_)
    unfold setAdd
    refine wpAny_holding ?_
    refine wpAny_bind ((PySem.strKind P w).pyHash (PySem.Froz.is_str z t) ?_)
    refine setSR_add_hashed (P := P) (s := { s' with toks := s'.toks + 1 }) hS' (by unfold scanBound; omega) fun h' hsb hS2 => ?_
    have g' : ∀ j, (T j || decide (j = z)) = true ↔ j ∈ ks.take (i + 1) := fun j => by
      rw [take_next hp, List.mem_append, List.mem_singleton, Bool.or_eq_true, decide_eq_true_eq, g j]
    have hm2 : (if T z = true then m else m + 1) ≤ i + 1 := by split <;> omega
    have hkp2 : ∀ b o, h0.get? b = some o → h'.get? b = some o := fun b o e => (hsb.2 b (fun z => by rw [z, hS0] at e; cases e)).trans (hkp' b o e)
    refine wpAny_pure ⟨plainId_quiet F.plain_set_update_loop _, ih (i + 1) _ (by omega) hlt (W.frame _ s' _ _ hst' (Nat.le_add_right _ _) fun b hb o e => ?_) hkp2 ⟨_, _, hS2, hm2, g'⟩ fun s'' T2 m2 hm'' hS'' g1'' g'' hkp'' => ?_⟩
    · rw [hsb.2 b (fun h : b = S => hSf (by rw [← h]; exact hb))]; exact e
    · refine hR s'' T2 m2 (Moved.trans W.gtrans ((hm.mono hsub).then_heap (Nat.le_add_right _ _) fun b o hb e => ?_) hm'') hS'' g1'' g'' hkp''
      rw [hsb.2 b (fun h : b = S => hb (by rw [h]; exact List.mem_cons_self))]; exact e
set_option maxRecDepth 100000 in
set_option maxHeartbeats 3200000 in
/-- set(xs) -/
theorem call_set_strs {l : Addr} {items : Array Value} (ks : List Str) {Q : Value → Shared → Prop} (hh : A.handled = none) (hl : s.heap.IsList l items) (hit : StrsAre items.toList ks)
    (hfew : ks.length < 64)
    (h : ∀ (h' : Heap) (tk : Nat) T m, SetSR w h' s.heap.objs.size T m → m ≤ ks.length → (∀ z, T z = true ↔ z ∈ ks) → (∀ b o, s.heap.get? b = some o → h'.get? b = some o) → Q (.ref s.heap.objs.size) { s with heap := h', toks := tk }) :
    wpAny (model P w) A (call (.type "set") [.ref l]) Q E s := by
  have hisz : items.size = ks.length := by
    rw [← Array.length_toList]
    exact strsAre_len hit
  obtain ⟨c, tl, hmro⟩ := F.called_set.mro
  have hmade := F.called_set.made
  have hsub := F.called_set.sub
  refine wpAny_call (codeAny_of_tree ?_)
  show wpAny _ _ (callAny (.type "set") _) _ _ _
  refine wpAny_pure ⟨Code.quiet_builtin _ (by decide +kernel), codeAny_builtin F.entry_type_call ?_⟩
  rw [Around.under_plain (weight_type_call_type "set" [.ref l] []) rfl]
  have h1 := F.called_set.notType
  have h2 := F.called_set.canCreate
  have hct := F.typeCall_set_1 (.ref l)
  repeat (any_goals (first | assumption | wp_step))
  refine codeAny_mono (code_set_led1 (.ref l) (E := E) (Q₁ := fun obj s₁ => obj = .ref s.heap.objs.size ∧ s₁ = { s with heap := s.heap.push { cls := .type "set", dict := none, data := .set #[] 0 (.fresh 0 0 (!w.params.followText "set-order")) } }) ⟨rfl, rfl⟩) fun r s₁ hr => ?_
  cases r with
  | error e => exact hr
  | ok fl =>
    cases fl with
    | ret obj =>
      obtain ⟨rfl, rfl⟩ := hr
      have hS : (s.heap.push { cls := .type "set", dict := none, data := .set #[] 0 (.fresh 0 0 (!w.params.followText "set-order")) }).get? s.heap.objs.size = some { cls := .type "set", dict := none, data := .set #[] 0 (.fresh 0 0 (!w.params.followText "set-order")) } := Heap.get?_push_size _ rfl
      have hT : Shared.TypeIs { s with heap := s.heap.push { cls := .type "set", dict := none, data := .set #[] 0 (.fresh 0 0 (!w.params.followText "set-order")) } } (.ref s.heap.objs.size) "set" := ⟨_, hS, rfl⟩
      have hli := F.called_set.init.lookup
      have hbi := F.called_set.init.bind (.ref s.heap.objs.size)
      repeat (any_goals (first | assumption | wp_step))
      refine codeAny_mono (codeAny_call_builtin (R := wants (fun r s₂ => r = .none ∧ ∃ h' tk T m, s₂ = { s with heap := h', toks := tk } ∧ SetSR w h' s.heap.objs.size T m ∧ m ≤ ks.length ∧ (∀ z, T z = true ↔ z ∈ ks) ∧
          (∀ b o, s.heap.get? b = some o → h'.get? b = some o)) E) F.called_set.init.plain F.entry_set_init (check_set_init_1 hT ?_)) fun r₂ s₂ hr₂ => ?_
      · obtain ⟨ol, hol, hcl, nl, hdl⟩ := hl
        obtain ⟨ocls, odict, odata, oslots⟩ := ol
        simp only at hcl hdl
        subst hcl; subst hdl
        have hol' : (s.heap.push { cls := .type "set", dict := none, data := .set #[] 0 (.fresh 0 0 (!w.params.followText "set-order")) }).get? l = some { cls := .type "list", dict := odict, data := .seq items nl, slots := oslots } := Heap.get?_push_of_some _ hol
        have hsls := F.sub_list_set
        have hslf := F.sub_list_frozenset
        have hne : (Value.type "list" == Value.type "dict") = false := by decide
        have hl1 : (s.heap.push { cls := .type "set", dict := none, data := .set #[] 0 (.fresh 0 0 (!w.params.followText "set-order")) }).IsList l items := ⟨_, hol', rfl, nl, rfl⟩
        unfold Builtin.«set.__init__» noKeywords Builtin.Frozenset.updateFrom
        generalize hPI : pyIter = PI
        wp_walk
        subst hPI
        refine wpAny_pyIter_list hl1 ?_
        refine wpAny_bind (wpAny_runValue ?_)
        have hlS : l < s.heap.objs.size := Heap.lt_size hol
        have hh3 : A.in1.in1.in1.handled = none := by simp [hh]
        have hz1 : (s.heap.push { cls := .type "set", dict := none, data := .set #[] 0 (.fresh 0 0 (!w.params.followText "set-order")) }).objs.size = s.heap.objs.size + 1 := Heap.size_push ..
        have hneI : l ≠ (s.heap.push { cls := .type "set", dict := none, data := .set #[] 0 (.fresh 0 0 (!w.params.followText "set-order")) }).objs.size := by
          rw [Heap.size_push]; exact Nat.ne_of_lt (Nat.lt_succ_of_lt hlS)
        have hSf : s.heap.objs.size ∉ [(s.heap.push { cls := .type "set", dict := none, data := .set #[] 0 (.fresh 0 0 (!w.params.followText "set-order")) }).objs.size, l] := by
          rw [Heap.size_push]; simp only [List.mem_cons, List.mem_singleton, List.not_mem_nil, or_false, not_or]
          exact ⟨Nat.ne_of_lt (Nat.lt_succ_self _), Nat.ne_of_gt hlS⟩
        have hval : ∀ (i : Nat) (v : Value), items[i]? = some v → ∃ z t, ks[i]? = some z ∧ v = .str z t := fun i v hv => by
          have q : items.toList[i]? = some v := by rw [Array.getElem?_toList]; exact hv
          exact strsAre_at hit q
        have none_of : ∀ b, s.heap.objs.size ≤ b → s.heap.get? b = none := fun b hb => by
          cases q : s.heap.get? b with
          | none => rfl
          | some o => exact absurd (Nat.lt_of_lt_of_le (Heap.lt_size q) hb) (Nat.lt_irrefl _)
        refine set_update_strs ((Walks.list hh3 _ l hneI items).toS) s.heap.objs.size
          hSf ks hisz hfew hval s.heap (none_of _ (Nat.le_refl _)) (fun b hb => none_of b (by
            rw [List.mem_singleton.mp hb, Heap.size_push]
            exact Nat.le_succ _)) (items.size - 0) 0 _ (by omega) (Nat.zero_le _)
          ⟨⟨_, Heap.get?_push_size _ rfl, rfl, rfl⟩, (hl1.push _)⟩ (fun b o e => Heap.get?_push_of_some _ (Heap.get?_push_of_some _ e)) ?hS0 ?hR
        case hS0 =>
          have hget : ((s.heap.push { cls := .type "set", dict := none, data := .set #[] 0 (.fresh 0 0 (!w.params.followText "set-order")) }).push { cls := .type "list_iterator", data := .fields #[.ref l, .int 0 0] }).get? s.heap.objs.size
              = some { cls := .type "set", dict := none, data := .set #[] 0 (.fresh 0 0 (!w.params.followText "set-order")) } := Heap.get?_push_of_some _ hS
          exact ⟨fun _ => false, 0, (setSR_fresh (h := s.heap) w).at (fun o e => Heap.get?_push_of_some _ e), Nat.le_refl _, fun z => by simp⟩
        case hR =>
          intro s' T m hm hS' g' gm hkp
          obtain ⟨h', g2, d', tk', os'⟩ := s'
          have eg : g2 = s.gens := hm.gens
          have ed : d' = s.drawn := hm.drawn
          have eo : os' = s.os := hm.os
          subst eg; subst ed; subst eo
          show wpAny _ _ _ _ _ _
          refine wpAny_pure ?_
          show wpAny _ _ (ret Value.none) _ _ _
          rw [hisz] at g'
          exact wpAny_pure ⟨rfl, h', tk', T, m, rfl, hS', g', gm, hkp⟩
      · cases r₂ with
        | error e => exact hr₂
        | ok fl₂ =>
          cases fl₂ with
          | ret r =>
            obtain ⟨rfl, h', tk, T, m, rfl, hS', g', gm, hk'⟩ := hr₂
            repeat (any_goals (first | assumption | wp_step))
            exact h _ _ _ _ hS' g' gm hk'
          | _ => exact hr₂.elim
    | _ => exact hr.elim
/-! ### sorted -/
theorem strsAre_of : ∀ (l : List Value), (∀ v ∈ l, ∃ k tk, v = Value.str k tk) → StrsAre l (l.map strOf)
  | [], _ => .nil
  | v :: l, h => by
    obtain ⟨k, tk, rfl⟩ := h v List.mem_cons_self
    exact .cons k tk (strsAre_of l fun u hu => h u (List.mem_cons_of_mem _ hu))
theorem sorted_setS {a : Addr} {S : Str → Bool} {n : Nat} {Q : Value → Shared → Prop} (R : SetSR w s.heap a S n) (hh : A.handled = none) (h64 : n < 64)
    (hQ : ∀ s' p (out : Array Value) (c : Nat) (ns : List Str), (∀ b o, s.heap.get? b = some o → s'.heap.get? b = some o) → s'.gens = s.gens → s'.os = s.os → s.heap.objs.size ≤ p →
      s'.heap.get? p = some (seqObj "list" out c) → StrsAre out.toList ns → sortedS ns = true → ns.Nodup → (∀ k, k ∈ ns ↔ S k = true) → ns.length = n → Q (.ref p) s') :
    wpAny (model P w) A (call (.builtin "sorted") [.ref a]) Q E s := by
  obtain ⟨o, es, ep, t, ho, hex, hd, g, nd, hm, hb, hf, hn, hr, hl⟩ := R
  refine Calls.call_function_entry kind_sorted plain_sorted entry_sorted (args_sorted1 _) ?_
  unfold Builtin.«sorted»
  refine wpAny_bind (m := checkCount "sorted" 1 1 _) (wpAny_pure ?_)
  refine wpAny_bind (collect_set (A := A.in1) hh ⟨o, ho, hex.1, hd⟩ hf hb hr hl fun s1 vs k1 hz g1 o1 pm => ?_)
  have hvl : vs.length = n := by rw [pm.length_eq, List.length_map, Array.length_toList]; exact hn
  have hI : StrsAre vs (vs.map strOf) := strsAre_of vs fun v hv => by
    obtain ⟨e, he, q⟩ := List.mem_map.mp (pm.mem_iff.mp hv)
    obtain ⟨k, tk, h1, _⟩ := g e he
    exact ⟨k, tk, by rw [← q]; exact h1⟩
  have pk : (vs.map strOf).Perm (es.toList.map keyS) := by
    have q := pm.map strOf
    rw [List.map_map] at q
    have e : es.toList.map (strOf ∘ fun x => x.2) = es.toList.map keyS := List.map_congr_left fun e he => by
      obtain ⟨k, tk, h1, _⟩ := g e he
      show strOf e.2 = keyS e
      unfold keyS
      rw [h1]
      rfl
    rw [e] at q
    exact q
  refine wpAny_bind (wpAny_newList ?_ (by rw [hvl, sizeLine_eq]; omega))
  have hoL : (s1.heap.push (seqObj "list" vs.toArray 0)).get? s1.heap.objs.size = some (seqObj "list" vs.toArray 0) := Heap.get?_push_size _ rfl
  refine wpAny_bind (wpAny_holding (wpAny_call_entry slot_list_sort ⟨_, hoL, rfl⟩ entry_list_sort (list_sort_treeK strKind_oneLt hoL hI.keysOf (fun v₁ v₂ rest e => keyKind_strs (by rw [← e]; exact hI)) (by rw [hvl]; exact h64) fun st' hp hs => ⟨_, rfl, ?_⟩) (args_list_sort _)))
  obtain ⟨ns', a1, a2, a3⟩ := sorted_out_str hI hp hs
  obtain ⟨c, hc⟩ := sortedHeap_at (vs := vs) (out := (arrOf st').map (·.2)) hoL
  have pn : ns'.Perm (es.toList.map keyS) := a2.trans pk
  refine wpAny_pure ⟨_, rfl, hQ _ s1.heap.objs.size ((arrOf st').map (·.2)) c ns' (fun b u e => ?_) g1 o1 hz hc a1 a3 (pn.nodup_iff.mpr nd) (fun k => by rw [pn.mem_iff, ← hm k]) ?_⟩
  · have q := k1 b u e
    have hlt := Heap.lt_size q
    show (sortedHeap (s1.heap.push (seqObj "list" vs.toArray 0)) s1.heap.objs.size vs ((arrOf st').map (·.2))).get? b = some u
    rw [sortedHeap_old (Nat.ne_of_lt hlt) (by rw [size_push']; exact Nat.lt_succ_of_lt hlt)]
    exact Heap.get?_push_of_some _ q
  · rw [pn.length_eq, List.length_map, Array.length_toList]; exact hn
end
/-! ### as rules -/
def SetS (w : World) (a : Addr) (S : Str → Bool) (n : Nat) : HO := .ext fun h => SetSR w h a S n
theorem setS_new {P : Program} {w : World} {H : Hp} {h : Heap} {a : Addr} {S : Str → Bool} {n : Nat} (R : SetSR w h a S n) : ObjOk P w H h a (SetS w a S n) := by
  refine ⟨R, ?_, fun h1 h2 p k => SetSR.at p k⟩
  obtain ⟨o, es, ep, t, ho, _⟩ := R
  exact ⟨o, ho⟩
theorem strs_of_vals : ∀ {ks : List Str} {us : List Value}, Vals (ks.map V.str) us → StrsAre us ks
  | [], _, .nil => .nil
  | k :: ks, _, .cons r t => by
    obtain ⟨tk, rfl⟩ := r
    exact .cons k tk (strs_of_vals t)
section
variable {X : Cx}
/-- set(xs), xs a list of texts -/
def rSetOfS (K : PySem.W.Frag) (w : World) : List V → Hp → VK → Prop := fun xs H Q => ∃ (l : Addr) (ks : List Str), xs = [V.ref l] ∧ SqL K H l (ks.map V.str) ∧ ks.length < 64 ∧
  ∀ a S n, H a = none → n ≤ ks.length → (∀ z, S z = true ↔ z ∈ ks) → Q (.ref a) (upd H a (SetS w a S n))
theorem cr_setOfS (hc : X.calm = true) : CallR X (.type "set") (rSetOfS X.K X.w) := by
  intro pins s σ H xs us Q I r h
  obtain ⟨l, ks, rfl, hl, hf, q⟩ := h
  rw [Vals.ref1 r]
  obtain ⟨its, rv, pl, hz⟩ := I.list hl
  have hn : H s.heap.objs.size = none := I.hok.fresh (Nat.le_refl _)
  refine call_set_strs (P := X.prog) (w := X.w) ks (I.ok.hd hc) pl.isList (by simpa using strs_of_vals rv) hf fun h' tk T m R hm g k => ?_
  exact ⟨.ref s.heap.objs.size, upd H s.heap.objs.size (SetS X.w s.heap.objs.size T m), I.laid (t' := tk) k (Nat.le_refl _) (setS_new R), rfl, q _ T m hn hm g⟩
/-- sorted(set) -/
def rSortedSS (w : World) : List V → Hp → VK → Prop := fun vs H Q => ∃ (a : Addr) (S : Str → Bool) (n : Nat), vs = [V.ref a] ∧ H a = some (SetS w a S n) ∧ n < 64 ∧
  ∀ (ns : List Str) (p : Addr), sortedS ns = true → ns.Nodup → (∀ k, k ∈ ns ↔ S k = true) → ns.length = n → H p = none → Q (.ref p) (upd H p (.lst (ns.map V.str)))
theorem cr_sortedSS (hc : X.calm = true) : CallR X (.builtin "sorted") (rSortedSS X.w) := by
  intro pins s σ H vs us Q I r h
  obtain ⟨a, S, n, rfl, ha, h64, q⟩ := h
  have R : SetSR X.w s.heap a S n := (I.hok a _ ha).1
  rw [Vals.ref1 r]
  refine sorted_setS (P := X.prog) R (I.ok.hd hc) h64 fun s' p out c ns k g o hp hg hi hs hnd hm hl => ?_
  have hlen : (ns.map V.str).length ≤ sizeLine := by rw [List.length_map, hl, sizeLine_eq]; omega
  have hn : H p = none := I.hok.fresh hp
  have J : Inv X pins σ (upd H p (.lst (ns.map V.str))) { s with heap := s'.heap, gens := s'.gens, drawn := s'.drawn, toks := s'.toks } :=
    I.call (ch := []) (Un.laid k hp hn) (I.hok.laid k hp ⟨hlen, out.toList, c, vals_of_strs hi, hg⟩) (by rw [g]; exact I.bare) (fun _ z => nomatch z)
  have e : s' = { s with heap := s'.heap, gens := s'.gens, drawn := s'.drawn, toks := s'.toks } := by
    cases s'
    cases s
    cases o
    rfl
  rw [e]
  exact ⟨.ref p, _, J, rfl, q ns p hs hnd hm hl hn⟩
end
open PySem PySem.Spec PyProof.Rows L2
/-! ## repr of a list of a dict and two whole numbers -/
def d3 (ds : List (PyData × PyData)) (a b : Int) : PyData := .list [.dict ds, .int a, .int b]
@[irreducible] def rRepr3 : List V → Hp → VK → Prop := fun xs H Q => ∃ (L D : Addr) (kvs : List (Key × V)) (ds : List (PyData × PyData)) (a b : Int), xs = [.ref L] ∧ L ≠ sysModules ∧ H L = some (.lst [.ref D, .int a, .int b]) ∧ H D = some (.dK kvs) ∧ Flat kvs ds ∧
  PyData.showable (d3 ds a b) = true ∧ PyData.depth (d3 ds a b) ≤ 50 ∧ (d3 ds a b).shown.length ≤ sizeLine ∧ Q (.str (d3 ds a b).shown) H
section
variable {X : Cx} {pins : List (Addr × Obj)} {σ : L2.St} {H : Hp} {s : Shared}
theorem call_repr3 (hg : X.A.guards = some []) (hu : X.A.units + 60 < cLine) : CallR X (.builtin "repr") rRepr3 := by
  intro pins s σ H xs us Q I r h
  unfold rRepr3 at h
  obtain ⟨L, D, kvs, ds, a, b, rfl, hns, hL, hD, hf, hs, hd, hz, q⟩ := h
  obtain rfl := Vals.ref1 r
  obtain ⟨_, its, n, rv, ho⟩ := I.hok L _ hL
  obtain ⟨u1, u2, u3, rfl, r1, r2, r3⟩ : ∃ u1 u2 u3, its = [u1, u2, u3] ∧ RelV (.ref D) u1 ∧ RelV (.int a) u2 ∧ RelV (.int b) u3 := by
    cases rv with
    | cons p1 q1 =>
      cases q1 with
      | cons p2 q2 =>
        cases q2 with
        | cons p3 q3 => cases q3; exact ⟨_, _, _, rfl, p1, p2, p3⟩
  obtain ⟨as, rd, hm⟩ := Rp.reads (X := X) I (Rp.dct hD hf) r1
  obtain ⟨t2, rfl⟩ := r2
  obtain ⟨t3, rfl⟩ := r3
  have R := Reads.list (h := s.heap) ho rfl rfl (ReadsAll.cons rd (ReadsAll.cons (.int a t2) (ReadsAll.cons (.int b t3) .nil)))
  refine repr_of_reads' R hs (fun _ => ?_) hg (by show X.A.units + ((d3 ds a b).depth + 1) < cLine; omega) (fun _ _ e => e) (fun h' u tk hk => ⟨.str _, H, I.kept hk, ⟨_, rfl⟩, q⟩) hz
  intro hmem
  rcases List.mem_cons.mp hmem with e | e
  · exact hns e.symm
  · simp only [List.append_nil, List.nil_append] at e
    exact hm (by simp [PyData.hasDict]) e
/-- a list display; its place is not that of sys.modules -/
def tLstN (t : TA) : TE := fun σ H Q => t σ H fun xs H1 => xs.length ≤ sizeLine ∧ ∀ p, H1 p = none → p ≠ sysModules → Q (.ref p) (upd H1 p (.lst xs))
theorem pe_lstN {es : List Expr} {t : TA} {pos : Pos} (h : PA X es t) : PE X (.List es pos) (tLstN t) := by
  refine ⟨fun pins s σ H Q I hq => ?_⟩
  refine wpAny_List_spliced (thn (h.run pos pins s σ H _ I hq) fun us s1 ⟨xs, H1, I1, r, z, q⟩ => ⟨by rw [← r.length]; exact z, ?_⟩)
  have hf : H1 s1.heap.objs.size = none := I1.hok.fresh (Nat.le_refl _)
  refine ⟨.ref s1.heap.objs.size, upd H1 s1.heap.objs.size (.lst xs), I1.laid (t' := s1.toks) (fun b u e => Heap.get?_push_of_some _ e) (Nat.le_refl _) ?_, rfl, q _ hf (Ne.symm (Nat.ne_of_lt I1.big))⟩
  exact ⟨z, us, 0, r, Heap.get?_push_size _ rfl⟩
end
theorem flat_tk (m : List (Str × Str)) : Flat (m.map fun p => ((Sum.inr p.1 : Key), V.str p.2)) (m.map fun p => (PyData.str p.1, PyData.str p.2)) := by
  induction m with
  | nil => exact .nil
  | cons p m ih => exact .cons (k := Sum.inr p.1) rfl ih
theorem repr3_go {L D : Addr} {m : List (Str × Str)} {a b : Int} {H : Hp} {Q : VK} (hn : L ≠ sysModules) (hL : H L = some (.lst [.ref D, .int a, .int b])) (hD : H D = some (.dK (m.map fun p => ((Sum.inr p.1 : Key), V.str p.2)))) (ok : PyData.showable (d3 (m.map fun p => (PyData.str p.1, PyData.str p.2)) a b) = true ∧ PyData.depth (d3 (m.map fun p => (PyData.str p.1, PyData.str p.2)) a b) ≤ 50 ∧ (d3 (m.map fun p => (PyData.str p.1, PyData.str p.2)) a b).shown.length ≤ sizeLine)
    (q : Q (.str (d3 (m.map fun p => (PyData.str p.1, PyData.str p.2)) a b).shown) H) : rRepr3 [.ref L] H Q := by
  unfold rRepr3
  exact ⟨L, D, _, _, a, b, rfl, hn, hL, hD, flat_tk m, ok.1, ok.2.1, ok.2.2, q⟩
theorem fit_kv {N D : Nat} : ∀ {ds : List (PyData × PyData)}, (∀ p ∈ ds, Fit N D p.1 ∧ Fit N D p.2) → PyData.showableKv ds = true ∧ PyData.depthKv ds ≤ D ∧ PyData.leavesShortKv 13 ds = true ∧ PyData.bulkKv ds ≤ (2 * N + 2) * ds.length
  | [], _ => ⟨by simp only [PyData.showableKv], by simp only [PyData.depthKv]; omega, by simp only [PyData.leavesShortKv], by simp only [PyData.bulkKv]; omega⟩
  | (a, b) :: ds, h => by
    obtain ⟨h1, h2⟩ := h (a, b) (List.mem_cons_self ..)
    obtain ⟨a2, a3, a4, a5⟩ := fit_kv (ds := ds) fun x hx => h x (List.mem_cons_of_mem _ hx)
    have b3 := h1.dp
    have b5 := h1.bk
    have c3 := h2.dp
    have c5 := h2.bk
    simp only at b3 b5 c3 c5
    refine ⟨?_, ?_, ?_, ?_⟩
    · simp only [PyData.showableKv, h1.sh, h2.sh, a2, Bool.and_self]
    · simp only [PyData.depthKv]; omega
    · simp only [PyData.leavesShortKv, h1.ls, h2.ls, a4, Bool.and_self]
    · simp only [PyData.bulkKv, List.length_cons]
      rw [Nat.mul_add]
      omega
/-- such data is small -/
theorem d3_ok {m : List (Str × Str)} {a b : Int} (h : ∀ p ∈ m, (∀ c ∈ p.1.cps.toList, c < 128) ∧ (∀ c ∈ p.2.cps.toList, c < 128) ∧ p.1.length ≤ 200 ∧ p.2.length ≤ 200) (l : m.length ≤ 40) (ha : 0 ≤ a) (ha2 : a ≤ 1000) (hb : 0 ≤ b) (hb2 : b ≤ 1000) :
    PyData.showable (d3 (m.map fun p => (PyData.str p.1, PyData.str p.2)) a b) = true ∧ PyData.depth (d3 (m.map fun p => (PyData.str p.1, PyData.str p.2)) a b) ≤ 50 ∧ (d3 (m.map fun p => (PyData.str p.1, PyData.str p.2)) a b).shown.length ≤ sizeLine := by
  obtain ⟨k1, k2, k3, k4⟩ := fit_kv (N := 200) (D := 0) (ds := m.map fun p => (PyData.str p.1, PyData.str p.2)) (by
    intro p hp
    obtain ⟨q, hq, rfl⟩ := List.mem_map.mp hp
    obtain ⟨q1, q2, q3, q4⟩ := h q hq
    exact ⟨Fit.str q1 q3, Fit.str q2 q4⟩)
  have hi : ∀ i : Int, 0 ≤ i → i ≤ 1000 → Fit 0 0 (.int i) := fun i h0 h1 => Fit.int ⟨PyData.shown_int_le (Nat.lt_of_le_of_lt (m := 1000) (by omega) (by decide)), Nat.lt_of_le_of_lt (m := 1000) (by omega) (by decide)⟩
  have ia := hi a ha ha2
  have ib := hi b hb hb2
  have k5 : (m.map fun p => (PyData.str p.1, PyData.str p.2)).length ≤ 40 := by rw [List.length_map]; exact l
  generalize (m.map fun p => (PyData.str p.1, PyData.str p.2)) = ds at *
  refine ⟨?_, ?_, PyData.shown_fits_bulk (B := 13) (by decide) (by decide) ?_ ?_⟩
  · simp only [d3, PyData.showable, PyData.showableAll, k1, Bool.and_self, Bool.and_true, Bool.true_and, Bool.and_eq_true]
    exact ⟨by simpa only [PyData.showable] using ia.sh, by simpa only [PyData.showable] using ib.sh⟩
  · simp only [d3, PyData.depth, PyData.depthAll]
    omega
  · simp only [d3, PyData.leavesShort, PyData.leavesShortAll, k3, Bool.and_self, Bool.and_true, Bool.true_and, Bool.and_eq_true]
    exact ⟨by simpa only [PyData.leavesShort] using ia.ls, by simpa only [PyData.leavesShort] using ib.ls⟩
  · simp only [d3, PyData.bulk, PyData.bulkAll]
    have : 402 * ds.length ≤ 402 * 40 := Nat.mul_le_mul_left _ k5
    have e : (2 ^ 20 : Nat) = 1048576 := by decide
    omega
open PySem PySem.Spec PyProof.Rows L2
/-! ## repr of a list of numbers, texts, dicts of these -/
/-- an item of such a list -/
inductive Rf (H : Hp) : V → PyData → Prop
  | atom {v : V} {d : PyData} : vD v = some d → Rf H v d
  | dct {a : Addr} {kvs : List (Key × V)} {ds : List (PyData × PyData)} : H a = some (.dK kvs) → Flat kvs ds → Rf H (.ref a) (.dict ds)
@[irreducible] def rReprF : List V → Hp → VK → Prop := fun xs H Q => ∃ (L : Addr) (ys : List V) (ds : List PyData), xs = [.ref L] ∧ L ≠ sysModules ∧ H L = some (.lst ys) ∧ Paired (Rf H) ys ds ∧
  PyData.showable (.list ds) = true ∧ PyData.depth (.list ds) ≤ 50 ∧ (PyData.list ds).shown.length ≤ sizeLine ∧ Q (.str (PyData.list ds).shown) H
section
variable {X : Cx} {pins : List (Addr × Obj)} {σ : L2.St} {H : Hp} {s : Shared}
theorem Rf.reads (I : Inv X pins σ H s) {x : V} {d : PyData} {u : Value} (h : Rf H x d) (r : RelV x u) : ∃ as, Reads s.heap u d as ∧ sysModules ∉ as := by
  cases h with
  | atom h => exact ⟨[], vD_reads h r, by simp⟩
  | dct h1 h2 =>
    obtain ⟨as, rd, hm⟩ := Rp.reads (X := X) I (Rp.dct h1 h2) r
    exact ⟨as, rd, hm (by simp [PyData.hasDict])⟩
theorem Rf.readsAll (I : Inv X pins σ H s) : ∀ {xs : List V} {ds : List PyData} {us : List Value}, Paired (Rf H) xs ds → Vals xs us → ∃ as, ReadsAll s.heap us ds as ∧ sysModules ∉ as
  | _, _, _, .nil, .nil => ⟨[], .nil, by simp⟩
  | _, _, _, .cons h t, .cons r q => by
    obtain ⟨a1, r1, n1⟩ := h.reads I r
    obtain ⟨a2, r2, n2⟩ := Rf.readsAll I t q
    exact ⟨a1 ++ a2, .cons r1 r2, fun hm => (List.mem_append.mp hm).elim n1 n2⟩
theorem call_reprF (hg : X.A.guards = some []) (hu : X.A.units + 60 < cLine) : CallR X (.builtin "repr") rReprF := by
  intro pins s σ H xs us Q I r h
  unfold rReprF at h
  obtain ⟨L, ys, ds, rfl, hns, hL, hp, hs, hd, hz, q⟩ := h
  obtain rfl := Vals.ref1 r
  obtain ⟨_, its, n, rv, ho⟩ := I.hok L _ hL
  obtain ⟨as, rd, hm⟩ := Rf.readsAll I hp rv
  have R := Reads.list (h := s.heap) ho rfl rfl rd
  refine repr_of_reads' R hs (fun _ => ?_) hg (by omega) (fun _ _ e => e) (fun h' u tk hk => ⟨.str _, H, I.kept hk, ⟨_, rfl⟩, q⟩) hz
  intro hmem
  rcases List.mem_cons.mp hmem with e | e
  · exact hns e.symm
  · exact hm e
end
/-- small data, dicts too -/
structure FitR (N D : Nat) (d : PyData) : Prop where
  sh : d.showable = true
  dp : d.depth ≤ D
  ls : d.leavesShort 13 = true
  bk : d.bulk ≤ N
theorem Fit.r {N D : Nat} {d : PyData} (h : Fit N D d) : FitR N D d := ⟨h.sh, h.dp, h.ls, h.bk⟩
theorem FitR.mono {N D N' D' : Nat} {d : PyData} (h : FitR N D d) (hN : N ≤ N') (hD : D ≤ D') : FitR N' D' d := ⟨h.sh, Nat.le_trans h.dp hD, h.ls, Nat.le_trans h.bk hN⟩
theorem FitR.dict {N D : Nat} {ds : List (PyData × PyData)} (h : ∀ p ∈ ds, Fit N D p.1 ∧ Fit N D p.2) : FitR ((2 * N + 2) * ds.length) (D + 1) (.dict ds) := by
  obtain ⟨k1, k2, k3, k4⟩ := fit_kv h
  exact ⟨by simpa only [PyData.showable] using k1, by simp only [PyData.depth]; omega, by simpa only [PyData.leavesShort] using k3, by simpa only [PyData.bulk] using k4⟩
theorem fitR_all {N D : Nat} : ∀ {ds : List PyData}, (∀ d ∈ ds, FitR N D d) → PyData.showableAll ds = true ∧ PyData.depthAll ds ≤ D ∧ PyData.leavesShortAll 13 ds = true ∧ PyData.bulkAll ds ≤ (N + 1) * ds.length
  | [], _ => ⟨by simp only [PyData.showableAll], by simp only [PyData.depthAll]; omega, by simp only [PyData.leavesShortAll], by simp only [PyData.bulkAll]; omega⟩
  | d :: ds, h => by
    have h1 := h d (List.mem_cons_self ..)
    obtain ⟨a2, a3, a4, a5⟩ := fitR_all (ds := ds) fun x hx => h x (List.mem_cons_of_mem _ hx)
    have b3 := h1.dp
    have b5 := h1.bk
    refine ⟨?_, ?_, ?_, ?_⟩
    · simp only [PyData.showableAll, h1.sh, a2, Bool.and_self]
    · simp only [PyData.depthAll]; omega
    · simp only [PyData.leavesShortAll, h1.ls, a4, Bool.and_self]
    · simp only [PyData.bulkAll, List.length_cons]
      rw [Nat.mul_add]
      omega
theorem FitR.list {N D : Nat} {ds : List PyData} (h : ∀ d ∈ ds, FitR N D d) : FitR ((N + 1) * ds.length) (D + 1) (.list ds) := by
  obtain ⟨a2, a3, a4, a5⟩ := fitR_all h
  exact ⟨by simpa only [PyData.showable] using a2, by simp only [PyData.depth]; omega, by simpa only [PyData.leavesShort] using a4, by simpa only [PyData.bulk] using a5⟩
theorem FitR.ok {d : PyData} {N D : Nat} (h : FitR N D d) (hN : N ≤ 1048576) (hD : D ≤ 50) : PyData.showable d = true ∧ PyData.depth d ≤ 50 ∧ d.shown.length ≤ sizeLine :=
  ⟨h.sh, Nat.le_trans h.dp hD, PyData.shown_fits_bulk (by decide) (by decide) h.ls (Nat.le_trans h.bk (Nat.le_trans hN (by decide)))⟩
theorem reprF_go {L : Addr} {ys : List V} {ds : List PyData} {N D : Nat} {H : Hp} {Q : VK} (hn : L ≠ sysModules) (hL : H L = some (.lst ys)) (hp : Paired (Rf H) ys ds) (h : FitR N D (.list ds)) (hN : N ≤ 1048576) (hD : D ≤ 50) (q : Q (.str (PyData.list ds).shown) H) : rReprF [.ref L] H Q := by
  unfold rReprF
  obtain ⟨a, b, c⟩ := h.ok hN hD
  exact ⟨L, ys, ds, rfl, hn, hL, hp, a, b, c, q⟩
theorem fit_i {i : Int} (h0 : 0 ≤ i) (h1 : i ≤ 1000) : Fit 0 0 (.int i) := Fit.int ⟨PyData.shown_int_le (Nat.lt_of_le_of_lt (m := 1000) (by omega) (by decide)), Nat.lt_of_le_of_lt (m := 1000) (by omega) (by decide)⟩
theorem fitR_tk {m : List (Str × Str)} (h : ∀ p ∈ m, (∀ c ∈ p.1.cps.toList, c < 128) ∧ (∀ c ∈ p.2.cps.toList, c < 128) ∧ p.1.length ≤ 200 ∧ p.2.length ≤ 200) : FitR (402 * m.length) 1 (.dict (m.map fun p => (PyData.str p.1, PyData.str p.2))) := by
  have := FitR.dict (N := 200) (D := 0) (ds := m.map fun p => (PyData.str p.1, PyData.str p.2)) (by
    intro p hp
    obtain ⟨q, hq, rfl⟩ := List.mem_map.mp hp
    obtain ⟨q1, q2, q3, q4⟩ := h q hq
    exact ⟨Fit.str q1 q3, Fit.str q2 q4⟩)
  rw [List.length_map] at this
  exact this
open PySem PySem.Spec PyProof.Rows L2
/-! ## data with numbers of up to B signs -/
structure FitB (B N D : Nat) (d : PyData) : Prop where
  sh : d.showable = true
  dp : d.depth ≤ D
  ls : d.leavesShort B = true
  bk : d.bulk ≤ N
theorem FitB.str {B N D : Nat} {z : Str} (h : ∀ c ∈ z.cps.toList, c < 128) (l : z.length ≤ N) : FitB B N D (.str z) := by
  refine ⟨rfl, Nat.zero_le _, ?_, l⟩
  show (z.cps.toList.all fun c => decide (c < 16 ^ 8)) = true
  exact List.all_eq_true.mpr fun c hc => decide_eq_true (by
    have := h c hc
    have : (128 : Nat) ≤ 16 ^ 8 := by decide
    omega)
theorem FitB.int {B N D k : Nat} {i : Int} (hk : 0 < k) (hB : k + 1 ≤ B) (h : i.natAbs < 10 ^ k) (h2 : i.natAbs < 2 ^ 1900) : FitB B N D (.int i) := by
  refine ⟨?_, Nat.zero_le _, ?_, Nat.zero_le _⟩
  · refine decide_eq_true ?_
    rcases Nat.eq_zero_or_pos i.natAbs with e | e
    · rw [e]; decide
    · have := (Nat.log2_lt (by omega)).mpr h2
      omega
  · refine decide_eq_true ?_
    have e := int_text_length_le10 hk h
    show (Str.ofString (toString i)).length ≤ B
    rw [PySem.ofString_length]
    omega
theorem FitB.non {B N D : Nat} : FitB B N D .none := ⟨rfl, Nat.zero_le _, rfl, Nat.zero_le _⟩
theorem FitB.bool {B N D : Nat} (b : Bool) : FitB B N D (.bool b) := ⟨rfl, Nat.zero_le _, rfl, Nat.zero_le _⟩
theorem FitB.mono {B N D N' D' : Nat} {d : PyData} (h : FitB B N D d) (hN : N ≤ N') (hD : D ≤ D') : FitB B N' D' d := ⟨h.sh, Nat.le_trans h.dp hD, h.ls, Nat.le_trans h.bk hN⟩
theorem fitB_kv {B N D : Nat} : ∀ {ds : List (PyData × PyData)}, (∀ p ∈ ds, FitB B N D p.1 ∧ FitB B N D p.2) → PyData.showableKv ds = true ∧ PyData.depthKv ds ≤ D ∧ PyData.leavesShortKv B ds = true ∧ PyData.bulkKv ds ≤ (2 * N + 2) * ds.length
  | [], _ => ⟨by simp only [PyData.showableKv], by simp only [PyData.depthKv]; omega, by simp only [PyData.leavesShortKv], by simp only [PyData.bulkKv]; omega⟩
  | (a, b) :: ds, h => by
    obtain ⟨h1, h2⟩ := h (a, b) (List.mem_cons_self ..)
    obtain ⟨a2, a3, a4, a5⟩ := fitB_kv (ds := ds) fun x hx => h x (List.mem_cons_of_mem _ hx)
    have b3 := h1.dp
    have b5 := h1.bk
    have c3 := h2.dp
    have c5 := h2.bk
    simp only at b3 b5 c3 c5
    refine ⟨?_, ?_, ?_, ?_⟩
    · simp only [PyData.showableKv, h1.sh, h2.sh, a2, Bool.and_self]
    · simp only [PyData.depthKv]; omega
    · simp only [PyData.leavesShortKv, h1.ls, h2.ls, a4, Bool.and_self]
    · simp only [PyData.bulkKv, List.length_cons]
      rw [Nat.mul_add]
      omega
theorem fitB_all {B N D : Nat} : ∀ {ds : List PyData}, (∀ d ∈ ds, FitB B N D d) → PyData.showableAll ds = true ∧ PyData.depthAll ds ≤ D ∧ PyData.leavesShortAll B ds = true ∧ PyData.bulkAll ds ≤ (N + 1) * ds.length
  | [], _ => ⟨by simp only [PyData.showableAll], by simp only [PyData.depthAll]; omega, by simp only [PyData.leavesShortAll], by simp only [PyData.bulkAll]; omega⟩
  | d :: ds, h => by
    have h1 := h d (List.mem_cons_self ..)
    obtain ⟨a2, a3, a4, a5⟩ := fitB_all (ds := ds) fun x hx => h x (List.mem_cons_of_mem _ hx)
    have b3 := h1.dp
    have b5 := h1.bk
    refine ⟨?_, ?_, ?_, ?_⟩
    · simp only [PyData.showableAll, h1.sh, a2, Bool.and_self]
    · simp only [PyData.depthAll]; omega
    · simp only [PyData.leavesShortAll, h1.ls, a4, Bool.and_self]
    · simp only [PyData.bulkAll, List.length_cons]
      rw [Nat.mul_add]
      omega
theorem FitB.dict {B N D : Nat} {ds : List (PyData × PyData)} (h : ∀ p ∈ ds, FitB B N D p.1 ∧ FitB B N D p.2) : FitB B ((2 * N + 2) * ds.length) (D + 1) (.dict ds) := by
  obtain ⟨k1, k2, k3, k4⟩ := fitB_kv h
  exact ⟨by simpa only [PyData.showable] using k1, by simp only [PyData.depth]; omega, by simpa only [PyData.leavesShort] using k3, by simpa only [PyData.bulk] using k4⟩
theorem FitB.list {B N D : Nat} {ds : List PyData} (h : ∀ d ∈ ds, FitB B N D d) : FitB B ((N + 1) * ds.length) (D + 1) (.list ds) := by
  obtain ⟨a2, a3, a4, a5⟩ := fitB_all h
  exact ⟨by simpa only [PyData.showable] using a2, by simp only [PyData.depth]; omega, by simpa only [PyData.leavesShort] using a4, by simpa only [PyData.bulk] using a5⟩
theorem FitB.tuple {B N D : Nat} {ds : List PyData} (h : ∀ d ∈ ds, FitB B N D d) : FitB B ((N + 1) * ds.length) (D + 1) (.tuple ds) := by
  obtain ⟨a2, a3, a4, a5⟩ := fitB_all h
  exact ⟨by simpa only [PyData.showable] using a2, by simp only [PyData.depth]; omega, by simpa only [PyData.leavesShort] using a4, by simpa only [PyData.bulk] using a5⟩
theorem FitB.ok {B N D : Nat} {d : PyData} (h : FitB B N D d) (hB : 8 ≤ B) (hN : (B + 2) * N + B ≤ 1000000) (hD : D ≤ 50) : PyData.showable d = true ∧ PyData.depth d ≤ 50 ∧ d.shown.length ≤ sizeLine := by
  refine ⟨h.sh, Nat.le_trans h.dp hD, ?_⟩
  have e := PyData.shown_le_bulk B hB d h.ls
  have e2 : (B + 2) * d.bulk ≤ (B + 2) * N := Nat.mul_le_mul_left _ h.bk
  rw [sizeLine_eq]
  omega
open PySem PySem.Spec PyProof.Rows
open L2 hiding pass0
/-! ### cells as data -/
def oD : Option (List Nat) → PyData
  | some a => .str (SX.S a)
  | none => .none
def cellD (n : Nat) (ks : List (List Nat)) (s : List Nat) : PyData := .tuple [.str (SX.S s), .int ((M.many n ks s : Nat) : Int), oD (M.cellA n ks s)]
def cellsD (n : Nat) (ks : List (List Nat)) : PyData := .list (ks.map (cellD n ks))
theorem tc_dp {K : PySem.W.Frag} {H : Hp} {n : Nat} {ks : List (List Nat)} : ∀ {as : List Addr} {ss : List (List Nat)}, Tc H n ks as ss → DpAll K H (as.map V.ref) (ss.map (cellD n ks))
  | _, _, .nil => .nil
  | _, _, .cons (s := s) h r => .cons (.tup (SqT.of h) (.cons (.str _) (.cons (.int _) (.cons (by
      cases M.cellA n ks s with
      | none => exact .non
      | some a => exact .str _) .nil)))) (tc_dp r)
theorem told_dp {K : PySem.W.Frag} {H : Hp} {n : Nat} {ks : List (List Nat)} {L : Addr} (h : Told H n ks L) : Dp K H (.ref L) (cellsD n ks) := by
  obtain ⟨as, e, t⟩ := h
  exact .lst (SqL.of e) (tc_dp t)
theorem fitB_100 {N D c : Nat} (h : c ≤ 2 ^ 100) : FitB 40 N D (.int (c : Int)) := by
  have e3 : 2 ^ 100 < 10 ^ 31 := by decide
  have e4 : 2 ^ 100 < 2 ^ 1900 := Nat.pow_lt_pow_right (by decide) (by decide)
  exact FitB.int (k := 31) (by decide) (by decide) (by rw [Int.natAbs_natCast]; exact Nat.lt_of_le_of_lt h e3) (by rw [Int.natAbs_natCast]; exact Nat.lt_of_le_of_lt h e4)
theorem cellD_fitB {n : Nat} {ks : List (List Nat)} {s : List Nat} (h0 : 1 ≤ n) (h1 : n ≤ 100) (kn : M.Known n ks) (hs : s ∈ ks) : FitB 40 303 1 (cellD n ks s) := by
  refine FitB.tuple (B := 40) (N := 100) (D := 0) (ds := [.str (SX.S s), .int ((M.many n ks s : Nat) : Int), oD (M.cellA n ks s)]) fun d hd => ?_
  have low : ∀ t, M.BL t → ∀ c ∈ (SX.S t).cps.toList, c < 128 := fun t ht => (sx_bits ht).low
  simp only [List.mem_cons, List.not_mem_nil, or_false] at hd
  rcases hd with rfl | rfl | rfl
  · exact .str (low s (kn.bits s hs)) (by rw [sx_len]; have := kn.fit s hs; omega)
  · refine fitB_100 ?_
    exact Nat.le_trans (Nat.sub_le _ _) (by unfold M.size; exact Nat.pow_le_pow_right (by decide) (by omega))
  · cases e : M.cellA n ks s with
    | none => exact .non
    | some a =>
      have ha : M.BL a ∧ a.length = n := by
        unfold M.cellA at e
        split at e
        · cases e
        · rename_i c
          cases e
          have := M.adr_ok h0 ((M.find_cell kn hs).2 c).1
          exact ⟨this.1, this.2.1⟩
      exact .str (low a ha.1) (by rw [sx_len]; omega)
theorem cells_noD (n : Nat) (ks : List (List Nat)) : PyData.hasDict (cellsD n ks) = false := by
  have h1 : ∀ s, PyData.hasDict (cellD n ks s) = false := fun s => by
    unfold cellD
    cases M.cellA n ks s <;> simp [oD, PyData.hasDict, PyData.hasDictAll]
  have h2 : ∀ ss : List (List Nat), PyData.hasDictAll (ss.map (cellD n ks)) = false := fun ss => by
    induction ss with
    | nil => simp [PyData.hasDictAll]
    | cons s r ih => rw [List.map_cons]; simp [PyData.hasDictAll, h1 s, ih]
  unfold cellsD
  simp [PyData.hasDict, h2]
theorem FitB.okW {B N D : Nat} {d : PyData} (h : FitB B N D d) (hB : 8 ≤ B) (hN : (B + 2) * N + B ≤ 16777216) (hD : D ≤ 50) : PyData.showable d = true ∧ PyData.depth d ≤ 50 ∧ d.shown.length ≤ sizeLine := by
  refine ⟨h.sh, Nat.le_trans h.dp hD, ?_⟩
  have e := PyData.shown_le_bulk B hB d h.ls
  have e2 : (B + 2) * d.bulk ≤ (B + 2) * N := Nat.mul_le_mul_left _ h.bk
  rw [sizeLine_eq]
  omega
theorem cells_rp {K : PySem.W.Frag} {H : Hp} {n : Nat} {ks : List (List Nat)} {L : Addr} (h : Told H n ks L) (h0 : 1 ≤ n) (h1 : n ≤ 100) (kn : M.Known n ks) (hl : ks.length ≤ 900) : Rp K H (.ref L) (cellsD n ks) ∧ PyData.showable (cellsD n ks) = true ∧ PyData.depth (cellsD n ks) ≤ 50 ∧ (cellsD n ks).shown.length ≤ sizeLine := by
  have hf := FitB.list (B := 40) (N := 303) (D := 1) (ds := ks.map (cellD n ks)) fun d hd => by
    obtain ⟨s, hs, rfl⟩ := List.mem_map.mp hd
    exact cellD_fitB h0 h1 kn hs
  rw [List.length_map] at hf
  exact ⟨.dat (told_dp h) (cells_noD n ks), (hf.mono (N' := 304 * 900) (D' := 2) (Nat.mul_le_mul_left _ hl) (Nat.le_refl _)).okW (by decide) (by decide) (by decide)⟩
/-! ### a list of cells, made since -/
def CL (H0 : Hp) (B : Addr) (n : Nat) (ks ss : List (List Nat)) (H : Hp) : Prop := (∃ as : List Addr, H B = some (.lst (as.map V.ref)) ∧ Tc H n ks as ss) ∧ Same H0 H
theorem CL.nil {B : Addr} {H0 : Hp} {n : Nat} {ks : List (List Nat)} (nB : H0 B = none) : CL H0 B n ks [] (upd H0 B (.lst [])) := ⟨⟨[], upd_same, .nil⟩, fun b o e => updn (nonn nB e) e⟩
theorem CL.turn {B t : Addr} {H0 H1 H2 : Hp} {n : Nat} {ks ss : List (List Nat)} {s : List Nat} {x y : V} (h : CL H0 B n ks ss H1) (nB : H0 B = none) (sm : Same H1 H2) (nt : H2 t = none) (hl : ss.length ≤ 100000)
    (ex : x = .int ((M.many n ks s : Nat) : Int)) (ey : y = oA (M.cellA n ks s)) :
    ∃ acc, upd H2 t (.tup [sx s, x, y]) B = some (.lst acc) ∧ acc.length < sizeLine ∧ CL H0 B n ks (ss ++ [s]) (upd (upd H2 t (.tup [sx s, x, y])) B (.lst (acc ++ [.ref t]))) := by
  subst ex ey
  obtain ⟨⟨as, hB, tq⟩, s0⟩ := h
  have hB2 := sm _ _ hB
  have nBt : B ≠ t := nonn nt hB2
  refine ⟨as.map V.ref, updn nBt hB2, szt (by rw [List.length_map, tq.len]; omega), ⟨as ++ [t], by rw [upd_same, List.map_append]; rfl, ?_⟩, fun b o e => updn (nonn nB e) (updn (nonn nt (sm _ _ (s0 _ _ e))) (sm _ _ (s0 _ _ e)))⟩
  have t2 : Tc (upd H2 t (.tup [sx s, .int ((M.many n ks s : Nat) : Int), oA (M.cellA n ks s)])) n ks (as ++ [t]) (ss ++ [s]) := Tc.snoc upd_same (tq.mono fun a l e => updn (nonn nt (sm _ _ e)) (sm _ _ e))
  refine t2.mono fun a l e => updn (fun z => ?_) e
  rw [z, updn nBt hB2] at e
  cases e
theorem Tc.app {H : Hp} {w : Nat} {ks : List (List Nat)} {bs : List Addr} {us : List (List Nat)} (u : Tc H w ks bs us) : ∀ {as : List Addr} {ss : List (List Nat)}, Tc H w ks as ss → Tc H w ks (as ++ bs) (ss ++ us)
  | _, _, .nil => u
  | _, _, .cons h r => .cons h (Tc.app u r)
theorem tc_at {H : Hp} {w : Nat} {ks : List (List Nat)} : ∀ {as : List Addr} {ss : List (List Nat)} {q : Addr × List Nat}, Tc H w ks as ss → q ∈ as.zip ss → H q.1 = some (.tup [sx q.2, .int ((M.many w ks q.2 : Nat) : Int), oA (M.cellA w ks q.2)])
  | _, _, q, .nil, h => by cases h
  | _, _, q, .cons h r, hq => by
    rcases List.mem_cons.mp hq with e | hq
    · rw [e]; exact h
    · exact tc_at r hq
theorem tc_of {H : Hp} {w : Nat} {ks : List (List Nat)} : ∀ {Ls : List (Addr × Str)}, (∀ p ∈ Ls, H p.1 = some (.tup [sx p.2.cps.toList, .int ((M.many w ks p.2.cps.toList : Nat) : Int), oA (M.cellA w ks p.2.cps.toList)])) → Tc H w ks (Ls.map (·.1)) (Ls.map fun p => p.2.cps.toList)
  | [], _ => .nil
  | p :: Ls, h => .cons (h p (List.mem_cons_self ..)) (tc_of fun q hq => h q (List.mem_cons_of_mem _ hq))
/-- told in the order of their texts -/
theorem told_sorted {H : Hp} {n : Nat} {ks : List (List Nat)} {as : List Addr} {ss : List (List Nat)} {Ms : List (Addr × Str)} {q : Addr} (tq : Tc H n ks as ss) (pm : Ms.Perm (as.zip (ss.map SX.S))) (ts : TS (Ms.map (·.2))) (nd : ss.Nodup) (ko : ks.Pairwise (· < ·)) (hk : ∀ t, t ∈ ss ↔ t ∈ ks) (hq : H q = some (.lst (Ms.map fun p => V.ref p.1))) :
    Told H n ks q := by
  have hsn : (Ms.map (·.2)).Perm (ss.map SX.S) := by
    have := pm.map (·.2)
    rw [List.map_snd_zip (by rw [List.length_map, tq.len]; exact Nat.le_refl _)] at this
    exact this
  have hM : (Ms.map fun p => p.2.cps.toList) = ks := by
    have pe : (Ms.map fun p => p.2.cps.toList).Perm ss := by
      have := hsn.map fun z : Str => z.cps.toList
      rw [List.map_map, List.map_map] at this
      have e : ss.map ((fun z : Str => z.cps.toList) ∘ SX.S) = ss := by
        conv => rhs; rw [← List.map_id' ss]
        exact List.map_congr_left fun t _ => tl_S t
      rw [e] at this
      exact this
    refine ord_eq ?_ ko fun t => by rw [pe.mem_iff, hk]
    have n2 := pe.nodup_iff.mpr nd
    rw [List.pairwise_map]
    have ts2 : Ms.Pairwise fun a b => tLt b.2 a.2 = false := List.pairwise_map.mp ts
    have n3 : Ms.Pairwise fun a b => a.2.cps.toList ≠ b.2.cps.toList := List.pairwise_map.mp (List.nodup_iff_pairwise_ne.mp n2)
    refine (ts2.and n3).imp fun {a b} h => ?_
    have h1 : ¬ b.2.cps.toList < a.2.cps.toList := by simpa [tLt] using h.1
    rcases Decidable.em (a.2.cps.toList < b.2.cps.toList) with c | c
    · exact c
    · exact absurd (List.le_antisymm (List.not_lt.mp h1) (List.not_lt.mp c)) h.2
  refine ⟨Ms.map (·.1), by rw [List.map_map]; exact hq, ?_⟩
  have key : ∀ p ∈ Ms, H p.1 = some (.tup [sx p.2.cps.toList, .int ((M.many n ks p.2.cps.toList : Nat) : Int), oA (M.cellA n ks p.2.cps.toList)]) := fun p hp => by
    have hz := pm.mem_iff.mp hp
    obtain ⟨i, hi⟩ := List.mem_iff_getElem?.mp hz
    obtain ⟨h1, h2⟩ := List.getElem?_zip_eq_some.mp hi
    rw [List.getElem?_map] at h2
    cases e : ss[i]? with
    | none => rw [e] at h2; cases h2
    | some t =>
      rw [e] at h2
      have e2 : SX.S t = p.2 := Option.some.inj h2
      have hz2 : (p.1, t) ∈ as.zip ss := List.mem_iff_getElem?.mpr ⟨i, List.getElem?_zip_eq_some.mpr ⟨h1, e⟩⟩
      have := tc_at tq hz2
      rw [← e2, tl_S]
      exact this
  have := tc_of key
  rw [hM] at this
  exact this
open PySem PySem.Spec PyProof.Rows
open L2 hiding pass0
abbrev s_law_crowd_right : Stmt := top 36
theorem sc_law_crowd_right : FnScope ["_law_bit", "_law_some_here", "_law_due", "_law_twin", "_law_turn", "_law_longer", "_law_part", "_law_sign", "_law_at"] ["_law_bit"] (defScope s_law_crowd_right) := ⟨rfl, rfl, rfl, by decide +kernel, rfl, by decide +kernel, by decide +kernel⟩
theorem bp_law_crowd_right : BndP "_law_crowd_right" s_law_crowd_right ["_law_bit"] := fun _ _ _ _ _ _ us h => match us, h with | [_], _ => rfl
theorem cr_sortedTxK {X : Cx} {K : PySem.W.Frag} (hk : X.K = K) : CallR X (.builtin "sorted") (rSortTx K) := hk ▸ cr_sortedTx
theorem S_one (b : Nat) : SX.S [b] = (⟨#[b]⟩ : Str) := rfl
theorem repb_S (b k : Nat) : (⟨(List.replicate k (SX.S [b]).cps.toList).flatten.toArray⟩ : Str) = SX.S (List.replicate k b) := by
  rw [tl_S, List.flatten_replicate_singleton]
/-- all of at most r signs -/
structure Tree (r : Nat) (ts : List (List Nat)) : Prop where
  mem : ∀ t, t ∈ ts ↔ M.BL t ∧ t.length ≤ r
  nd : ts.Nodup
  few : ts.length ≤ 3 ^ r
/-- what the next ones are while they are put together -/
structure Gr (ts ls : List (List Nat)) (i : Nat) : Prop where
  mem : ∀ t, t ∈ ls ↔ t ∈ ts ∨ ∃ p ∈ ts.take i, ∃ c, (c = 48 ∨ c = 49) ∧ t = p ++ [c]
  nd : ls.Nodup
  few : ls.length ≤ ts.length + 2 * i
theorem Gr.start {ts : List (List Nat)} (nd : ts.Nodup) : Gr ts ts 0 := ⟨fun t => by simp, nd, Nat.le_refl _⟩
def nw (ls : List (List Nat)) (p : List Nat) (cs : List Nat) : List (List Nat) := (cs.map fun c => p ++ [c]).filter fun t => decide (t ∉ ls)
theorem Gr.next {ts ls : List (List Nat)} {i : Nat} {p : List Nat} (g : Gr ts ls i) (hp : ts[i]? = some p) : Gr ts (ls ++ nw ls p [48, 49]) (i + 1) := by
  refine ⟨fun t => ?_, ?_, ?_⟩
  · rw [List.mem_append, g.mem, List.take_add_one, hp]
    unfold nw
    simp only [List.mem_filter, List.mem_map, decide_eq_true_eq, Option.toList, List.mem_append, List.mem_singleton]
    constructor
    · rintro ((h | ⟨q, hq, c, hc, e⟩) | ⟨⟨c, hc, e⟩, _⟩)
      · exact .inl h
      · exact .inr ⟨q, .inl hq, c, hc, e⟩
      · exact .inr ⟨p, .inr rfl, c, by simpa using hc, e.symm⟩
    · rintro (h | ⟨q, hq | hq, c, hc, e⟩)
      · exact .inl (.inl h)
      · exact .inl (.inr ⟨q, hq, c, hc, e⟩)
      · subst hq
        by_cases hin : t ∈ ls
        · exact .inl ((g.mem t).mp hin)
        · exact .inr ⟨⟨c, by simpa using hc, e.symm⟩, hin⟩
  · have n2 : ([48, 49].map fun c => p ++ [c]).Nodup := by simp
    refine List.nodup_append.mpr ⟨g.nd, n2.filter _, fun a ha b hb e => ?_⟩
    have := of_decide_eq_true (List.mem_filter.mp hb).2
    exact this (e ▸ ha)
  · rw [List.length_append]
    have h1 := g.few
    have h2 := List.length_filter_le (fun t => decide (t ∉ ls)) ([48, 49].map fun c => p ++ [c])
    unfold nw
    rw [List.length_map] at h2
    have : [48, 49].length = 2 := rfl
    omega
theorem Gr.done {r : Nat} {ts ls : List (List Nat)} (t : Tree r ts) (g : Gr ts ls ts.length) : Tree (r + 1) ls := by
  refine ⟨fun x => ?_, g.nd, ?_⟩
  · rw [g.mem, List.take_length, t.mem]
    constructor
    · rintro (⟨h1, h2⟩ | ⟨p, hp, c, hc, rfl⟩)
      · exact ⟨h1, by omega⟩
      · obtain ⟨h1, h2⟩ := (t.mem p).mp hp
        exact ⟨M.BL.app h1 fun d hd => by rw [List.mem_singleton] at hd; subst hd; exact hc, by rw [List.length_append]; show p.length + 1 ≤ r + 1; omega⟩
    · rintro ⟨h1, h2⟩
      rcases Nat.lt_or_ge r x.length with l | l
      · obtain ⟨b, y, rfl⟩ : ∃ b y, x = b ++ [y] := by
          have hx : x ≠ [] := fun q => by rw [q] at l; exact absurd l (Nat.not_lt_zero _)
          exact ⟨x.dropLast, x.getLast hx, (List.dropLast_concat_getLast hx).symm⟩
        rw [List.length_append] at h2
        have e1 : [y].length = 1 := rfl
        exact .inr ⟨b, (t.mem b).mpr ⟨M.BL.l h1, by omega⟩, y, h1 y (List.mem_append_right _ (List.mem_singleton.mpr rfl)), rfl⟩
      · exact .inl ⟨h1, l⟩
  · have h1 := g.few
    have h2 := t.few
    rw [Nat.pow_succ]
    omega
theorem chain_mem {b : Nat} {t : List Nat} : t ∈ ((List.range 94).map fun i => List.replicate (100 - i) b) ↔ t = List.replicate t.length b ∧ 7 ≤ t.length ∧ t.length ≤ 100 := by
  rw [List.mem_map]
  constructor
  · rintro ⟨i, hi, rfl⟩
    have := List.mem_range.mp hi
    rw [List.length_replicate]
    exact ⟨rfl, by omega, by omega⟩
  · rintro ⟨e, h1, h2⟩
    refine ⟨100 - t.length, List.mem_range.mpr (by omega), ?_⟩
    rw [show 100 - (100 - t.length) = t.length by omega]
    exact e.symm
theorem crowd_ks {b : Nat} (hb : b = 48 ∨ b = 49) {ts : List (List Nat)} (tr : Tree 6 ts) : M.Known 100 (ksOf (ts ++ (List.range 94).map fun i => List.replicate (100 - i) b)) ∧ ∀ t, t ∈ ksOf (ts ++ (List.range 94).map fun i => List.replicate (100 - i) b) ↔ Crowd b t := by
  have hm : ∀ t, t ∈ (ts ++ (List.range 94).map fun i => List.replicate (100 - i) b) ↔ Crowd b t := fun t => by
    rw [List.mem_append, tr.mem, chain_mem]
    unfold Crowd
    constructor
    · rintro (⟨h1, h2⟩ | ⟨e, h1, h2⟩)
      · exact ⟨h1, .inl h2⟩
      · exact ⟨(by rw [e]; exact (Crowd.chain hb (k := t.length) h2).1), .inr ⟨e, h2⟩⟩
    · rintro ⟨h1, h2 | ⟨e, h2⟩⟩
      · exact .inl ⟨h1, h2⟩
      · rcases Nat.lt_or_ge 6 t.length with l | l
        · exact .inr ⟨e, l, h2⟩
        · exact .inl ⟨h1, l⟩
  refine ⟨ks_known fun t ht => ?_, fun t => ?_⟩
  · have := (hm t).mp ht
    refine ⟨this.1, ?_⟩
    rcases this.2 with l | ⟨_, l⟩ <;> omega
  · rw [ks_mem, hm]
    constructor
    · rintro (rfl | h)
      · exact ⟨(fun c hc => by cases hc), .inl (Nat.zero_le _)⟩
      · exact h
    · exact .inr
theorem crowd_ss {b : Nat} (hb : b = 48 ∨ b = 49) {ts : List (List Nat)} (tr : Tree 6 ts) :
    (ts.filter (fun t => decide (t.length < 6)) ++ ts.filter (fun t => decide (t.length = 6 ∧ t ≠ List.replicate 6 b)) ++ ((List.range 94).map fun i => List.replicate (6 + i) b) ++ [List.replicate 100 b]).Nodup ∧
    ∀ t, t ∈ ts.filter (fun t => decide (t.length < 6)) ++ ts.filter (fun t => decide (t.length = 6 ∧ t ≠ List.replicate 6 b)) ++ ((List.range 94).map fun i => List.replicate (6 + i) b) ++ [List.replicate 100 b] ↔ Crowd b t := by
  have m1 : ∀ t, t ∈ ts.filter (fun t => decide (t.length < 6)) ↔ M.BL t ∧ t.length < 6 := fun t => by
    rw [List.mem_filter, tr.mem, decide_eq_true_iff]
    exact ⟨fun h => ⟨h.1.1, h.2⟩, fun h => ⟨⟨h.1, by omega⟩, h.2⟩⟩
  have m2 : ∀ t, t ∈ ts.filter (fun t => decide (t.length = 6 ∧ t ≠ List.replicate 6 b)) ↔ M.BL t ∧ t.length = 6 ∧ t ≠ List.replicate 6 b := fun t => by
    rw [List.mem_filter, tr.mem, decide_eq_true_iff]
    exact ⟨fun h => ⟨h.1.1, h.2⟩, fun h => ⟨⟨h.1, by omega⟩, h.2⟩⟩
  have m3 : ∀ t, t ∈ ((List.range 94).map fun i => List.replicate (6 + i) b) ↔ t = List.replicate t.length b ∧ 6 ≤ t.length ∧ t.length ≤ 99 := fun t => by
    rw [List.mem_map]
    constructor
    · rintro ⟨i, hi, rfl⟩
      have := List.mem_range.mp hi
      rw [List.length_replicate]
      exact ⟨rfl, by omega, by omega⟩
    · rintro ⟨e, h1, h2⟩
      refine ⟨t.length - 6, List.mem_range.mpr (by omega), ?_⟩
      rw [show 6 + (t.length - 6) = t.length by omega]
      exact e.symm
  have n3 : ((List.range 94).map fun i => List.replicate (6 + i) b).Nodup := by
    refine List.nodup_iff_pairwise_ne.mpr (List.pairwise_map.mpr ?_)
    have := List.nodup_iff_pairwise_ne.mp (List.nodup_range (n := 94))
    refine this.imp fun {i j} h e => h ?_
    have := congrArg List.length e
    rw [List.length_replicate, List.length_replicate] at this
    omega
  refine ⟨?_, fun t => ?_⟩
  · refine List.nodup_append.mpr ⟨List.nodup_append.mpr ⟨List.nodup_append.mpr ⟨tr.nd.filter _, tr.nd.filter _, fun x hx y hy e => ?_⟩, n3, fun x hx y hy e => ?_⟩, by simp, fun x hx y hy e => ?_⟩
    · subst e
      have h1 := ((m1 x).mp hx).2
      have h2 := ((m2 x).mp hy).2.1
      omega
    · subst e
      have h3 := (m3 x).mp hy
      rcases List.mem_append.mp hx with hx | hx
      · have h1 := ((m1 x).mp hx).2
        omega
      · obtain ⟨_, h2, h4⟩ := (m2 x).mp hx
        rw [h2] at h3
        exact h4 h3.1
    · rw [List.mem_singleton] at hy
      subst e
      subst hy
      rcases List.mem_append.mp hx with hx | hx
      · rcases List.mem_append.mp hx with hx | hx
        · have h1 := ((m1 _).mp hx).2
          rw [List.length_replicate] at h1
          omega
        · have h1 := ((m2 _).mp hx).2.1
          rw [List.length_replicate] at h1
          omega
      · have h1 := ((m3 _).mp hx).2.2
        rw [List.length_replicate] at h1
        omega
  · rw [List.mem_append, List.mem_append, List.mem_append, m1, m2, m3, List.mem_singleton]
    unfold Crowd
    constructor
    · rintro (((⟨h1, h2⟩ | ⟨h1, h2, _⟩) | ⟨h1, h2, h3⟩) | rfl)
      · exact ⟨h1, .inl (by omega)⟩
      · exact ⟨h1, .inl (by omega)⟩
      · exact ⟨(by rw [h1]; exact (Crowd.chain hb (k := t.length) (by omega)).1), .inr ⟨h1, by omega⟩⟩
      · exact Crowd.chain hb (by omega)
    · rintro ⟨h1, h2⟩
      by_cases c1 : t.length < 6
      · exact .inl (.inl (.inl ⟨h1, c1⟩))
      · by_cases c2 : t = List.replicate t.length b
        · have hl : t.length ≤ 100 := by rcases h2 with l | ⟨_, l⟩ <;> omega
          by_cases c3 : t.length ≤ 99
          · exact .inl (.inr ⟨c2, by omega, c3⟩)
          · rw [show t.length = 100 by omega] at c2
            exact .inr c2
        · rcases h2 with l | ⟨e, _⟩
          · have l6 : t.length = 6 := by omega
            exact .inl (.inl (.inr ⟨h1, l6, fun e => c2 (by rw [l6]; exact e)⟩))
          · exact absurd e c2
@[irreducible] def spCrowd : Sp := fun vs H Q _ => ∃ b : Nat, vs = [sx [b]] ∧ (b = 48 ∨ b = 49) ∧ ∀ H', Same H H' → Q (.bl true) H'
theorem crowd_go {b : Nat} {H : Hp} {Q : VK} {E : XK} (hb : b = 48 ∨ b = 49) (k : ∀ H', Same H H' → Q (.bl true) H') : spCrowd [sx [b]] H Q E := by
  unfold spCrowd
  exact ⟨b, rfl, hb, k⟩
section
variable {P : Program} {w : World} {K : PySem.W.Frag} {mg : Str → Option Value} {base : Heap} {f C : Addr} {fd' : FuncData}
theorem ok_crowd (F : Fun K "_law_crowd_right" "_law_crowd_right" s_law_crowd_right f fd') (hm : mg "_law_crowd_right" = some (.ref f)) (T : Txt K mg) (c_cells : Nm P w K mg base CX0 8 "cells" s_cells ["width", "stretches"] (spCells)) (c_cell_of : Nm P w K mg base CX0 7 "cell_of" s_cell_of ["width", "stretches", "address"] (spCellOf)) : Nm P w K mg base CX0 9 "_law_crowd_right" s_law_crowd_right ["_law_bit"] (spCrowd) := by
  refine nm_of0 F hm sc_law_crowd_right (fun vs H Q E h => ?_) fun cdv A outer s H vs Q E hr h => ?_
  · unfold spCrowd at h
    obtain ⟨b, rfl, hb, k⟩ := h
    subst_vars
    rfl
  unfold spCrowd at h
  obtain ⟨b, rfl, hb, k⟩ := h
  refine ⟨_, (C8.pss_cut (ps_asg (pe_tup (pa_cons (pe_lst (pa_cons pe_str pa_nil)) (pa_cons (pe_lst pa_nil) (pa_cons (pe_dget hr.u1 (pe_disp (pps_cons pe_str pe_str (pps_cons pe_str pe_str pps_nil)) (by rfl) (by rfl) (fun z => by cases z) (by decide)) (pv 0) (fun _ _ => rfl)) pa_nil)))) (pg_tup (by rfl) (pgs_cons (pg_name (i := 1) sc_law_crowd_right.nd rfl (by first | exact Or.inl rfl | exact Or.inr rfl)) (pgs_cons (pg_name (i := 2) sc_law_crowd_right.nd rfl (by first | exact Or.inl rfl | exact Or.inr rfl)) (pgs_cons (pg_name (i := 3) sc_law_crowd_right.nd rfl (by first | exact Or.inl rfl | exact Or.inr rfl)) pgs_nil)))))
      (C8.pss_cut (ps_for PassesOwn.never rfl (pi_range1 (by rfl) T.b_range (pa_cons pe_int pa_nil)) (pg_name (i := 4) sc_law_crowd_right.nd rfl (by first | exact Or.inl rfl | exact Or.inr rfl)) (C8.pss_cut (ps_set (i := 5) sc_law_crowd_right.nd rfl (by first | exact Or.inl rfl | exact Or.inr rfl) (pe_callTy call_list_of (by rfl) T.b_list (by decide +kernel) (pa_cons (pv 1) pa_nil)))
      (pss_cons (ps_for PassesOwn.never rfl (pi_listK (K := K) rfl (pv 1)) (pg_name (i := 6) sc_law_crowd_right.nd rfl (by first | exact Or.inl rfl | exact Or.inr rfl)) (pss_one (ps_expr (pe_bm PySem.F.plainAttrs_list PySem.F.slot_list_extend PySem.F.type_list_extend mt_extend (pv 5) (pa_cons (pe_lc (own := [("_law_sign", 7)]) (g := (gName 7)) (by rfl) sc_law_crowd_right.nd (pi_str pe_str) (blkOk_by (own := [("_law_sign", 7)]) (N := ["_law_bit", "_law_some_here", "_law_due", "_law_twin", "_law_turn", "_law_longer", "_law_part", "_law_sign", "_law_at"]) (sc := defScope s_law_crowd_right) (by decide +kernel)) (fun _ _ _ _ _ => (pg_name (i := 7) sc_law_crowd_right.nd rfl (by first | exact Or.inl rfl | exact Or.inr rfl))) (fun _ _ _ _ _ => (pts_one (pt_cmpR (op_notInK (K := K) rfl) (pe_op op_add_str (pv 6) (pv 7)) (pv 5) rfl))) (fun _ _ _ _ _ => (pe_op op_add_str (pv 6) (pv 7)))) pa_nil)))))
      (pss_one (ps_set (i := 1) sc_law_crowd_right.nd rfl (by first | exact Or.inl rfl | exact Or.inr rfl) (pv 5))))))
      (C8.pss_cut (ps_expr (pe_bm PySem.F.plainAttrs_list PySem.F.slot_list_extend PySem.F.type_list_extend mt_extend (pv 2) (pa_cons (pe_lc (own := [("_law_part", 6)]) (g := (gName 6)) (by rfl) sc_law_crowd_right.nd (pi_listK (K := K) rfl (pv 1)) (blkOk_by (own := [("_law_part", 6)]) (N := ["_law_bit", "_law_some_here", "_law_due", "_law_twin", "_law_turn", "_law_longer", "_law_part", "_law_sign", "_law_at"]) (sc := defScope s_law_crowd_right) (by decide +kernel)) (fun _ _ _ _ _ => (pg_name (i := 6) sc_law_crowd_right.nd rfl (by first | exact Or.inl rfl | exact Or.inr rfl))) (fun _ _ _ _ _ => (pts_one (pt_cmpR op_lt (pe_callB (call_lenK (K := K) rfl) (by rfl) T.b_len PySem.boot_len (pa_cons (pv 6) pa_nil)) pe_int (nomark _)))) (fun _ _ _ _ _ => (pe_tup (pa_cons (pv 6) (pa_cons pe_int (pa_cons pe_non pa_nil)))))) pa_nil)))
      (C8.pss_cut (ps_expr (pe_bm PySem.F.plainAttrs_list PySem.F.slot_list_extend PySem.F.type_list_extend mt_extend (pv 2) (pa_cons (pe_lc (own := [("_law_part", 6)]) (g := (gName 6)) (by rfl) sc_law_crowd_right.nd (pi_listK (K := K) rfl (pv 1)) (blkOk_by (own := [("_law_part", 6)]) (N := ["_law_bit", "_law_some_here", "_law_due", "_law_twin", "_law_turn", "_law_longer", "_law_part", "_law_sign", "_law_at"]) (sc := defScope s_law_crowd_right) (by decide +kernel)) (fun _ _ _ _ _ => (pg_name (i := 6) sc_law_crowd_right.nd rfl (by first | exact Or.inl rfl | exact Or.inr rfl))) (fun _ _ _ _ _ => (pts_one (PW.pt (pw_and (pt_cmpR op_eq (pe_callB (call_lenK (K := K) rfl) (by rfl) T.b_len PySem.boot_len (pa_cons (pv 6) pa_nil)) pe_int (nomark _)) (pw_and1 (pt_cmpR op_ne (pv 6) (pe_op op_mul_str (pv 0) pe_int) (nomark _))))))) (fun _ _ _ _ _ => (pe_tup (pa_cons (pv 6) (pa_cons (pe_op op_oneShl pe_int pe_int) (pa_cons (pe_op op_add_str (pv 6) (pe_op op_mul_str pe_str pe_int)) pa_nil)))))) pa_nil)))
      (C8.pss_cut (ps_expr (pe_bm PySem.F.plainAttrs_list PySem.F.slot_list_extend PySem.F.type_list_extend mt_extend (pv 2) (pa_cons (pe_lc (own := [("_law_at", 8)]) (g := (gName 8)) (by rfl) sc_law_crowd_right.nd (pi_range2 (by rfl) T.b_range (pa_cons pe_int (pa_cons pe_int pa_nil))) (blkOk_by (own := [("_law_at", 8)]) (N := ["_law_bit", "_law_some_here", "_law_due", "_law_twin", "_law_turn", "_law_longer", "_law_part", "_law_sign", "_law_at"]) (sc := defScope s_law_crowd_right) (by decide +kernel)) (fun _ _ _ _ _ => (pg_name (i := 8) sc_law_crowd_right.nd rfl (by first | exact Or.inl rfl | exact Or.inr rfl))) (fun _ _ _ _ _ => pts_nil) (fun _ _ _ _ _ => (pe_tup (pa_cons (pe_op op_mul_str (pv 0) (pv 8)) (pa_cons (pe_op op_oneShl pe_int (pe_op op_sub pe_int (pv 8))) (pa_cons (pe_op op_add_str (pe_op op_add_str (pe_op op_mul_str (pv 0) (pv 8)) (pv 3)) (pe_op op_mul_str pe_str (pe_op op_sub pe_int (pv 8)))) pa_nil)))))) pa_nil)))
      (C8.pss_cut (ps_expr (pe_bm PySem.F.plainAttrs_list PySem.F.slot_list_append PySem.F.type_list_append mt_append (pv 2) (pa_cons (pe_tup (pa_cons (pe_op op_mul_str (pv 0) pe_int) (pa_cons pe_int (pa_cons (pe_op op_mul_str (pv 0) pe_int) pa_nil)))) pa_nil)))
      (C8.pss_cut (ps_expr (pe_bm PySem.F.plainAttrs_list PySem.F.slot_list_extend PySem.F.type_list_extend mt_extend (pv 1) (pa_cons (pe_lc (own := [("_law_at", 8)]) (g := (gName 8)) (by rfl) sc_law_crowd_right.nd (pi_range3 (by rfl) T.b_range (pa_cons pe_int (pa_cons pe_int (pa_cons (pe_un un_neg pe_int) pa_nil)))) (blkOk_by (own := [("_law_at", 8)]) (N := ["_law_bit", "_law_some_here", "_law_due", "_law_twin", "_law_turn", "_law_longer", "_law_part", "_law_sign", "_law_at"]) (sc := defScope s_law_crowd_right) (by decide +kernel)) (fun _ _ _ _ _ => (pg_name (i := 8) sc_law_crowd_right.nd rfl (by first | exact Or.inl rfl | exact Or.inr rfl))) (fun _ _ _ _ _ => pts_nil) (fun _ _ _ _ _ => (pe_op op_mul_str (pv 0) (pv 8)))) pa_nil)))
      (C8.pss_cut (ps_if (PW.pt (pw_or (pt_cmpR op_ne (pe_callB (call_reprK (K := K) rfl hr.g hr.u) (by rfl) T.b_repr (by decide +kernel) (pa_cons (pe_g c_cells hr (by decide) L2.pass0 bp_cells (by rfl) (pa_cons pe_int (pa_cons (pv 1) pa_nil))) pa_nil)) (pe_callB (call_reprK (K := K) rfl hr.g hr.u) (by rfl) T.b_repr (by decide +kernel) (pa_cons (pe_callB (cr_sortedTxK (K := K) rfl) (by rfl) T.b_sorted (by decide +kernel) (pa_cons (pv 2) pa_nil)) pa_nil)) (nomark _)) (pw_or1 (pt_cmpR op_ne (pe_g c_cell_of hr (by decide) L2.pass0 bp_cell_of (by rfl) (pa_cons pe_int (pa_cons (pv 1) (pa_cons (pe_op op_mul_str (pv 0) pe_int) pa_nil)))) (pe_op op_mul_str (pv 0) pe_int) (nomark _))))) (pss_one (ps_ret pe_bl)) pss_nil)
      (pss_one (ps_ret (pe_cmpR op_eq (pe_g c_cell_of hr (by decide) L2.pass0 bp_cell_of (by rfl) (pa_cons pe_int (pa_cons (pe_revL (pv 1)) (pa_cons (pe_op op_add_str (pe_op op_add_str (pe_op op_mul_str (pv 0) pe_int) (pv 3)) (pe_op op_mul_str (pv 0) pe_int)) pa_nil)))) (pe_op op_mul_str (pv 0) pe_int) (nomark _)))))))))))), ?_⟩
  have hB0 : (SX.S [b]).length = 1 := by rw [sx_len]; rfl
  -- the beginning
  refine ⟨fun σ' H' => ∃ S D, σ' = [some (sx [b]), some (.ref S), some (.ref D), some (sx [97 - b]), none, none, none, none, none] ∧ Same H H' ∧ H S = none ∧ H D = none ∧ S ≠ D ∧ H' S = some (.lst ([[]].map sx)) ∧ H' D = some (.lst []), ?_, ?_⟩
  · refine ⟨szl (by show 1 ≤ 1000000; decide), fun S nS => ?_⟩
    have s1 := (Same.refl H).new (o := HO.lst [V.str ""]) nS
    have eS1 : upd H S (.lst [V.str ""]) S = some (.lst [V.str ""]) := upd_same
    generalize upd H S (.lst [V.str ""]) = Ha at s1 eS1 ⊢
    refine ⟨szl (Nat.zero_le _), fun D nD => ?_⟩
    have s2 := s1.new (o := HO.lst []) nD
    have eS2 := updn (o := HO.lst []) (nonn nD eS1) eS1
    have eD2 : upd Ha D (.lst []) D = some (.lst []) := upd_same
    have hSD : S ≠ D := nonn nD eS1
    have nD0 := s1.back nD
    generalize upd Ha D (.lst []) = Hb at s2 eS2 eD2 ⊢
    intro N nN
    refine ⟨upd_same, [(Sum.inr "0", .str "1"), (Sum.inr "1", .str "0")], rfl, by decide, ?_⟩
    have sN : Same Hb (upd (upd Hb N (.dK [])) N (.dK (mergeK [] [(Sum.inr "0", .str "1"), (Sum.inr "1", .str "0")]))) := fun c o e => updn (nonn nN e) (updn (nonn nN e) e)
    have eN : upd (upd Hb N (.dK [])) N (.dK (mergeK [] [(Sum.inr "0", .str "1"), (Sum.inr "1", .str "0")])) N = some (.dK [(Sum.inr "0", .str "1"), (Sum.inr "1", .str "0")]) := upd_same
    generalize upd (upd Hb N (.dK [])) N (.dK (mergeK [] [(Sum.inr "0", .str "1"), (Sum.inr "1", .str "0")])) = Hc at sN eN ⊢
    refine ⟨_, rfl, ?_⟩
    have fin : ∀ v : V, v = sx [97 - b] → ∀ t, Hc t = none → ∃ S' D', [some (sx [b]), some (V.ref S), some (V.ref D), some v, none, none, none, none, none] = [some (sx [b]), some (.ref S'), some (.ref D'), some (sx [97 - b]), none, none, none, none, none] ∧ Same H (upd Hc t (.tup [.ref S, .ref D, v])) ∧ H S' = none ∧ H D' = none ∧ S' ≠ D' ∧ upd Hc t (.tup [.ref S, .ref D, v]) S' = some (.lst ([[]].map sx)) ∧ upd Hc t (.tup [.ref S, .ref D, v]) D' = some (.lst []) := fun v ev t nt => by
      subst ev
      have s3 := (s2.trans sN).new (o := HO.tup [.ref S, .ref D, sx [97 - b]]) nt
      exact ⟨S, D, rfl, s3, nS, nD0, hSD, updn (nonn nt (sN _ _ eS2)) (sN _ _ eS2), updn (nonn nt (sN _ _ eD2)) (sN _ _ eD2)⟩
    rcases hb with rfl | rfl
    · refine ⟨N, .str "1", rfl, .inl ⟨_, Sum.inr "0", .inl eN, rfl, rfl⟩, ?_⟩
      refine ⟨szl (by show 3 ≤ 1000000; decide), fun t nt => ?_⟩
      refine ⟨t, _, rfl, SqT.of upd_same, rfl, ⟨_, _, rfl, ⟨_, _, rfl, ⟨_, _, rfl, ⟨rfl, ?_⟩⟩⟩⟩⟩
      exact fin (.str "1") (congrArg V.str one_S) t nt
    · refine ⟨N, .str "0", rfl, .inl ⟨_, Sum.inr "1", .inl eN, rfl, rfl⟩, ?_⟩
      refine ⟨szl (by show 3 ≤ 1000000; decide), fun t nt => ?_⟩
      refine ⟨t, _, rfl, SqT.of upd_same, rfl, ⟨_, _, rfl, ⟨_, _, rfl, ⟨_, _, rfl, ⟨rfl, ?_⟩⟩⟩⟩⟩
      exact fin (.str "0") (congrArg V.str zero_S) t nt
  rintro σ' H1 ⟨S, D, rfl, s1, nS, nD, hSD, eS, eD⟩
  -- six times: all of one sign more
  refine ⟨fun σ' H' => ∃ S' x4 x5 x6 ts, σ' = [some (sx [b]), some (.ref S'), some (.ref D), some (sx [97 - b]), x4, x5, x6, none, none] ∧ Same H1 H' ∧ H' S' = some (.lst (ts.map sx)) ∧ H S' = none ∧ S' ≠ D ∧ Tree 6 ts, ?_, ?_⟩
  · refine ⟨6, rfl, by decide, by decide, ?_⟩
    refine for_it walk_range (fun r σ' H' => ∃ S' x4 x5 x6 ts, σ' = [some (sx [b]), some (.ref S'), some (.ref D), some (sx [97 - b]), x4, x5, x6, none, none] ∧ Same H1 H' ∧ H' S' = some (.lst (ts.map sx)) ∧ H S' = none ∧ S' ≠ D ∧ Tree r ts) ⟨S, _, _, _, [[]], rfl, Same.refl _, eS, nS, hSD, ⟨fun t => ?_, by simp, Nat.le_refl _⟩⟩ (fun _ _ _ _ _ => trivial) ?_ ?_
    · rw [List.mem_singleton]
      exact ⟨fun e => by rw [e]; exact ⟨(fun c hc => by cases hc), Nat.le_refl _⟩, fun h => List.eq_nil_of_length_eq_zero (by have := h.2; omega)⟩
    · rintro r x σ' H2 H3 hr ⟨S', x4, x5, x6, ts, rfl, s2, eS2, nS', hS'D, tr⟩ ⟨rfl, rfl⟩
      have hr6 : r < 6 := by omega
      have hf : ts.length ≤ 243 := Nat.le_trans tr.few (by
        have : ∀ q : Fin 6, 3 ^ q.val ≤ 243 := by decide
        exact this ⟨r, hr6⟩)
      refine ⟨fun σ' H' => ∃ L, σ' = [some (sx [b]), some (.ref S'), some (.ref D), some (sx [97 - b]), some (.int (0 + (r : Int))), some (.ref L), x6, none, none] ∧ Same H1 H' ∧ H1 L = none ∧ S' ≠ L ∧ H' L = some (.lst (ts.map sx)) ∧ H' S' = some (.lst (ts.map sx)), ?_, ?_⟩
      · refine ⟨_, rfl, ⟨S', _, rfl, .inl (SqL.of eS2), fun L nL => ?_⟩⟩
        exact ⟨L, rfl, s2.new nL, s2.back nL, nonn nL eS2, upd_same, updn (nonn nL eS2) eS2⟩
      rintro σ' H4 ⟨L, rfl, s4, nL, hS'L, eL4, eS4⟩
      refine ⟨_, rfl, ⟨S', rfl, ⟨_, SqL.of eS4⟩, ?_⟩⟩
      refine for_it (walk_list (xs := ts.map sx)) (fun i σ' H' => ∃ x6 ls, σ' = [some (sx [b]), some (.ref S'), some (.ref D), some (sx [97 - b]), some (.int (0 + (r : Int))), some (.ref L), x6, none, none] ∧ Same H1 H' ∧ H' L = some (.lst (ls.map sx)) ∧ H' S' = some (.lst (ts.map sx)) ∧ Gr ts ls i) ⟨_, ts, rfl, s4, eL4, eS4, Gr.start tr.nd⟩ (fun i σ' H' _ h => by obtain ⟨_, _, _, _, _, e, _⟩ := h; exact SqL.of e) ?_ ?_
      · rintro i x σ' H5 H6 hi ⟨x6, ls, rfl, s5, eL5, eS5, gr⟩ ⟨rfl, hx⟩
        obtain ⟨q, hq0, rfl⟩ := sx_at hx
        have hql : q.length ≤ r := ((tr.mem q).mp (List.mem_of_getElem? hq0)).2
        have hls : ls.length ≤ 729 := by
          have := gr.few
          rw [List.length_map] at hi
          omega
        have c01 : ("01" : Str).cps.toList = [48, 49] := by decide +kernel
        refine ⟨_, rfl, ⟨.inl ⟨rfl, _, SqL.of eL5⟩, ?_⟩⟩
        refine ⟨_, rfl, fun B nB => ?_⟩
        refine lc_it walk_str (fun j H' => NL H6 B ((nw ls q ([48, 49].take j)).map sx) H') (.nil nB) (fun _ _ _ _ => trivial) ?_ ?_
        · rintro j y H7 H8 hj hq ⟨rfl, c, hc, rfl⟩
          have hc2 : [48, 49][j]? = some c := by rw [← c01, Array.getElem?_toList]; exact hc
          have estep : nw ls q ([48, 49].take (j + 1)) = nw ls q ([48, 49].take j) ++ (if q ++ [c] ∈ ls then [] else [q ++ [c]]) := by
            unfold nw
            rw [List.take_add_one, hc2, List.map_append, List.filter_append]
            congr 1
            by_cases h : q ++ [c] ∈ ls <;> simp [h]
          have lw : ((nw ls q ([48, 49].take j)).map sx).length ≤ 100000 := by
            rw [List.length_map]
            unfold nw
            refine Nat.le_trans (List.length_filter_le _ _) ?_
            rw [List.length_map, List.length_take]
            show min j 2 ≤ _
            omega
          have eL8 := hq.2 _ _ eL5
          have el : (⟨#[c]⟩ : Str).length = 1 := rfl
          refine ⟨rfl, ?_⟩
          refine ⟨_, rfl, ⟨_, rfl, ⟨_, _, rfl, rfl, szl (by rw [sx_len, el]; omega), ?_⟩⟩⟩
          rw [← S_one, S_app]
          refine ⟨_, rfl, ⟨L, _, rfl, .inl (SqL.of eL8), rfl, flat_sx _, ?_⟩⟩
          rw [show inV (V.str (SX.S (q ++ [c]))) (ls.map sx) = decide (q ++ [c] ∈ ls) from inV_sx _ _]
          refine ⟨_, rfl, ?_⟩
          by_cases h : q ++ [c] ∈ ls
          · rw [if_pos h, List.append_nil] at estep
            rw [decide_eq_true h]
            refine iteF ?_
            rw [estep]
            exact hq
          · rw [if_neg h] at estep
            rw [decide_eq_false h]
            refine iteT ?_
            refine ⟨_, rfl, ⟨_, rfl, ⟨_, _, rfl, rfl, szl (by rw [sx_len, el]; omega), ?_⟩⟩⟩
            rw [S_app, estep, List.map_append]
            exact hq.turn nB (Same.refl _) lw
        rintro H7 hq
        have e2 : nw ls q ([48, 49].take ("01" : Str).cps.size) = nw ls q [48, 49] := by
          rw [show ("01" : Str).cps.size = 2 by decide +kernel]
          rfl
        rw [e2] at hq
        have gr2 := gr.next hq0
        have eL7 := hq.2 _ _ eL5
        have eS7 := hq.2 _ _ eS5
        refine ⟨L, B, _, _, rfl, rfl, eL7, hq.1, szl (by
          rw [List.length_map, List.length_map]
          have h2 := List.length_filter_le (fun t => decide (t ∉ ls)) ([48, 49].map fun c => q ++ [c])
          rw [List.length_map] at h2
          have h3 : (nw ls q [48, 49]).length ≤ 2 := h2
          omega), ?_⟩
        rw [← List.map_append]
        exact ⟨_, _, rfl, fun c o e => updn (nonn nL e) ((s5.trans hq.2) _ _ e), upd_same, updn hS'L eS7, gr2⟩
      · rintro σ' H5 ⟨x6, ls, rfl, s5, eL5, eS5, gr⟩
        rw [List.length_map] at gr
        refine ⟨_, rfl, ?_⟩
        exact ⟨L, _, _, _, ls, rfl, s5, eL5, s1.back nL, (fun z => by rw [z, eD] at nL; cases nL), gr.done tr⟩
    · rintro σ' H2 ⟨S', x4, x5, x6, ts, rfl, s2, eS2, nS', hS'D, tr⟩
      exact ⟨S', x4, x5, x6, ts, rfl, s2, eS2, nS', hS'D, tr⟩
  rintro σ' H2 ⟨S2, x4, x5, x6, ts, rfl, s2, eS2, nS2, hS2D, tr⟩
  obtain ⟨kn, hk⟩ := crowd_ks hb tr
  have lts : ts.length ≤ 729 := tr.few
  have tsl : ∀ t ∈ ts, t.length ≤ 6 := fun t ht => ((tr.mem t).mp ht).2
  have tsc : ∀ t ∈ ts, Crowd b t := fun t ht => ⟨((tr.mem t).mp ht).1, .inl (tsl t ht)⟩
  have ekl := ks_len (ts ++ (List.range 94).map fun i => List.replicate (100 - i) b)
  rw [List.length_append, List.length_map, List.length_range] at ekl
  generalize hks : ksOf (ts ++ (List.range 94).map fun i => List.replicate (100 - i) b) = ks at kn hk ekl
  have ext : ∀ (Ha Hc : Hp) (B : Addr) (ss us : List (List Nat)) (as : List Addr), Same H Ha → Ha S2 = some (.lst (ts.map sx)) → Ha D = some (.lst (as.map V.ref)) → Tc Ha 100 ks as ss → Ha B = none → CL Ha B 100 ks us Hc →
      ∃ bs : List Addr, Hc B = some (.lst (bs.map V.ref)) ∧ Hc D = some (.lst (as.map V.ref)) ∧ as.length = ss.length ∧ bs.length = us.length ∧ Same H (upd Hc D (.lst (as.map V.ref ++ bs.map V.ref))) ∧ upd Hc D (.lst (as.map V.ref ++ bs.map V.ref)) S2 = some (.lst (ts.map sx)) ∧ upd Hc D (.lst (as.map V.ref ++ bs.map V.ref)) D = some (.lst ((as ++ bs).map V.ref)) ∧ Tc (upd Hc D (.lst (as.map V.ref ++ bs.map V.ref))) 100 ks (as ++ bs) (ss ++ us) := fun Ha Hc B ss us as sa eSa eDa tca nB ⟨⟨bs, eB, tcb⟩, sc⟩ => by
    have eD := sc _ _ eDa
    refine ⟨bs, eB, eD, tca.len, tcb.len, fun c o e => updn (nonn nD e) (sc _ _ (sa _ _ e)), updn hS2D (sc _ _ eSa), by rw [upd_same, List.map_append], ?_⟩
    have t1 : Tc Hc 100 ks (as ++ bs) (ss ++ us) := Tc.app tcb (tca.mono fun a l e => sc _ _ e)
    refine t1.mono fun a l e => updn (fun z => ?_) e
    rw [z, eD] at e
    cases e
  have sH2 : Same H H2 := s1.trans s2
  have eD2 := s2 _ _ eD
  clear s1 s2 eS eD
  -- less than six signs
  refine ⟨fun σ' H' => σ' = [some (sx [b]), some (.ref S2), some (.ref D), some (sx [97 - b]), x4, x5, x6, none, none] ∧ Same H H' ∧ H' S2 = some (.lst (ts.map sx)) ∧ ∃ as, H' D = some (.lst (as.map V.ref)) ∧ Tc H' 100 ks as (ts.filter fun t => decide (t.length < 6)), ?_, ?_⟩
  · refine ⟨_, rfl, ⟨.inl ⟨rfl, _, SqL.of eD2⟩, ?_⟩⟩
    refine ⟨_, rfl, ⟨S2, rfl, ⟨_, SqL.of eS2⟩, fun B nB => ?_⟩⟩
    refine lc_it (walk_list (xs := ts.map sx)) (fun i H' => CL H2 B 100 ks ((ts.take i).filter fun t => decide (t.length < 6)) H') (CL.nil nB) (fun i H' _ h => SqL.of (h.2 _ _ eS2)) ?_ ?_
    · rintro i x H3 H4 hi hq ⟨rfl, hx⟩
      obtain ⟨q, hq0, rfl⟩ := sx_at hx
      have hqm := List.mem_of_getElem? hq0
      have estep : (ts.take (i + 1)).filter (fun t => decide (t.length < 6)) = (ts.take i).filter (fun t => decide (t.length < 6)) ++ (if q.length < 6 then [q] else []) := by
        rw [List.take_add_one, hq0, List.filter_append]
        congr 1
        by_cases h : q.length < 6 <;> simp [h]
      have lw : ((ts.take i).filter fun t => decide (t.length < 6)).length ≤ 100000 := by
        refine Nat.le_trans (List.length_filter_le _ _) ?_
        rw [List.length_take]
        omega
      refine ⟨rfl, ?_⟩
      refine ⟨_, rfl, ⟨_, _, rfl, ⟨szl (by rw [sx_len]; have := tsl q hqm; omega), rfl⟩, ⟨_, _, rfl, rfl, ⟨_, rfl, ?_⟩⟩⟩⟩
      rw [sx_len]
      by_cases c : q.length < 6
      · rw [decide_eq_true (show ((q.length : Nat) : Int) < 6 by omega)]
        rw [if_pos c] at estep
        refine iteT ?_
        refine ⟨_, rfl, ⟨szl (by show 3 ≤ 1000000; decide), fun t nt => ?_⟩⟩
        obtain ⟨z1, z2⟩ := crowd_low hb kn hk (tsc q hqm) c
        rw [estep]
        exact hq.turn nB (Same.refl _) nt lw (by rw [z1]; rfl) (by rw [z2]; rfl)
      · rw [decide_eq_false (show ¬ ((q.length : Nat) : Int) < 6 by omega)]
        rw [if_neg c, List.append_nil] at estep
        refine iteF ?_
        rw [estep]
        exact hq
    rintro H3 hq
    rw [List.length_map, List.take_length] at hq
    obtain ⟨bs, e1, e2, l1, l2, q1, q2, q3, q4⟩ := ext H2 H3 B [] _ [] sH2 eS2 eD2 .nil nB hq
    refine ⟨D, B, _, _, rfl, rfl, e2, e1, szl (by
      rw [List.length_map, List.length_map, l1, l2]
      have := List.length_filter_le (fun t : List Nat => decide (t.length < 6)) ts
      show 0 + _ ≤ _
      omega), ?_⟩
    exact ⟨rfl, q1, q2, _, q3, q4⟩
  rintro σ' H3 ⟨rfl, s3, eS3, as3, eD3, tc3⟩
  clear sH2 eD2 eS2
  generalize hss1 : ts.filter (fun t => decide (t.length < 6)) = ss1 at tc3
  have l1 : ss1.length ≤ 729 := by
    rw [← hss1]
    exact Nat.le_trans (List.length_filter_le _ _) lts
  -- six signs, not all alike
  refine ⟨fun σ' H' => σ' = [some (sx [b]), some (.ref S2), some (.ref D), some (sx [97 - b]), x4, x5, x6, none, none] ∧ Same H H' ∧ H' S2 = some (.lst (ts.map sx)) ∧ ∃ as, H' D = some (.lst (as.map V.ref)) ∧ Tc H' 100 ks as (ss1 ++ ts.filter fun t => decide (t.length = 6 ∧ t ≠ List.replicate 6 b)), ?_, ?_⟩
  · refine ⟨_, rfl, ⟨.inl ⟨rfl, _, SqL.of eD3⟩, ?_⟩⟩
    refine ⟨_, rfl, ⟨S2, rfl, ⟨_, SqL.of eS3⟩, fun B nB => ?_⟩⟩
    refine lc_it (walk_list (xs := ts.map sx)) (fun i H' => CL H3 B 100 ks ((ts.take i).filter fun t => decide (t.length = 6 ∧ t ≠ List.replicate 6 b)) H') (CL.nil nB) (fun i H' _ h => SqL.of (h.2 _ _ eS3)) ?_ ?_
    · rintro i x H4 H5 hi hq ⟨rfl, hx⟩
      obtain ⟨q, hq0, rfl⟩ := sx_at hx
      have hqm := List.mem_of_getElem? hq0
      have estep : (ts.take (i + 1)).filter (fun t => decide (t.length = 6 ∧ t ≠ List.replicate 6 b)) = (ts.take i).filter (fun t => decide (t.length = 6 ∧ t ≠ List.replicate 6 b)) ++ (if q.length = 6 ∧ q ≠ List.replicate 6 b then [q] else []) := by
        rw [List.take_add_one, hq0, List.filter_append]
        congr 1
        by_cases h : q.length = 6 ∧ q ≠ List.replicate 6 b
        · rw [if_pos h]
          simp only [Option.toList, List.filter_cons, List.filter_nil]
          rw [decide_eq_true h, if_pos rfl]
        · rw [if_neg h]
          simp only [Option.toList, List.filter_cons, List.filter_nil]
          rw [decide_eq_false h, if_neg Bool.false_ne_true]
      have lw : ((ts.take i).filter fun t => decide (t.length = 6 ∧ t ≠ List.replicate 6 b)).length ≤ 100000 := by
        refine Nat.le_trans (List.length_filter_le _ _) ?_
        rw [List.length_take]
        omega
      have lq := tsl q hqm
      refine ⟨rfl, ?_⟩
      refine ⟨_, rfl, ⟨_, _, rfl, ⟨szl (by rw [sx_len]; omega), rfl⟩, ⟨rfl, ⟨_, rfl, ?_⟩⟩⟩⟩
      rw [sx_len]
      by_cases c : q.length = 6
      · rw [show decide (V.int ((q.length : Nat) : Int) = V.int 6) = true from decide_eq_true (by rw [c]; rfl)]
        refine iteT ?_
        refine ⟨_, rfl, ⟨_, rfl, ⟨_, _, rfl, rfl, by rw [hB0]; decide, by decide, by decide, ?_⟩⟩⟩
        rw [show (6 : Int).toNat = 6 from rfl, repb_S]
        refine ⟨rfl, ⟨_, rfl, ?_⟩⟩
        rw [show decide (sx q = V.str (SX.S (List.replicate 6 b))) = decide (q = List.replicate 6 b) from dec_sx _ _]
        by_cases c2 : q = List.replicate 6 b
        · rw [decide_eq_true c2]
          rw [if_neg (fun h => h.2 c2), List.append_nil] at estep
          refine iteF ?_
          rw [estep]
          exact hq
        · rw [decide_eq_false c2]
          rw [if_pos ⟨c, c2⟩] at estep
          refine iteT ?_
          refine ⟨_, rfl, ?_⟩
          refine ⟨94, rfl, rfl, by decide, ?_⟩
          refine ⟨_, rfl, ⟨_, _, rfl, rfl, by decide +kernel, by decide, by decide, ?_⟩⟩
          rw [show (94 : Int).toNat = 94 from rfl, rep_S]
          refine ⟨_, _, rfl, rfl, szl (by rw [sx_len, sx_len, List.length_replicate]; omega), ?_⟩
          rw [S_app]
          refine ⟨szl (by show 3 ≤ 1000000; decide), fun t nt => ?_⟩
          obtain ⟨z1, z2⟩ := crowd_six kn hk (tsc q hqm) c c2
          rw [estep]
          exact hq.turn nB (Same.refl _) nt lw (by rw [z1]; rfl) (by rw [z2]; rfl)
      · rw [show decide (V.int ((q.length : Nat) : Int) = V.int 6) = false from decide_eq_false (fun z => c (by have := V.int.inj z; omega))]
        rw [if_neg (fun h => c h.1), List.append_nil] at estep
        refine iteF ?_
        refine iteF ?_
        rw [estep]
        exact hq
    rintro H4 hq
    rw [List.length_map, List.take_length] at hq
    obtain ⟨bs, e1, e2, m1, m2, q1, q2, q3, q4⟩ := ext H3 H4 B ss1 _ as3 s3 eS3 eD3 tc3 nB hq
    refine ⟨D, B, _, _, rfl, rfl, e2, e1, szl (by
      rw [List.length_map, List.length_map, m1, m2]
      have := List.length_filter_le (fun t : List Nat => decide (t.length = 6 ∧ t ≠ List.replicate 6 b)) ts
      omega), ?_⟩
    exact ⟨rfl, q1, q2, _, q3, q4⟩
  rintro σ' H4 ⟨rfl, s4, eS4, as4, eD4, tc4⟩
  clear s3 eS3 eD3 tc3
  generalize hss2 : ts.filter (fun t => decide (t.length = 6 ∧ t ≠ List.replicate 6 b)) = ss2 at tc4
  have l2 : ss2.length ≤ 729 := by
    rw [← hss2]
    exact Nat.le_trans (List.length_filter_le _ _) lts
  -- the chain
  refine ⟨fun σ' H' => σ' = [some (sx [b]), some (.ref S2), some (.ref D), some (sx [97 - b]), x4, x5, x6, none, none] ∧ Same H H' ∧ H' S2 = some (.lst (ts.map sx)) ∧ ∃ as, H' D = some (.lst (as.map V.ref)) ∧ Tc H' 100 ks as (ss1 ++ ss2 ++ (List.range 94).map fun i => List.replicate (6 + i) b), ?_, ?_⟩
  · refine ⟨_, rfl, ⟨.inl ⟨rfl, _, SqL.of eD4⟩, ?_⟩⟩
    refine ⟨6, 100, rfl, ⟨by decide, by decide, by decide, by decide⟩, fun B nB => ?_⟩
    refine lc_it walk_range (fun i H' => i ≤ 94 ∧ CL H4 B 100 ks ((List.range i).map fun i => List.replicate (6 + i) b) H') ⟨Nat.zero_le _, CL.nil nB⟩ (fun _ _ _ _ => trivial) ?_ ?_
    · rintro i x H5 H6 hi ⟨hi0, hq⟩ ⟨rfl, rfl⟩
      have hi94 : i < 94 := hi
      have estep : (List.range (i + 1)).map (fun i => List.replicate (6 + i) b) = (List.range i).map (fun i => List.replicate (6 + i) b) ++ [List.replicate (6 + i) b] := by
        rw [List.range_succ, List.map_append]
        rfl
      have ei : (6 + (i : Int)).toNat = 6 + i := by omega
      refine ⟨rfl, ?_⟩
      dsimp only [tYes]
      rw [if_pos rfl]
      refine ⟨_, rfl, ⟨_, rfl, ⟨_, _, rfl, rfl, by rw [hB0]; decide, by omega, by omega, ?_⟩⟩⟩
      rw [ei, repb_S]
      refine ⟨_, rfl, ⟨_, _, rfl, rfl, ?_⟩⟩
      refine ⟨99 - (6 + i), rfl, congrArg V.int (by omega), by omega, ?_⟩
      refine ⟨_, rfl, ⟨_, rfl, ⟨_, _, rfl, rfl, by rw [hB0]; decide, by omega, by omega, ?_⟩⟩⟩
      rw [ei, repb_S]
      refine ⟨_, rfl, ⟨_, _, rfl, rfl, szl (by rw [sx_len, sx_len, List.length_replicate]; show 6 + i + 1 ≤ _; omega), ?_⟩⟩
      rw [S_app]
      refine ⟨_, rfl, ⟨_, _, rfl, rfl, ?_⟩⟩
      refine ⟨_, _, rfl, rfl, by decide +kernel, by omega, by omega, ?_⟩
      rw [show (99 - (6 + (i : Int))).toNat = 99 - (6 + i) by omega, rep_S]
      refine ⟨_, _, rfl, rfl, szl (by rw [sx_len, sx_len, List.length_append, List.length_replicate, List.length_replicate]; show 6 + i + 1 + _ ≤ _; omega), ?_⟩
      rw [S_app]
      refine ⟨szl (by show 3 ≤ 1000000; decide), fun t nt => ?_⟩
      obtain ⟨z1, z2⟩ := crowd_chain hb kn hk (k := 6 + i) (by omega) (by omega)
      rw [estep]
      obtain ⟨acc, a1, a2, a3⟩ := hq.turn nB (Same.refl _) nt (by rw [List.length_map, List.length_range]; omega) (s := List.replicate (6 + i) b) (x := .int (2 ^ (99 - (6 + i)))) (y := V.str (SX.S (List.replicate (6 + i) b ++ [97 - b] ++ List.replicate (99 - (6 + i)) 48))) (by rw [z1, Int.natCast_pow]; rfl) (by rw [z2]; rfl)
      exact ⟨acc, a1, a2, by omega, a3⟩
    rintro H5 ⟨_, hq⟩
    rw [show (100 - 6 : Int).toNat = 94 from rfl] at hq
    obtain ⟨bs, e1, e2, m1, m2, q1, q2, q3, q4⟩ := ext H4 H5 B (ss1 ++ ss2) _ as4 s4 eS4 eD4 tc4 nB hq
    refine ⟨D, B, _, _, rfl, rfl, e2, e1, szl (by
      rw [List.length_map, List.length_map, m1, m2, List.length_append, List.length_map, List.length_range]
      omega), ?_⟩
    exact ⟨rfl, q1, q2, _, q3, q4⟩
  rintro σ' H5 ⟨rfl, s5, eS5, as5, eD5, tc5⟩
  clear s4 eS4 eD4 tc4
  -- its end
  refine ⟨fun σ' H' => σ' = [some (sx [b]), some (.ref S2), some (.ref D), some (sx [97 - b]), x4, x5, x6, none, none] ∧ Same H H' ∧ H' S2 = some (.lst (ts.map sx)) ∧ ∃ as, H' D = some (.lst (as.map V.ref)) ∧ Tc H' 100 ks as (ss1 ++ ss2 ++ ((List.range 94).map fun i => List.replicate (6 + i) b) ++ [List.replicate 100 b]), ?_, ?_⟩
  · refine ⟨_, rfl, ⟨.inl ⟨rfl, _, SqL.of eD5⟩, ?_⟩⟩
    refine ⟨_, rfl, ⟨_, _, rfl, rfl, by rw [hB0]; decide, by decide, by decide, ?_⟩⟩
    rw [show (100 : Int).toNat = 100 from rfl, repb_S]
    refine ⟨_, rfl, ⟨_, _, rfl, rfl, by rw [hB0]; decide, by decide, by decide, ?_⟩⟩
    rw [show (100 : Int).toNat = 100 from rfl, repb_S]
    refine ⟨szl (by show 3 ≤ 1000000; decide), fun t nt => ?_⟩
    obtain ⟨z1, z2⟩ := crowd_end hb kn hk
    have eD6 := updn (o := HO.tup [V.str (SX.S (List.replicate 100 b)), .int 1, V.str (SX.S (List.replicate 100 b))]) (nonn nt eD5) eD5
    have l5 := tc5.len
    refine ⟨D, _, _, rfl, rfl, eD6, szt (by
      rw [List.length_map, l5, List.length_append, List.length_append, List.length_map, List.length_range]
      omega), ?_⟩
    have s6 := s5.new (o := HO.tup [V.str (SX.S (List.replicate 100 b)), .int 1, V.str (SX.S (List.replicate 100 b))]) nt
    have eS6 := updn (o := HO.tup [V.str (SX.S (List.replicate 100 b)), .int 1, V.str (SX.S (List.replicate 100 b))]) (nonn nt eS5) eS5
    have t6 : Tc (upd H5 t (.tup [V.str (SX.S (List.replicate 100 b)), .int 1, V.str (SX.S (List.replicate 100 b))])) 100 ks (as5 ++ [t]) (ss1 ++ ss2 ++ ((List.range 94).map fun i => List.replicate (6 + i) b) ++ [List.replicate 100 b]) := by
      refine Tc.snoc ?_ (tc5.mono fun a l e => updn (nonn nt e) e)
      rw [upd_same, z1, z2]
      rfl
    refine ⟨rfl, fun c o e => updn (nonn nD e) (s6 _ _ e), updn hS2D eS6, as5 ++ [t], by rw [upd_same, List.map_append]; rfl, ?_⟩
    refine t6.mono fun a l e => updn (fun z => ?_) e
    rw [z, eD6] at e
    cases e
  rintro σ' H6 ⟨rfl, s6, eS6, as6, eD6, tc6⟩
  clear s5 eS5 eD5 tc5
  -- the chain among the parts
  refine ⟨fun σ' H' => σ' = [some (sx [b]), some (.ref S2), some (.ref D), some (sx [97 - b]), x4, x5, x6, none, none] ∧ Same H H' ∧ H' S2 = some (.lst ((ts ++ (List.range 94).map fun i => List.replicate (100 - i) b).map sx)) ∧ H' D = some (.lst (as6.map V.ref)) ∧ Tc H' 100 ks as6 (ss1 ++ ss2 ++ ((List.range 94).map fun i => List.replicate (6 + i) b) ++ [List.replicate 100 b]), ?_, ?_⟩
  · refine ⟨_, rfl, ⟨.inl ⟨rfl, _, SqL.of eS6⟩, ?_⟩⟩
    refine ⟨_, rfl, ?_⟩
    refine ⟨100, 6, -1, _, rfl, RgC.neg (by decide) (by decide) (by decide) (by decide), fun B nB => ?_⟩
    refine lc_it walk_rangeC (fun i H' => i ≤ 94 ∧ NL H6 B (((List.range i).map fun i => List.replicate (100 - i) b).map sx) H') ⟨Nat.zero_le _, NL.nil nB⟩ (fun _ _ _ _ => trivial) ?_ ?_
    · rintro i x H7 H8 hi ⟨hi0, hq⟩ ⟨rfl, rfl⟩
      have hi94 : i < 94 := hi
      have estep : ((List.range (i + 1)).map fun i => List.replicate (100 - i) b).map sx = ((List.range i).map fun i => List.replicate (100 - i) b).map sx ++ [sx (List.replicate (100 - i) b)] := by
        rw [List.range_succ, List.map_append, List.map_append]
        rfl
      refine ⟨rfl, ?_⟩
      dsimp only [tYes]
      rw [if_pos rfl]
      refine ⟨_, rfl, ⟨_, rfl, ⟨_, _, rfl, rfl, by rw [hB0]; decide, by omega, by omega, ?_⟩⟩⟩
      rw [show (100 + (i : Int) * -1).toNat = 100 - i by omega, repb_S]
      rw [estep]
      obtain ⟨acc, a1, a2, a3⟩ := hq.turn (x := sx (List.replicate (100 - i) b)) nB (Same.refl _) (by rw [List.length_map, List.length_map, List.length_range]; omega)
      exact ⟨acc, a1, a2, by omega, a3⟩
    rintro H7 ⟨_, hq⟩
    rw [show (100 - 6 : Int).toNat = 94 from rfl] at hq
    have eS7 := hq.2 _ _ eS6
    have eD7 := hq.2 _ _ eD6
    refine ⟨S2, B, _, _, rfl, rfl, eS7, hq.1, szl (by
      rw [List.length_map, List.length_map, List.length_map, List.length_range]
      omega), ?_⟩
    rw [← List.map_append]
    refine ⟨rfl, fun c o e => updn (nonn nS2 e) ((s6.trans hq.2) _ _ e), upd_same, updn (Ne.symm hS2D) eD7, ?_⟩
    refine (tc6.mono fun a l e => hq.2 _ _ e).mono fun a l e => updn (fun z => ?_) e
    rw [z, eS7] at e
    cases e
  rintro σ' H7 ⟨rfl, s7, eS7, eD7, tc7⟩
  clear s6 eS6 eD6 tc6
  subst hss1 hss2
  obtain ⟨nd, hss⟩ := crowd_ss hb tr
  have fits : Fits 100 (ts ++ (List.range 94).map fun i => List.replicate (100 - i) b) := fun t ht => by
    have h1 : t ∈ ks := by rw [← hks]; exact ks_mem.mpr (.inr ht)
    exact ⟨kn.bits t h1, kn.fit t h1⟩
  have lall : (ts ++ (List.range 94).map fun i => List.replicate (100 - i) b).length ≤ 1000 := by
    rw [List.length_append, List.length_map, List.length_range]
    omega
  generalize hSS : ts.filter (fun t => decide (t.length < 6)) ++ ts.filter (fun t => decide (t.length = 6 ∧ t ≠ List.replicate 6 b)) ++ ((List.range 94).map fun i => List.replicate (6 + i) b) ++ [List.replicate 100 b] = SS at tc7 nd hss
  generalize hTS : (ts ++ (List.range 94).map fun i => List.replicate (100 - i) b) = T2 at eS7 fits lall hks
  clear hSS hTS ext
  -- the look
  refine ⟨fun σ' H' => σ' = [some (sx [b]), some (.ref S2), some (.ref D), some (sx [97 - b]), x4, x5, x6, none, none] ∧ Same H7 H', ?_, ?_⟩
  · refine ⟨_, rfl, ?_⟩
    refine cells_go (n := 100) (by decide) (by decide) (.inl eS7) fits lall fun L H8 s8 n8 t8 => ?_
    rw [hks] at t8
    refine repr_go (cells_rp t8 (by decide) (by decide) kn (by omega)) ?_
    have eD8 := s8 _ _ eD7
    have tc8 := tc7.mono fun a l e => s8 _ _ e
    have l8 := tc8.len
    have ezip : (as6.zip (SS.map SX.S)).map (fun p => V.ref p.1) = as6.map V.ref := by
      have : (as6.zip (SS.map SX.S)).map Prod.fst = as6 := List.map_fst_zip (by rw [List.length_map, l8]; exact Nat.le_refl _)
      conv => rhs; rw [← this]
      rw [List.map_map]
      rfl
    refine ⟨_, rfl, ⟨D, as6.zip (SS.map SX.S), rfl, by rw [ezip]; exact SqL.of eD8, fun p hp => ?_, ?_, fun Ms q pm tsM nq => ?_⟩⟩
    · obtain ⟨i, hi⟩ := List.mem_iff_getElem?.mp hp
      obtain ⟨h1, h2⟩ := List.getElem?_zip_eq_some.mp hi
      rw [List.getElem?_map] at h2
      cases e : SS[i]? with
      | none => rw [e] at h2; cases h2
      | some t =>
        rw [e] at h2
        have e2 : SX.S t = p.2 := Option.some.inj h2
        have := tc_at tc8 (q := (p.1, t)) (List.mem_iff_getElem?.mpr ⟨i, List.getElem?_zip_eq_some.mpr ⟨h1, e⟩⟩)
        rw [← e2]
        exact ⟨_, this⟩
    · rw [List.map_snd_zip (by rw [List.length_map, l8]; exact Nat.le_refl _)]
      refine List.nodup_iff_pairwise_ne.mpr (List.pairwise_map.mpr ?_)
      exact (List.nodup_iff_pairwise_ne.mp nd).imp fun h e => h (S_inj e)
    have s9 := s8.new (o := HO.lst (Ms.map fun p => V.ref p.1)) nq
    have tq : Told (upd H8 q (.lst (Ms.map fun p => V.ref p.1))) 100 ks q := told_sorted (tc8.mono fun a l e => updn (nonn nq e) e) pm tsM nd kn.ord (fun t => by rw [hss, hk]) upd_same
    have eS9 := s9 _ _ eS7
    generalize upd H8 q (.lst (Ms.map fun p => V.ref p.1)) = H9 at s9 tq eS9 ⊢
    refine repr_go (cells_rp tq (by decide) (by decide) kn (by omega)) ?_
    refine ⟨rfl, ⟨_, rfl, ?_⟩⟩
    rw [decide_eq_true rfl]
    refine iteF ?_
    refine ⟨_, rfl, ⟨_, rfl, ⟨_, _, rfl, rfl, by rw [hB0]; decide, by decide, by decide, ?_⟩⟩⟩
    rw [show (100 : Int).toNat = 100 from rfl, repb_S]
    refine cellof_go (n := 100) (z := List.replicate 100 b) (by decide) (by decide) (.inl eS9) fits lall (Crowd.chain hb (Nat.le_refl 100)).1 (by rw [List.length_replicate]) fun H10 s10 => ?_
    rw [hks, crowd_lg1 hb kn hk]
    refine ⟨_, rfl, ⟨_, _, rfl, rfl, by rw [hB0]; decide, by decide, by decide, ?_⟩⟩
    rw [show (100 : Int).toNat = 100 from rfl, repb_S]
    refine ⟨rfl, ⟨_, rfl, ?_⟩⟩
    rw [show decide (sx (List.replicate 100 b) = V.str (SX.S (List.replicate 100 b))) = true from decide_eq_true rfl]
    refine iteF ?_
    exact ⟨rfl, s9.trans s10⟩
  rintro σ' H8 ⟨rfl, s8⟩
  have eS8 := s8 _ _ eS7
  refine ⟨_, rfl, ⟨S2, _, rfl, SqL.of eS8, fun R nR => ?_⟩⟩
  rw [← List.map_reverse]
  have s9 := s8.new (o := HO.lst (T2.reverse.map sx)) nR
  have eR : upd H8 R (.lst (T2.reverse.map sx)) R = some (.lst (T2.reverse.map sx)) := upd_same
  generalize upd H8 R (.lst (T2.reverse.map sx)) = H9 at s9 eR ⊢
  have hkr : ksOf T2.reverse = ks := by rw [← hks]; exact ks_eq fun t => List.mem_reverse
  refine ⟨_, rfl, ⟨_, _, rfl, rfl, by rw [hB0]; decide, by decide, by decide, ?_⟩⟩
  rw [show (50 : Int).toNat = 50 from rfl, repb_S]
  refine ⟨_, rfl, ⟨_, _, rfl, rfl, szl (by rw [sx_len, sx_len, List.length_replicate]; show 50 + 1 ≤ 1000000; decide), ?_⟩⟩
  rw [S_app]
  refine ⟨_, rfl, ⟨_, _, rfl, rfl, by rw [hB0]; decide, by decide, by decide, ?_⟩⟩
  rw [show (49 : Int).toNat = 49 from rfl, repb_S]
  refine ⟨_, _, rfl, rfl, szl (by rw [sx_len, sx_len, List.length_append, List.length_replicate, List.length_replicate]; show 50 + 1 + 49 ≤ 1000000; decide), ?_⟩
  rw [S_app]
  have zb : M.BL (List.replicate 50 b ++ [97 - b] ++ List.replicate 49 b) := M.BL.app (M.BL.app (Crowd.chain hb (k := 50) (by decide)).1 fun d hd => by
    rw [List.mem_singleton] at hd
    subst hd
    rcases hb with rfl | rfl
    · exact .inr rfl
    · exact .inl rfl) (Crowd.chain hb (k := 49) (by decide)).1
  refine cellof_go (n := 100) (by decide) (by decide) (.inl eR) (fun t ht => fits t (List.mem_reverse.mp ht)) (by rw [List.length_reverse]; exact lall) zb (by rw [List.length_append, List.length_append, List.length_replicate, List.length_replicate]; rfl) fun H10 s10 => ?_
  rw [hkr, crowd_lg2 hb kn hk]
  refine ⟨_, rfl, ⟨_, _, rfl, rfl, by rw [hB0]; decide, by decide, by decide, ?_⟩⟩
  rw [show (50 : Int).toNat = 50 from rfl, repb_S]
  refine ⟨rfl, ?_⟩
  rw [show decide (sx (List.replicate 50 b) = V.str (SX.S (List.replicate 50 b))) = true from decide_eq_true rfl]
  exact k _ ((s7.trans s9).trans s10)
end
open PySem PySem.Spec PyProof.Rows
open L2 hiding pass0
abbrev s_law_right : Stmt := top 37
theorem sc_law_right : FnScope ["_law_pot_here", "_law_span", "_law_some_here", "_law_plain", "_law_due", "_law_told", "_law_part", "_law_amount_here", "_law_place_here", "_law_turn", "_law_held", "_law_at", "_law_row"] ["_law_pot_here"] (defScope s_law_right) := ⟨rfl, rfl, rfl, by decide +kernel, rfl, by decide +kernel, by decide +kernel⟩
theorem bp_law_right : BndP "_law_right" s_law_right ["_law_pot_here"] := fun _ _ _ _ _ _ us h => match us, h with | [_], _ => rfl
theorem cr_setOfSK {X : Cx} {K : PySem.W.Frag} (hk : X.K = K) (hc : X.calm = true) : CallR X (.type "set") (rSetOfS K X.w) := hk ▸ cr_setOfS hc
theorem Go.tp {p t : Addr} {H H' : Hp} {xs : List V} (hp : PotAt H p) (g : Go p H H') (h : H t = some (.tup xs)) : H' t = some (.tup xs) := by
  refine g.kp h fun q => ?_
  obtain ⟨a, b, e, _⟩ := hp
  rw [q, e] at h
  cases h
theorem ks_plain {n : Nat} {ts : List (List Nat)} {ns : List Str} (h1 : sortedS ns = true) (nd : ns.Nodup) (hm : ∀ k, k ∈ ns ↔ k ∈ ts.map SX.S ++ [("" : Str)]) : ns.map V.str = (ksOf ts).map sx := by
  have e : ns.map (fun z : Str => z.cps.toList) = ksOf ts := by
    refine ord_eq ?_ (ks_ord ts) fun t => ?_
    · rw [List.pairwise_map]
      have t1 : TS ns := ts_of_sortedS h1
      have n3 := List.nodup_iff_pairwise_ne.mp nd
      refine (t1.and n3).imp fun {a b} h => ?_
      have h2 : ¬ b.cps.toList < a.cps.toList := by simpa [tLt] using h.1
      rcases Decidable.em (a.cps.toList < b.cps.toList) with c | c
      · exact c
      · refine absurd (List.le_antisymm (List.not_lt.mp h2) (List.not_lt.mp c)) fun q => h.2 ?_
        rw [← SX.S_tl a, ← SX.S_tl b, q]
    · rw [List.mem_map, ks_mem]
      constructor
      · rintro ⟨z, hz, rfl⟩
        rcases List.mem_append.mp ((hm z).mp hz) with h | h
        · obtain ⟨t, ht, rfl⟩ := List.mem_map.mp h
          rw [tl_S]
          exact .inr ht
        · rw [List.mem_singleton] at h
          subst h
          exact .inl rfl
      · rintro (rfl | h)
        · exact ⟨"", (hm "").mpr (List.mem_append_right _ (List.mem_singleton.mpr rfl)), rfl⟩
        · exact ⟨SX.S t, (hm _).mpr (List.mem_append_left _ (List.mem_map_of_mem h)), tl_S t⟩
  rw [← e, List.map_map]
  exact List.map_congr_left fun z _ => (sx_tl z).symm
theorem cell_lg {n : Nat} {ks : List (List Nat)} {s a : List Nat} (h0 : 1 ≤ n) (kn : M.Known n ks) (hs : s ∈ ks) (h : M.cellA n ks s = some a) : M.BL a ∧ a.length = n ∧ M.lg ks a = s := by
  rw [← M.find_is h0 kn hs] at h
  have h1 := List.find?_some h
  have h2 := M.addr_ok (List.mem_of_find?_eq_some h)
  exact ⟨h2.1, h2.2, of_decide_eq_true h1⟩
theorem tc_ix {H : Hp} {w : Nat} {ks : List (List Nat)} : ∀ {as : List Addr} {ss : List (List Nat)} {i : Nat} {a : Addr}, Tc H w ks as ss → as[i]? = some a → ∃ s, ss[i]? = some s ∧ H a = some (.tup [sx s, .int ((M.many w ks s : Nat) : Int), oA (M.cellA w ks s)])
  | _, _, _, _, .nil, h => by simp at h
  | _, _, 0, _, .cons (s := s) e _, h => ⟨s, rfl, by cases h; exact e⟩
  | _, _, i + 1, _, .cons _ t, h => tc_ix (i := i) t h
@[irreducible] def spRight : Sp := fun vs H Q _ => ∃ p, vs = [.ref p] ∧ PotAt H p ∧ ∀ H', Go p H H' → Q (.bl true) H'
theorem right_go {p : Addr} {H : Hp} {Q : VK} {E : XK} (h : PotAt H p) (q : ∀ H', Go p H H' → Q (.bl true) H') : spRight [.ref p] H Q E := by
  unfold spRight
  exact ⟨p, rfl, h, q⟩
section
variable {P : Program} {w : World} {K : PySem.W.Frag} {mg : Str → Option Value} {base : Heap} {f C : Addr} {fd' : FuncData}
theorem ok_right (F : Fun K "_law_right" "_law_right" s_law_right f fd') (hm : mg "_law_right" = some (.ref f)) (T : Txt K mg) (c_law_among : Nm P w K mg base CX0 2 "_law_among" s_law_among ["_law_pot_here", "_law_some_here"] (spAmong K)) (c_law_some : Nm P w K mg base CX0 4 "_law_some" s_law_some ["_law_pot_here", "_law_span"] (spSome)) (c_law_amount : Nm P w K mg base CX0 2 "_law_amount" s_law_amount ["_law_span", "_law_some_here", "_law_part"] (spAm)) (c_law_least : Nm P w K mg base CX0 2 "_law_least" s_law_least ["_law_span", "_law_some_here", "_law_part"] (spLst)) (c_cells : Nm P w K mg base CX0 8 "cells" s_cells ["width", "stretches"] (spCells)) (c_cell_of : Nm P w K mg base CX0 7 "cell_of" s_cell_of ["width", "stretches", "address"] (spCellOf)) (c_law_place : Nm P w K mg base CX0 4 "_law_place" s_law_place ["_law_pot_here", "_law_span", "_law_some_here"] (spPlace)) (c_law_crowd_right : Nm P w K mg base CX0 9 "_law_crowd_right" s_law_crowd_right ["_law_bit"] (spCrowd)) : Nm P w K mg base CX0 10 "_law_right" s_law_right ["_law_pot_here"] (spRight) := by
  refine nm_of0 F hm sc_law_right (fun vs H Q E h => ?_) fun cdv A outer s H vs Q E hr h => ?_
  · unfold spRight at h
    obtain ⟨p, rfl, hp, k⟩ := h
    subst_vars
    rfl
  unfold spRight at h
  obtain ⟨p, rfl, hp, k⟩ := h
  refine ⟨_, (C8.pss_cut (ps_set (i := 1) sc_law_right.nd rfl (by first | exact Or.inl rfl | exact Or.inr rfl) (pe_g c_law_among hr (by decide) L2.pass0 bp_law_among (by rfl) (pa_cons (pv 0) (pa_cons (pe_lst (pa_cons pe_int (pa_cons pe_int (pa_cons pe_int (pa_cons pe_int (pa_cons pe_int (pa_cons pe_int (pa_cons pe_int (pa_cons pe_int pa_nil))))))))) pa_nil))))
      (C8.pss_cut (ps_set (i := 2) sc_law_right.nd rfl (by first | exact Or.inl rfl | exact Or.inr rfl) (pe_g c_law_some hr (by decide) L2.pass0 bp_law_some (by rfl) (pa_cons (pv 0) (pa_cons (pv 1) pa_nil))))
      (C8.pss_cut (ps_set (i := 3) sc_law_right.nd rfl (by first | exact Or.inl rfl | exact Or.inr rfl) (pe_callB (cr_sortedSS rfl) (by rfl) T.b_sorted (by decide +kernel) (pa_cons (pe_callTy (cr_setOfSK (K := K) rfl rfl) (by rfl) T.b_set (by decide +kernel) (pa_cons (pe_op op_cat (pv 2) (pe_lst (pa_cons pe_str pa_nil))) pa_nil)) pa_nil)))
      (C8.pss_cut (ps_setLc (i := 4) (own := [("_law_part", 6)]) (g := (gName 6)) (by rfl) sc_law_right.nd rfl rfl (sw_true rfl rfl rfl (by decide +kernel)) (pi_listK (K := K) rfl (pv 3)) (blkOk_by (own := [("_law_part", 6)]) (N := ["_law_pot_here", "_law_span", "_law_some_here", "_law_plain", "_law_due", "_law_told", "_law_part", "_law_amount_here", "_law_place_here", "_law_turn", "_law_held", "_law_at", "_law_row"]) (sc := defScope s_law_right) (by decide +kernel)) (fun _ _ _ _ _ => (pg_name (i := 6) sc_law_right.nd rfl (by first | exact Or.inl rfl | exact Or.inr rfl))) (fun _ _ _ _ _ => pts_nil) (fun _ _ _ _ _ => (pe_tup (pa_cons (pv 6) (pa_cons (pe_g c_law_amount hr (by decide) L2.pass0 bp_law_amount (by rfl) (pa_cons (pv 1) (pa_cons (pv 3) (pa_cons (pv 6) pa_nil)))) (pa_cons (pe_g c_law_least hr (by decide) L2.pass0 bp_law_least (by rfl) (pa_cons (pv 1) (pa_cons (pv 3) (pa_cons (pv 6) pa_nil)))) pa_nil))))))
      (C8.pss_cut (ps_set (i := 5) sc_law_right.nd rfl (by first | exact Or.inl rfl | exact Or.inr rfl) (pe_g c_cells hr (by decide) L2.pass0 bp_cells (by rfl) (pa_cons (pv 1) (pa_cons (pv 2) pa_nil))))
      (C8.pss_cut (ps_if (PW.pt (pw_or (pt_cmpR op_ne (pe_callB (call_reprK (K := K) rfl hr.g hr.u) (by rfl) T.b_repr (by decide +kernel) (pa_cons (pv 5) pa_nil)) (pe_callB (call_reprK (K := K) rfl hr.g hr.u) (by rfl) T.b_repr (by decide +kernel) (pa_cons (pv 4) pa_nil)) (nomark _)) (pw_or1 (pt_cmpR op_ne (pe_callB (cr_sumK (K := K) rfl rfl) (by rfl) T.b_sum (by decide +kernel) (pa_cons (pe_lc (own := [("_law_row", 12)]) (g := (gName 12)) (by rfl) sc_law_right.nd (pi_listK (K := K) rfl (pv 4)) (blkOk_by (own := [("_law_row", 12)]) (N := ["_law_pot_here", "_law_span", "_law_some_here", "_law_plain", "_law_due", "_law_told", "_law_part", "_law_amount_here", "_law_place_here", "_law_turn", "_law_held", "_law_at", "_law_row"]) (sc := defScope s_law_right) (by decide +kernel)) (fun _ _ _ _ _ => (pg_name (i := 12) sc_law_right.nd rfl (by first | exact Or.inl rfl | exact Or.inr rfl))) (fun _ _ _ _ _ => pts_nil) (fun _ _ _ _ _ => (pe_ix (ix_seqK (K := K) rfl) (pv 12) pe_int (fun _ _ => rfl)))) pa_nil)) (pe_op op_oneShl pe_int (pv 1)) (nomark _))))) (pss_one (ps_ret pe_bl)) pss_nil)
      (C8.pss_cut (ps_for PassesOwn.never rfl (pi_listK (K := K) rfl (pv 5)) (pg_tup (by rfl) (pgs_cons (pg_name (i := 6) sc_law_right.nd rfl (by first | exact Or.inl rfl | exact Or.inr rfl)) (pgs_cons (pg_name (i := 7) sc_law_right.nd rfl (by first | exact Or.inl rfl | exact Or.inr rfl)) (pgs_cons (pg_name (i := 8) sc_law_right.nd rfl (by first | exact Or.inl rfl | exact Or.inr rfl)) pgs_nil)))) (pss_one (ps_if (PW.pt (pw_or (pt_cmpR op_ne (pe_cmpR op_eq (pv 7) pe_int (nomark _)) (pe_cmpR op_isN (pv 8) pe_non (nomark _)) (nomark _)) (pw_or1 (PW.pt (pw_and (pt_cmpR op_notN (pv 8) pe_non (nomark _)) (pw_and1 (pt_cmpR op_ne (pe_g c_cell_of hr (by decide) L2.pass0 bp_cell_of (by rfl) (pa_cons (pv 1) (pa_cons (pv 2) (pa_cons (pv 8) pa_nil)))) (pv 6) (nomark _)))))))) (pss_one (ps_ret pe_bl)) pss_nil)))
      (C8.pss_cut (ps_for PassesOwn.never rfl (pi_range1 (by rfl) T.b_range (pa_cons pe_int pa_nil)) (pg_name (i := 9) sc_law_right.nd rfl (by first | exact Or.inl rfl | exact Or.inr rfl)) (C8.pss_cut (ps_set (i := 8) sc_law_right.nd rfl (by first | exact Or.inl rfl | exact Or.inr rfl) (pe_g c_law_place hr (by decide) L2.pass0 bp_law_place (by rfl) (pa_cons (pv 0) (pa_cons (pv 1) (pa_cons (pv 2) pa_nil)))))
      (C8.pss_cut (ps_set (i := 10) sc_law_right.nd rfl (by first | exact Or.inl rfl | exact Or.inr rfl) pe_str)
      (C8.pss_cut (ps_for PassesOwn.never rfl (pi_range1 (by rfl) T.b_range (pa_cons (pe_op op_add (pv 1) pe_int) pa_nil)) (pg_name (i := 11) sc_law_right.nd rfl (by first | exact Or.inl rfl | exact Or.inr rfl)) (pss_one (ps_if (pt_cmpR (op_inK (K := K) rfl) (pe_slice sl_str (pv 8) po_none (po_some (pv 11))) (pv 3) rfl) (pss_one (ps_set (i := 10) sc_law_right.nd rfl (by first | exact Or.inl rfl | exact Or.inr rfl) (pe_slice sl_str (pv 8) po_none (po_some (pv 11))))) pss_nil)))
      (pss_one (ps_if (pt_cmpR op_ne (pe_g c_cell_of hr (by decide) L2.pass0 bp_cell_of (by rfl) (pa_cons (pv 1) (pa_cons (pv 2) (pa_cons (pv 8) pa_nil)))) (pv 10) (nomark _)) (pss_one (ps_ret pe_bl)) pss_nil))))))
      (pss_one (ps_ret (pe_and (pe_cmpR op_eq (pe_callB (call_reprK (K := K) rfl hr.g hr.u) (by rfl) T.b_repr (by decide +kernel) (pa_cons (pe_g c_cells hr (by decide) L2.pass0 bp_cells (by rfl) (pa_cons (pv 1) (pa_cons (pe_op op_cat (pv 2) (pv 2)) pa_nil))) pa_nil)) (pe_callB (call_reprK (K := K) rfl hr.g hr.u) (by rfl) T.b_repr (by decide +kernel) (pa_cons (pv 4) pa_nil)) (nomark _)) (pe_one (pe_g c_law_crowd_right hr (by decide) L2.pass0 bp_law_crowd_right (by rfl) (pa_cons (pe_g c_law_among hr (by decide) L2.pass0 bp_law_among (by rfl) (pa_cons (pv 0) (pa_cons pe_str pa_nil))) pa_nil)))))))))))))), ?_⟩
  -- _law_span
  refine ⟨fun σ' H' => ∃ n : Nat, σ' = [some (.ref p), some (.int n), none, none, none, none, none, none, none, none, none, none, none] ∧ 1 ≤ n ∧ n ≤ 100 ∧ Go p H H', ?_, ?_⟩
  · refine ⟨_, rfl, ⟨szl (by show 8 ≤ 1000000; decide), fun L nL => ?_⟩⟩
    have g1 := (Go.refl hp).new (o := HO.lst [.int 8, .int 20, .int 63, .int 64, .int 65, .int 99, .int 100, .int 100]) nL
    refine among_l g1.pot (hp.ne nL) (SqL.of upd_same) (by show 0 < 8; decide) (by show 8 ≤ 1000; decide) fun v hv H4 g4 => ?_
    have gg := g1.trans g4
    simp only [List.mem_cons, List.not_mem_nil, or_false] at hv
    rcases hv with rfl | rfl | rfl | rfl | rfl | rfl | rfl | rfl
    · exact ⟨8, rfl, by decide, by decide, gg⟩
    · exact ⟨20, rfl, by decide, by decide, gg⟩
    · exact ⟨63, rfl, by decide, by decide, gg⟩
    · exact ⟨64, rfl, by decide, by decide, gg⟩
    · exact ⟨65, rfl, by decide, by decide, gg⟩
    · exact ⟨99, rfl, by decide, by decide, gg⟩
    · exact ⟨100, rfl, by decide, by decide, gg⟩
    · exact ⟨100, rfl, by decide, by decide, gg⟩
  rintro σ' H1 ⟨n, rfl, h0, h1, g1⟩
  -- _law_some_here
  refine ⟨fun σ' H' => ∃ S ts, σ' = [some (.ref p), some (.int n), some (.ref S), none, none, none, none, none, none, none, none, none, none] ∧ Go p H H' ∧ H' S = some (.lst (ts.map sx)) ∧ S ≠ p ∧ Fits n ts ∧ 1 ≤ ts.length ∧ ts.length ≤ 14, ?_, ?_⟩
  · refine ⟨_, rfl, ⟨_, rfl, ?_⟩⟩
    refine some_go g1.pot h0 h1 fun L ts H2 nL g2 eL ft l0 l1 => ?_
    exact ⟨L, ts, rfl, g1.trans g2, eL, g1.pot.ne nL, ft, l0, l1⟩
  rintro σ' H2 ⟨S, ts, rfl, g2, eS, hSp, ft, l0, l14⟩
  have kn := ks_known ft
  have lk := ks_len ts
  clear g1
  -- _law_plain
  refine ⟨fun σ' H' => ∃ P, σ' = [some (.ref p), some (.int n), some (.ref S), some (.ref P), none, none, none, none, none, none, none, none, none] ∧ Same H2 H' ∧ H2 P = none ∧ H' P = some (.lst ((ksOf ts).map sx)), ?_, ?_⟩
  · refine ⟨_, rfl, ⟨szl (by show 1 ≤ 1000000; decide), fun B nB => ?_⟩⟩
    have s3 := (Same.refl H2).new (o := HO.lst [V.str ""]) nB
    have eS3 := updn (o := HO.lst [V.str ""]) (nonn nB eS) eS
    have eB3 : upd H2 B (.lst [V.str ""]) B = some (.lst [V.str ""]) := upd_same
    generalize upd H2 B (.lst [V.str ""]) = H3 at s3 eS3 eB3 ⊢
    refine ⟨S, B, _, _, rfl, rfl, eS3, eB3, szl (by rw [List.length_map]; show _ + 1 ≤ _; omega), fun C nC => ?_⟩
    have e4 : ts.map sx ++ [V.str ""] = (ts.map SX.S ++ [("" : Str)]).map V.str := by
      rw [List.map_append, map_sx]
      rfl
    have s4 := s3.new (o := HO.lst (ts.map sx ++ [V.str ""])) nC
    have eC : upd H3 C (.lst (ts.map sx ++ [V.str ""])) C = some (.lst ((ts.map SX.S ++ [("" : Str)]).map V.str)) := by rw [upd_same, e4]
    generalize upd H3 C (.lst (ts.map sx ++ [V.str ""])) = H4 at s4 eC ⊢
    refine ⟨C, ts.map SX.S ++ [("" : Str)], rfl, SqL.of eC, by rw [List.length_append, List.length_map]; show _ + 1 < 64; omega, fun A' T' m nA hm hT => ?_⟩
    refine ⟨A', T', m, rfl, upd_same, by rw [List.length_append, List.length_map] at hm; have : [("" : Str)].length = 1 := rfl; omega, fun ns q q1 q2 q3 q4 q5 => ?_⟩
    have s5 := (s4.new (o := SetS w A' T' m) nA).new (o := HO.lst (ns.map V.str)) q5
    have en := ks_plain (n := n) (ts := ts) q1 q2 fun k => by rw [q3, hT]
    refine ⟨q, rfl, s5, (s4.new (o := SetS w A' T' m) nA).back q5, ?_⟩
    rw [upd_same, en]
  rintro σ' H3 ⟨P, rfl, s3, nP, eP⟩
  have hPp := g2.pot.ne nP
  have eS3 := s3 _ _ eS
  have g3 := g2.trans (Go.of g2.pot s3)
  generalize hks : ksOf ts = ks at kn lk eP
  clear g2 s3 eS
  -- _law_due
  refine ⟨fun σ' H' => ∃ D, σ' = [some (.ref p), some (.int n), some (.ref S), some (.ref P), some (.ref D), none, none, none, none, none, none, none, none] ∧ Same H3 H' ∧ H3 D = none ∧ Told H' n ks D, ?_, ?_⟩
  · refine ⟨_, rfl, ⟨P, rfl, ⟨_, SqL.of eP⟩, fun B nB => ?_⟩⟩
    refine lc_it (walk_list (xs := ks.map sx)) (fun i H' => CL H3 B n ks (ks.take i) H') (CL.nil nB) (fun i H' _ h => SqL.of (h.2 _ _ eP)) ?_ ?_
    · rintro i x H4 H5 hi hq ⟨rfl, hx⟩
      obtain ⟨s, hs0, rfl⟩ := sx_at hx
      have hs := List.mem_of_getElem? hs0
      refine ⟨rfl, ?_⟩
      dsimp only [tYes]
      rw [if_pos rfl]
      have eP5 := hq.2 _ _ eP
      refine ⟨_, rfl, ⟨_, rfl, ⟨_, rfl, ⟨_, rfl, ?_⟩⟩⟩⟩
      refine am_go eP5 kn hs h1 (by omega) fun H6 s6 => ?_
      refine ⟨_, rfl, ⟨_, rfl, ⟨_, rfl, ?_⟩⟩⟩
      refine lst_go (s6 _ _ eP5) kn hs h0 h1 (by omega) fun H7 s7 => ?_
      refine ⟨szl (by show 3 ≤ 1000000; decide), fun t nt => ?_⟩
      rw [List.take_add_one, hs0]
      exact hq.turn nB (s6.trans s7) nt (by rw [List.length_take]; omega) rfl rfl
    rintro H4 hq
    rw [List.length_map, List.take_length] at hq
    exact ⟨B, rfl, hq.2, nB, hq.1⟩
  rintro σ' H4 ⟨D, rfl, s4, nD, tD⟩
  have eS4 := s4 _ _ eS3
  have eP4 := s4 _ _ eP
  have g4 := g3.trans (Go.of g3.pot s4)
  have hDp := g3.pot.ne nD
  clear s4 eS3 eP g3
  -- _law_told
  refine ⟨fun σ' H' => ∃ L, σ' = [some (.ref p), some (.int n), some (.ref S), some (.ref P), some (.ref D), some (.ref L), none, none, none, none, none, none, none] ∧ Same H4 H' ∧ H4 L = none ∧ Told H' n ks L, ?_, ?_⟩
  · refine ⟨_, rfl, ⟨_, rfl, ?_⟩⟩
    refine cells_go h0 h1 (.inl eS4) ft (by omega) fun L H5 s5 n5 t5 => ?_
    rw [hks] at t5
    exact ⟨L, rfl, s5, n5, t5⟩
  rintro σ' H5 ⟨L, rfl, s5, nL, tL⟩
  have told_mono : ∀ {Ha Hb : Hp} {A' : Addr}, Same Ha Hb → Told Ha n ks A' → Told Hb n ks A' := fun s ⟨as, e, t⟩ => ⟨as, s _ _ e, t.mono fun a l e => s _ _ e⟩
  have tD5 := told_mono s5 tD
  have eS5 := s5 _ _ eS4
  have eP5 := s5 _ _ eP4
  have g5 := g4.trans (Go.of g4.pot s5)
  have hLp := g4.pot.ne nL
  clear s5 tD eS4 eP4 g4
  have kl : ks.length ≤ 900 := by omega
  -- the look
  refine ⟨fun σ' H' => σ' = [some (.ref p), some (.int n), some (.ref S), some (.ref P), some (.ref D), some (.ref L), none, none, none, none, none, none, none] ∧ Same H5 H', ?_, ?_⟩
  · refine ⟨_, rfl, ?_⟩
    refine repr_go (cells_rp tL h0 h1 kn kl) ?_
    refine ⟨_, rfl, ?_⟩
    refine repr_go (cells_rp tD5 h0 h1 kn kl) ?_
    refine ⟨rfl, ⟨_, rfl, ?_⟩⟩
    rw [decide_eq_true rfl]
    refine iteF ?_
    obtain ⟨as, eD, tcD⟩ := tD5
    refine ⟨_, rfl, ⟨D, rfl, ⟨_, SqL.of eD⟩, fun B nB => ?_⟩⟩
    refine lc_it (walk_list (xs := as.map V.ref)) (fun i H' => NL H5 B (((ks.take i).map fun t => ((M.many n ks t : Nat) : Int)).map V.int) H') (.nil nB) (fun i H' _ h => SqL.of (h.2 _ _ eD)) ?_ ?_
    · rintro i x H6 H7 hi hq ⟨rfl, hx⟩
      obtain ⟨a, ha, rfl⟩ : ∃ a, as[i]? = some a ∧ x = .ref a := by
        rw [List.getElem?_map] at hx
        cases e : as[i]? with
        | none => rw [e] at hx; cases hx
        | some t => rw [e] at hx; exact ⟨t, rfl, (Option.some.inj hx).symm⟩
      obtain ⟨s, hs0, ea⟩ := tc_ix tcD ha
      refine ⟨rfl, ?_⟩
      dsimp only [tYes]
      rw [if_pos rfl]
      refine ⟨_, rfl, ?_⟩
      refine Or.inr (Or.inl ⟨_, _, _, _, rfl, rfl, SqT.of (hq.2 _ _ ea), rfl, ?_⟩)
      have estep : ((ks.take (i + 1)).map fun t => ((M.many n ks t : Nat) : Int)).map V.int = ((ks.take i).map fun t => ((M.many n ks t : Nat) : Int)).map V.int ++ [V.int ((M.many n ks s : Nat) : Int)] := by
        rw [List.take_add_one, hs0]
        simp
      rw [estep]
      exact hq.turn nB (Same.refl _) (by rw [List.length_map, List.length_map, List.length_take]; omega)
    rintro H6 hq
    rw [List.length_map, tcD.len, List.take_length] at hq
    refine ⟨B, _, rfl, SqL.of hq.1, ?_⟩
    rw [sum_castI, M.sum_many kn]
    refine ⟨_, rfl, ?_⟩
    refine ⟨n, rfl, rfl, by omega, ?_⟩
    refine ⟨rfl, ⟨_, rfl, ?_⟩⟩
    rw [show decide (V.int ((2 ^ n : Nat) : Int) = V.int (2 ^ n)) = true from decide_eq_true (congrArg V.int (Int.natCast_pow 2 n))]
    refine iteF ?_
    exact ⟨rfl, hq.2⟩
  rintro σ' H6 ⟨rfl, s6⟩
  have tL6 := told_mono s6 tL
  have tD6 := told_mono s6 tD5
  have eS6 := s6 _ _ eS5
  have eP6 := s6 _ _ eP5
  have g6 := g5.trans (Go.of g5.pot s6)
  clear s6 tL tD5 eS5 eP5 g5
  -- each row
  refine ⟨fun σ' H' => ∃ x6 x7 x8, σ' = [some (.ref p), some (.int n), some (.ref S), some (.ref P), some (.ref D), some (.ref L), x6, x7, x8, none, none, none, none] ∧ Same H6 H', ?_, ?_⟩
  · obtain ⟨as, eL, tc⟩ := tL6
    refine ⟨_, rfl, ⟨L, rfl, ⟨_, SqL.of eL⟩, ?_⟩⟩
    refine for_it (walk_list (xs := as.map V.ref)) (fun i σ' H' => ∃ x6 x7 x8, σ' = [some (.ref p), some (.int n), some (.ref S), some (.ref P), some (.ref D), some (.ref L), x6, x7, x8, none, none, none, none] ∧ Same H6 H') ⟨_, _, _, rfl, Same.refl _⟩ (fun i σ' H' _ h => by obtain ⟨_, _, _, _, s⟩ := h; exact SqL.of (s _ _ eL)) ?_ ?_
    · rintro i x σ' H7 H7' hi ⟨x6, x7, x8, rfl, s7⟩ ⟨rfl, hx⟩
      obtain ⟨c, hc, rfl⟩ : ∃ c, as[i]? = some c ∧ x = .ref c := by
        rw [List.getElem?_map] at hx
        cases e : as[i]? with
        | none => rw [e] at hx; cases hx
        | some t => rw [e] at hx; exact ⟨t, rfl, (Option.some.inj hx).symm⟩
      obtain ⟨s, hs0, ec⟩ := tc_ix tc hc
      have hs := List.mem_of_getElem? hs0
      refine ⟨c, _, rfl, SqT.of (s7 _ _ ec), rfl, ⟨_, _, rfl, ⟨_, _, rfl, ⟨_, _, rfl, ⟨rfl, ?_⟩⟩⟩⟩⟩
      have e0 : decide (V.int ((M.many n ks s : Nat) : Int) = V.int 0) = decide (oA (M.cellA n ks s) = V.non) := by
        unfold M.cellA
        by_cases h : M.many n ks s = 0
        · rw [if_pos h, h]
          rfl
        · rw [if_neg h, decide_eq_false (fun q => h (by have := V.int.inj q; omega)), decide_eq_false (fun q => by cases q)]
      refine ⟨_, rfl, ⟨rfl, ?_⟩⟩
      refine ⟨_, rfl, ⟨rfl, ?_⟩⟩
      refine ⟨rfl, ⟨_, rfl, ?_⟩⟩
      rw [e0, decide_eq_true rfl]
      refine iteF ?_
      refine ⟨_, rfl, ⟨rfl, ⟨_, rfl, ?_⟩⟩⟩
      cases hA : M.cellA n ks s with
      | none =>
        refine iteF ?_
        refine iteF ?_
        exact ⟨_, _, _, rfl, s7⟩
      | some a =>
        obtain ⟨ab, al, alg⟩ := cell_lg h0 kn hs hA
        refine iteT ?_
        refine ⟨_, rfl, ⟨_, rfl, ⟨_, rfl, ?_⟩⟩⟩
        refine cellof_go h0 h1 (.inl (s7 _ _ eS6)) ft (by omega) ab al fun H8 s8 => ?_
        rw [hks, alg]
        refine ⟨_, rfl, ⟨rfl, ⟨_, rfl, ?_⟩⟩⟩
        rw [decide_eq_true rfl]
        refine iteF ?_
        exact ⟨_, _, _, rfl, s7.trans s8⟩
    · rintro σ' H7 ⟨x6, x7, x8, rfl, s7⟩
      exact ⟨x6, x7, x8, rfl, s7⟩
  rintro σ' H7 ⟨x6, x7, x8, rfl, s7⟩
  have tD7 := told_mono s7 tD6
  have eS7 := s7 _ _ eS6
  have eP7 := s7 _ _ eP6
  have g7 := g6.trans (Go.of g6.pot s7)
  clear s7 tL6 tD6 eS6 eP6 g6
  -- eight addresses
  refine ⟨fun σ' H' => ∃ x8 x9 x10 x11, σ' = [some (.ref p), some (.int n), some (.ref S), some (.ref P), some (.ref D), some (.ref L), x6, x7, x8, x9, x10, x11, none] ∧ Go p H7 H', ?_, ?_⟩
  · refine ⟨8, rfl, by decide, by decide, ?_⟩
    refine for_it walk_range (fun i σ' H' => ∃ x8 x9 x10 x11, σ' = [some (.ref p), some (.int n), some (.ref S), some (.ref P), some (.ref D), some (.ref L), x6, x7, x8, x9, x10, x11, none] ∧ Go p H7 H') ⟨_, _, _, _, rfl, Go.refl g7.pot⟩ (fun _ _ _ _ _ => trivial) ?_ ?_
    · rintro i x σ' H8 H8' hi ⟨x8, x9, x10, x11, rfl, g8⟩ ⟨rfl, rfl⟩
      refine ⟨fun σ' H' => ∃ z, σ' = [some (.ref p), some (.int n), some (.ref S), some (.ref P), some (.ref D), some (.ref L), x6, x7, some (sx z), some (.int (0 + (i : Int))), x10, x11, none] ∧ M.BL z ∧ z.length = n ∧ Go p H7 H', ?_, ?_⟩
      · refine ⟨_, rfl, ⟨_, rfl, ⟨_, rfl, ?_⟩⟩⟩
        refine place_go g8.pot h0 h1 hSp (g8.kp eS7 hSp) ft l0 (by omega) fun z H9 zb zl g9 => ?_
        exact ⟨z, rfl, zb, zl, g8.trans g9⟩
      rintro σ' H9 ⟨z, rfl, zb, zl, g9⟩
      have eS9 := g9.kp eS7 hSp
      have eP9 := g9.kp eP7 hPp
      refine ⟨fun σ' H' => σ' = [some (.ref p), some (.int n), some (.ref S), some (.ref P), some (.ref D), some (.ref L), x6, x7, some (sx z), some (.int (0 + (i : Int))), some (sx []), x11, none] ∧ H' = H9, ⟨rfl, rfl⟩, ?_⟩
      rintro σ' H9' ⟨rfl, rfl⟩
      refine ⟨fun σ' H' => ∃ x11, σ' = [some (.ref p), some (.int n), some (.ref S), some (.ref P), some (.ref D), some (.ref L), x6, x7, some (sx z), some (.int (0 + (i : Int))), some (sx (M.lg ks z)), x11, none] ∧ H' = H9', ?_, ?_⟩
      · refine ⟨_, rfl, ⟨_, _, rfl, rfl, ?_⟩⟩
        refine ⟨n + 1, rfl, by omega, by omega, ?_⟩
        refine for_it walk_range (fun j σ' H' => ∃ x11, σ' = [some (.ref p), some (.int n), some (.ref S), some (.ref P), some (.ref D), some (.ref L), x6, x7, some (sx z), some (.int (0 + (i : Int))), some (sx (M.lgN ks z (j - 1))), x11, none] ∧ H' = H9') ⟨_, rfl, rfl⟩ (fun _ _ _ _ _ => trivial) ?_ ?_
        · rintro j x σ' Ha Hb hj ⟨x11, rfl, rfl⟩ ⟨rfl, rfl⟩
          refine ⟨_, rfl, ⟨_, rfl, ⟨_, rfl, ⟨_, rfl, szl (by rw [sx_len]; omega), ?_⟩⟩⟩⟩
          rw [cut_S z (k := j) (by omega)]
          refine ⟨_, rfl, ⟨P, _, rfl, .inl (SqL.of eP9), rfl, flat_sx _, ?_⟩⟩
          rw [show inV (V.str (SX.S (z.take j))) (ks.map sx) = decide (z.take j ∈ ks) from inV_sx _ _]
          refine ⟨_, rfl, ?_⟩
          have estep : M.lgN ks z (j + 1 - 1) = if z.take j ∈ ks then z.take j else M.lgN ks z (j - 1) := by
            cases j with
            | zero =>
              rw [List.take_zero, if_pos kn.all]
              rfl
            | succ j => rfl
          by_cases h : z.take j ∈ ks
          · rw [decide_eq_true h]
            rw [if_pos h] at estep
            refine iteT ?_
            refine ⟨_, rfl, ⟨_, rfl, ⟨_, rfl, ⟨_, rfl, szl (by rw [sx_len]; omega), ?_⟩⟩⟩⟩
            rw [cut_S z (k := j) (by omega)]
            exact ⟨_, by rw [estep]; rfl, rfl⟩
          · rw [decide_eq_false h]
            rw [if_neg h] at estep
            refine iteF ?_
            exact ⟨_, by rw [estep]; rfl, rfl⟩
        · rintro σ' Ha ⟨x11, rfl, rfl⟩
          have : M.lgN ks z ((((n : Int) + 1).toNat) - 1) = M.lg ks z := by
            unfold M.lg
            rw [zl]
            congr 1
          exact ⟨x11, by rw [← this], rfl⟩
      rintro σ' Ha ⟨x11, rfl, rfl⟩
      refine ⟨_, rfl, ⟨_, rfl, ⟨_, rfl, ?_⟩⟩⟩
      refine cellof_go h0 h1 (.inl eS9) ft (by omega) zb zl fun Hb s8 => ?_
      rw [hks]
      refine ⟨_, rfl, ⟨rfl, ⟨_, rfl, ?_⟩⟩⟩
      rw [decide_eq_true rfl]
      refine iteF ?_
      exact ⟨_, _, _, _, rfl, g9.trans (Go.of g9.pot s8)⟩
    · rintro σ' H8 ⟨x8, x9, x10, x11, rfl, g8⟩
      exact ⟨x8, x9, x10, x11, rfl, g8⟩
  rintro σ' H8 ⟨x8, x9, x10, x11, rfl, g8⟩
  have eS8 := g8.kp eS7 hSp
  have tD8 : Told H8 n ks D := by
    obtain ⟨as, e, t⟩ := tD7
    exact ⟨as, g8.kp e hDp, t.mono fun a l e => g8.tp g7.pot e⟩
  -- the end
  refine ⟨_, rfl, ⟨_, rfl, ⟨_, rfl, ?_⟩⟩⟩
  refine ⟨S, S, _, _, rfl, rfl, eS8, eS8, szl (by rw [List.length_map]; omega), fun C' nC => ?_⟩
  rw [← List.map_append]
  have s9 := (Same.refl H8).new (o := HO.lst ((ts ++ ts).map sx)) nC
  have eC : upd H8 C' (.lst ((ts ++ ts).map sx)) C' = some (.lst ((ts ++ ts).map sx)) := upd_same
  generalize upd H8 C' (.lst ((ts ++ ts).map sx)) = H9 at s9 eC ⊢
  refine cells_go h0 h1 (.inl eC) (ft.snoc ft) (by rw [List.length_append]; omega) fun L2 H10 s10 n10 t10 => ?_
  rw [show ksOf (ts ++ ts) = ks by rw [← hks]; exact ks_eq fun t => by rw [List.mem_append, or_self]] at t10
  refine repr_go (cells_rp t10 h0 h1 kn kl) ?_
  refine ⟨_, rfl, ?_⟩
  refine repr_go (cells_rp (told_mono (s9.trans s10) tD8) h0 h1 kn kl) ?_
  refine ⟨rfl, ?_⟩
  rw [decide_eq_true rfl]
  refine ⟨_, rfl, iteT ?_⟩
  have g10 := g8.trans (Go.of g8.pot (s9.trans s10))
  refine ⟨_, rfl, ?_⟩
  refine among_s g10.pot (by decide +kernel) (by decide +kernel) fun c hc H11 g11 => ?_
  have hc2 : c = 48 ∨ c = 49 := by
    have : ("01" : Str).cps.toList = [48, 49] := by decide +kernel
    rw [this] at hc
    simpa using hc
  rw [← S_one]
  refine crowd_go hc2 fun H12 s12 => ?_
  exact k _ ((g7.trans g10).trans (g11.trans (Go.of g11.pot s12)))
end
open PySem PySem.Spec PyProof.Rows
open L2 hiding pass0
abbrev s_law : Stmt := top 38
theorem sc_law : FnScope ["_law_script", "_law_k"] ["_law_script"] (defScope s_law) := ⟨rfl, rfl, rfl, by decide +kernel, rfl, by decide +kernel, by decide +kernel⟩
theorem bp_law : BndP "law" s_law ["_law_script"] := fun _ _ _ _ _ _ us h => match us, h with | [_], _ => rfl
theorem all_rep : ∀ n : Nat, (List.replicate n true).all id = true
  | 0 => rfl
  | n + 1 => by rw [List.replicate_succ, List.all_cons, all_rep n]; rfl
def spLaw (K : PySem.W.Frag) : Sp := fun vs H Q _ => ∃ (a : Addr) (ns : List Int), vs = [.ref a] ∧ SqL K H a (ns.map V.int) ∧ ns.length ≤ 63 ∧ (∀ b, H b = none ∨ b = a) ∧ ∀ H', Q (.bl true) H'
section
variable {P : Program} {w : World} {K : PySem.W.Frag} {mg : Str → Option Value} {base : Heap} {f : Addr} {fd : FuncData}
theorem ok_law (F : Fun K "law" "law" s_law f fd) (hm : mg "law" = some (.ref f)) (T : Txt K mg)
    (c_law_pot : Nm P w K mg base CX0 1 "_law_pot" s_law_pot ["_law_script", "_law_k"] (spPot K))
    (c_law_right : Nm P w K mg base CX0 10 "_law_right" s_law_right ["_law_pot_here"] spRight) : Nm P w K mg base CX0 11 "law" s_law ["_law_script"] (spLaw K) := by
  refine nm_of F hm sc_law (fun vs H Q E h => ?_) fun cdv A outer s H vs Q E hr h => ?_
  · obtain ⟨p, ns, rfl, _⟩ := h
    rfl
  · obtain ⟨a, ns, rfl, hS, hl, hO, k⟩ := h
    refine ⟨_, (pss_one (ps_ret (pe_callB (call_allK (K := K) rfl rfl) (by rfl) T.b_all (by decide +kernel) (pa_cons (pe_lc (own := [("_law_k", 1)]) (g := (gName 1)) (by rfl) sc_law.nd (pi_range1 (by rfl) T.b_range (pa_cons (pe_callB (call_max2 rfl) (by rfl) T.b_max (by decide +kernel) (pa_cons pe_int (pa_cons (pe_callB (call_min2 rfl) (by rfl) T.b_min (by decide +kernel) (pa_cons pe_int (pa_cons (pe_callB (call_lenK (K := K) rfl) (by rfl) T.b_len PySem.boot_len (pa_cons (pv 0) pa_nil)) pa_nil))) pa_nil))) pa_nil)) (blkOk_by (own := [("_law_k", 1)]) (N := ["_law_script", "_law_k"]) (sc := defScope s_law) (by decide +kernel)) (fun _ _ _ _ _ => (pg_name (i := 1) sc_law.nd rfl (by first | exact Or.inl rfl | exact Or.inr rfl))) (fun _ _ _ _ _ => pts_nil) (fun _ _ _ _ _ => (pe_g c_law_right hr (by decide) L2.pass0 bp_law_right (by rfl) (pa_cons (pe_g c_law_pot hr (by decide) L2.pass0 bp_law_pot (by rfl) (pa_cons (pv 0) (pa_cons (pv 1) pa_nil))) pa_nil)))) pa_nil)))), ?_⟩
    have hlen : ((ns.map V.int).length : Int) = (ns.length : Int) := by rw [List.length_map]
    repeat walk_at "s1"
    rename_i D nD
    refine lc_it walk_range (fun i H1 => H1 D = some (.lst ((List.replicate i true).map V.bl)) ∧ i ≤ 5 ∧ Same H H1) ⟨upd_same, by decide, fun b o e => updn (nonn nD e) e⟩ (fun _ _ _ _ => trivial) ?_ ?_
    · rintro i x H1 H2 hi ⟨hD, h5, sm⟩ ⟨rfl, rfl⟩
      have hi4 : i < 5 := by
        have q : i < Int.toNat (if (if ((ns.map V.int).length : Int) < 4 then ((ns.map V.int).length : Int) else 4) > 1 then (if ((ns.map V.int).length : Int) < 4 then ((ns.map V.int).length : Int) else 4) else 1) := hi
        split at q <;> (try split at q) <;> omega
      refine ⟨rfl, ?_⟩
      dsimp only [tYes]
      rw [if_pos rfl]
      repeat walk_at "s1"
      refine pot_go (sm.seq hS) hl (by omega) (by omega) fun p H3 np hp s3 => ?_
      repeat walk_at "s1"
      refine right_go hp fun H4 g4 => ?_
      have s4 : Same H2 H4 := fun b o e => g4.keep b o (s3 b o e) (nonn np e)
      refine ⟨_, s4 _ _ hD, szt (by rw [List.length_map, List.length_replicate]; omega), ?_, by omega, fun b o e => updn (nonn nD e) (s4 _ _ (sm _ _ e))⟩
      rw [upd_same, List.replicate_succ', List.map_append]
      rfl
    · rintro H1 ⟨hD, h5, sm⟩
      refine ⟨_, _, rfl, SqL.of hD, ?_⟩
      rw [all_rep]
      exact k H1
end
open PySem PySem.Spec PyProof.Rows
open L2 hiding pass0
theorem Nm.fn {P : Program} {w : World} {K : PySem.W.Frag} {mg : Str → Option Value} {base : Heap} {CX : CXT} {k : Nat} {x : Str} {st : Stmt} {ps : List Str} {sp : Sp} {f : Addr} {fd : FuncData} (c : Nm P w K mg base CX k x st ps sp) (F : Fun K x x st f fd) (hm : mg x = some (.ref f)) : FnG P w K mg base CX k f fd ps sp := by
  obtain ⟨f', fd', F', hm', G⟩ := c.ex
  obtain rfl : f' = f := by
    have e := hm'.symm.trans hm
    injection e with e
    injection e
  obtain ⟨_, _, _, _, _, _, _, _, _, _, l1, _⟩ := F.ex
  obtain ⟨_, _, _, _, _, _, _, _, _, _, l2, _⟩ := F'.ex
  have e := l2.symm.trans l1
  injection e with e
  injection e with _ _ e _
  injection e with e
  subst e
  exact G
theorem all_mk {l : PySem.W.OpenLaw} {w : World} {K : PySem.W.Frag} {h : Heap} {mg : Str → Option Value} {fa f0 f1 f2 f3 f4 f5 f6 f7 f8 f9 f10 f11 f12 f13 f14 f15 f16 f17 f18 f19 f20 f21 f22 f23 f24 f25 f26 f27 f28 f29 : Addr} (X : K.In h) (G : h.Ns mainGlobals mg) (hfa : mg "law" = some (.ref fa))
    {od0 an0 od1 an1 od2 an2 od3 an3 od4 an4 od5 an5 od6 an6 od7 an7 od8 an8 od9 an9 od10 an10 od11 an11 od12 an12 od13 an13 od14 an14 od15 an15 od16 an16 od17 an17 od18 an18 od19 an19 od20 an20 od21 an21 od22 an22 od23 an23 od24 an24 od25 an25 od26 an26 od27 an27 od28 an28 od29 an29 : Option Addr} {sl0 sl1 sl2 sl3 sl4 sl5 sl6 sl7 sl8 sl9 sl10 sl11 sl12 sl13 sl14 sl15 sl16 sl17 sl18 sl19 sl20 sl21 sl22 sl23 sl24 sl25 sl26 sl27 sl28 sl29 : Array (Option Value)} {oc0 kV0 dc0 pm0 cd0 ct0 oc1 kV1 dc1 pm1 cd1 ct1 oc2 kV2 dc2 pm2 cd2 ct2 oc3 kV3 dc3 pm3 cd3 ct3 oc4 kV4 dc4 pm4 cd4 ct4 oc5 kV5 dc5 pm5 cd5 ct5 oc6 kV6 dc6 pm6 cd6 ct6 oc7 kV7 dc7 pm7 cd7 ct7 oc8 kV8 dc8 pm8 cd8 ct8 oc9 kV9 dc9 pm9 cd9 ct9 oc10 kV10 dc10 pm10 cd10 ct10 oc11 kV11 dc11 pm11 cd11 ct11 oc12 kV12 dc12 pm12 cd12 ct12 oc13 kV13 dc13 pm13 cd13 ct13 oc14 kV14 dc14 pm14 cd14 ct14 oc15 kV15 dc15 pm15 cd15 ct15 oc16 kV16 dc16 pm16 cd16 ct16 oc17 kV17 dc17 pm17 cd17 ct17 oc18 kV18 dc18 pm18 cd18 ct18 oc19 kV19 dc19 pm19 cd19 ct19 oc20 kV20 dc20 pm20 cd20 ct20 oc21 kV21 dc21 pm21 cd21 ct21 oc22 kV22 dc22 pm22 cd22 ct22 oc23 kV23 dc23 pm23 cd23 ct23 oc24 kV24 dc24 pm24 cd24 ct24 oc25 kV25 dc25 pm25 cd25 ct25 oc26 kV26 dc26 pm26 cd26 ct26 oc27 kV27 dc27 pm27 cd27 ct27 oc28 kV28 dc28 pm28 cd28 ct28 oc29 kV29 dc29 pm29 cd29 ct29 : Value}
    (a0 : PySem.W.nsIn K mainGlobals "_law_draw" = some (some (.ref f0))) (l0 : K.lookup f0 = some ⟨oc0, od0, .func (PySem.W.fnOf "_law_draw" "_law_draw" (defArgs s_law_draw) (defBody s_law_draw) (defScope s_law_draw) .none kV0 dc0 pm0 an0 cd0 ct0), sl0⟩) (c0 : PySem.W.codeIn K cd0 "_law_draw" = true) (k0 : PySem.W.keepIn K (.ref f0) = true)
    (a1 : PySem.W.nsIn K mainGlobals "_law_pot" = some (some (.ref f1))) (l1 : K.lookup f1 = some ⟨oc1, od1, .func (PySem.W.fnOf "_law_pot" "_law_pot" (defArgs s_law_pot) (defBody s_law_pot) (defScope s_law_pot) .none kV1 dc1 pm1 an1 cd1 ct1), sl1⟩) (c1 : PySem.W.codeIn K cd1 "_law_pot" = true) (k1 : PySem.W.keepIn K (.ref f1) = true)
    (a2 : PySem.W.nsIn K mainGlobals "_law_among" = some (some (.ref f2))) (l2 : K.lookup f2 = some ⟨oc2, od2, .func (PySem.W.fnOf "_law_among" "_law_among" (defArgs s_law_among) (defBody s_law_among) (defScope s_law_among) .none kV2 dc2 pm2 an2 cd2 ct2), sl2⟩) (c2 : PySem.W.codeIn K cd2 "_law_among" = true) (k2 : PySem.W.keepIn K (.ref f2) = true)
    (a3 : PySem.W.nsIn K mainGlobals "_law_bits" = some (some (.ref f3))) (l3 : K.lookup f3 = some ⟨oc3, od3, .func (PySem.W.fnOf "_law_bits" "_law_bits" (defArgs s_law_bits) (defBody s_law_bits) (defScope s_law_bits) .none kV3 dc3 pm3 an3 cd3 ct3), sl3⟩) (c3 : PySem.W.codeIn K cd3 "_law_bits" = true) (k3 : PySem.W.keepIn K (.ref f3) = true)
    (a4 : PySem.W.nsIn K mainGlobals "is_count" = some (some (.ref f4))) (l4 : K.lookup f4 = some ⟨oc4, od4, .func (PySem.W.fnOf "is_count" "is_count" (defArgs s_is_count) (defBody s_is_count) (defScope s_is_count) .none kV4 dc4 pm4 an4 cd4 ct4), sl4⟩) (c4 : PySem.W.codeIn K cd4 "is_count" = true) (k4 : PySem.W.keepIn K (.ref f4) = true)
    (a5 : PySem.W.nsIn K mainGlobals "is_width" = some (some (.ref f5))) (l5 : K.lookup f5 = some ⟨oc5, od5, .func (PySem.W.fnOf "is_width" "is_width" (defArgs s_is_width) (defBody s_is_width) (defScope s_is_width) .none kV5 dc5 pm5 an5 cd5 ct5), sl5⟩) (c5 : PySem.W.codeIn K cd5 "is_width" = true) (k5 : PySem.W.keepIn K (.ref f5) = true)
    (a6 : PySem.W.nsIn K mainGlobals "is_bits" = some (some (.ref f6))) (l6 : K.lookup f6 = some ⟨oc6, od6, .func (PySem.W.fnOf "is_bits" "is_bits" (defArgs s_is_bits) (defBody s_is_bits) (defScope s_is_bits) .none kV6 dc6 pm6 an6 cd6 ct6), sl6⟩) (c6 : PySem.W.codeIn K cd6 "is_bits" = true) (k6 : PySem.W.keepIn K (.ref f6) = true)
    (a7 : PySem.W.nsIn K mainGlobals "check_width" = some (some (.ref f7))) (l7 : K.lookup f7 = some ⟨oc7, od7, .func (PySem.W.fnOf "check_width" "check_width" (defArgs s_check_width) (defBody s_check_width) (defScope s_check_width) .none kV7 dc7 pm7 an7 cd7 ct7), sl7⟩) (c7 : PySem.W.codeIn K cd7 "check_width" = true) (k7 : PySem.W.keepIn K (.ref f7) = true)
    (a8 : PySem.W.nsIn K mainGlobals "is_stretch" = some (some (.ref f8))) (l8 : K.lookup f8 = some ⟨oc8, od8, .func (PySem.W.fnOf "is_stretch" "is_stretch" (defArgs s_is_stretch) (defBody s_is_stretch) (defScope s_is_stretch) .none kV8 dc8 pm8 an8 cd8 ct8), sl8⟩) (c8 : PySem.W.codeIn K cd8 "is_stretch" = true) (k8 : PySem.W.keepIn K (.ref f8) = true)
    (a9 : PySem.W.nsIn K mainGlobals "is_address" = some (some (.ref f9))) (l9 : K.lookup f9 = some ⟨oc9, od9, .func (PySem.W.fnOf "is_address" "is_address" (defArgs s_is_address) (defBody s_is_address) (defScope s_is_address) .none kV9 dc9 pm9 an9 cd9 ct9), sl9⟩) (c9 : PySem.W.codeIn K cd9 "is_address" = true) (k9 : PySem.W.keepIn K (.ref f9) = true)
    (a10 : PySem.W.nsIn K mainGlobals "check_stretch" = some (some (.ref f10))) (l10 : K.lookup f10 = some ⟨oc10, od10, .func (PySem.W.fnOf "check_stretch" "check_stretch" (defArgs s_check_stretch) (defBody s_check_stretch) (defScope s_check_stretch) .none kV10 dc10 pm10 an10 cd10 ct10), sl10⟩) (c10 : PySem.W.codeIn K cd10 "check_stretch" = true) (k10 : PySem.W.keepIn K (.ref f10) = true)
    (a11 : PySem.W.nsIn K mainGlobals "check_stretches" = some (some (.ref f11))) (l11 : K.lookup f11 = some ⟨oc11, od11, .func (PySem.W.fnOf "check_stretches" "check_stretches" (defArgs s_check_stretches) (defBody s_check_stretches) (defScope s_check_stretches) .none kV11 dc11 pm11 an11 cd11 ct11), sl11⟩) (c11 : PySem.W.codeIn K cd11 "check_stretches" = true) (k11 : PySem.W.keepIn K (.ref f11) = true)
    (a12 : PySem.W.nsIn K mainGlobals "check_address" = some (some (.ref f12))) (l12 : K.lookup f12 = some ⟨oc12, od12, .func (PySem.W.fnOf "check_address" "check_address" (defArgs s_check_address) (defBody s_check_address) (defScope s_check_address) .none kV12 dc12 pm12 an12 cd12 ct12), sl12⟩) (c12 : PySem.W.codeIn K cd12 "check_address" = true) (k12 : PySem.W.keepIn K (.ref f12) = true)
    (a13 : PySem.W.nsIn K mainGlobals "number" = some (some (.ref f13))) (l13 : K.lookup f13 = some ⟨oc13, od13, .func (PySem.W.fnOf "number" "number" (defArgs s_number) (defBody s_number) (defScope s_number) .none kV13 dc13 pm13 an13 cd13 ct13), sl13⟩) (c13 : PySem.W.codeIn K cd13 "number" = true) (k13 : PySem.W.keepIn K (.ref f13) = true)
    (a14 : PySem.W.nsIn K mainGlobals "first" = some (some (.ref f14))) (l14 : K.lookup f14 = some ⟨oc14, od14, .func (PySem.W.fnOf "first" "first" (defArgs s_first) (defBody s_first) (defScope s_first) .none kV14 dc14 pm14 an14 cd14 ct14), sl14⟩) (c14 : PySem.W.codeIn K cd14 "first" = true) (k14 : PySem.W.keepIn K (.ref f14) = true)
    (a15 : PySem.W.nsIn K mainGlobals "longest_beginning" = some (some (.ref f15))) (l15 : K.lookup f15 = some ⟨oc15, od15, .func (PySem.W.fnOf "longest_beginning" "longest_beginning" (defArgs s_longest_beginning) (defBody s_longest_beginning) (defScope s_longest_beginning) .none kV15 dc15 pm15 an15 cd15 ct15), sl15⟩) (c15 : PySem.W.codeIn K cd15 "longest_beginning" = true) (k15 : PySem.W.keepIn K (.ref f15) = true)
    (a16 : PySem.W.nsIn K mainGlobals "_with_all" = some (some (.ref f16))) (l16 : K.lookup f16 = some ⟨oc16, od16, .func (PySem.W.fnOf "_with_all" "_with_all" (defArgs s_with_all) (defBody s_with_all) (defScope s_with_all) .none kV16 dc16 pm16 an16 cd16 ct16), sl16⟩) (c16 : PySem.W.codeIn K cd16 "_with_all" = true) (k16 : PySem.W.keepIn K (.ref f16) = true)
    (a17 : PySem.W.nsIn K mainGlobals "_widest_inside" = some (some (.ref f17))) (l17 : K.lookup f17 = some ⟨oc17, od17, .func (PySem.W.fnOf "_widest_inside" "_widest_inside" (defArgs s_widest_inside) (defBody s_widest_inside) (defScope s_widest_inside) .none kV17 dc17 pm17 an17 cd17 ct17), sl17⟩) (c17 : PySem.W.codeIn K cd17 "_widest_inside" = true) (k17 : PySem.W.keepIn K (.ref f17) = true)
    (a18 : PySem.W.nsIn K mainGlobals "_cell" = some (some (.ref f18))) (l18 : K.lookup f18 = some ⟨oc18, od18, .func (PySem.W.fnOf "_cell" "_cell" (defArgs s_cell) (defBody s_cell) (defScope s_cell) .none kV18 dc18 pm18 an18 cd18 ct18), sl18⟩) (c18 : PySem.W.codeIn K cd18 "_cell" = true) (k18 : PySem.W.keepIn K (.ref f18) = true)
    (a19 : PySem.W.nsIn K mainGlobals "cells" = some (some (.ref f19))) (l19 : K.lookup f19 = some ⟨oc19, od19, .func (PySem.W.fnOf "cells" "cells" (defArgs s_cells) (defBody s_cells) (defScope s_cells) .none kV19 dc19 pm19 an19 cd19 ct19), sl19⟩) (c19 : PySem.W.codeIn K cd19 "cells" = true) (k19 : PySem.W.keepIn K (.ref f19) = true)
    (a20 : PySem.W.nsIn K mainGlobals "cell_of" = some (some (.ref f20))) (l20 : K.lookup f20 = some ⟨oc20, od20, .func (PySem.W.fnOf "cell_of" "cell_of" (defArgs s_cell_of) (defBody s_cell_of) (defScope s_cell_of) .none kV20 dc20 pm20 an20 cd20 ct20), sl20⟩) (c20 : PySem.W.codeIn K cd20 "cell_of" = true) (k20 : PySem.W.keepIn K (.ref f20) = true)
    (a21 : PySem.W.nsIn K mainGlobals "_law_turned" = some (some (.ref f21))) (l21 : K.lookup f21 = some ⟨oc21, od21, .func (PySem.W.fnOf "_law_turned" "_law_turned" (defArgs s_law_turned) (defBody s_law_turned) (defScope s_law_turned) .none kV21 dc21 pm21 an21 cd21 ct21), sl21⟩) (c21 : PySem.W.codeIn K cd21 "_law_turned" = true) (k21 : PySem.W.keepIn K (.ref f21) = true)
    (a22 : PySem.W.nsIn K mainGlobals "_law_some" = some (some (.ref f22))) (l22 : K.lookup f22 = some ⟨oc22, od22, .func (PySem.W.fnOf "_law_some" "_law_some" (defArgs s_law_some) (defBody s_law_some) (defScope s_law_some) .none kV22 dc22 pm22 an22 cd22 ct22), sl22⟩) (c22 : PySem.W.codeIn K cd22 "_law_some" = true) (k22 : PySem.W.keepIn K (.ref f22) = true)
    (a23 : PySem.W.nsIn K mainGlobals "_law_below" = some (some (.ref f23))) (l23 : K.lookup f23 = some ⟨oc23, od23, .func (PySem.W.fnOf "_law_below" "_law_below" (defArgs s_law_below) (defBody s_law_below) (defScope s_law_below) .none kV23 dc23 pm23 an23 cd23 ct23), sl23⟩) (c23 : PySem.W.codeIn K cd23 "_law_below" = true) (k23 : PySem.W.keepIn K (.ref f23) = true)
    (a24 : PySem.W.nsIn K mainGlobals "_law_amount" = some (some (.ref f24))) (l24 : K.lookup f24 = some ⟨oc24, od24, .func (PySem.W.fnOf "_law_amount" "_law_amount" (defArgs s_law_amount) (defBody s_law_amount) (defScope s_law_amount) .none kV24 dc24 pm24 an24 cd24 ct24), sl24⟩) (c24 : PySem.W.codeIn K cd24 "_law_amount" = true) (k24 : PySem.W.keepIn K (.ref f24) = true)
    (a25 : PySem.W.nsIn K mainGlobals "_law_least" = some (some (.ref f25))) (l25 : K.lookup f25 = some ⟨oc25, od25, .func (PySem.W.fnOf "_law_least" "_law_least" (defArgs s_law_least) (defBody s_law_least) (defScope s_law_least) .none kV25 dc25 pm25 an25 cd25 ct25), sl25⟩) (c25 : PySem.W.codeIn K cd25 "_law_least" = true) (k25 : PySem.W.keepIn K (.ref f25) = true)
    (a26 : PySem.W.nsIn K mainGlobals "_law_place" = some (some (.ref f26))) (l26 : K.lookup f26 = some ⟨oc26, od26, .func (PySem.W.fnOf "_law_place" "_law_place" (defArgs s_law_place) (defBody s_law_place) (defScope s_law_place) .none kV26 dc26 pm26 an26 cd26 ct26), sl26⟩) (c26 : PySem.W.codeIn K cd26 "_law_place" = true) (k26 : PySem.W.keepIn K (.ref f26) = true)
    (a27 : PySem.W.nsIn K mainGlobals "_law_crowd_right" = some (some (.ref f27))) (l27 : K.lookup f27 = some ⟨oc27, od27, .func (PySem.W.fnOf "_law_crowd_right" "_law_crowd_right" (defArgs s_law_crowd_right) (defBody s_law_crowd_right) (defScope s_law_crowd_right) .none kV27 dc27 pm27 an27 cd27 ct27), sl27⟩) (c27 : PySem.W.codeIn K cd27 "_law_crowd_right" = true) (k27 : PySem.W.keepIn K (.ref f27) = true)
    (a28 : PySem.W.nsIn K mainGlobals "_law_right" = some (some (.ref f28))) (l28 : K.lookup f28 = some ⟨oc28, od28, .func (PySem.W.fnOf "_law_right" "_law_right" (defArgs s_law_right) (defBody s_law_right) (defScope s_law_right) .none kV28 dc28 pm28 an28 cd28 ct28), sl28⟩) (c28 : PySem.W.codeIn K cd28 "_law_right" = true) (k28 : PySem.W.keepIn K (.ref f28) = true)
    (a29 : PySem.W.nsIn K mainGlobals "law" = some (some (.ref f29))) (l29 : K.lookup f29 = some ⟨oc29, od29, .func (PySem.W.fnOf "law" "law" (defArgs s_law) (defBody s_law) (defScope s_law) .none kV29 dc29 pm29 an29 cd29 ct29), sl29⟩) (c29 : PySem.W.codeIn K cd29 "law" = true) (k29 : PySem.W.keepIn K (.ref f29) = true)
    (z0 : PySem.W.nsIn K mainGlobals "len" = some none)
    (z1 : PySem.W.nsIn K mainGlobals "abs" = some none)
    (z2 : PySem.W.nsIn K mainGlobals "max" = some none)
    (z3 : PySem.W.nsIn K mainGlobals "min" = some none)
    (z4 : PySem.W.nsIn K mainGlobals "int" = some none)
    (z5 : PySem.W.nsIn K mainGlobals "divmod" = some none)
    (z6 : PySem.W.nsIn K mainGlobals "range" = some none)
    (z7 : PySem.W.nsIn K mainGlobals "repr" = some none)
    (z8 : PySem.W.nsIn K mainGlobals "all" = some none)
    (z9 : PySem.W.nsIn K mainGlobals "str" = some none)
    (z10 : PySem.W.nsIn K mainGlobals "bool" = some none)
    (z11 : PySem.W.nsIn K mainGlobals "isinstance" = some none)
    (z12 : PySem.W.nsIn K mainGlobals "tuple" = some none)
    (z13 : PySem.W.nsIn K mainGlobals "dict" = some none)
    (z14 : PySem.W.nsIn K mainGlobals "list" = some none)
    (z15 : PySem.W.nsIn K mainGlobals "sorted" = some none)
    (z16 : PySem.W.nsIn K mainGlobals "zip" = some none)
    (z17 : PySem.W.nsIn K mainGlobals "enumerate" = some none)
    (z18 : PySem.W.nsIn K mainGlobals "sum" = some none)
    (z19 : PySem.W.nsIn K mainGlobals "any" = some none)
    (z20 : PySem.W.nsIn K mainGlobals "set" = some none)
    {tk_MOST_WIDTH : Tok} (m_MOST_WIDTH : PySem.W.nsIn K mainGlobals "MOST_WIDTH" = some (some (.int 100 tk_MOST_WIDTH)))
    : ∃ fd : FuncData, (∀ (s : Shared) (v : Value), BindsTo s fd ⟨[v], []⟩ [("_law_script", v)]) ∧ ∀ base : Heap, K.In base → base.Ns mainGlobals mg → FnG l.prog w K mg base CX0 11 fa fd ["_law_script"] (spLaw K) := by
  have e := hfa.symm.trans (PySem.W.mg_of X G a29)
  cases e
  have T : Txt K mg := ⟨PySem.W.mg_none_of X G z0, PySem.W.mg_none_of X G z1, PySem.W.mg_none_of X G z2, PySem.W.mg_none_of X G z3, PySem.W.mg_none_of X G z4, PySem.W.mg_none_of X G z5, PySem.W.mg_none_of X G z6, PySem.W.mg_none_of X G z7, PySem.W.mg_none_of X G z8, PySem.W.mg_none_of X G z9, PySem.W.mg_none_of X G z10, PySem.W.mg_none_of X G z11, PySem.W.mg_none_of X G z12, PySem.W.mg_none_of X G z13, PySem.W.mg_none_of X G z14, PySem.W.mg_none_of X G z15, PySem.W.mg_none_of X G z16, PySem.W.mg_none_of X G z17, PySem.W.mg_none_of X G z18, PySem.W.mg_none_of X G z19, PySem.W.mg_none_of X G z20⟩
  have C : Cst K mg := ⟨⟨_, PySem.W.mg_of X G m_MOST_WIDTH, ⟨_, rfl⟩⟩⟩
  have F0 := fun_mk (st := s_law_draw) l0 c0 k0
  have F1 := fun_mk (st := s_law_pot) l1 c1 k1
  have F2 := fun_mk (st := s_law_among) l2 c2 k2
  have F3 := fun_mk (st := s_law_bits) l3 c3 k3
  have F4 := fun_mk (st := s_is_count) l4 c4 k4
  have F5 := fun_mk (st := s_is_width) l5 c5 k5
  have F6 := fun_mk (st := s_is_bits) l6 c6 k6
  have F7 := fun_mk (st := s_check_width) l7 c7 k7
  have F8 := fun_mk (st := s_is_stretch) l8 c8 k8
  have F9 := fun_mk (st := s_is_address) l9 c9 k9
  have F10 := fun_mk (st := s_check_stretch) l10 c10 k10
  have F11 := fun_mk (st := s_check_stretches) l11 c11 k11
  have F12 := fun_mk (st := s_check_address) l12 c12 k12
  have F13 := fun_mk (st := s_number) l13 c13 k13
  have F14 := fun_mk (st := s_first) l14 c14 k14
  have F15 := fun_mk (st := s_longest_beginning) l15 c15 k15
  have F16 := fun_mk (st := s_with_all) l16 c16 k16
  have F17 := fun_mk (st := s_widest_inside) l17 c17 k17
  have F18 := fun_mk (st := s_cell) l18 c18 k18
  have F19 := fun_mk (st := s_cells) l19 c19 k19
  have F20 := fun_mk (st := s_cell_of) l20 c20 k20
  have F21 := fun_mk (st := s_law_turned) l21 c21 k21
  have F22 := fun_mk (st := s_law_some) l22 c22 k22
  have F23 := fun_mk (st := s_law_below) l23 c23 k23
  have F24 := fun_mk (st := s_law_amount) l24 c24 k24
  have F25 := fun_mk (st := s_law_least) l25 c25 k25
  have F26 := fun_mk (st := s_law_place) l26 c26 k26
  have F27 := fun_mk (st := s_law_crowd_right) l27 c27 k27
  have F28 := fun_mk (st := s_law_right) l28 c28 k28
  have F29 := fun_mk (st := s_law) l29 c29 k29
  refine ⟨PySem.W.fnOf "law" "law" (defArgs s_law) (defBody s_law) (defScope s_law) .none kV29 dc29 pm29 an29 cd29 ct29, fun s v => .of_eq rfl, fun base _ _ => ?_⟩
  have n_law_draw := ok_draw (P := l.prog) (w := w) (base := base) F0 (PySem.W.mg_of X G a0) T
  have n_law_pot := ok_pot (P := l.prog) (w := w) (base := base) F1 (PySem.W.mg_of X G a1) T
  have n_law_among := ok_among (P := l.prog) (w := w) (base := base) F2 (PySem.W.mg_of X G a2) T n_law_draw
  have n_law_bits := ok_bits (P := l.prog) (w := w) (base := base) F3 (PySem.W.mg_of X G a3) T n_law_draw n_law_among
  have n_is_count := ok_is_count (P := l.prog) (w := w) (base := base) F4 (PySem.W.mg_of X G a4) T
  have n_is_width := ok_is_width (P := l.prog) (w := w) (base := base) F5 (PySem.W.mg_of X G a5) T C n_is_count
  have n_is_bits := ok_is_bits (P := l.prog) (w := w) (base := base) F6 (PySem.W.mg_of X G a6) T
  have n_check_width := ok_check_width (P := l.prog) (w := w) (base := base) F7 (PySem.W.mg_of X G a7) T n_is_width
  have n_is_stretch := ok_is_stretch (P := l.prog) (w := w) (base := base) F8 (PySem.W.mg_of X G a8) T n_check_width n_is_bits
  have n_is_address := ok_is_address (P := l.prog) (w := w) (base := base) F9 (PySem.W.mg_of X G a9) T n_is_stretch
  have n_check_stretch := ok_check_stretch (P := l.prog) (w := w) (base := base) F10 (PySem.W.mg_of X G a10) T n_is_stretch
  have n_check_stretches := ok_check_stretches (P := l.prog) (w := w) (base := base) F11 (PySem.W.mg_of X G a11) T n_check_width n_is_stretch
  have n_check_address := ok_check_address (P := l.prog) (w := w) (base := base) F12 (PySem.W.mg_of X G a12) T n_is_address
  have n_number := ok_number (P := l.prog) (w := w) (base := base) F13 (PySem.W.mg_of X G a13) T n_check_stretch
  have n_first := ok_first (P := l.prog) (w := w) (base := base) F14 (PySem.W.mg_of X G a14) T n_check_stretch
  have n_longest_beginning := ok_longest (P := l.prog) (w := w) (base := base) F15 (PySem.W.mg_of X G a15) T
  have n_with_all := ok_with_all (P := l.prog) (w := w) (base := base) F16 (PySem.W.mg_of X G a16) T
  have n_widest_inside := ok_widest (P := l.prog) (w := w) (base := base) F17 (PySem.W.mg_of X G a17) T n_longest_beginning
  have n_cell := ok_cell (P := l.prog) (w := w) (base := base) F18 (PySem.W.mg_of X G a18) T n_number n_first
  have n_cells := ok_cells (P := l.prog) (w := w) (base := base) F19 (PySem.W.mg_of X G a19) T n_check_stretches n_with_all n_widest_inside n_cell
  have n_cell_of := ok_cell_of (P := l.prog) (w := w) (base := base) F20 (PySem.W.mg_of X G a20) T n_check_stretches n_check_address n_with_all n_longest_beginning
  have n_law_turned := ok_turned (P := l.prog) (w := w) (base := base) F21 (PySem.W.mg_of X G a21) T
  have n_law_some := ok_some (P := l.prog) (w := w) (base := base) F22 (PySem.W.mg_of X G a22) T n_law_draw n_law_among n_law_bits n_law_turned
  have n_law_below := ok_below (P := l.prog) (w := w) (base := base) F23 (PySem.W.mg_of X G a23) T
  have n_law_amount := ok_amount (P := l.prog) (w := w) (base := base) F24 (PySem.W.mg_of X G a24) T n_law_below
  have n_law_least := ok_least (P := l.prog) (w := w) (base := base) F25 (PySem.W.mg_of X G a25) T n_law_below
  have n_law_place := ok_place (P := l.prog) (w := w) (base := base) F26 (PySem.W.mg_of X G a26) T n_law_draw n_law_among n_law_bits
  have n_law_crowd_right := ok_crowd (P := l.prog) (w := w) (base := base) F27 (PySem.W.mg_of X G a27) T n_cells n_cell_of
  have n_law_right := ok_right (P := l.prog) (w := w) (base := base) F28 (PySem.W.mg_of X G a28) T n_law_among n_law_some n_law_amount n_law_least n_cells n_cell_of n_law_place n_law_crowd_right
  have n_law := ok_law (P := l.prog) (w := w) (base := base) F29 (PySem.W.mg_of X G a29) T n_law_pot n_law_right
  exact n_law.fn F29 (PySem.W.mg_of X G a29)
theorem walk {l : PySem.W.OpenLaw} {q : Program} {loose : List Str} {XP : (Str → Option Value) → Heap → Prop} {YP : World → Heap → Prop} {d : DefRec} {K : Params → PySem.W.Frag} (hn : l.most = some 63) (hdf : d.params.defaults = [])
    (hY : ∀ (w : World) (h : Heap), YP w h → (K w.params).In h)
    (F : ∀ (w : World) (mg : Str → Option Value) (fa : Addr) (h : Heap), (K w.params).In h → h.Ns mainGlobals mg → mg d.name = some (.ref fa) →
      ∃ fd : FuncData, (∀ (s : Shared) (u : Value), BindsTo s fd ⟨[u], []⟩ [("_law_script", u)]) ∧ ∀ base : Heap, (K w.params).In base → base.Ns mainGlobals mg → FnG l.prog w (K w.params) mg base CX0 11 fa fd ["_law_script"] (spLaw (K w.params))) :
    PySem.W.WalkO q loose XP YP l.row.toRowW d [] (fun f vs => PySem.call f vs) :=
  walk_g (n := 63) (k := 11) (x := "_law_script") (CX := fun _ => CX0) (sp := fun w => spLaw (K w.params)) hn (by decide) hdf roomTop hY F (fun _ _ a ns h1 h2 h3 => ⟨a, ns, rfl, h2, h1, h3, fun _ => rfl⟩) fun _ _ _ _ _ z => z
end Cov
open PySem PySem.W PyProof.Rows
set_option maxRecDepth 100000 in
set_option maxHeartbeats 0 in
theorem PySem.Challenge.cw_coverways_k14_whole_cells_of_wide_addres_holds : PySem.Challenge.rw_coverways_k14_whole_cells_of_wide_addres.Holds := by
  w_on; o_law; k_head; (case hw => w_witness2)
  k_fill
  refine Cov.walk (l := PySem.Challenge.rw_coverways_k14_whole_cells_of_wide_addres) rfl rfl (fun w h Y => PySem.W.kIn_of Y) ?F
  case F =>
    intro w mg fa h KX G hmg
    refine' Cov.all_mk KX G hmg ?a0 ?l0 ?c0 ?k0 ?a1 ?l1 ?c1 ?k1 ?a2 ?l2 ?c2 ?k2 ?a3 ?l3 ?c3 ?k3 ?a4 ?l4 ?c4 ?k4 ?a5 ?l5 ?c5 ?k5 ?a6 ?l6 ?c6 ?k6 ?a7 ?l7 ?c7 ?k7 ?a8 ?l8 ?c8 ?k8 ?a9 ?l9 ?c9 ?k9 ?a10 ?l10 ?c10 ?k10 ?a11 ?l11 ?c11 ?k11 ?a12 ?l12 ?c12 ?k12 ?a13 ?l13 ?c13 ?k13 ?a14 ?l14 ?c14 ?k14 ?a15 ?l15 ?c15 ?k15 ?a16 ?l16 ?c16 ?k16 ?a17 ?l17 ?c17 ?k17 ?a18 ?l18 ?c18 ?k18 ?a19 ?l19 ?c19 ?k19 ?a20 ?l20 ?c20 ?k20 ?a21 ?l21 ?c21 ?k21 ?a22 ?l22 ?c22 ?k22 ?a23 ?l23 ?c23 ?k23 ?a24 ?l24 ?c24 ?k24 ?a25 ?l25 ?c25 ?k25 ?a26 ?l26 ?c26 ?k26 ?a27 ?l27 ?c27 ?k27 ?a28 ?l28 ?c28 ?k28 ?a29 ?l29 ?c29 ?k29 ?z0 ?z1 ?z2 ?z3 ?z4 ?z5 ?z6 ?z7 ?z8 ?z9 ?z10 ?z11 ?z12 ?z13 ?z14 ?z15 ?z16 ?z17 ?z18 ?z19 ?z20 ?m_MOST_WIDTH
    (case a0 => k_is)
    (case l0 => k_is)
    (case c0 => k_is)
    (case k0 => k_is)
    (case a1 => k_is)
    (case l1 => k_is)
    (case c1 => k_is)
    (case k1 => k_is)
    (case a2 => k_is)
    (case l2 => k_is)
    (case c2 => k_is)
    (case k2 => k_is)
    (case a3 => k_is)
    (case l3 => k_is)
    (case c3 => k_is)
    (case k3 => k_is)
    (case a4 => k_is)
    (case l4 => k_is)
    (case c4 => k_is)
    (case k4 => k_is)
    (case a5 => k_is)
    (case l5 => k_is)
    (case c5 => k_is)
    (case k5 => k_is)
    (case a6 => k_is)
    (case l6 => k_is)
    (case c6 => k_is)
    (case k6 => k_is)
    (case a7 => k_is)
    (case l7 => k_is)
    (case c7 => k_is)
    (case k7 => k_is)
    (case a8 => k_is)
    (case l8 => k_is)
    (case c8 => k_is)
    (case k8 => k_is)
    (case a9 => k_is)
    (case l9 => k_is)
    (case c9 => k_is)
    (case k9 => k_is)
    (case a10 => k_is)
    (case l10 => k_is)
    (case c10 => k_is)
    (case k10 => k_is)
    (case a11 => k_is)
    (case l11 => k_is)
    (case c11 => k_is)
    (case k11 => k_is)
    (case a12 => k_is)
    (case l12 => k_is)
    (case c12 => k_is)
    (case k12 => k_is)
    (case a13 => k_is)
    (case l13 => k_is)
    (case c13 => k_is)
    (case k13 => k_is)
    (case a14 => k_is)
    (case l14 => k_is)
    (case c14 => k_is)
    (case k14 => k_is)
    (case a15 => k_is)
    (case l15 => k_is)
    (case c15 => k_is)
    (case k15 => k_is)
    (case a16 => k_is)
    (case l16 => k_is)
    (case c16 => k_is)
    (case k16 => k_is)
    (case a17 => k_is)
    (case l17 => k_is)
    (case c17 => k_is)
    (case k17 => k_is)
    (case a18 => k_is)
    (case l18 => k_is)
    (case c18 => k_is)
    (case k18 => k_is)
    (case a19 => k_is)
    (case l19 => k_is)
    (case c19 => k_is)
    (case k19 => k_is)
    (case a20 => k_is)
    (case l20 => k_is)
    (case c20 => k_is)
    (case k20 => k_is)
    (case a21 => k_is)
    (case l21 => k_is)
    (case c21 => k_is)
    (case k21 => k_is)
    (case a22 => k_is)
    (case l22 => k_is)
    (case c22 => k_is)
    (case k22 => k_is)
    (case a23 => k_is)
    (case l23 => k_is)
    (case c23 => k_is)
    (case k23 => k_is)
    (case a24 => k_is)
    (case l24 => k_is)
    (case c24 => k_is)
    (case k24 => k_is)
    (case a25 => k_is)
    (case l25 => k_is)
    (case c25 => k_is)
    (case k25 => k_is)
    (case a26 => k_is)
    (case l26 => k_is)
    (case c26 => k_is)
    (case k26 => k_is)
    (case a27 => k_is)
    (case l27 => k_is)
    (case c27 => k_is)
    (case k27 => k_is)
    (case a28 => k_is)
    (case l28 => k_is)
    (case c28 => k_is)
    (case k28 => k_is)
    (case a29 => k_is)
    (case l29 => k_is)
    (case c29 => k_is)
    (case k29 => k_is)
    (case z0 => k_is)
    (case z1 => k_is)
    (case z2 => k_is)
    (case z3 => k_is)
    (case z4 => k_is)
    (case z5 => k_is)
    (case z6 => k_is)
    (case z7 => k_is)
    (case z8 => k_is)
    (case z9 => k_is)
    (case z10 => k_is)
    (case z11 => k_is)
    (case z12 => k_is)
    (case z13 => k_is)
    (case z14 => k_is)
    (case z15 => k_is)
    (case z16 => k_is)
    (case z17 => k_is)
    (case z18 => k_is)
    (case z19 => k_is)
    (case z20 => k_is)
    (case m_MOST_WIDTH => k_is)

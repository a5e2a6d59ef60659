import PyProof.Rows.All
import Wide.All
import OpenK.AllK
import Wide.FinOn
import KE.KExcSuper
import KE.KExcPX
import HandS.ExcInit
import HandS.Base
import HandS.Call
import HandS.Exc
import HandS.ExcSuper
import KE.KExcInit
import PyProof.ExcBaseAll.LookupError
import PyProof.ExcBaseAll.RuntimeError
import PyProof.ExcBaseAll.ArithmeticError
import HandS.Nested
import KE.KTryMore
import HandS.ExcCtx
import HandS.HotCalls
import HandS.Comp
import HandS.ForMost
import HandS.IsInst
import HandS.WideBits
import HandS.Codes
import HandS.Walk
import KE.SortKeyHeap
import HandS.SortKw
import HandS.More
import HandS.Star
import HandS.Property
import HandS.MakeKw
import PyProof.DictUpdate
import PyProof.DictDisplay
import HandS.Lambda
import HandS.ExcField
import HandS.ExcIs
import KE.KExcIs
import PyProof.ZipIter
import HandS.Zip0
import HandS.Iter
import KE.KEqDict
import HandS.DictComp
import PyProof.InstNe
import HandS.DictTup
import KE.SortData
import HandS.ListItems
import PyProof.P3Eq
import PyProof.ReprBulk
import HandS.DeepEq
import PyProof.NeKinds
import KE.DataMinKey
import HandS.TryOnly
import KE.RegKSuper
import KE.OsRunLaw
import KE.KStateDown
import HandS.Head0
import HandS.Head1
import HandS.Head2
import PySem.Challenge.RW_coverways_k10_errors
set_option Elab.async false
set_option linter.all false
set_option maxRecDepth 100000
set_option maxHeartbeats 2000000
section
open PySem PySem.W PyProof.Rows
local macro_rules
  | `(tactic| o_headL ($f $k $a $e)) => `(tactic| refine HandSHeadRun.head_any (r := OpenLaw.row PySem.Challenge.rw_coverways_k10_errors) (q := view (OpenLaw.row PySem.Challenge.rw_coverways_k10_errors).prog [1, 2, 3, 4, 5, 6, 7, 8, 9, 10, 11, 12, 13, 14, 15, 16, 17, 18, 19, 20, 21, 22, 23, 24, 25, 26, 27, 28, 29, 30, 31, 32, 33, 34, 35, 36, 37, 38, 39, 41, 42, 43, 44, 45, 46, 47, 48, 49, 50, 51, 52, 53, 54]) (H := $f $k $a $e) (ob := fun s => List.map (HandSHeadRun.getT s) $a) (M := 11000) (loose := []) (kwd := []) (fun s => List.map_congr_left (fun a _ => HandSHeadRun.getT_eq s a)) (by kernel_rfl) (fun s => by kernel_rfl) (fun w os => by kernel_rfl) (by rfl) (by rfl) (by rfl) (by rfl) (by first | assumption | decide +kernel) (by decide +kernel) ⟨rfl, rfl, rfl, rfl, rfl, by decide +kernel⟩ ?hw ?hc)
local macro_rules
  | `(tactic| k_head) => `(tactic| k_headL)
set_option maxRecDepth 100000 in
set_option maxHeartbeats 0 in
open_top Cov.top0 for PySem.Challenge.rw_coverways_k10_errors
end
namespace ExK
open PySem PySem.HandSPX PySem.Spec
section
variable {M : Model} {A : Around} {E : Value → Shared → Prop} {h : Heap} {g : Array GenState} {d : Drawn} {t : Nat} {os : OsState}
variable {nm q : Str} {C N : Addr} {bs bm bmB : List Value} {hdct : Bool} {sn : List Str} {sub : List Value} {ab : Bool} {col : Option Bool} {dd : Option Addr} {k0 k1 k2 k3 k5 : Option Value} {B newId initId : String}
theorem check_new_kw (F : ExcBaseFacts B newId initId bmB) (hT : ∀ X : String, bm.contains (.type X) = bmB.contains (.type X)) {rest : List Value} {kw : List (Str × Value)} {Q : Unit → Shared → Prop}
    (hC : h.get? C = some (excClassObj nm q C N bs bm hdct sn sub ab col dd k0 k1 k2 k3 k5 newId)) (hq : Q () ⟨h, g, d, t, os⟩) : wpAny M A (checkBuiltinCall newId ⟨.ref C :: rest, kw⟩) Q E ⟨h, g, d, t, os⟩ := by
  have hcont : (Value.ref C :: bm).contains (.type B) = true := by rw [List.contains_cons, hT, F.hasB, Bool.or_true]
  have hstar := F.noStar
  simp only [checkBuiltinCall, F.newKind, F.newSplit, F.newRow]
  repeat (first | refine wpAny_loadPart_at hC ?_ | (refine wpAny_isSubtype_exc hC ?_; rw [hcont]) | refine wpAny_staticBase_exc hC ?_ | refine wpAny_madeBy_exc hC ?_ | simp only [bne_self_eq_false, Bool.false_eq_true, if_false] | wp_step)
  exact hq
end
section
variable {prog : Program} {w : World} {A : Around} {E : Value → Shared → Prop} {R : Result → Shared → Prop} {h : Heap} {g : Array GenState} {d : Drawn} {t : Nat} {os : OsState}
variable {nm q : Str} {C N : Addr} {bs bm bmB : List Value} {hdct : Bool} {sn : List Str} {sub : List Value} {ab : Bool} {col : Option Bool} {dd : Option Addr} {k0 k1 k2 k3 k5 : Option Value} {B newId initId : String}
theorem new_kw (F : ExcBaseFacts B newId initId bmB) (hT : ∀ X : String, bm.contains (.type X) = bmB.contains (.type X)) {rest : List Value} {kw : List (Str × Value)}
    (hC : h.get? C = some (excClassObj nm q C N bs bm hdct sn sub ab col dd k0 k1 k2 k3 k5 newId))
    (hq : R (.ok (.ret (.ref (h.objs.size + 1)))) ⟨(h.push { cls := .type "tuple", data := .seq rest.toArray }).push
      { cls := .ref C, data := .fields #[.ref h.objs.size, .none, .none, .none, .bool false, .none] }, g, d, t, os⟩) (hrest : rest.length ≤ sizeLine) :
    codeAny (model prog w) A (.builtin newId ⟨.ref C :: rest, kw⟩) R ⟨h, g, d, t, os⟩ := by
  have hends := F.ends
  have hcB : (Value.ref C :: bm).contains (.type B) = true := by rw [List.contains_cons, hT, F.hasB, Bool.or_true]
  have hcA : (Value.ref C :: bm).contains (.type "AttributeError") = false := by rw [List.contains_cons, hT, F.noAttr]; rfl
  have hcN : (Value.ref C :: bm).contains (.type "NameError") = false := by rw [List.contains_cons, hT, F.noName]; rfl
  refine codeAny_builtinAt F.entry ?_
  unfold Builtin.«BaseException.__new__»
  refine wpAt_bind ?_
  show wpAt _ _ _ (stack >>= _) _ _ _
  refine wpAt_bind (wpAt_stack fun p below => wpAt_of_wpAny ?_)
  wp_walk
  refine wpAt_of_wpAny ?_
  rw [F.owner]
  repeat (first | with_reducible refine wpAny_madeHere_exc F.canon hC ?_ | with_reducible refine wpAny_loadPart_at hC ?_ | (with_reducible refine wpAny_isSubtype_exc hC ?_; first | rw [hcB] | rw [hcA] | rw [hcN]) | wp_step)
  show R _ _
  rw [Heap.size_push]
  exact hq
theorem type_call_kw (F : ExcBaseFacts B newId initId bmB) (hT : ∀ X : String, bm.contains (.type X) = bmB.contains (.type X)) {rest : List Value} {kw : List (Str × Value)} {fI : Addr} {Q : Fin → Shared → Prop}
    (hC : h.get? C = some (excClassObj nm q C N bs bm hdct sn sub ab col dd k0 k1 k2 k3 k5 newId))
    (hi : W.Looks (model prog w) h (typeLookup (.ref C) "__init__") (some (.ref fI))) (hb : ∀ self, W.Looks (model prog w) h (bindSpecial (.ref fI) self) (.ref fI, [self])) (hrest : rest.length ≤ sizeLine)
    (hq : codeAny (model prog w) A (.call (.ref fI) ⟨.ref (h.objs.size + 1) :: rest, kw⟩)
      (fun r s' => match r with | .ok (.ret v) => v = .none ∧ Q (.done (.ret (.ref (h.objs.size + 1)))) s' | .ok _ => False | .error e => E e s')
      ⟨(h.push (W.kdv_tup rest)).push (excO C h.objs.size), g, d, t, os⟩) :
    wpAny (model prog w) A (Builtin.«type.__call__» ⟨.ref C :: rest, kw⟩) Q E ⟨h, g, d, t, os⟩ := by
  repeat (first | with_reducible refine wpAny_loadPart_at hC ?_ | with_reducible refine wpAny_madeBy_exc hC ?_ | wp_step)
  refine codeAny_call_builtin_code (Code.quiet_builtin _ F.quiet) (check_new_kw F hT hC ?_)
  refine new_kw F hT hC ?_ hrest
  show wpAny _ _ _ _ _ _
  have k : ∀ b o, h.get? b = some o → ((h.push (W.kdv_tup rest)).push (excO C h.objs.size)).get? b = some o := fun b o e => Heap.get?_push_of_some _ (Heap.get?_push_of_some _ e)
  have hC₁ := k _ _ hC
  have hget : ((h.push (W.kdv_tup rest)).push (excO C h.objs.size)).get? (h.objs.size + 1) = some (excO C h.objs.size) := by heap_get
  have hcC : (Value.ref C :: bm).contains (.ref C) = true := by simp
  have i1 := hi.keeps k
  have b1 := (hb (.ref (h.objs.size + 1))).keeps k
  unfold isInstance
  repeat (first | with_reducible refine wpAny_loadPart_at hget ?_ | (with_reducible refine wpAny_isSubtype_exc hC₁ ?_; rw [hcC]) | wp_step)
  show wpAny _ _ (typeLookup (.ref C) _) _ _ _
  refine i1.at ?_
  refine wpAny_holding (wpAny_bind (b1.at ?_))
  refine wpAny_bind (wpAny_call (codeAny_mono hq fun r s' z => ?_))
  rcases r with e | (v | _ | _ | _) <;> first | exact z | exact z.elim | skip
  obtain ⟨rfl, z⟩ := z
  first
    | exact wpAny_pure (wpAny_pure z)
    | (wp_walk; exact z)
theorem check_call_kw {rest : List Value} {kw : List (Str × Value)} {Q : Unit → Shared → Prop} (hC : h.get? C = some (excClassObj nm q C N bs bm hdct sn sub ab col dd k0 k1 k2 k3 k5 newId))
    (hq : Q () ⟨h, g, d, t, os⟩) : wpAny (model prog w) A (checkBuiltinCall "type.__call__" ⟨.ref C :: rest, kw⟩) Q E ⟨h, g, d, t, os⟩ := by
  have f3 := tc_sub
  have hT : (⟨h, g, d, t, os⟩ : Shared).TypeIs (.ref C) "type" := ⟨_, hC, rfl⟩
  simp only [checkBuiltinCall, tc_kind, tc_split]
  repeat (any_goals (first | assumption | with_reducible refine wpAny_loadPart_at hC ?_ | with_reducible refine wpAny_onRaise ?_ | with_reducible refine wpAny_map ?_ | wp_step))
theorem call_kw (F : ExcBaseFacts B newId initId bmB) (hT : ∀ X : String, bm.contains (.type X) = bmB.contains (.type X)) {rest : List Value} {kw : List (Str × Value)} {fI : Addr}
    (hC : h.get? C = some (excClassObj nm q C N bs bm hdct sn sub ab col dd k0 k1 k2 k3 k5 newId))
    (hi : W.Looks (model prog w) h (typeLookup (.ref C) "__init__") (some (.ref fI))) (hb : ∀ self, W.Looks (model prog w) h (bindSpecial (.ref fI) self) (.ref fI, [self])) (hrest : rest.length ≤ sizeLine)
    (hq : codeAny (model prog w) (A.under (.builtin "type.__call__" ⟨.ref C :: rest, kw⟩)) (.call (.ref fI) ⟨.ref (h.objs.size + 1) :: rest, kw⟩) (W.InitBack (h.objs.size + 1) R)
      ⟨(h.push (W.kdv_tup rest)).push (excO C h.objs.size), g, d, t, os⟩) :
    codeAny (model prog w) A (.call (.ref C) ⟨rest, kw⟩) R ⟨h, g, d, t, os⟩ := by
  have f1 := tc_lookup
  have f2 := tc_bind (.ref C)
  have hTy : (⟨h, g, d, t, os⟩ : Shared).TypeIs (.ref C) "type" := ⟨_, hC, rfl⟩
  refine codeAny_of_tree ?_
  show wpAny _ _ (callAny (.ref C) _) _ _ _
  repeat (any_goals (first | assumption | with_reducible refine wpAny_loadPart_at hC ?_ | wp_step))
  refine ⟨rfl, ?_⟩
  refine codeAny_call_builtin_at (Code.quiet_builtin _ (by decide +kernel)) entry_typeCall (check_call_kw hC (type_call_kw F hT hC hi hb hrest ?_))
  refine codeAny_mono hq fun r s' z => ?_
  rcases r with e | (v | _ | _ | _) <;> exact z
end
end ExK
namespace PySem
namespace VSX
abbrev bwI (I : String) (x : Addr) : Obj := { cls := .type "method-wrapper", dict := none, data := .fields #[.builtin I, .ref x], slots := #[] }
section
open PySem.W PySem.Calls
variable {prog : Program} {w : World} {A : Around} {E : Value → Shared → Prop} {h : Heap} {g : Array GenState} {d : Drawn} {t : Nat} {os : OsState}
variable {nm q : Str} {C N : Addr} {bs bm bmB : List Value} {hdct : Bool} {sn : List Str} {sub : List Value} {ab : Bool} {col : Option Bool} {dd : Option Addr} {k0 k1 k2 k3 k5 : Option Value} {B newId initId : String}
theorem check_boundI {M : Model} (F : ExcBaseFacts B newId initId bmB) {e : Addr} {oe : Obj} {rest : List Value} {Q : Unit → Shared → Prop}
    (hC : h.get? C = some (excClassObj nm q C N bs bm hdct sn sub ab col dd k0 k1 k2 k3 k5 newId)) (he : h.get? e = some oe) (hcls : oe.cls = .ref C) (hq : Q () ⟨h, g, d, t, os⟩) :
    wpAny M A (checkBoundCall initId ⟨.ref e :: rest, []⟩) Q E ⟨h, g, d, t, os⟩ := ESX.check_bound F hC he hcls hq
theorem call_bwI (F : ExcBaseFacts B newId initId bmB) {u e t0 : Addr} {rest : List Value} {Q : Value → Shared → Prop}
    (hC : h.get? C = some (excClassObj nm q C N bs bm hdct sn sub ab col dd k0 k1 k2 k3 k5 newId)) (he : h.get? e = some (HandSPX.excO C t0)) (hu : h.get? u = some (bwI initId e)) (hrest : rest.length ≤ sizeLine) (hql : initId.startsWith "lifetime." = false)
    (hq : ∀ h' t1, (∀ b o, b ≠ e → h.get? b = some o → h'.get? b = some o) → h'.get? e = some (HandSPX.excO C t1) → Q .none ⟨h', g, d, t, os⟩) :
    wpAny (model prog w) A (call (.ref u) rest) Q E ⟨h, g, d, t, os⟩ := by
  refine wpAny_call (codeAny_of_tree ?_)
  show wpAny _ A.in1 (callAny (.ref u) ⟨rest, []⟩) _ _ _
  simp only [callAny]
  refine wpAny_bind (wpAny_load hu ?_)
  simp only [bwI, show (Value.type "method-wrapper" == Value.type "method" || Value.type "method-wrapper" == Value.type "builtin_function_or_method" || Value.type "method-wrapper" == Value.type "method-wrapper") = true by decide, if_true]
  refine W.KFB.if_so (by decide) ?_
  refine wpAny_bind (check_boundI F hC he rfl ?_)
  refine wpAny_bind (wpAny_pure (wpAny_pure ?_))
  refine ⟨Code.quiet_builtin _ hql, codeAny_builtin F.initEntry ?_⟩
  rw [Around.under_plainId F.init.plain _]
  wp_walk
  refine hq _ h.objs.size (fun b o hb ho => ?_) ?_
  · rw [Heap.get?_update_other _ _ (Ne.symm hb)]
    exact Heap.get?_push_of_some _ ho
  · rw [Heap.get?_update_self _ (Heap.get?_push_of_some _ he) rfl]
    rfl
end
end VSX
end PySem
namespace ExB
open PySem PySem.Spec PyProof.Rows L2
open Builtin Builtin.ObjectAttr
/-- the built-in base B: its maker, its first call, its line of classes -/
structure Base (B nw ini : String) (tail : List Value) : Prop where
  f : ExcBaseFacts B nw ini tail
  k : PySem.W.KxsFacts B ini
  s : StoreFacts B tail "object.__setattr__" "object"
  o : tail.contains (.type "object") = true
  n : tail.isEmpty = false
  q : ini.startsWith "lifetime." = false
abbrev tailOf (B : String) : List Value := [.type B, .type "Exception", .type "BaseException", .type "object"]
theorem base_VE : Base "ValueError" "ValueError.__new__" "ValueError.__init__" (tailOf "ValueError") := ⟨F.excBase_ValueError, PySem.W.kxs_ValueError, F.store_ValueError, by decide +kernel, rfl, by decide +kernel⟩
theorem base_LE : Base "LookupError" "LookupError.__new__" "LookupError.__init__" (tailOf "LookupError") := ⟨F.excBase_LookupError, PySem.W.kxs_LookupError, F.store_LookupError, by decide +kernel, rfl, by decide +kernel⟩
theorem base_RE : Base "RuntimeError" "RuntimeError.__new__" "RuntimeError.__init__" (tailOf "RuntimeError") := ⟨F.excBase_RuntimeError, PySem.W.kxs_RuntimeError, F.store_RuntimeError, by decide +kernel, rfl, by decide +kernel⟩
theorem base_AE : Base "ArithmeticError" "ArithmeticError.__new__" "ArithmeticError.__init__" (tailOf "ArithmeticError") := ⟨F.excBase_ArithmeticError, PySem.W.kxs_ArithmeticError, F.store_ArithmeticError, by decide +kernel, rfl, by decide +kernel⟩
/-- what is asked of a class that is to be stored into -/
structure Line (cd : ClassData) : Prop where
  ne : cd.mro.isEmpty = false
  ob : cd.mro.contains (.type "object") = true
  ps : ∀ self, refuseLoop self "__setattr__" cd.mro = pure ()
  hd : cd.hasDict = true
section
variable {prog : Program} {w : World} {A : Around} {R : Result → Shared → Prop} {hp : Heap} {g : Array GenState} {d : Drawn} {t : Nat} {os : OsState}
/-- self.name = v: the store comes to the own dict -/
theorem osa_any {K : W.Frag} {name : Str} {tk : Tok} {v : Value} {x C : Addr} {ox : Obj} {od : Option Obj} {cd : ClassData} (X : K.In hp) (I : W.InstAt hp x ox C od) (hcd : W.clsIn K C = some cd) (L : Line cd) (ha : W.findIn K (.ref C) name = some none)
    (h : wpAny (model prog w) A.in1 (storeInOwnDict (.ref x) (.ref C) (.str name tk) name v false) (fun fin s' => match fin with | .done f => R (.ok f) s' | .again c' => c'.quiet = true ∧ codeAny (model prog w) A c' R s') (fun e s' => R (.error e) s') ⟨hp, g, d, t, os⟩) :
    codeAny (model prog w) A (.call (.builtin "object.__setattr__") ⟨[.ref x, .str name tk, v], []⟩) R ⟨hp, g, d, t, os⟩ := by
  have SF := F.store_object
  have sub : W.Looks (model prog w) hp (isInstance (.ref x) (.type "object")) true := I.type.andThen (W.looks_mroIn X (by unfold W.mroIn; rw [hcd, Option.bind_some, if_neg (by rw [L.ne]; decide), L.ob]))
  refine codeAny_call_builtin SF.slot.plain SF.entry (@W.check_slot (model prog w) _ _ ⟨hp, g, d, t, os⟩ "object.__setattr__" "object" "__setattr__" (.ref x) [.str name tk, v] [] _ SF.kind SF.split sub (SF.args (.ref x) (.str name tk) v) ?_)
  have line : W.Looks (model prog w) hp (mroOf (.ref C)) cd.mro := (W.looks_clsIn X hcd).andThen .now
  have none3 : W.Looks (model prog w) hp (storeTaker? none) none := .now
  rw [W.osa_eq, refuse_eq]
  refine wpAny_bind (wpAny_bind (I.type.at (wpAny_bind (line.at ?_))))
  rw [L.ps]
  exact wpAny_pure (wpAny_bind (I.type.at (wpAny_bind ((W.looks_findIn X ha).at (wpAny_bind (none3.at h))))))
/-- the first field: the dict is laid -/
theorem osa_first {K : W.Frag} {name : Str} {tk : Tok} {v : Value} {x C : Addr} {fv : Array Value} {cd : ClassData}
    (X : K.In hp) (hx : hp.get? x = some { cls := .ref C, data := .fields fv }) (hcd : W.clsIn K C = some cd) (L : Line cd) (ha : W.findIn K (.ref C) name = some none)
    (hq : ∀ h' tk' dx, (∀ b o, b ≠ x → hp.get? b = some o → h'.get? b = some o) → hp.objs.size ≤ dx → dx ≠ x → h'.get? x = some { cls := .ref C, dict := some dx, data := .fields fv } →
      h'.Ns1 dx (fun y => if y = name then some v else none) → R (.ok (.ret .none)) ⟨h', g, d, tk', os⟩) :
    codeAny (model prog w) A (.call (.builtin "object.__setattr__") ⟨[.ref x, .str name tk, v], []⟩) R ⟨hp, g, d, t, os⟩ := by
  have at_ : W.InstAt hp x { cls := .ref C, data := .fields fv } C none := ⟨hx, rfl, rfl, trivial⟩
  have nx : x ≠ hp.objs.size := Nat.ne_of_lt (Heap.lt_size hx)
  refine osa_any X at_ hcd L ha ?_
  have hcls : W.Looks (model prog w) hp (classData C) cd := W.looks_clsIn X hcd
  have hh := L.hd
  obtain ⟨nm, bs, mro, ns, qn, hd, sn, sb, ab, col, del⟩ := cd
  dsimp only at hh
  subst hh
  unfold storeInOwnDict ownDictForStores
  repeat (first | with_reducible refine PySem.HandSPX.store_in_new ?_ ?_ | with_reducible refine wpAny_loadPart_at hx ?_ | with_reducible refine hcls.at ?_ | wp_step)
  · exact ⟨_, #[], _, (Heap.get?_update_ne _ _ _ _ nx.symm).trans (Heap.get?_push_at rfl rfl), rfl, fun e he => absurd he (by simp), fun _ => rfl⟩
  · intro h' tk' hn' hs
    have pushed : (hp.push { cls := .type "dict", data := .dict #[] }).get? x = some { cls := .ref C, data := .fields fv } := Heap.get?_push_of_some _ hx
    exact hq h' tk' hp.objs.size (fun b o hb ho => (hs.2 b (Nat.ne_of_lt (Heap.lt_size ho))).trans ((Heap.get?_update_ne _ _ _ _ hb).trans (Heap.get?_push_of_some _ ho))) (Nat.le_refl _) nx.symm
      ((hs.2 x nx).trans (Heap.get?_update_self _ pushed rfl)) hn'
/-- a further field -/
theorem osa_next {K : W.Frag} {name : Str} {tk : Tok} {v : Value} {x C dx : Addr} {fv : Array Value} {cd : ClassData} {m0 : Str → Option Value} {nl : List Str}
    (X : K.In hp) (hx : hp.get? x = some { cls := .ref C, dict := some dx, data := .fields fv }) (hns : hp.Ns1 dx m0) (hw : Within m0 nl) (hz : nl.length ≤ 1000) (hcd : W.clsIn K C = some cd) (L : Line cd) (ha : W.findIn K (.ref C) name = some none)
    (hq : ∀ h' tk', (∀ b o, b ≠ dx → hp.get? b = some o → h'.get? b = some o) → h'.Ns1 dx (fun y => if y = name then some v else m0 y) → R (.ok (.ret .none)) ⟨h', g, d, tk', os⟩) :
    codeAny (model prog w) A (.call (.builtin "object.__setattr__") ⟨[.ref x, .str name tk, v], []⟩) R ⟨hp, g, d, t, os⟩ := by
  obtain ⟨oD, esD, epD, hoD, hdD, _⟩ := hns.count hw
  have at_ : W.InstAt hp x { cls := .ref C, dict := some dx, data := .fields fv } C (some oD) := ⟨hx, rfl, rfl, hoD⟩
  refine osa_any X at_ hcd L ha ?_
  have hcls : W.Looks (model prog w) hp (classData C) cd := W.looks_clsIn X hcd
  have hh := L.hd
  obtain ⟨nm, bs, mro, ns, qn, hd, sn, sb, ab, col, del⟩ := cd
  dsimp only at hh
  subst hh
  unfold storeInOwnDict ownDictForStores
  repeat (first | with_reducible refine PySem.OEX.store_in_old hns hw hz ?_ | with_reducible refine wpAny_loadPart_at hx ?_ | with_reducible refine hcls.at ?_ | wp_step)
  intro h' tk' hn' hs
  exact hq h' tk' (fun b o hb ho => (hs.2 b hb).trans ho) hn'
end
/-- what the written part says of the class at C, below the built-in base of that maker and that line -/
structure OexG (K : PySem.W.Frag) (C : Addr) (nw : String) (tail : List Value) : Prop where
  cls : ∃ nm q N bs bm sn sub ab col dd k0 k1 k2 k3 k5, K.lookup C = some (excClassObj nm q C N bs bm true sn sub ab col dd k0 k1 k2 k3 k5 nw) ∧ PySem.W.excTail tail bm = true
  sa : PySem.W.findIn K (.ref C) "__setattr__" = some (some (.builtin "object.__setattr__"))
  exC : PySem.W.subIn K (.ref C) (.type "BaseException") = some true
  tyC : PySem.W.typeIn K (.ref C) = some (.type "type")
  kC : PySem.W.keepIn K (.ref C) = true
theorem OexG.line {B nw ini : String} {tail : List Value} {K : PySem.W.Frag} {C : Addr} (T : OexG K C nw tail) (Z : Base B nw ini tail) : ∃ cd, PySem.W.clsIn K C = some cd ∧ Line cd := by
  obtain ⟨nm, q, N, bs, bm, sn, sub, ab, col, dd, k0, k1, k2, k3, k5, hC, hbm⟩ := T.cls
  refine ⟨{ name := nm, bases := bs, mro := .ref C :: bm, ns := N, qualname := q, hasDict := true, slotNames := sn, subclasses := sub, abstract := ab, collection := col, hasDel := false }, by unfold PySem.W.clsIn; rw [hC] <;> rfl, rfl, ?_, fun self => ?_, rfl⟩
  · show (Value.ref C :: bm).contains (.type "object") = true
    rw [List.contains_cons, PySem.W.excTail_contains "object" bm hbm, Z.o, Bool.or_true]
  · exact PySem.W.excTail_pass self (Z.s.passes self) (.ref C :: bm) hbm
section
variable {B nw ini : String} {tail : List Value} {X : Cx} {pins : List (Addr × Obj)} {σ : L2.St} {H : Hp} {s : Shared} {a C dx : Addr} {f : Str} {y : V} {u : Value} {fs : List (Str × V)} {Q : Unit → Shared → Prop} {E : Value → Shared → Prop} {A : Around}
/-- self.f = y, the first field -/
theorem set_first (Z : Base B nw ini tail) (T : OexG X.K C nw tail) (I : Inv X pins σ H s) (e : H a = some (exo a C none)) (hno : PySem.W.findIn X.K (.ref C) f = some none) (ry : RelV y u)
    (h : ∀ dx s', H dx = none → dx ≠ a → Inv X pins σ (upd (upd H dx (exd dx [(f, y)])) a (exo a C (some dx))) s' → Q () s') : wpAny (model X.prog X.w) A (setAttr (.ref a) f u) Q E s := by
  obtain ⟨cd, hcl, L⟩ := T.line Z
  obtain ⟨t1, ho⟩ := exo_at I.hok e
  obtain ⟨hp, g, d, t, os⟩ := s
  refine PySem.W.set_plain I.kIn (ox := { cls := .ref C, dict := none, data := .fields #[.ref t1, .none, .none, .none, .bool false, .none] }) (od := none) ⟨ho, rfl, rfl, trivial⟩ T.sa ?_
  refine osa_first I.kIn ho hcl L hno (fun h' tk' dx k dn dne hx hn => ?_)
  have free : H dx = none := I.hok.fresh dn
  have old : ∀ {b : Addr} {o : Obj}, hp.get? b = some o → b ≠ dx := fun {b o} q => Nat.ne_of_lt (Nat.lt_of_lt_of_le (Heap.lt_size q) dn)
  have other : ∀ {b : Addr}, H b = none → b ≠ a := fun {b} n z => by subst z; exact absurd (n.symm.trans e) (by simp)
  let H' := upd (upd H dx (exd dx [(f, y)])) a (exo a C (some dx))
  have at' : ∀ {b : Addr} {o : HO}, b ≠ a → H b = some o → H' b = some o := fun {b o} n q => (upd_ne n).trans ((upd_ne (ne_of_none q free)).trans q)
  have U : Un X.fs [] H H' hp h' := {
    keep := fun b o q n _ _ => k b o (other n) q
    slot := fun b o q n _ _ => ⟨o.slots, k b o (other n) q⟩
    free := fun b o q n _ => (upd_ne (other n)).trans ((upd_ne (old q)).trans n)
    there := fun b o q _ => (Classical.em (b = a)).elim (fun z => ⟨_, z ▸ hx⟩) fun z => ⟨o, k b o z q⟩
    tups := fun b xs q => at' (at_ne e q exo_tup) q
    frzs := fun b o v q => at' (at_ne e q exo_frz) q
    tbls := fun b ps q => ⟨#[], by rw [at' (at_ne e q exo_tbl) q]; simp⟩ }
  refine h dx _ free dne (I.un (t' := tk') U fun b o q => ?_)
  rcases Classical.em (b = a) with z | nb
  · subst z
    obtain rfl := Option.some.inj (upd_same.symm.trans q)
    exact exo_ok hx
  replace q : upd H dx (exd dx [(f, y)]) b = some o := (upd_ne nb).symm.trans q
  rcases Classical.em (b = dx) with z | nd
  · subst z
    obtain rfl := Option.some.inj (upd_same.symm.trans q)
    exact exd_ok hn (relO_put (fs := []) ry fun g => True.intro)
  rw [upd_ne nd] at q
  have nown : ∀ {c : Addr}, H c = some (.own b) → c ≠ a := fun {c} hc => at_ne e hc exo_own
  exact (I.hok b o q).stay (fun c v hc z => k c v (hc.elim (fun z => z ▸ nb) nown) z) (fun c hc => at' (nown hc) hc) (fun c xs hc => at' (at_ne e hc exo_tup) hc)
/-- .. a further one -/
theorem set_next (Z : Base B nw ini tail) (T : OexG X.K C nw tail) (I : Inv X pins σ H s) (e : H a = some (exo a C (some dx))) (ed : H dx = some (exd dx fs)) (hl : fs.length ≤ 900) (hno : PySem.W.findIn X.K (.ref C) f = some none) (ry : RelV y u)
    (h : ∀ s', Inv X pins σ (upd H dx (exd dx ((f, y) :: fs))) s' → Q () s') : wpAny (model X.prog X.w) A (setAttr (.ref a) f u) Q E s := by
  obtain ⟨cd, hcl, L⟩ := T.line Z
  obtain ⟨t1, ho⟩ := exo_at I.hok e
  obtain ⟨mA, hns, rel⟩ := exd_at I.hok ed
  have hw := within_of rel
  obtain ⟨hp, g, d, t, os⟩ := s
  obtain ⟨oD, _, _, hoD, _, _⟩ := hns.count hw
  refine PySem.W.set_plain I.kIn (ox := { cls := .ref C, dict := some dx, data := .fields #[.ref t1, .none, .none, .none, .bool false, .none] }) (od := some oD) ⟨ho, rfl, rfl, hoD⟩ T.sa ?_
  refine osa_next I.kIn ho hns hw (by rw [List.length_map]; omega) hcl L hno (fun h' tk' k hn => ?_)
  obtain ⟨o, es, ep, e', r⟩ := hn
  exact h _ (I.write (t' := tk') (x := dx) (e := dx) (o := exd dx ((f, y) :: fs)) (by rw [ed]; exact True.intro) (.inl rfl) k ⟨o, e'⟩ (exd_ok ⟨o, es, ep, e', r⟩ (relO_put ry rel)))
end
/-- self.f = e -/
def tSet (K : PySem.W.Frag) (nw : String) (tail : List Value) (f : Str) (to te : TE) : TS := fun D σ H => te σ H fun y H1 => to σ H1 fun x H2 => ∃ a C : Addr, x = .ref a ∧ OexG K C nw tail ∧ PySem.W.findIn K (.ref C) f = some none ∧
  ((H2 a = some (exo a C none) ∧ ∀ dx, H2 dx = none → dx ≠ a → D.nx σ (upd (upd H2 dx (exd dx [(f, y)])) a (exo a C (some dx)))) ∨
    ∃ (dx : Addr) (fs : List (Str × V)), H2 a = some (exo a C (some dx)) ∧ H2 dx = some (exd dx fs) ∧ fs.length ≤ 900 ∧ D.nx σ (upd H2 dx (exd dx ((f, y) :: fs))))
section
variable {B nw ini : String} {tail : List Value} {X : Cx} {o e : Expr} {es : List Expr} {to te : TE} {ta : TA} {f : Str} {p p' p1 p2 pos : Pos}
theorem ps_set_exc (Z : Base B nw ini tail) (ho : PE X o to) (he : PE X e te) (hs : swapsWith e (some (.Attribute o f p')) pos.line X.env = pure false := by rfl) : PS X (.Assign [.Attribute o f p'] e pos) (tSet X.K nw tail f to te) := by
  refine ⟨fun pins s σ H D I h => ?_⟩
  refine plainObj_wpAny_Assign_Attribute (thn (he.run pins s σ H _ I h) fun v s1 ⟨y, H1, I1, r1, q1⟩ => thn (ho.run pins s1 σ H1 _ I1 q1) fun u s2 ⟨x, H2, I2, r2, a, C, ex, T, hno, q⟩ => ?_) hs
  subst ex
  obtain rfl : u = Value.ref a := r2
  rcases q with ⟨ea, q⟩ | ⟨dx, fs, ea, ed, hl, q⟩
  · exact set_first Z T I2 ea hno r1 fun dx s' n ne J => ⟨σ, _, J, q dx n ne⟩
  · exact set_next Z T I2 ea ed hl hno r1 fun s' J => ⟨σ, _, J, q⟩
end
end ExB
namespace SupG
open PySem PySem.Spec PyProof.Rows L2 NdefX ExB
/-- what the written part says of the def f (its cell cc, its code cda) of the exception class C -/
structure SupF (B nw ini : String) (tail : List Value) (K : PySem.W.Frag) (P : Program) (C cc cda : Addr) (q : Str) : Prop where
  ox : OexG K C nw tail
  cell : ∃ ccl cdd csl, K.lookup cc = some ⟨ccl, cdd, .cell (some (.ref C)), csl⟩
  code : ∃ ccl cdd vs csl file tf, K.lookup cda = some ⟨ccl, cdd, .fields vs, csl⟩ ∧ vs[2]? = some (.str file tf) ∧ ((P.main.file : Str) == file) = true
  rec_ : PySem.W.codeIn K (.ref cda) q = true
  top : (P.main.scope.names.lookup ("super" : Str)).isSome = false
  any : PySem.W.nsIn K cStatics "thirdparty.any" = some none
  own : PySem.W.ks_superIn K C C "__init__" = some (some (.builtin ini))
  sub : PySem.W.subIn K (.ref C) (.type B) = some true
  mro : PySem.W.mroIn K C (.ref C) = some true
abbrev nf (name qual : Str) (params : Arguments) (body : List Stmt) (scope : Scope) (cc cda : Addr) : NF := ⟨name, qual, params, body, scope, [(("__class__" : Str), cc)], cda⟩
section
variable {B nw ini : String} {tail : List Value} {CX : CXT} {P : Program} {w : World} {K : PySem.W.Frag} {mg : Str → Option Value} {base : Heap} {N ps : List Str} {F : NF} {f : Addr} {A : Around} {outer : List Env} {s0 : Shared} {H0 : Hp} {E : XK}
theorem super_init {pins : List (Addr × Obj)} {σ : L2.St} {H : Hp} {s : Shared} {a C cc : Addr} {text : Str} {j : Nat} {p0 p1 p2 p3 p4 : Pos} {body : List Stmt} {ar : Arg} {Q : Value → Shared → Prop} {Er : Value → Shared → Prop} {fo : Obj} {fd : FuncData}
    (Z : Base B nw ini tail) (S : SupF B nw ini tail K P C cc F.c F.qual) (hcl : F.cl = [(("__class__" : Str), cc)]) (I : Inv (ncx CX P w K mg base N F f A outer s0 H0 E) pins σ H s) (e : H a = some (exo a C none))
    (ho : s.heap.get? f = some fo) (hfd : fo.data = .func fd) (hp : (fd.params.posonlyargs ++ fd.params.args).head? = some ar) (hN : N[0]? = some ar.arg) (hs : σ[0]? = some (some (.ref a))) (hl : F.scope.names.lookup ar.arg = some .local)
    (hmg : mg "super" = none) (hks : F.scope.names.lookup ("super" : Str) = some .globalImplicit) (hkc : F.scope.names.lookup ("__class__" : Str) = some .free) (hk : F.scope.kind = .function) (hd1 : (ar.arg == ("__debug__" : Str)) = false)
    (h : ∀ s', Inv (ncx CX P w K mg base N F f A outer s0 H0 E) pins σ H s' → Q .none s') {pl : Sem Bool}
    (he : eval (.Call (.Attribute (.Call (.Name "super" p0) [] [] p1) "__init__" p2) [.Constant (.str text) j p3] [] p4) (envF F f s0.heap.objs.size) = (do
      let ov ← attributeBase (.Call (.Name "super" p0) [] [] p1) "__init__" (envF F f s0.heap.objs.size) (eval (.Call (.Name "super" p0) [] [] p1) (envF F f s0.heap.objs.size))
      standAt p2.atName
      let (g, first) ← holding [ov] (getMethod ov "__init__" pl)
      callWith p4 g first (backTo p4 (starEach [.Constant (.str text) j p3] (envF F f s0.heap.objs.size))) [])) :
    _root_.PySem.wpAt (model P w) (A.deeper (envF F f s0.heap.objs.size)) (.func body (envF F f s0.heap.objs.size)) (eval (.Call (.Attribute (.Call (.Name "super" p0) [] [] p1) "__init__" p2) [.Constant (.str text) j p3] [] p4) (envF F f s0.heap.objs.size)) Q Er s := by
  obtain ⟨t1, hoe⟩ := exo_at I.hok e
  obtain ⟨nm, q, Nn, bs, bm, sn, sub, ab, col, dd, k0, k1, k2, k3, k5, hC, hbm⟩ := S.ox.cls
  obtain ⟨ccl, cdd, csl, hcell⟩ := S.cell
  obtain ⟨dcl, ddd, vs, dsl, file, tf, hcode, hvs, hfile⟩ := S.code
  have X : K.In s.heap := I.kIn
  have hCo := X _ _ hC
  refine PySem.ks_wpAt_MethodCall (pl := pl) ?_ he
  refine PySem.ks_wpAt_super_base (env := envF F f s0.heap.objs.size) hks hkc (by decide) rfl ho hfd hp rfl (X _ _ hcode) rfl hvs hfile S.top ?_
  obtain ⟨mb, b1, b2⟩ := I.mod.blt
  refine PySem.W.ks_loadName_global hk hks (Calls.loadGlobal_builtin (env := envF F f s0.heap.objs.size) (I.mod.glob.keeps I.bk) hmg (b1.keeps I.bk) ((b2 _ (by decide)).trans (by first | boot_by_name | rfl | kernel_rfl)) ⟨rfl, ?_⟩)
  refine wpAny_loadName_free hk hkc (show (envF F f s0.heap.objs.size).cells.lookup ("__class__" : Str) = some cc by show F.cl.lookup _ = _; rw [hcl]; rfl) ⟨_, X _ _ hcell, rfl⟩ ?_
  obtain ⟨m, hns, hlo⟩ := I.loc
  obtain ⟨u, ru, look⟩ := hlo 0 ar.arg (.ref a) hN hs (.inl hl)
  obtain rfl : u = Value.ref a := ru
  have hm : m ar.arg = some (.ref a) := by
    rcases look with ⟨_, z⟩ | ⟨z, _⟩
    · exact z
    · have z' : F.scope.names.lookup ar.arg = some .cell ∨ F.scope.names.lookup ar.arg = some .free := z
      rw [hl] at z'
      rcases z' with z' | z' <;> cases z'
  refine wpAny_loadName_local hk hl hns hm ?_
  refine PySem.ks_wpAny_isType_cls hCo rfl ⟨rfl, ?_⟩
  obtain ⟨hp0, g, d, t, os⟩ := s
  refine PySem.ks_wpAny_call_super hCo rfl hoe rfl (fun c z => by cases z) (PySem.W.looks_mroIn X S.mro) (fun h1 e1 k1 => ?_)
  have I1 : Inv (ncx CX P w K mg base N F f A outer s0 H0 E) pins σ H ⟨h1, g, d, t, os⟩ := I.kept (t' := t) k1
  have X1 : K.In h1 := I1.kIn
  have hcl1 : PySem.W.clsIn K C = some { name := nm, bases := bs, mro := .ref C :: bm, ns := Nn, qualname := q, hasDict := true, slotNames := sn, subclasses := sub, abstract := ab, collection := col, hasDel := false } := by unfold PySem.W.clsIn; rw [hC] <;> rfl
  have own := S.own
  unfold PySem.W.ks_superIn at own
  rw [hcl1] at own
  have hoe1 := k1 _ _ hoe
  have IA : PySem.W.InstAt h1 a _ C none := ⟨hoe1, rfl, rfl, trivial⟩
  refine PySem.W.kxs_getMethod Z.k e1 (PySem.W.looks_opaque X1 S.any) (l₀ := .ref C :: bm) (fun A Q E s k q => wpAny_bind ((PySem.W.looks_clsIn X1 hcl1) A _ E s k (wpAny_pure q))) rfl X1 own (IA.type.andThen (PySem.W.looks_subIn X1 S.sub)) (PySem.W.ks_ne X1 IA hcl1) (by decide) ?_
  have k2 : ∀ b o, h1.get? b = some o → (h1.push (PySem.W.kxs_mw ini a)).get? b = some o := fun b o z => Heap.get?_push_of_some _ z
  have I2 : Inv (ncx CX P w K mg base N F f A outer s0 H0 E) pins σ H ⟨h1.push (PySem.W.kxs_mw ini a), g, d, t + 1, os⟩ := I1.kept (t' := t + 1) k2
  have hu : (h1.push (PySem.W.kxs_mw ini a)).get? h1.objs.size = some (PySem.W.kxs_mw ini a) := Heap.get?_push_at rfl rfl
  refine PySem.W.kxs_callWith (i := ini) (x := a) (by rfl) ?_
  refine Calls.evalArgs_plain ?_
  refine Calls.spliced_cons ?_
  rw [if_neg (show ¬ (false = true) from Bool.false_ne_true)]
  refine wpAny_Constant_str ?_
  refine Calls.spliced_nil ⟨hu, ?_⟩
  obtain ⟨t2, hoe2⟩ := exo_at I2.hok e
  refine PySem.VSX.call_bwI Z.f (I2.kIn _ _ hC) hoe2 hu (by show 1 ≤ sizeLine; rw [sizeLine_eq]; decide) Z.q fun h' t3 kk hx => ?_
  have J := (I2.tok (t + 1 + 1)).write (t' := t + 1 + 1) (x := a) (e := a) (o := exo a C none) (by rw [e]; exact True.intro) (.inl rfl) kk ⟨_, hx⟩ (exo_ok hx)
  have eu : upd H a (exo a C none) = H := by
    funext b
    by_cases hb : b = a
    · rw [hb, upd_same, e]
    · rw [upd_ne hb]
  rw [eu] at J
  exact h _ J
end
section
variable {B nw ini : String} {tail : List Value} {CX : CXT} {P : Program} {w : World} {K : PySem.W.Frag} {mg : Str → Option Value} {base : Heap} {N ps : List Str}
theorem fnok_super {C f cc cda : Addr} {name qual text : Str} {params : Arguments} {rest : List Stmt} {scope : Scope} {dV kV doc pm ct oc : Value} {an od : Option Addr} {osl : Array (Option Value)} {p0 p1 p2 p3 p4 p5 : Pos} {j k : Nat} {ar : Arg} {sp : Sp} {pl : Addr → Sem Bool}
    (lk : K.lookup f = some ⟨oc, od, .func (PySem.W.fnX name qual params (.Expr (.Call (.Attribute (.Call (.Name "super" p0) [] [] p1) "__init__" p2) [.Constant (.str text) j p3] [] p4) p5 :: rest) scope [(("__class__" : Str), cc)] dV kV doc pm an (.ref cda) ct), osl⟩)
    (Z : Base B nw ini tail) (S : SupF B nw ini tail K P C cc cda qual) (hmg : mg "super" = none) (NS : NScope N ps ["__class__"] scope) (hp : (params.posonlyargs ++ params.args).head? = some ar) (hN : N[0]? = some ar.arg) (hl : scope.names.lookup ar.arg = some .local) (hks : scope.names.lookup ("super" : Str) = some .globalImplicit)
    (hd1 : (ar.arg == ("__debug__" : Str)) = false) (len : ∀ vs H Q E, sp vs H Q E → vs.length = ps.length)
    (he : ∀ L : Addr, eval (.Call (.Attribute (.Call (.Name "super" p0) [] [] p1) "__init__" p2) [.Constant (.str text) j p3] [] p4) (envF (nf name qual params (.Expr (.Call (.Attribute (.Call (.Name "super" p0) [] [] p1) "__init__" p2) [.Constant (.str text) j p3] [] p4) p5 :: rest) scope cc cda) f L) = (do
      let ov ← attributeBase (.Call (.Name "super" p0) [] [] p1) "__init__" (envF (nf name qual params (.Expr (.Call (.Attribute (.Call (.Name "super" p0) [] [] p1) "__init__" p2) [.Constant (.str text) j p3] [] p4) p5 :: rest) scope cc cda) f L) (eval (.Call (.Name "super" p0) [] [] p1) (envF (nf name qual params (.Expr (.Call (.Attribute (.Call (.Name "super" p0) [] [] p1) "__init__" p2) [.Constant (.str text) j p3] [] p4) p5 :: rest) scope cc cda) f L))
      standAt p2.atName
      let (g, first) ← holding [ov] (getMethod ov "__init__" (pl L))
      callWith p4 g first (backTo p4 (starEach [.Constant (.str text) j p3] (envF (nf name qual params (.Expr (.Call (.Attribute (.Call (.Name "super" p0) [] [] p1) "__init__" p2) [.Constant (.str text) j p3] [] p4) p5 :: rest) scope cc cda) f L))) []))
    (hi : ∀ L : Addr, interactive (envF (nf name qual params (.Expr (.Call (.Attribute (.Call (.Name "super" p0) [] [] p1) "__init__" p2) [.Constant (.str text) j p3] [] p4) p5 :: rest) scope cc cda) f L) = false)
    (hsw : ∀ L : Addr, swapsWith (.Call (.Attribute (.Call (.Name "super" p0) [] [] p1) "__init__" p2) [.Constant (.str text) j p3] [] p4) none p5.line (envF (nf name qual params (.Expr (.Call (.Attribute (.Call (.Name "super" p0) [] [] p1) "__init__" p2) [.Constant (.str text) j p3] [] p4) p5 :: rest) scope cc cda) f L) = pure false)
    (hbody : ∀ (A : Around) (outer : List Env) (s : Shared) (H : Hp) (vs : List V) (Q : VK) (E : XK), sp vs H Q E → ∃ a ys, vs = .ref a :: ys ∧ H a = some (exo a C none) ∧
      ∃ t, PSs (ncx CX P w K mg base N (nf name qual params (.Expr (.Call (.Attribute (.Call (.Name "super" p0) [] [] p1) "__init__" p2) [.Constant (.str text) j p3] [] p4) p5 :: rest) scope cc cda) f A outer s H E) rest t ∧ t { nx := fun _ H' => Q .non H', rt := Q } (startF N vs [some (.ref C)]) H) :
    FnOk P w K mg base CX (k + 1) f (PySem.W.fnX name qual params (.Expr (.Call (.Attribute (.Call (.Name "super" p0) [] [] p1) "__init__" p2) [.Constant (.str text) j p3] [] p4) p5 :: rest) scope [(("__class__" : Str), cc)] dV kV doc pm an (.ref cda) ct) ps sp := by
  refine ⟨len, fun A outer s H args us vs Q E hr e0 bt r hsp => ?_⟩
  have hlen := len _ _ _ _ hsp
  have kin : K.In s.heap := e0.mod.kin.keeps fun b o e => (e0.bs b o e).1
  have lim : s.heap.NoLimit := e0.mod.nolimit.keeps fun b o e => (e0.bs b o e).1
  obtain ⟨a, ys, rfl, ha, t, ht, hq⟩ := hbody A outer s H vs Q E hsp
  obtain ⟨ccl, cdd, csl, hcell⟩ := S.cell
  have atb : ∀ b o, K.lookup b = some o → H b = none := fun b o e => (e0.bs b o (e0.mod.kin _ _ e)).2
  have C0 : CellsAt (nf name qual params (.Expr (.Call (.Attribute (.Call (.Name "super" p0) [] [] p1) "__init__" p2) [.Constant (.str text) j p3] [] p4) p5 :: rest) scope cc cda).cl ["__class__"] [some (V.ref C)] s.heap H := by
    have one : ∀ {y : Str} {c : Addr}, ([(("__class__" : Str), cc)] : List (Str × Addr)).lookup y = some c → y = ("__class__" : Str) ∧ c = cc := fun {y c} e => by
      by_cases hy : y = ("__class__" : Str)
      · subst hy
        simp [List.lookup] at e
        exact ⟨rfl, e.symm⟩
      · exfalso
        have q : (y == ("__class__" : Str)) = false := by simpa using hy
        simp [List.lookup, q] at e
    refine ⟨rfl, fun y c e => ?_, fun x y c e1 e2 => (one e1).1.trans (one e2).1.symm, fun i y e => ?_⟩
    · obtain ⟨rfl, rfl⟩ := one e
      exact ⟨atb _ _ hcell, _, ⟨_, kin _ _ hcell, rfl⟩⟩
    · have hi0 : i = 0 := by
        rcases i with _ | i
        · rfl
        · simp at e
      subst hi0
      have hy : y = ("__class__" : Str) := by simpa using e.symm
      subst hy
      refine ⟨cc, by simp [List.lookup], fun v ev => ⟨.ref C, ?_, ⟨_, kin _ _ hcell, rfl⟩⟩⟩
      have : v = V.ref C := by simpa using ev.symm
      subst this
      rfl
  refine PySem.ks_codeAny_call_defAt (binds := ps.zip us) hr.depth (kin _ _ lk) rfl lim (PySem.W.codeRec_of kin S.rec_) rfl bt NS.nocell (fun x hx => NS.par x.1 (List.of_mem_zip hx).1) (fun h₁ hns kp => ?_) NS.co NS.gen NS.kind
  have I : Inv (ncx CX P w K mg base N (nf name qual params (.Expr (.Call (.Attribute (.Call (.Name "super" p0) [] [] p1) "__init__" p2) [.Constant (.str text) j p3] [] p4) p5 :: rest) scope cc cda) f A outer s H E) [] (startF N (.ref a :: ys) [some (.ref C)]) H { s with heap := h₁, toks := s.toks + (ps.zip us).length } := inv_startN NS hr.hd e0 hlen r C0 hns kp
  refine PySem.ks_wpAt_execs_cons (PySem.ks_wpAt_Expr_any ?_ (hi _) (hsw _))
  refine super_init (F := nf name qual params (.Expr (.Call (.Attribute (.Call (.Name "super" p0) [] [] p1) "__init__" p2) [.Constant (.str text) j p3] [] p4) p5 :: rest) scope cc cda) (pins := []) (σ := startF N (.ref a :: ys) [some (.ref C)]) (H := H) (ar := ar) Z S rfl I ha (kp _ _ (kin _ _ lk)) rfl hp hN rfl hl hmg hks (NS.frk _ (by simp)) NS.kind hd1 (fun s' I' => ?_) (he _)
  refine PySem.wpAt_of_wpAny (wpAny_mono (ht.run [] s' _ H _ I' hq) (fun fl s2 z => ?_) fun e s2 z => z)
  cases fl with
  | ret u => obtain ⟨v, σ', H', J, r2, q⟩ := z; exact ⟨v, H', J.os, J.bare, J.base, J.hok, r2, q⟩
  | next => obtain ⟨σ', H', J, q⟩ := z; exact ⟨.non, H', J.os, J.bare, J.base, J.hok, rfl, q⟩
  | brk => obtain ⟨_, _, _, q⟩ := z; exact q.elim
  | cont => obtain ⟨_, _, _, q⟩ := z; exact q.elim
end
end SupG
namespace TryT
open L2
open PySem PySem.Spec
open PyProof.Rows hiding St
/-- except (C, D, ..) as n: what is wanted of an error of the body -/
def wAsT (K : PySem.W.Frag) (cs : List Value) (i : Nat) (ts : Addr → Value → Option Addr → TS) (Wout : WX) (D : Ends) : WX := fun cls d σ H => ∃ b, PySem.W.exmAny K cls cs = some b ∧
  (b = true → ∀ a, H a = none → ts a cls d { nx := fun σ' H' => D.nx (σ'.set i none) H', rt := D.rt, bk := fun σ' H' => D.bk (σ'.set i none) H', ct := fun σ' H' => D.ct (σ'.set i none) H' } (σ.set i (some (.ref a))) H) ∧ (b = false → Wout cls d σ H)
def wAllT (K : PySem.W.Frag) (Wout : WX) (D : Ends) : List (List Value × Nat × (Addr → Value → Option Addr → TS)) → WX
  | [] => Wout
  | (cs, i, ts) :: r => wAsT K cs i ts (wAllT K Wout D r) D
/-- names of classes in a tuple -/
inductive NmsT (X : Cx) : List Expr → List Value → Prop
  | nil : NmsT X [] []
  | cons {x : Str} {c : Value} {p : Pos} {es : List Expr} {cs : List Value} (h : Names X x c) (r : NmsT X es cs) : NmsT X (.Name x p :: es) (c :: cs)
inductive HdT (X : Cx) : List ExceptHandler → List (List Value × Nat × (Addr → Value → Option Addr → TS)) → Prop
  | nil : HdT X [] []
  | cons {es : List Expr} {n : Str} {cs : List Value} {i k : Nat} {ts : Addr → Value → Option Addr → TS} {b₀ : Stmt} {suite : List Stmt} {np q : Pos} {hds : List ExceptHandler} {l : List (List Value × Nat × (Addr → Value → Option Addr → TS))}
      (hi : X.N[i]? = some n) (hln : X.env.kindOf n = some .local) (hc : NmsT X es cs) (hl : cs.length = 3 ∨ cs.length = 4)
      (hsu : ∀ (a : Addr) (oe : Obj) (cls : Value) (d : Option Addr) (pn : List (Addr × Obj)), L2N.Zn cls d oe → (∃ vs, oe.data = .fields vs) → PSs (X.suite a ((a, oe) :: pn)) (b₀ :: suite) (ts a cls d))
      (r : HdT X hds l) : HdT X (.ExceptHandler (some (.Tuple es k np)) (some n) (b₀ :: suite) q :: hds) ((cs, i, ts) :: l)
theorem flying_keepsZ {B h h' : Heap} {l : List Env} {e : Addr} {Z : Obj → Prop} (R : HandSPX.FlyingZ B l e Z h) (k : ∀ b o, h.get? b = some o → h'.get? b = some o) : HandSPX.FlyingZ B l e Z h' := by
  obtain ⟨f1, f2, f3, oe, vs, T, oT, ts, he, hz, hd, h1, hn, hne, hT, hdT, h3⟩ := R
  exact ⟨fun b o q => k b o (f1 b o q), f2, f3.of_keeps fun b o q _ => ⟨o, k b o q, rfl⟩, oe, vs, T, oT, ts, k _ _ he, hz, hd, h1, hn, hne, k _ _ hT, hdT, h3⟩
section
variable {X : Cx} {body : List Stmt} {h₀ : ExceptHandler} {hds : List ExceptHandler} {l : List (List Value × Nat × (Addr → Value → Option Addr → TS))} {pos : Pos} {tb : WX → TS} {Wout : WX}
theorem ps_try_tup (hs : X.stack = X.env :: X.outer) (hf : X.env.frame = some X.env.locals) (hN : X.N.Nodup) (tk : L2N.Takes X Wout)
    (hb : ∀ (W : WX) (pn : List (Addr × Obj)) (xe : Value → Shared → Prop), L2N.Takes (X.tr pn xe) W → PassesOwn (model X.prog X.w) X.A X.env xe → PSs (X.tr pn xe) body (tb W))
    (hh : HdT X (h₀ :: hds) l) : PS X (.Try body (h₀ :: hds) [] [] pos) (fun D σ H => tb (wAllT X.K Wout D l) D σ H) := by
  refine ⟨fun pins s σ H D I h => ?_⟩
  have ok := I.ok
  have hfr : X.A.frames = some (X.env :: X.outer) := by rw [ok.frames, hs]
  refine wpAny_Try_except ?_
  refine wpAny_mono ((hb (wAllT X.K Wout D l) (X.pn ++ pins) (fun e s₁ => wpAny (model X.prog X.w) X.A (noteFrame e X.env) (fun _ s₂ => wpAny (model X.prog X.w) X.A (setFlight e none) (fun _ s₃ =>
    wpAny (model X.prog X.w) X.A (handleBy e X.env (h₀ :: hds)) (SP X pins D) X.xe s₃) X.xe s₂) X.xe s₁) (fun u s' xx => ?_) PassesOwn.looking).run [] s σ H D (I.toTry _) h) (fun f s1 hsp => ?_) (fun e s1 he => he)
  · obtain ⟨a, B, sI, pins', σ', H', cls, d, rfl, J', nb, up, sky, na, os, ag, w⟩ := xx
    have J : Inv X pins σ' H' sI := J'.ofTry ok
    have sky' : Sky B (X.env :: X.outer) a (L2N.Zn cls d) X.env.locals s'.heap := by rw [← hs]; exact sky
    show wpAny (model X.prog X.w) X.A (noteFrame (.ref a) X.env) _ _ _
    refine L2N.Sky.land L2N.Zn.steady hfr hf sky' fun h3 fl3 up3 => ?_
    have go : ∀ {hds' : List ExceptHandler} {l' : List (List Value × Nat × (Addr → Value → Option Addr → TS))}, HdT X hds' l' → ∀ (h3 : Heap), HandSPX.FlyingZ B (X.env :: X.outer) a (L2N.Zn cls d) h3 → s'.heap.UpToSlots h3 → wAllT X.K Wout D l' cls d σ' H' →
        wpAny (model X.prog X.w) X.A (handleBy (.ref a) X.env hds') (SP X pins D) X.xe { s' with heap := h3 } := by
      intro hds' l' hk
      induction hk with
      | nil =>
        intro h3 fl3 up3 w
        refine wpAny_handleBy_nil ?_
        obtain ⟨k1, k2, k3, oe, vs, T, oT, ts', he, hz, hd, h1, hr⟩ := id fl3
        unfold PySem.passOn
        refine wpAny_bind (wpAny_field he hd h1 ?_)
        rw [if_neg (show ¬ ((Value.ref T == Value.none) = true) from by simp)]
        have fin : wpAny (model X.prog X.w) X.A (setFlight (.ref a) X.env.frame) (fun _ s4 => wpAny (model X.prog X.w) X.A (throw (.ref a) : Sem Flow) (SP X pins D) X.xe s4) X.xe { s' with heap := h3 } := by
          rw [hf]
          refine HandSPX.setFlight_upZ fl3 fun h4 hh4 up4 => wpAny_throw (tk _ _ ?_)
          exact ⟨a, B, sI, pins, σ', H', cls, d, rfl, J, nb, (up.trans up3).trans up4, .inr (.inr (by rw [hs]; exact hh4)), na, os, ag, w⟩
        first
          | exact wpAny_bind (wpAny_pure (wpAny_bind fin))
          | exact wpAny_bind fin
      | @cons es n cs i kk ts b₀ suite np q hds2 l2 hi hln hc hl hsu r ih =>
        intro h3 fl3 up3 w
        obtain ⟨b, hb1, hyes, hno⟩ := w
        have J3 : Inv X pins σ' H' { s' with heap := h3 } := J.landed nb fl3.1 (up.trans up3) os ag
        obtain ⟨oe3, vs3, he3, hz3, hd3⟩ := fl3.there
        have nfr : a ∉ frs (X.env :: X.outer) := fun hm => by
          obtain ⟨_, o', e', hnf⟩ := fl3.2.2.1.mem hm
          rw [he3] at e'; cases e'
          exact hnf _ hd3
        have nL : a ≠ X.env.locals := fun z => nfr (List.mem_filterMap.mpr ⟨X.env, List.mem_cons_self, by rw [hf, z]⟩)
        have nF : a ∉ X.fs := fun hm => by
          obtain ⟨e, he, q⟩ := List.mem_filterMap.mp hm
          exact nfr (List.mem_filterMap.mpr ⟨e, List.mem_cons_of_mem _ he, q⟩)
        have S3 := J3.suite he3 hd3 na nL nF
        have hloc : Loc X.env.scope n := .inl hln
        refine wpAny_handleBy_cons (codeAny_handlers_test ?_) (by intro q; cases q)
        have LT : PySem.W.Looks (model X.prog X.w) h3 (typeOf (.ref a)) cls := fun A Q E s k q => wpAny_typeOf_ref (k _ _ he3) (by rw [hz3.1]; exact q)
        have name : ∀ {x : Str} {c : Value} {np : Pos} {Q : Value → Shared → Prop} {E : Value → Shared → Prop}, Names X x c → Q c { s' with heap := h3 } → wpAny (model X.prog X.w) (X.A.mark (some (.ref a))) (eval (.Name x np) X.env) Q E { s' with heap := h3 } := fun {x c np Q E} hc q => by
          obtain ⟨hg, hdbg, hm | ⟨hm, hv, hnn⟩⟩ := hc
          · exact ld_glob (X := X.suite a ((a, oe3) :: (X.pn ++ pins))) S3 hg hm q hdbg
          · exact ld_blt (X := X.suite a ((a, oe3) :: (X.pn ++ pins))) S3 hg hm hv q hnn hdbg
        have test : ∀ {Q : Bool → Shared → Prop} {E : Value → Shared → Prop}, (∀ h4, (∀ b o, h3.get? b = some o → h4.get? b = some o) → Q b { s' with heap := h4 }) →
            wpAny (model X.prog X.w) (X.A.mark (some (.ref a))) (eval (.Tuple es kk np) X.env) (fun c s₁ => wpAny (model X.prog X.w) (X.A.mark (some (.ref a))) (excMatches (.ref a) c) Q E s₁) E { s' with heap := h3 } := fun {Q E} q => by
          have kp : ∀ cs : List Value, ∀ b o, h3.get? b = some o → (h3.push { cls := .type "tuple", data := .seq cs.toArray }).get? b = some o := fun _ _ _ z => Heap.get?_push_of_some _ z
          have X3 : X.K.In h3 := J3.kIn
          match es, cs, hc, hl, hb1 with
          | _, _, .cons (c := c1) n1 (.cons (c := c2) n2 (.cons (c := c3) n3 .nil)), _, hb1 =>
            refine wpAny_Tuple ?_
            refine wpAny_items_cons (name n1 ?_)
            refine wpAny_items_cons (name n2 ?_)
            refine wpAny_items_cons (name n3 ?_)
            refine wpAny_items_nil ⟨by size_fits, ?_⟩
            exact (PySem.W.exm_tup3 (X3.keeps (kp [c1, c2, c3])) (LT.keeps (kp [c1, c2, c3])) (Heap.get?_push_size h3 rfl) hb1).here (q _ (kp [c1, c2, c3]))
          | _, _, .cons (c := c1) n1 (.cons (c := c2) n2 (.cons (c := c3) n3 (.cons (c := c4) n4 .nil))), _, hb1 =>
            refine wpAny_Tuple ?_
            refine wpAny_items_cons (name n1 ?_)
            refine wpAny_items_cons (name n2 ?_)
            refine wpAny_items_cons (name n3 ?_)
            refine wpAny_items_cons (name n4 ?_)
            refine wpAny_items_nil ⟨by size_fits, ?_⟩
            exact (PySem.W.exm_tup4 (X3.keeps (kp [c1, c2, c3, c4])) (LT.keeps (kp [c1, c2, c3, c4])) (Heap.get?_push_size h3 rfl) hb1).here (q _ (kp [c1, c2, c3, c4]))
          | _, _, .nil, hl, _ => exact absurd hl (by simp)
          | _, _, .cons _ .nil, hl, _ => exact absurd hl (by simp)
          | _, _, .cons _ (.cons _ .nil), hl, _ => exact absurd hl (by simp)
          | _, _, .cons _ (.cons _ (.cons _ (.cons _ (.cons _ _)))), hl, _ => exact absurd hl (by simp)
        refine test fun h3' k3' => ?_
        have fl3' := flying_keepsZ fl3 k3'
        have up3' : s'.heap.UpToSlots h3' := up3.trans (Heap.UpToSlots.of_keeps k3')
        cases b with
        | true =>
          refine codeAny_handlers_suite_as ?_
          refine HandSPX.lands_againZ fl3' fun h4 fl4 up4 => ?_
          have J4 : Inv X pins σ' H' { s' with heap := h4 } := J.landed nb fl4.1 ((up.trans up3').trans up4) os ag
          obtain ⟨oe4, vs4, he4, hz4, hd4⟩ := fl4.there
          have S4 := J4.suite he4 hd4 na nL nF
          refine store_ok (X := X.suite a ((a, oe4) :: (X.pn ++ pins))) (v := .ref a) S4 hN hi hloc rfl (fun s5 S5 => ?_) (.inr hln)
          refine wpAny_mono ((hsu a oe4 cls d (X.pn ++ pins) hz4 ⟨_, hd4⟩).run [] s5 _ H' _ S5 (hyes rfl a na)) (fun f s6 hsp => ?_) (fun _ _ z => False.elim z)
          have end_ : ∀ {σ6 : St} {H6 : Hp} {Q : Shared → Prop}, Inv (X.suite a ((a, oe4) :: (X.pn ++ pins))) [] σ6 H6 s6 → (∀ s7, Inv X pins (σ6.set i none) H6 s7 → Q s7) →
              wpAny (model X.prog X.w) X.A (do bindName X.env n .none; unbindBehindTheSuite X.env n q) (fun _ s7 => Q s7) X.xe s6 := fun {σ6 H6 Q} S6 hq => gone_ok (S6.unsuite ok) hN hi hln hq
          cases f with
          | next =>
            obtain ⟨σ6, H6, S6, q6⟩ := hsp
            exact end_ S6 fun s7 J7 => ⟨_, _, J7, q6⟩
          | brk =>
            obtain ⟨σ6, H6, S6, q6⟩ := hsp
            exact end_ S6 fun s7 J7 => ⟨_, _, J7, q6⟩
          | cont =>
            obtain ⟨σ6, H6, S6, q6⟩ := hsp
            exact end_ S6 fun s7 J7 => ⟨_, _, J7, q6⟩
          | ret u =>
            obtain ⟨v6, σ6, H6, S6, r6, q6⟩ := hsp
            exact end_ S6 fun s7 J7 => ⟨_, _, _, J7, r6, q6⟩
        | false =>
          show wpAny _ X.A (handleBy (.ref a) X.env hds2) _ _ _
          exact ih h3' fl3' up3' (hno rfl)
    exact go hh h3 fl3 up3 w
  · cases f with
    | next =>
      obtain ⟨σ', H', J', q⟩ := hsp
      exact wpAny_execs_nil ⟨σ', H', J'.ofTry ok, q⟩
    | brk =>
      obtain ⟨σ', H', J', q⟩ := hsp
      exact ⟨σ', H', J'.ofTry ok, q⟩
    | cont =>
      obtain ⟨σ', H', J', q⟩ := hsp
      exact ⟨σ', H', J'.ofTry ok, q⟩
    | ret u =>
      obtain ⟨v, σ', H', J', r, q⟩ := hsp
      exact ⟨v, σ', H', J'.ofTry ok, r, q⟩
end
end TryT
namespace HotLc
open PySem PySem.Spec L2 L2H
open PyProof.Rows hiding St
abbrev St := L2.St
/-- the context X, the handled exception p held fast in it -/
abbrev hold (X : Cx) (p : Addr × Obj) : Cx := { X with calm := false, pn := [p] }
section
variable {X : Cx} {p : Addr × Obj} {pins : List (Addr × Obj)} {σ : St} {H : Hp} {s : Shared}
theorem hold_ok (o : X.Ok) : (hold X p).Ok where
  mod := o.mod
  kind := o.kind
  glob := o.glob
  blt := o.blt
  above := o.above
  inj := o.inj
  has := o.has
  cab := o.cab
  hd := fun z => Bool.noConfusion z
  frames := o.frames
  stk := o.stk
  exf := o.exf
  bs := o.bs
  bsz := o.bsz
  noex := o.noex
  exfs := o.exfs
  funs := o.funs
  frf := o.frf
theorem hold_inv (I : Inv X [] σ H s) (h : s.heap.get? p.1 = some p.2 ∧ H p.1 = none ∧ p.1 ≠ X.env.locals ∧ p.1 ∉ X.fs ∧ ∀ v, p.2.data ≠ .cell v) : Inv (hold X p) [] σ H s where
  ok := hold_ok I.ok
  os := I.os
  bare := I.bare
  base := I.base
  loc := I.loc
  cell := I.cell
  free := I.free
  freeC := I.freeC
  pin := fun q hq => by
    obtain rfl : q = p := by simpa using hq
    exact h
  hok := I.hok
  len := I.len
/-- what is held is out of the reach of all frames -/
theorem held_far (I : Inv X pins σ H s) (hp : p ∈ X.pn) : p.1 ∉ frs X.stack := by
  obtain ⟨_, _, h3, h4, _⟩ := I.pin p (List.mem_append_left _ hp)
  rcases I.ok.stk with e | ⟨e, f⟩
  · rw [e]; exact h4
  · rw [e]
    intro hm
    obtain ⟨v, h1, h2⟩ := List.mem_filterMap.mp hm
    rcases List.mem_cons.mp h1 with rfl | h1
    · rw [f] at h2
      exact h3 (Option.some.inj h2).symm
    · exact h4 (List.mem_filterMap.mpr ⟨v, h1, h2⟩)
abbrev blkH (X : Cx) (p : Addr × Obj) (s : Shared) (H : Hp) (scope : Scope) (cenv : Env) (fp : List Addr) : Cx := hold (X.blk s H scope cenv fp) p
theorem pe_lcH {elt tg iter : Expr} {scope : Scope} {own : List (Str × Nat)} {pos : Pos} {wi : TI} {g : TG} {te : TE} (hot : Hot1 X.A p) (hp : p ∈ X.pn) (hN : X.N.Nodup) (hi : PIH X tg iter wi) (ok : BlkOk X.N X.env.scope scope own)
    (hg : ∀ (s : Shared) (H : Hp) (C : Addr) (cl : List (Str × Addr)) (fp : List Addr), PG (blkH X p s H scope (compEnvC scope cl C X.env) fp) tg g) (he : ∀ (s : Shared) (H : Hp) (C : Addr) (cl : List (Str × Addr)) (fp : List Addr), PE (blkH X p s H scope (compEnvC scope cl C X.env) fp) elt te)
    (hs : ∀ x, foldedSetIterable iter X.env x = pure x := by intro _; rfl) : PE X (.ListComp elt [⟨tg, iter, [], 0⟩] scope pos) (tLc wi g tYes te (own.map (·.2))) := by
  refine ⟨fun pins s σ H Q I h => ?_⟩
  rw [eval_ListComp]
  have clo : ∀ y ∈ scope.names, y.2 = .free → ∃ c, X.env.cells.lookup y.1 = some c := fun y hy e => (ok.free y hy e).elim (fun k => I.ok.has _ (.inl k)) (fun k => I.ok.has _ (.inr k))
  refine wpAny_comprehension_free (use := none) rfl hs (closure_ok clo) ok.kind (fun y hy e => by rw [ok.uniq y hy, e]) (thn (hi.run pins s σ H _ I h) fun xv s1 hx => thn hx fun itv s2 r2 => ?_)
  obtain ⟨it, fp, tn, J, H2, rfl, I2, T, t2, f2, q⟩ := r2
  refine wpAny_newObj_type (newEnv_comp ?_) (by show 0 ≤ sizeLine; decide)
  -- the new list D, then the block's own dict
  let D := s2.heap.objs.size
  let s3 : Shared := { s2 with heap := s2.heap.push { cls := .type "list", data := .seq ([] : List Value).toArray } }
  let H3 := upd H2 D (.lst [])
  let C := s3.heap.objs.size
  let cl := cellsFrom (C + 1) scope.names (cloFrom X.env.cells scope.names [])
  let ce := compEnvC scope cl C X.env
  let s4 : Shared := { s3 with heap := pushCells (s3.heap.push { cls := .type "dict", data := .dict #[] }) scope.names }
  obtain ⟨W, ⟨m0, w0⟩, turn⟩ := q D (I2.hok.fresh (Nat.le_refl _))
  have I3 : Inv X pins σ H3 s3 := I2.laid (t' := s2.toks) (fun b o e => Heap.get?_push_of_some _ e) (Nat.le_refl _) ⟨Nat.zero_le _, [], 0, .nil, Heap.get?_push_size _ rfl⟩
  have old : ∀ b ∈ fp, b < D := fun b hb => let ⟨o, e, _⟩ := T.obj _ _ t2 b hb; Heap.lt_size e
  have f3 : ∀ b ∈ fp, FpOk X pins H3 b ∧ b < s3.heap.objs.size := fun b hb =>
    ⟨⟨(upd_ne (Nat.ne_of_lt (old b hb))).trans (f2 b hb).1, (f2 b hb).2⟩, by show b < (s2.heap.push _).objs.size; rw [Heap.size_push]; exact Nat.lt_succ_of_lt (old b hb)⟩
  have up34 : ∀ b o, s3.heap.get? b = some o → s4.heap.get? b = some o := fun b o e => pushCells_keeps _ _ _ _ (Heap.get?_push_of_some _ e)
  have t4 : tn 0 s4.heap := T.keep _ _ _ t2 fun b _ o e => up34 b o (Heap.get?_push_of_some _ e)
  have far := held_far I3 hp
  obtain ⟨p1, p2, p3, p4, p5⟩ := I3.pin p (List.mem_append_left _ hp)
  have pC : p.1 ≠ C := Nat.ne_of_lt (Heap.lt_size p1)
  have I4 : Inv (blkH X p s3 H3 scope ce fp) [] (wipe σ (own.map (·.2))) H3 s4 := hold_inv (block_start I3 ok hN f3) ⟨up34 _ _ p1, p2, pC, far, p5⟩
  have hotY : HotC (blkH X p s3 H3 scope ce fp) := ⟨p, hot, List.mem_cons_self⟩
  have stay : ∀ {σ' : St} {H' : Hp} {s' : Shared}, Inv (blkH X p s3 H3 scope ce fp) [] σ' H' s' → (∀ b ∈ fp, H' b = none) → ∀ b ∈ fp, FpOk (blkH X p s3 H3 scope ce fp) [] H' b := fun {σ' H' s'} I' n b hb =>
    ⟨n b hb, (I'.ok.exf b hb).1, I'.ok.exfs b hb, .inl hb, fun x c e => (I'.ok.exf b hb).2 x c e, fun r hr => by
      obtain rfl : r = p := by simpa using hr
      exact (f3 b hb).1.2.2.2.2.2 r (List.mem_append_left _ hp)⟩
  -- behind the last turn: the list is told
  have tell : ∀ (s' : Shared) (H' : Hp) (m : Str → Option Value), Inv X pins σ H' s' → Q (.ref D) H' → s'.heap.Ns C m → FpOk X pins H' C → compPost (model X.prog X.w) X.A X.xe none (EP X pins σ Q) (.ref D) C (.ok .next) s' := fun s' H' m I' q hn f =>
    ⟨m, hn, fun h'' sb => ⟨.ref D, H', I'.turned (t' := s'.toks) (fun b o hb e => (sb.2 b hb).trans e) f.1 f.2.1 f.2.2.2.1 f.2.2.2.2.1 f.2.2.2.2.2, rfl, q⟩⟩
  show codeAny _ _ (.compStart (.ListComp elt [⟨tg, iter, [], 0⟩] scope pos) 0 (.ref it) (.ref D) ce) (compPost (model X.prog X.w) X.A X.xe none (EP X pins σ Q) (.ref D) C) s4
  have loop : codeAny (model X.prog X.w) X.A (.compLoop (.ListComp elt [⟨tg, iter, [], 0⟩] scope pos) 0 (.ref it) (.ref D) ce) (compPost (model X.prog X.w) X.A X.xe none (EP X pins σ Q) (.ref D) C) s4 := by
    refine compLoop_any (fun n s' => ∃ i H', Inv (blkH X p s3 H3 scope ce fp) [] (wipe σ (own.map (·.2))) H' s' ∧ tn i s'.heap ∧ (∀ b ∈ fp, H' b = none) ∧ W i n H') (fun n s5 ⟨i, H5, I5, t5, n5, w5⟩ => ?_) m0 ⟨0, H3, I4, t4, fun b hb => (f3 b hb).1.1, w0⟩
    rcases turn i n H5 w5 with ⟨stop, qq⟩ | ⟨go, Nx, hNx, step⟩
    · refine thnF (T.done (blkH X p s3 H3 scope ce fp) rfl rfl rfl hotY i [] s5 _ H5 (fun _ _ => False) I5 (stay I5 n5) t5 stop) fun r s6 ⟨hr, I6⟩ => ?_
      subst hr
      obtain ⟨m, hn, _⟩ := I6.loc
      have back : Inv X pins σ H5 s6 := I3.call' (ch := fp) I6.os I6.base I6.hok I6.bare fun b hb => ⟨(f3 b hb).1.2.2.2.1, (f3 b hb).1.2.1, (f3 b hb).1.2.2.2.2.1, (f3 b hb).1.2.2.2.2.2⟩
      exact tell s6 H5 m back qq hn (I3.fpOk (Nat.le_refl _) I6.free)
    · refine thnF (T.item (blkH X p s3 H3 scope ce fp) rfl rfl rfl hotY i [] s5 _ H5 (fun _ _ => False) I5 (stay I5 n5) t5 go) fun r s6 ⟨u, hr, h6⟩ => ?_
      subst hr
      refine thnF h6 fun _ s7 ⟨x, H7, I7, r7, y7, t7, n7⟩ => ?_
      refine thnF ((hg s3 H3 C cl fp).run _ s7 _ H7 x u _ (I7.pinned (stay I7 n7) (T.obj _ _ t7)) r7 (step x H7 y7)) fun _ s8 ⟨σ8, H8, I8, hw8, q8⟩ => ?_
      refine wpAny_tests_nil ?_
      have q8' : te σ8 H8 fun y H4 => ∃ acc, H4 D = some (.lst acc) ∧ acc.length < sizeLine ∧ Nx (upd H4 D (.lst (acc ++ [y]))) := by
        have z : (if true = true then te σ8 H8 fun y H4 => ∃ acc, H4 D = some (.lst acc) ∧ acc.length < sizeLine ∧ Nx (upd H4 D (.lst (acc ++ [y]))) else Nx H8) := q8
        rwa [if_pos rfl] at z
      rw [if_pos rfl]
      refine thnF ((he s3 H3 C cl fp).run _ s8 σ8 H8 _ I8 q8') fun z s9 ⟨yv, H9, I9, r9, acc, hD9, hz9, nx⟩ => ?_
      refine app_ok (X := blkH X p s3 H3 scope ce fp) I9 hD9 hz9 r9 fun s10 I10 => ?_
      obtain ⟨m', hm, w'⟩ := hNx _ nx
      have fixed : ∀ b ∈ fp, ∀ o, s7.heap.get? b = some o → s10.heap.get? b = some o ∧ upd H9 D (.lst (acc ++ [yv])) b = none := fun b hb o e =>
        let z := I10.pin (b, o) (List.mem_append_right _ (List.mem_append_right _ (mem_pinsAt hb e)))
        ⟨z.1, z.2.1⟩
      refine ⟨m', hm, i + 1, _, (I10.unpinned (pins := [])).weak (by rw [← hw8, wipe_length]) (fun j v e => ?_), T.keep _ _ _ t7 fun b hb o e => (fixed b hb o e).1, fun b hb => ?_, w'⟩
      · rw [← hw8] at e
        exact (wipe_some e).1
      · obtain ⟨o, e, _⟩ := T.obj _ _ t7 b hb
        exact (fixed b hb o e).2
  exact codeAny_compStart_list loop (T.self X.A 0 _ _ _ t4 loop)
end
end HotLc
namespace Cov
open PySem PySem.Spec PyProof.Rows L2
def kD : Key → PyData
  | .inl i => .int i
  | .inr x => .str x
def vD : V → Option PyData
  | .non => some .none
  | .bl b => some (.bool b)
  | .int i => some (.int i)
  | .str x => some (.str x)
  | _ => none
inductive Flat : List (Key × V) → List (PyData × PyData) → Prop
  | nil : Flat [] []
  | cons {k : Key} {v : V} {d : PyData} {r : List (Key × V)} {ds : List (PyData × PyData)} : vD v = some d → Flat r ds → Flat ((k, v) :: r) ((kD k, d) :: ds)
/-- what a value's text is made of -/
inductive Rp (K : PySem.W.Frag) (H : Hp) : V → PyData → Prop
  | dat {x : V} {d : PyData} : Dp K H x d → PyData.hasDict d = false → Rp K H x d
  | dct {a : Addr} {kvs : List (Key × V)} {ds : List (PyData × PyData)} : H a = some (.dK kvs) → Flat kvs ds → Rp K H (.ref a) (.dict ds)
section
variable {X : Cx} {pins : List (Addr × Obj)} {σ : L2.St} {H : Hp} {s : Shared}
theorem vD_reads {h : Heap} {v : V} {d : PyData} {u : Value} (e : vD v = some d) (r : RelV v u) : Reads h u d [] := by
  cases v with
  | non => cases e; cases (show u = Value.none from r); exact .none
  | bl b => cases e; cases (show u = Value.bool b from r); exact .bool b
  | int i => cases e; obtain ⟨t, rfl⟩ := (show ∃ t, u = Value.int i t from r); exact .int i t
  | str x => cases e; obtain ⟨t, rfl⟩ := (show ∃ t, u = Value.str x t from r); exact .str x t
  | byt b => cases e
  | flt b => cases e
  | ref a => cases e
  | ty n => cases e
theorem flat_reads {P : Program} {w : World} {h : Heap} : ∀ {kvs : List (Key × V)} {ds : List (PyData × PyData)} {es : List DictEntry} {vs : List (Key × Value)}, Flat kvs ds → KV kvs vs → PySem.Pairs (mixKind P w) es vs →
    ReadsAll h (es.map (·.key)) (ds.map (·.1)) [] ∧ ReadsAll h (es.map (·.val)) (ds.map (·.2)) []
  | _, _, _, _, .nil, .nil, .nil => ⟨.nil, .nil⟩
  | _, _, _, _, .cons hv hr, .cons hk hkr, .cons he1 he2 her => by
    obtain ⟨i1, i2⟩ := flat_reads hr hkr her
    obtain ⟨q1, q2⟩ := hk
    refine ⟨ReadsAll.cons (as := []) (bs := []) ?_ i1, ReadsAll.cons (as := []) (bs := []) ?_ i2⟩
    · have he1' := he1
      rw [mixKind_is, ← q1] at he1'
      rcases keyIs_shape he1' with ⟨i, t, e1, e2⟩ | ⟨x, t, e1, e2⟩
      · simp only at e1; subst e1; show Reads h _ (PyData.int i) []; simp only [e2]; exact Reads.int i t
      · simp only at e1; subst e1; show Reads h _ (PyData.str x) []; simp only [e2]; exact Reads.str x t
    · simp only [he2]; exact vD_reads hv q2
theorem Rp.reads (I : Inv X pins σ H s) {x : V} {d : PyData} {u : Value} (h : Rp X.K H x d) (r : RelV x u) : ∃ as, Reads s.heap u d as ∧ (PyData.hasDict d = true → sysModules ∉ as) := by
  cases h with
  | dat h0 h1 =>
    obtain ⟨as, q⟩ := Dp.reads I d x u h0 r
    exact ⟨as, q, fun z => by rw [h1] at z; cases z⟩
  | @dct a kvs ds ha hf =>
    obtain ⟨z, ns, vs, rel, o, es, ep, e1, e2, e3, e4, e5, e6⟩ := dk_of I.hok ha
    cases (show u = Value.ref a from r)
    obtain ⟨r1, r2⟩ := flat_reads (h := s.heap) hf rel e5
    refine ⟨_, Reads.dict e1 e2.1 e3 r1 r2, fun _ hm => ?_⟩
    rw [List.append_nil, List.mem_singleton] at hm
    exact (beq_eq_false_iff_ne.mp ns) hm.symm
end
open PySem PySem.Spec PyProof.Rows L2
structure RoomG (k : Nat) (A : Around) : Prop where
  r : Room k A
  g : A.guards = some []
theorem RoomG.mono {j k : Nat} {A : Around} (x : RoomG k A) (h : j ≤ k) : RoomG j A := ⟨x.r.mono h, x.g⟩
theorem RoomG.deeper {k : Nat} {A : Around} (x : RoomG (k + 1) A) (e : Env) : RoomG k (A.deeper e) := ⟨x.r.deeper e, x.g⟩
theorem RoomG.u {k : Nat} {A : Around} (x : RoomG k A) : A.units + 60 < cLine := Nat.lt_trans (by omega) x.r.units
theorem RoomG.u1 {k : Nat} {A : Around} (x : RoomG k A) : A.units + 1 < cLine := by have := x.u; omega
theorem RoomG.u64 {k : Nat} {A : Around} (x : RoomG k A) : A.units + 64 < cLine := x.r.units
structure FnG (P : Program) (w : World) (K : PySem.W.Frag) (mg : Str → Option Value) (base : Heap) (CX : CXT) (k : Nat) (f : Addr) (fd : FuncData) (ps : List Str) (sp : Sp) : Prop where
  len : ∀ vs H Q E, sp vs H Q E → vs.length = ps.length
  run : ∀ (A : Around) (outer : List Env) (s : Shared) (H : Hp) (args : Args) (us : List Value) (vs : List V) (Q : VK) (E : XK),
    RoomG k A → Env0 P w K mg base A outer s H → BindsTo s fd args (ps.zip us) → Vals vs us → sp vs H Q E → codeAny (model P w) A (.call (.ref f) args) (CR CX outer P w H s Q E) s
theorem FnG.of {P : Program} {w : World} {K : PySem.W.Frag} {mg : Str → Option Value} {base : Heap} {CX : CXT} {k : Nat} {f : Addr} {fd : FuncData} {ps : List Str} {sp : Sp} (F : FnOk P w K mg base CX k f fd ps sp) : FnG P w K mg base CX k f fd ps sp :=
  ⟨F.len, fun A outer s H args us vs Q E hr => F.run A outer s H args us vs Q E hr.r⟩
/-- a def by its name: st its statement, ps its parameters -/
structure Nm (P : Program) (w : World) (K : PySem.W.Frag) (mg : Str → Option Value) (base : Heap) (CX : CXT) (k : Nat) (x : Str) (st : Stmt) (ps : List Str) (sp : Sp) : Prop where
  ex : ∃ (f : Addr) (fd : FuncData), Fun K x x st f fd ∧ mg x = some (.ref f) ∧ FnG P w K mg base CX k f fd ps sp
section
variable {P : Program} {w : World} {K : PySem.W.Frag} {mg : Str → Option Value} {base : Heap} {CX : CXT}
/-- THE RULE for a def -/
theorem nm_of {x : Str} {st : Stmt} {f : Addr} {fd : FuncData} {N ps : List Str} {k : Nat} {sp : Sp} (F : Fun K x x st f fd) (hm : mg x = some (.ref f)) (S : FnScope N ps (defScope st)) (len : ∀ vs H Q E, sp vs H Q E → vs.length = ps.length)
    (hb : ∀ (cdv : Value) (A : Around) (outer : List Env) (s : Shared) (H : Hp) (vs : List V) (Q : VK) (E : XK), RoomG k (A.deeper (envOfC x (defScope st) s.heap.objs.size f cdv)) → sp vs H Q E →
      ∃ t, PSs (cxOf CX P w K mg base N x (defScope st) f cdv A outer s H E) (defBody st) t ∧ t { nx := fun _ H' => Q .non H', rt := Q } (start N vs) H) : Nm P w K mg base CX (k + 1) x st ps sp := by
  refine ⟨f, fd, F, hm, len, ?_⟩
  obtain ⟨oc, od, kV, doc, pm, an, cdv, ct, osl, rfl, lk, hcd⟩ := F.ex
  intro A outer s H args us vs Q E hr e0 bt rv hs
  have hl := len _ _ _ _ hs
  have kin : K.In s.heap := e0.mod.kin.keeps fun b o e => (e0.bs b o e).1
  have nol : s.heap.NoLimit := e0.mod.nolimit.keeps fun b o e => (e0.bs b o e).1
  refine codeAny_call_function hr.r.depth (kin _ _ lk) rfl S.co S.gen rfl (PySem.W.codeRec_of kin hcd) (bt _ _ _ _ ?_)
  refine wpAny_newFunctionEnv_cells S.kind (fun ⟨n, v⟩ hy => ?_) fun env he s1 x1 => ?_
  · cases S.par n (List.of_mem_zip hy).1 with
    | inl q => exact .inl q
    | inr q => exact .inr ⟨q, PySem.W.cellsFrom_some _ _ _ (.inl q)⟩
  · subst he
    refine ⟨nol.keeps x1.toInCall.keep, codeAny_func ?_⟩
    obtain ⟨t, ht, hq⟩ := hb cdv A outer s H vs Q E (hr.deeper _) hs
    have I : Inv (cxOf CX P w K mg base N x (defScope st) f cdv A outer s H E) [] (start N vs) H s1 := inv_start S hr.r.hd e0 hl rv x1
    refine wpAny_mono (ht.run [] s1 (start N vs) H _ I hq) (fun fl s' z => ?_) fun e s' z => z
    cases fl with
    | ret u => obtain ⟨v, σ', H', J, r2, q⟩ := z; exact ⟨v, H', J.os, J.bare, J.base, J.hok, r2, q⟩
    | next => obtain ⟨σ', H', J, q⟩ := z; exact ⟨.non, H', J.os, J.bare, J.base, J.hok, rfl, q⟩
    | brk => obtain ⟨_, _, _, q⟩ := z; exact q.elim
    | cont => obtain ⟨_, _, _, q⟩ := z; exact q.elim
end
section
variable {X : Cx} {CX : CXT} {k j : Nat} {f : Addr} {fd : FuncData} {st : Stmt} {ps ks : List Str} {sp : Sp} {E : XK} {x : Str} {p pos : Pos} {e : Expr} {es : List Expr} {kws : List Keyword} {t tk : TA}
theorem run_g {pins : List (Addr × Obj)} {σ : L2.St} {H : Hp} {s : Shared} {Q : VK} {us ws : List Value} {kw : List (Str × Value)} {vs : List V} (F : FnG X.prog X.w X.K X.mg X.base CX k f fd ps sp) (hr : RoomG k X.A)
    (hb : BindsTo s fd ⟨us, kw⟩ (ps.zip ws)) (hx : Passes CX X E) (I : Inv X pins σ H s) (r : Vals vs ws) (h : sp vs H Q E) : wpAny (model X.prog X.w) X.A (call (.ref f) us kw) (EP X pins σ Q) X.xe s := by
  refine wpAny_call (codeAny_mono (F.run X.A X.stack s H ⟨us, kw⟩ ws vs Q E hr I.env0 hb r h) fun y s' z => ?_)
  match y, z with
  | .error e, z => exact hx pins σ H s e s' I z
  | .ok (.ret u), z => exact I.after z
  | .ok .next, z => exact z.elim
  | .ok .brk, z => exact z.elim
  | .ok .cont, z => exact z.elim
def tG (sp : Sp) (E : XK) (t : TA) : TE := fun σ H Q => t σ H fun vs H1 => sp vs H1 Q E
/-- plain positional binding -/
def BndP (x : Str) (st : Stmt) (ps : List Str) : Prop :=
  ∀ (kV doc pm cdv ct : Value) (an : Option Addr) (us : List Value), us.length = ps.length → bindArgs (PySem.W.fnOf x x (defArgs st) (defBody st) (defScope st) .none kV doc pm an cdv ct) ⟨us, []⟩ = pure (ps.zip us)
/-- x(e, ..) -/
theorem pe_g (c : Nm X.prog X.w X.K X.mg X.base CX k x st ps sp) (hr : RoomG j X.A) (hk : k ≤ j) (hx : Passes CX X E) (b : BndP x st ps) (hg : Gl X x) (ha : PA X (e :: es) t)
    (hdb : (x == ("__debug__" : Str)) = false := by decide) (he : starEach (e :: es) X.env = (false, eval e X.env) :: starEach es X.env := by rfl) (hpl : (backTo pos (starEach es X.env)).any (·.1) = false := by rfl) :
    PE X (.Call (.Name x p) (e :: es) [] pos) (tG sp E t) := by
  obtain ⟨f, fd, F, hm, G⟩ := c.ex
  have kp := F.kp
  obtain ⟨oc, od, kV, doc, pm, an, cdv, ct, osl, rfl, lk, hcd⟩ := F.ex
  refine ⟨fun pins s σ H Q I h => wpAny_Call_Name_kw (ld_glob I hg hm (PySem.W.callWith_K (h₀ := X.base) I.ok.mod.kin kp (thn (ha.run pos pins s σ H _ I h) fun us s1 ⟨vs, H1, I1, r, q⟩ => ⟨I1.kIn, ?_⟩) he hpl) hdb)⟩
  have q' : sp vs H1 Q E := q
  have h0 := r.length
  have h1 := G.len _ _ _ _ q'
  exact run_g (kw := []) G (hr.mono hk) (.of_eq (b kV doc pm cdv ct an us (by omega))) hx I1 r q'
end
theorem law_g {P : Program} {w : World} {K : PySem.W.Frag} {mg mb : Str → Option Value} {CX : CXT} {k : Nat} {a fa : Addr} {fd : FuncData} {x : Str} {sp : Sp} {s₁ : Shared} {vs : List Value} {ns : List Int}
    (KX : K.In s₁.heap) (hG : s₁.heap.Ns mainGlobals mg) (hB : s₁.heap.Ns builtinsNs mb) (hBB : ∀ x : Str, x ≠ "__name__" → mb x = bootBuiltins x) (hL : s₁.heap.NoLimit) (hgen : s₁.gens = #[])
    (ha : s₁.heap.get? a = some { cls := .type "list", data := .seq vs.toArray }) (hi : IntsAre vs ns) (hl : ns.length ≤ sizeLine) (hr : RoomG k callerA)
    (F : ∀ base : Heap, K.In base → base.Ns mainGlobals mg → FnG P w K mg base CX k fa fd [x] sp) (hbind : ∀ (s : Shared) (u : Value), BindsTo s fd ⟨[u], []⟩ [(x, u)])
    (hsp : ∀ H : Hp, SqL K H a (ns.map V.int) → (∀ b, H b = none ∨ b = a) → sp [.ref a] H (fun v _ => v = .bl true) fun _ _ _ => False)
    (hCX : ∀ H e s', CX [] H s₁ (fun _ _ _ => False) e s' → False) :
    codeAny (model P w) callerA (.call (.ref fa) ⟨[.ref a], []⟩) (fun r s' => r = .ok (.ret (.bool true)) ∧ OldK s₁.heap s'.heap ∧ s'.os = s₁.os ∧ AllBare s'.gens) s₁ := by
  -- the script is tracked, locked, where it is no object of the text's own
  let so : Obj := { cls := .type "list", data := .seq vs.toArray }
  have main : ∀ H : Hp, (∀ b, H b = none ∨ (b = a ∧ K.lookup a = none ∧ H b = some (.frz so (.lst (ns.map V.int))))) → SqL K H a (ns.map V.int) → HOk P w H s₁.heap →
      codeAny (model P w) callerA (.call (.ref fa) ⟨[.ref a], []⟩) (fun r s' => r = .ok (.ret (.bool true)) ∧ OldK s₁.heap s'.heap ∧ s'.os = s₁.os ∧ AllBare s'.gens) s₁ := by
    intro H only hS hok
    have isNone : ∀ {b : Addr} {o : Obj}, s₁.heap.get? b = some o → (∀ (y : H b = some (.frz so (.lst (ns.map V.int)))), b = a → K.lookup a = none → o = so → False) → H b = none := fun {b o} e n => by
      rcases only b with q | ⟨q1, q2, q3⟩
      · exact q
      · refine (n q3 q1 q2 ?_).elim
        subst q1
        exact Option.some.inj (e.symm.trans ha)
    have nsOf : ∀ {b : Addr} {m : Str → Option Value}, s₁.heap.Ns b m → (hidT s₁.heap H).Ns b m := fun {b m} ⟨o, es, ep, e, d, r⟩ =>
      ⟨o, es, ep, hidT_get e (isNone e fun _ _ _ z => by subst z; cases d), d, r⟩
    have hK : K.In (hidT s₁.heap H) := fun b o e => hidT_get (KX b o e) (isNone (KX b o e) fun _ y z _ => by subst y; rw [z] at e; cases e)
    have hM : Mod K mg (hidT s₁.heap H) := ⟨hK, nsOf hG, ⟨mb, nsOf hB, hBB⟩, hL.elim fun mc z => ⟨mc, nsOf z.1, z.2⟩⟩
    have nofr : ∀ b : Addr, b ∉ frs ([] : List Env) := fun b z => by cases z
    have e0 : Env0 P w K mg (hidT s₁.heap H) callerA [] s₁ H := ⟨rfl, hM, fun b o e => of_hidT e, by rw [hidT_size] <;> exact Nat.le_refl _, trivial, fun b z => (nofr b z).elim, hok, .of_eq hgen⟩
    have hs : sp [.ref a] H (fun v _ => v = .bl true) fun _ _ _ => False := hsp H hS fun b => (only b).elim Or.inl fun z => Or.inr z.1
    refine codeAny_mono ((F _ hK (nsOf hG)).run callerA [] s₁ H ⟨[.ref a], []⟩ [.ref a] [.ref a] _ _ hr e0 (hbind s₁ (.ref a)) (.cons rfl .nil) hs) fun r s' z => ?_
    match r, z with
    | .error e, z => exact (hCX H e s' z).elim
    | .ok .next, z => exact z.elim
    | .ok .brk, z => exact z.elim
    | .ok .cont, z => exact z.elim
    | .ok (.ret u), ⟨v, H', os, bare, un, hok', rv, q⟩ =>
      obtain rfl : v = .bl true := q
      obtain rfl : u = Value.bool true := rv
      refine ⟨rfl, OldK.of_keep fun b o e => ?_, os, bare⟩
      rcases only b with y | ⟨_, _, y⟩
      · exact un.keep b o e y (nofr b) (by intro c; cases c)
      · obtain ⟨e1, _⟩ := hok b _ y
        obtain ⟨e2, _⟩ := hok' b _ (un.frzs b _ _ y)
        exact e2.trans (e1.symm.trans e)
  cases hk : K.lookup a with
  | some o =>
    have e : o = so := Option.some.inj ((KX a o hk).symm.trans ha)
    subst e
    exact main (fun _ => none) (fun _ => .inl rfl) (.inr ⟨so, vs.toArray, _, hk, rfl, rfl, rfl, by rw [List.size_toArray, hi.length]; exact hl, by simpa using vals_ints hi⟩) fun b u z => by cases z
  | none =>
    have at_a : (fun b : Addr => if b = a then some (HO.frz so (.lst (ns.map V.int))) else none) a = some (HO.frz so (.lst (ns.map V.int))) := if_pos rfl
    refine main (fun b => if b = a then some (.frz so (.lst (ns.map V.int))) else none) (fun b => ?_) (.inl (.inr ⟨so, at_a⟩)) fun b u z => ?_
    · by_cases y : b = a
      · exact .inr ⟨y, hk, if_pos y⟩
      · exact .inl (if_neg y)
    · by_cases y : b = a
      · subst y
        obtain rfl : HO.frz so (.lst (ns.map V.int)) = u := Option.some.inj (at_a.symm.trans z)
        exact ⟨ha, by rw [List.length_map] <;> exact hl, vs, _, vals_ints hi, ha⟩
      · have z' : (none : Option HO) = some u := (if_neg y).symm.trans z
        cases z'
theorem walk_g {l : PySem.W.OpenLaw} {n k : Nat} {q : Program} {loose : List Str} {XP : (Str → Option Value) → Heap → Prop} {YP : World → Heap → Prop} {d : DefRec} {K : Params → PySem.W.Frag} {CX : World → CXT} {sp : World → Sp} {x : Str}
    (hn : l.most = some n) (hn2 : n ≤ sizeLine) (hdf : d.params.defaults = []) (hr : RoomG k callerA) (hY : ∀ (w : World) (h : Heap), YP w h → (K w.params).In h)
    (F : ∀ (w : World) (mg : Str → Option Value) (fa : Addr) (h : Heap), (K w.params).In h → h.Ns mainGlobals mg → mg d.name = some (.ref fa) →
      ∃ fd : FuncData, (∀ (s : Shared) (u : Value), BindsTo s fd ⟨[u], []⟩ [(x, u)]) ∧ ∀ base : Heap, (K w.params).In base → base.Ns mainGlobals mg → FnG l.prog w (K w.params) mg base (CX w) k fa fd [x] (sp w))
    (hsp : ∀ (w : World) (H : Hp) (a : Addr) (ns : List Int), ns.length ≤ n → SqL (K w.params) H a (ns.map V.int) → (∀ b, H b = none ∨ b = a) → sp w [.ref a] H (fun v _ => v = .bl true) fun _ _ _ => False)
    (hCX : ∀ (w : World) (H : Hp) (s : Shared) (e : Value) (s' : Shared), CX w [] H s (fun _ _ _ => False) e s' → False) : PySem.W.WalkO q loose XP YP l.row.toRowW d [] (fun f vs => PySem.call f vs) := by
  refine Att.attach_call hn hdf fun w s₀ s₁ mg mb fa o pm cd doc a vs ns G Y ho hd hcd hmg hobj hints hlen hg => ?_
  obtain ⟨fd, hb, hF⟩ := F w mg fa _ (hY w _ Y) G.T.g hmg
  exact law_g (hY w _ Y) G.T.g G.T.b G.T.builtins G.T.nolimit hg hobj hints (Nat.le_trans hlen hn2) hr hF hb (fun H hS hO => hsp w H a ns hlen hS hO) fun H e s' => hCX w H s₁ e s'
theorem roomTop {k : Nat} (h : k ≤ 60 := by decide) : RoomG k callerA := ⟨⟨rfl, by show 1 + claimMargin + 3 * k + 5 < recursionLimit; have : claimMargin + 200 < recursionLimit := (by decide); omega, by show 4 + 16 * k + 200 < cLine; have : 2000 < cLine := (by decide); omega⟩, rfl⟩
open PySem PySem.Spec PyProof.Rows L2
section
variable {X : Cx} {K : PySem.W.Frag}
theorem ix_seqK (e : X.K = K) : IxR X (rIx K) := by subst e; exact ix_seq
theorem call_lenK (e : X.K = K) : CallR X (.builtin "len") (fun xs H Q => ∃ x n, xs = [x] ∧ LenV K x H n ∧ Q (.int n) H) := by subst e; exact call_len
theorem call_allK (e : X.K = K) (hc : X.calm = true) : CallR X (.builtin "all") (rAll K) := by subst e; exact cr_all hc
theorem pi_listK {tg l : Expr} {tl : TE} (e : X.K = K) (hl : PE X l tl) : PI X tg l (iList K tl) := by subst e; exact pi_list hl
/-- a built-in class by its name, a constant of the text -/
theorem pe_ty {x : Str} {pos : Pos} (n : String) (hg : Gl X x) (hm : X.mg x = none) (hv : bootBuiltins x = some (.type n)) (hn : x ≠ "__name__" := by decide) (hd : (x == ("__debug__" : Str)) = false := by decide) : PE X (.Name x pos) (tC (.ty n)) :=
  pe_bltn hg hm hv rfl hn hd
theorem pe_cst {x : Str} {pos : Pos} {v : V} (hg : Gl X x) (h : ∃ u, X.mg x = some u ∧ RelV v u) (hd : (x == ("__debug__" : Str)) = false := by decide) : PE X (.Name x pos) (tC v) :=
  let ⟨_, hm, r⟩ := h
  pe_glob hg hm r hd
end
open PySem PySem.Spec PyProof.Rows L2
def tLt (a b : Str) : Bool := decide (a.cps.toList < b.cps.toList)
/-- rising -/
abbrev TS (ys : List Str) : Prop := ys.Pairwise fun a b => tLt b a = false
open PySem PySem.Spec PyProof.Rows L2
theorem RoomG.in1 {k : Nat} {A : Around} (x : RoomG (k + 1) A) : RoomG k A.in1 := ⟨x.r.in1, x.g⟩
theorem RoomG.make {k : Nat} {A : Around} (x : RoomG (k + 1) A) (C : Addr) (us : List Value) (kw : List (Str × Value)) : RoomG k (A.under (.builtin "type.__call__" ⟨.ref C :: us, kw⟩)) :=
  ⟨x.r.make C us kw, by
    show pushGuards (Code.guards (.builtin "type.__call__" ⟨.ref C :: us, kw⟩)) A.guards = _
    rw [x.g]
    have e : Code.isGuard (.builtin "type.__call__" ⟨.ref C :: us, kw⟩) = false := by first | rfl | decide | (unfold Code.isGuard; decide)
    unfold Code.guards
    rw [e]
    rfl⟩
open PySem PySem.Spec PySem.Calls PyProof.Rows L2
open PySem PySem.Spec PySem.Calls PyProof.Rows L2
open PySem PySem.Spec PySem.Calls PyProof.Rows L2
open PySem PySem.Spec PySem.Calls PyProof.Rows L2
open PySem PySem.Spec PySem.Calls PyProof.Rows L2
open PySem PySem.Spec PyProof.Rows
open L2 hiding pass0
/-- the fields as they stand behind the stores: the last one first -/
def fld (fs : List Str) (vs : List V) : List (Str × V) := (fs.zip vs).reverse
/-- C's own __init__ (self, ..): lays the fields fs -/
def spErrG (C : Addr) (fs : List Str) : Sp := fun vs H Q _ => ∃ (a : Addr) (ys : List V), vs = .ref a :: ys ∧ ys.length = fs.length ∧ H a = some (exo a C none) ∧ ∀ dx, H dx = none → dx ≠ a → Q .non (upd (upd H dx (exd dx (fld fs ys))) a (exo a C (some dx)))
structure ErrG (P : Program) (w : World) (K : PySem.W.Frag) (mg : Str → Option Value) (base : Heap) (x : Str) (C : Addr) (fs : List Str) : Prop where
  ox : ∃ B nw ini tail, ExB.Base B nw ini tail ∧ ExB.OexG K C nw tail
  nm : mg x = some (.ref C)
  ini : ∃ (fI : Addr) (fd : FuncData), PySem.W.findIn K (.ref C) "__init__" = some (some (.ref fI)) ∧ PySem.W.typeIn K (.ref fI) = some (.type "function") ∧ FnOk P w K mg base (fun _ _ _ _ _ _ => False) 2 fI fd ("self" :: fs) (spErrG C fs) ∧ Binds K fd ("self" :: fs) []
/-- the new exception's own field laid twice: the last one stands -/
theorem lay_two {H : Hp} {a dx : Addr} {o1 o2 u : HO} (ne : dx ≠ a) : upd (upd (upd H dx o1) a u) dx o2 = upd (upd H dx o2) a u := by
  funext b
  by_cases h1 : b = dx
  · subst h1
    rw [upd_same, upd_ne ne, upd_same]
  · rw [upd_ne h1]
    by_cases h2 : b = a
    · subst h2
      rw [upd_same, upd_same]
    · rw [upd_ne h2, upd_ne h2, upd_ne h1, upd_ne h1]
theorem errG_go {C : Addr} {fs : List Str} {vs : List V} {H1 : Hp} {Q : XK} (hl : vs.length = fs.length) (hz : vs.length ≤ 1000) (q : ∀ d, H1 d = none → Q (.ref C) (some d) (upd H1 d (.xd (fld fs vs)))) :
    vs.length ≤ 1000 ∧ ∀ a, H1 a = none → spErrG C fs (.ref a :: (vs ++ [])) (upd H1 a (exo a C none))
      (fun u H2 => u = .non ∧ ∃ (d : Addr) (gs : List (Str × V)), H2 a = some (exo a C (some d)) ∧ H2 d = some (exd d gs) ∧ H1 d = none ∧ Q (.ref C) (some d) (upd (del H2 a) d (.xd gs))) (fun _ _ _ => False) := by
  refine ⟨hz, fun a na => ⟨a, vs, by rw [List.append_nil], hl, upd_same, fun dx nd ne => ⟨rfl, dx, fld fs vs, upd_same, ?_, ?_, ?_⟩⟩⟩
  · rw [upd_ne ne, upd_same]
  · rw [upd_ne ne] at nd
    exact nd
  · rw [upd_ne ne] at nd
    have e : upd (del (upd (upd (upd H1 a (exo a C none)) dx (exd dx (fld fs vs))) a (exo a C (some dx))) a) dx (.xd (fld fs vs)) = upd H1 dx (.xd (fld fs vs)) := by
      funext b
      by_cases h1 : b = dx
      · subst h1
        rw [upd_same, upd_same]
      · rw [upd_ne h1, upd_ne h1]
        by_cases h2 : b = a
        · subst h2
          rw [del_same, na]
        · rw [del_ne h2, upd_ne h2, upd_ne h1, upd_ne h2]
    rw [e]
    exact q dx nd
def tRaiseG (C : Addr) (fs : List Str) (ta : TA) (W : WX) : L2.TS := fun _ σ H => ta σ H fun vs H1 => vs.length ≤ 1000 ∧ ∀ a, H1 a = none → spErrG C fs (.ref a :: (vs ++ [])) (upd H1 a (exo a C none))
    (fun u H2 => u = .non ∧ ∃ (d : Addr) (gs : List (Str × V)), H2 a = some (exo a C (some d)) ∧ H2 d = some (exd d gs) ∧ H1 d = none ∧ W (.ref C) (some d) σ (upd (del H2 a) d (.xd gs))) (fun _ _ _ => False)
open PySem PySem.Spec PyProof.Rows
open L2 hiding pass0
open PySem PySem.Spec PyProof.Rows LamX
open L2 hiding pass0
def rIsD (K : PySem.W.Frag) (cls : Value) (d : Option Addr) (a : Addr) : List V → Hp → VK → Prop := fun xs H Q => ∃ (D dd : Addr) (fs : List (Str × V)) (c : V) (cv : Value) (b : Bool), cls = .ref D ∧ d = some dd ∧ ExcC K D ∧ H dd = some (.xd fs) ∧ xs = [.ref a, c] ∧ (∀ u, RelV c u → u = cv) ∧ PySem.W.kitOne K (.ref D) cv = some b ∧ Q (.bl b) H
open PySem PySem.Spec PyProof.Rows
/-- an iterator over a text of small signs -/
abbrev SIt (h : Heap) (it : Addr) (x : Str) (t : Tok) (i : Nat) : Prop := h.IsStrIter it "str_ascii_iterator" x t i
theorem SIt.ext {h h' : Heap} {it b : Addr} {x : Str} {t : Tok} {i : Nat} (a : SIt h it x t i) (e : Heap.ExtBut b h h') (n : it ≠ b) : SIt h' it x t i :=
  let ⟨o, ho, r⟩ := a; ⟨o, e it o n ho, r⟩
open PySem PySem.Spec PyProof.Rows
open L2
open PySem PySem.Spec PyProof.Rows L2
open PySem PySem.Spec PyProof.Rows L2
open PySem PySem.Spec PyProof.Rows L2
open PySem PySem.Spec PyProof.Rows L2
/-- of bulk at most N, depth at most D -/
structure Fit (N D : Nat) (d : PyData) : Prop where
  lay : d.canLay0 = true
  sh : d.showable = true
  dp : d.depth ≤ D
  ls : d.leavesShort 13 = true
  bk : d.bulk ≤ N
theorem Fit.mono {N D N' D' : Nat} {d : PyData} (h : Fit N D d) (hN : N ≤ N') (hD : D ≤ D') : Fit N' D' d := ⟨h.lay, h.sh, Nat.le_trans h.dp hD, h.ls, Nat.le_trans h.bk hN⟩
theorem Fit.non {N D : Nat} : Fit N D .none := ⟨rfl, rfl, Nat.zero_le _, rfl, Nat.zero_le _⟩
theorem Fit.bool {N D : Nat} (b : Bool) : Fit N D (.bool b) := ⟨rfl, rfl, Nat.zero_le _, rfl, Nat.zero_le _⟩
theorem Fit.str {N D : Nat} {z : Str} (h : ∀ c ∈ z.cps.toList, c < 128) (l : z.length ≤ N) : Fit N D (.str z) := by
  refine ⟨?_, rfl, Nat.zero_le _, ?_, l⟩
  · show (z.cps.all fun c => decide (c < 0x110000)) = true
    refine Array.all_eq_true_iff_forall_mem.mpr fun c hc => decide_eq_true ?_
    have := h c (by simpa using hc)
    omega
  · show (z.cps.toList.all fun c => decide (c < 16 ^ 8)) = true
    exact List.all_eq_true.mpr fun c hc => decide_eq_true (by have := h c hc; have : (128 : Nat) ≤ 16 ^ 8 := by decide
                                                              omega)
theorem Fit.int {N D : Nat} {i : Int} (h : ((PyData.shown (.int i)).length ≤ 13 ∧ i.natAbs < 2 ^ 1000)) : Fit N D (.int i) := by
  refine ⟨rfl, ?_, Nat.zero_le _, decide_eq_true h.1, Nat.zero_le _⟩
  refine decide_eq_true ?_
  rcases Nat.eq_zero_or_pos i.natAbs with e | e
  · rw [e]; decide
  · have := (Nat.log2_lt (by omega)).mpr h.2
    omega
theorem fit_all {N D : Nat} : ∀ {ds : List PyData}, (∀ d ∈ ds, Fit N D d) → PyData.canLayAll0 ds = true ∧ PyData.showableAll ds = true ∧ PyData.depthAll ds ≤ D ∧ PyData.leavesShortAll 13 ds = true ∧ PyData.bulkAll ds ≤ (N + 1) * ds.length
  | [], _ => ⟨by simp only [PyData.canLayAll0], by simp only [PyData.showableAll], by simp only [PyData.depthAll]; omega, by simp only [PyData.leavesShortAll], by simp only [PyData.bulkAll]; omega⟩
  | d :: ds, h => by
    have h1 := h d (List.mem_cons_self ..)
    obtain ⟨a1, a2, a3, a4, a5⟩ := fit_all (ds := ds) fun x hx => h x (List.mem_cons_of_mem _ hx)
    have b3 := h1.dp
    have b5 := h1.bk
    refine ⟨?_, ?_, ?_, ?_, ?_⟩
    · simp only [PyData.canLayAll0, h1.lay, a1, Bool.and_self]
    · simp only [PyData.showableAll, h1.sh, a2, Bool.and_self]
    · simp only [PyData.depthAll]; omega
    · simp only [PyData.leavesShortAll, h1.ls, a4, Bool.and_self]
    · simp only [PyData.bulkAll, List.length_cons]
      rw [Nat.mul_add]
      omega
theorem Fit.list {N D : Nat} {ds : List PyData} (h : ∀ d ∈ ds, Fit N D d) : Fit ((N + 1) * ds.length) (D + 1) (.list ds) := by
  obtain ⟨a1, a2, a3, a4, a5⟩ := fit_all h
  exact ⟨by simpa only [PyData.canLay0] using a1, by simpa only [PyData.showable] using a2, by simp only [PyData.depth]; omega, by simpa only [PyData.leavesShort] using a4, by simpa only [PyData.bulk] using a5⟩
theorem Fit.tuple {N D : Nat} {ds : List PyData} (h : ∀ d ∈ ds, Fit N D d) : Fit ((N + 1) * ds.length) (D + 1) (.tuple ds) := by
  obtain ⟨a1, a2, a3, a4, a5⟩ := fit_all h
  exact ⟨by simpa only [PyData.canLay0] using a1, by simpa only [PyData.showable] using a2, by simp only [PyData.depth]; omega, by simpa only [PyData.leavesShort] using a4, by simpa only [PyData.bulk] using a5⟩
open PySem PySem.Spec PyProof.Rows L2
section
variable {X : Cx} {pins : List (Addr × Obj)} {σ : L2.St} {H : Hp} {s : Shared}
/-- a list display; its place is not that of sys.modules -/
def tLstN (t : TA) : TE := fun σ H Q => t σ H fun xs H1 => xs.length ≤ sizeLine ∧ ∀ p, H1 p = none → p ≠ sysModules → Q (.ref p) (upd H1 p (.lst xs))
theorem pe_lstN {es : List Expr} {t : TA} {pos : Pos} (h : PA X es t) : PE X (.List es pos) (tLstN t) := by
  refine ⟨fun pins s σ H Q I hq => ?_⟩
  refine wpAny_List_spliced (thn (h.run pos pins s σ H _ I hq) fun us s1 ⟨xs, H1, I1, r, z, q⟩ => ⟨by rw [← r.length]; exact z, ?_⟩)
  have hf : H1 s1.heap.objs.size = none := I1.hok.fresh (Nat.le_refl _)
  refine ⟨.ref s1.heap.objs.size, upd H1 s1.heap.objs.size (.lst xs), I1.laid (t' := s1.toks) (fun b u e => Heap.get?_push_of_some _ e) (Nat.le_refl _) ?_, rfl, q _ hf (Ne.symm (Nat.ne_of_lt I1.big))⟩
  exact ⟨z, us, 0, r, Heap.get?_push_size _ rfl⟩
end
theorem fit_kv {N D : Nat} : ∀ {ds : List (PyData × PyData)}, (∀ p ∈ ds, Fit N D p.1 ∧ Fit N D p.2) → PyData.showableKv ds = true ∧ PyData.depthKv ds ≤ D ∧ PyData.leavesShortKv 13 ds = true ∧ PyData.bulkKv ds ≤ (2 * N + 2) * ds.length
  | [], _ => ⟨by simp only [PyData.showableKv], by simp only [PyData.depthKv]; omega, by simp only [PyData.leavesShortKv], by simp only [PyData.bulkKv]; omega⟩
  | (a, b) :: ds, h => by
    obtain ⟨h1, h2⟩ := h (a, b) (List.mem_cons_self ..)
    obtain ⟨a2, a3, a4, a5⟩ := fit_kv (ds := ds) fun x hx => h x (List.mem_cons_of_mem _ hx)
    have b3 := h1.dp
    have b5 := h1.bk
    have c3 := h2.dp
    have c5 := h2.bk
    simp only at b3 b5 c3 c5
    refine ⟨?_, ?_, ?_, ?_⟩
    · simp only [PyData.showableKv, h1.sh, h2.sh, a2, Bool.and_self]
    · simp only [PyData.depthKv]; omega
    · simp only [PyData.leavesShortKv, h1.ls, h2.ls, a4, Bool.and_self]
    · simp only [PyData.bulkKv, List.length_cons]
      rw [Nat.mul_add]
      omega
open PySem PySem.Spec PyProof.Rows L2
/-- an item of such a list -/
inductive Rf (H : Hp) : V → PyData → Prop
  | atom {v : V} {d : PyData} : vD v = some d → Rf H v d
  | dct {a : Addr} {kvs : List (Key × V)} {ds : List (PyData × PyData)} : H a = some (.dK kvs) → Flat kvs ds → Rf H (.ref a) (.dict ds)
section
variable {X : Cx} {pins : List (Addr × Obj)} {σ : L2.St} {H : Hp} {s : Shared}
theorem Rf.reads (I : Inv X pins σ H s) {x : V} {d : PyData} {u : Value} (h : Rf H x d) (r : RelV x u) : ∃ as, Reads s.heap u d as ∧ sysModules ∉ as := by
  cases h with
  | atom h => exact ⟨[], vD_reads h r, by simp⟩
  | dct h1 h2 =>
    obtain ⟨as, rd, hm⟩ := Rp.reads (X := X) I (Rp.dct h1 h2) r
    exact ⟨as, rd, hm (by simp [PyData.hasDict])⟩
end
/-- small data, dicts too -/
structure FitR (N D : Nat) (d : PyData) : Prop where
  sh : d.showable = true
  dp : d.depth ≤ D
  ls : d.leavesShort 13 = true
  bk : d.bulk ≤ N
theorem Fit.r {N D : Nat} {d : PyData} (h : Fit N D d) : FitR N D d := ⟨h.sh, h.dp, h.ls, h.bk⟩
theorem FitR.mono {N D N' D' : Nat} {d : PyData} (h : FitR N D d) (hN : N ≤ N') (hD : D ≤ D') : FitR N' D' d := ⟨h.sh, Nat.le_trans h.dp hD, h.ls, Nat.le_trans h.bk hN⟩
theorem FitR.dict {N D : Nat} {ds : List (PyData × PyData)} (h : ∀ p ∈ ds, Fit N D p.1 ∧ Fit N D p.2) : FitR ((2 * N + 2) * ds.length) (D + 1) (.dict ds) := by
  obtain ⟨k1, k2, k3, k4⟩ := fit_kv h
  exact ⟨by simpa only [PyData.showable] using k1, by simp only [PyData.depth]; omega, by simpa only [PyData.leavesShort] using k3, by simpa only [PyData.bulk] using k4⟩
theorem fitR_all {N D : Nat} : ∀ {ds : List PyData}, (∀ d ∈ ds, FitR N D d) → PyData.showableAll ds = true ∧ PyData.depthAll ds ≤ D ∧ PyData.leavesShortAll 13 ds = true ∧ PyData.bulkAll ds ≤ (N + 1) * ds.length
  | [], _ => ⟨by simp only [PyData.showableAll], by simp only [PyData.depthAll]; omega, by simp only [PyData.leavesShortAll], by simp only [PyData.bulkAll]; omega⟩
  | d :: ds, h => by
    have h1 := h d (List.mem_cons_self ..)
    obtain ⟨a2, a3, a4, a5⟩ := fitR_all (ds := ds) fun x hx => h x (List.mem_cons_of_mem _ hx)
    have b3 := h1.dp
    have b5 := h1.bk
    refine ⟨?_, ?_, ?_, ?_⟩
    · simp only [PyData.showableAll, h1.sh, a2, Bool.and_self]
    · simp only [PyData.depthAll]; omega
    · simp only [PyData.leavesShortAll, h1.ls, a4, Bool.and_self]
    · simp only [PyData.bulkAll, List.length_cons]
      rw [Nat.mul_add]
      omega
theorem FitR.list {N D : Nat} {ds : List PyData} (h : ∀ d ∈ ds, FitR N D d) : FitR ((N + 1) * ds.length) (D + 1) (.list ds) := by
  obtain ⟨a2, a3, a4, a5⟩ := fitR_all h
  exact ⟨by simpa only [PyData.showable] using a2, by simp only [PyData.depth]; omega, by simpa only [PyData.leavesShort] using a4, by simpa only [PyData.bulk] using a5⟩
theorem FitR.ok {d : PyData} {N D : Nat} (h : FitR N D d) (hN : N ≤ 1048576) (hD : D ≤ 50) : PyData.showable d = true ∧ PyData.depth d ≤ 50 ∧ d.shown.length ≤ sizeLine :=
  ⟨h.sh, Nat.le_trans h.dp hD, PyData.shown_fits_bulk (by decide) (by decide) h.ls (Nat.le_trans h.bk (Nat.le_trans hN (by decide)))⟩
open PySem PySem.Spec PyProof.Rows L2
structure FitB (B N D : Nat) (d : PyData) : Prop where
  sh : d.showable = true
  dp : d.depth ≤ D
  ls : d.leavesShort B = true
  bk : d.bulk ≤ N
theorem FitB.str {B N D : Nat} {z : Str} (h : ∀ c ∈ z.cps.toList, c < 128) (l : z.length ≤ N) : FitB B N D (.str z) := by
  refine ⟨rfl, Nat.zero_le _, ?_, l⟩
  show (z.cps.toList.all fun c => decide (c < 16 ^ 8)) = true
  exact List.all_eq_true.mpr fun c hc => decide_eq_true (by
    have := h c hc
    have : (128 : Nat) ≤ 16 ^ 8 := by decide
    omega)
theorem FitB.int {B N D k : Nat} {i : Int} (hk : 0 < k) (hB : k + 1 ≤ B) (h : i.natAbs < 10 ^ k) (h2 : i.natAbs < 2 ^ 1900) : FitB B N D (.int i) := by
  refine ⟨?_, Nat.zero_le _, ?_, Nat.zero_le _⟩
  · refine decide_eq_true ?_
    rcases Nat.eq_zero_or_pos i.natAbs with e | e
    · rw [e]; decide
    · have := (Nat.log2_lt (by omega)).mpr h2
      omega
  · refine decide_eq_true ?_
    have e := int_text_length_le10 hk h
    show (Str.ofString (toString i)).length ≤ B
    rw [PySem.ofString_length]
    omega
theorem FitB.non {B N D : Nat} : FitB B N D .none := ⟨rfl, Nat.zero_le _, rfl, Nat.zero_le _⟩
theorem FitB.bool {B N D : Nat} (b : Bool) : FitB B N D (.bool b) := ⟨rfl, Nat.zero_le _, rfl, Nat.zero_le _⟩
theorem FitB.mono {B N D N' D' : Nat} {d : PyData} (h : FitB B N D d) (hN : N ≤ N') (hD : D ≤ D') : FitB B N' D' d := ⟨h.sh, Nat.le_trans h.dp hD, h.ls, Nat.le_trans h.bk hN⟩
theorem fitB_kv {B N D : Nat} : ∀ {ds : List (PyData × PyData)}, (∀ p ∈ ds, FitB B N D p.1 ∧ FitB B N D p.2) → PyData.showableKv ds = true ∧ PyData.depthKv ds ≤ D ∧ PyData.leavesShortKv B ds = true ∧ PyData.bulkKv ds ≤ (2 * N + 2) * ds.length
  | [], _ => ⟨by simp only [PyData.showableKv], by simp only [PyData.depthKv]; omega, by simp only [PyData.leavesShortKv], by simp only [PyData.bulkKv]; omega⟩
  | (a, b) :: ds, h => by
    obtain ⟨h1, h2⟩ := h (a, b) (List.mem_cons_self ..)
    obtain ⟨a2, a3, a4, a5⟩ := fitB_kv (ds := ds) fun x hx => h x (List.mem_cons_of_mem _ hx)
    have b3 := h1.dp
    have b5 := h1.bk
    have c3 := h2.dp
    have c5 := h2.bk
    simp only at b3 b5 c3 c5
    refine ⟨?_, ?_, ?_, ?_⟩
    · simp only [PyData.showableKv, h1.sh, h2.sh, a2, Bool.and_self]
    · simp only [PyData.depthKv]; omega
    · simp only [PyData.leavesShortKv, h1.ls, h2.ls, a4, Bool.and_self]
    · simp only [PyData.bulkKv, List.length_cons]
      rw [Nat.mul_add]
      omega
theorem fitB_all {B N D : Nat} : ∀ {ds : List PyData}, (∀ d ∈ ds, FitB B N D d) → PyData.showableAll ds = true ∧ PyData.depthAll ds ≤ D ∧ PyData.leavesShortAll B ds = true ∧ PyData.bulkAll ds ≤ (N + 1) * ds.length
  | [], _ => ⟨by simp only [PyData.showableAll], by simp only [PyData.depthAll]; omega, by simp only [PyData.leavesShortAll], by simp only [PyData.bulkAll]; omega⟩
  | d :: ds, h => by
    have h1 := h d (List.mem_cons_self ..)
    obtain ⟨a2, a3, a4, a5⟩ := fitB_all (ds := ds) fun x hx => h x (List.mem_cons_of_mem _ hx)
    have b3 := h1.dp
    have b5 := h1.bk
    refine ⟨?_, ?_, ?_, ?_⟩
    · simp only [PyData.showableAll, h1.sh, a2, Bool.and_self]
    · simp only [PyData.depthAll]; omega
    · simp only [PyData.leavesShortAll, h1.ls, a4, Bool.and_self]
    · simp only [PyData.bulkAll, List.length_cons]
      rw [Nat.mul_add]
      omega
theorem FitB.dict {B N D : Nat} {ds : List (PyData × PyData)} (h : ∀ p ∈ ds, FitB B N D p.1 ∧ FitB B N D p.2) : FitB B ((2 * N + 2) * ds.length) (D + 1) (.dict ds) := by
  obtain ⟨k1, k2, k3, k4⟩ := fitB_kv h
  exact ⟨by simpa only [PyData.showable] using k1, by simp only [PyData.depth]; omega, by simpa only [PyData.leavesShort] using k3, by simpa only [PyData.bulk] using k4⟩
theorem FitB.list {B N D : Nat} {ds : List PyData} (h : ∀ d ∈ ds, FitB B N D d) : FitB B ((N + 1) * ds.length) (D + 1) (.list ds) := by
  obtain ⟨a2, a3, a4, a5⟩ := fitB_all h
  exact ⟨by simpa only [PyData.showable] using a2, by simp only [PyData.depth]; omega, by simpa only [PyData.leavesShort] using a4, by simpa only [PyData.bulk] using a5⟩
theorem FitB.tuple {B N D : Nat} {ds : List PyData} (h : ∀ d ∈ ds, FitB B N D d) : FitB B ((N + 1) * ds.length) (D + 1) (.tuple ds) := by
  obtain ⟨a2, a3, a4, a5⟩ := fitB_all h
  exact ⟨by simpa only [PyData.showable] using a2, by simp only [PyData.depth]; omega, by simpa only [PyData.leavesShort] using a4, by simpa only [PyData.bulk] using a5⟩
theorem FitB.ok {B N D : Nat} {d : PyData} (h : FitB B N D d) (hB : 8 ≤ B) (hN : (B + 2) * N + B ≤ 1000000) (hD : D ≤ 50) : PyData.showable d = true ∧ PyData.depth d ≤ 50 ∧ d.shown.length ≤ sizeLine := by
  refine ⟨h.sh, Nat.le_trans h.dp hD, ?_⟩
  have e := PyData.shown_le_bulk B hB d h.ls
  have e2 : (B + 2) * d.bulk ≤ (B + 2) * N := Nat.mul_le_mul_left _ h.bk
  rw [sizeLine_eq]
  omega
open PySem PySem.Spec PyProof.Rows
open L2 hiding pass0
/-- v shows as d: below n lists or tuples -/
def Tr (H : Hp) : Nat → V → PyData → Prop
  | 0 => fun v d => Rf H v d
  | n + 1 => fun v d => Rf H v d ∨ (∃ a xs ds, v = .ref a ∧ d = .list ds ∧ a ≠ sysModules ∧ H a = some (.lst xs) ∧ Paired (Tr H n) xs ds) ∨ ∃ a xs ds, v = .ref a ∧ d = .tuple ds ∧ a ≠ sysModules ∧ H a = some (.tup xs) ∧ Paired (Tr H n) xs ds
section
variable {X : Cx} {pins : List (Addr × Obj)} {σ : L2.St} {H : Hp} {s : Shared}
theorem tr_all {F : V → PyData → Prop} (ih : ∀ (v : V) (d : PyData) (u : Value), F v d → RelV v u → ∃ as, Reads s.heap u d as ∧ sysModules ∉ as) : ∀ {xs : List V} {ds : List PyData} {us : List Value}, Paired F xs ds → Vals xs us → ∃ as, ReadsAll s.heap us ds as ∧ sysModules ∉ as
  | _, _, _, .nil, .nil => ⟨[], .nil, by simp⟩
  | _, _, _, .cons h t, .cons r q => by
    obtain ⟨a1, r1, n1⟩ := ih _ _ _ h r
    obtain ⟨a2, r2, n2⟩ := tr_all ih t q
    exact ⟨a1 ++ a2, .cons r1 r2, fun hm => (List.mem_append.mp hm).elim n1 n2⟩
theorem tr_reads (I : Inv X pins σ H s) : ∀ (n : Nat) (v : V) (d : PyData) (u : Value), Tr H n v d → RelV v u → ∃ as, Reads s.heap u d as ∧ sysModules ∉ as := by
  intro n
  induction n with
  | zero => exact fun v d u h r => Rf.reads I h r
  | succ n ih =>
    intro v d u h r
    rcases h with h | ⟨a, xs, ds, rfl, rfl, na, ha, hp⟩ | ⟨a, xs, ds, rfl, rfl, na, ha, hp⟩
    · exact Rf.reads I h r
    · obtain rfl : u = Value.ref a := r
      obtain ⟨_, its, k, rv, ho⟩ := I.hok a _ ha
      obtain ⟨as, rd, hm⟩ := tr_all ih hp rv
      exact ⟨_, Reads.list ho rfl rfl rd, fun z => (List.mem_cons.mp z).elim (fun e => na e.symm) hm⟩
    · obtain rfl : u = Value.ref a := r
      obtain ⟨_, its, rv, o, ho, hc, k, hd⟩ := I.hok a _ ha
      obtain ⟨as, rd, hm⟩ := tr_all ih hp rv
      exact ⟨_, Reads.tuple ho hc hd (by simpa using rd), by first | exact hm | exact fun z => (List.mem_cons.mp z).elim (fun e => na e.symm) hm⟩
end
@[irreducible] def rReprT : List V → Hp → VK → Prop := fun xs H Q => ∃ (L : Addr) (ys : List V) (ds : List PyData) (n : Nat), xs = [.ref L] ∧ L ≠ sysModules ∧ H L = some (.lst ys) ∧ Paired (Tr H n) ys ds ∧
  PyData.showable (.list ds) = true ∧ PyData.depth (.list ds) ≤ 50 ∧ (PyData.list ds).shown.length ≤ sizeLine ∧ Q (.str (PyData.list ds).shown) H
section
variable {X : Cx}
theorem call_reprT (hg : X.A.guards = some []) (hu : X.A.units + 60 < cLine) : CallR X (.builtin "repr") rReprT := by
  intro pins s σ H xs us Q I r h
  unfold rReprT at h
  obtain ⟨L, ys, ds, n, rfl, hns, hL, hp, hs, hd, hz, q⟩ := h
  obtain rfl := Vals.ref1 r
  obtain ⟨_, its, k, rv, ho⟩ := I.hok L _ hL
  obtain ⟨as, rd, hm⟩ := tr_all (tr_reads I n) hp rv
  refine repr_of_reads' (Reads.list (h := s.heap) ho rfl rfl rd) hs (fun _ => ?_) hg (by omega) (fun _ _ e => e) (fun h' u tk hk => ⟨.str _, H, I.kept hk, ⟨_, rfl⟩, q⟩) hz
  exact fun z => (List.mem_cons.mp z).elim (fun e => hns e.symm) hm
/-- a tuple display; its place is not that of sys.modules -/
def tTupN (t : TA) : TE := fun σ H Q => t σ H fun xs H1 => xs.length ≤ sizeLine ∧ ∀ p, H1 p = none → p ≠ sysModules → Q (.ref p) (upd H1 p (.tup xs))
theorem pe_tupN {x1 : Nat} {es : List Expr} {t : TA} {pos : Pos} (h : PA X es t) : PE X (.Tuple es x1 pos) (tTupN t) := by
  refine ⟨fun pins s σ H Q I hq => ?_⟩
  refine wpAny_Tuple_spliced (thn (h.run pos pins s σ H _ I hq) fun us s1 z => ?_)
  obtain ⟨xs, H1, I1, r, l, q⟩ := z
  have big : s1.heap.objs.size ≠ sysModules := Ne.symm (Nat.ne_of_lt I1.big)
  have new : (s1.heap.push { cls := .type "tuple", data := .seq us.toArray } : Heap).get? s1.heap.objs.size = some ({ cls := .type "tuple", data := .seq us.toArray } : Obj) := Heap.get?_push_size _ rfl
  refine ⟨by rw [← r.length]; exact l, .ref s1.heap.objs.size, upd H1 s1.heap.objs.size (.tup xs), ?_, rfl, q _ (I1.hok.fresh (Nat.le_refl _)) big⟩
  exact I1.laid (t' := s1.toks) (fun b u e => Heap.get?_push_of_some _ e) (Nat.le_refl _) ⟨l, us, r, ⟨_, new, rfl, _, rfl⟩⟩
end
open PySem PySem.Spec PyProof.Rows
open L2 hiding pass0
/-- an exception of the class at C at a, its fields fs -/
def EvAt (H : Hp) (a C : Addr) (fs : List (Str × V)) : Prop := (fs = [] ∧ H a = some (exo a C none)) ∨ ∃ d, H a = some (exo a C (some d)) ∧ H d = some (exd d fs)
theorem EvAt.same {H H' : Hp} {a C : Addr} {fs : List (Str × V)} (h : EvAt H a C fs) (s : ∀ b o, H b = some o → H' b = some o) : EvAt H' a C fs := by
  rcases h with ⟨e, h⟩ | ⟨d, h1, h2⟩
  · exact .inl ⟨e, s _ _ h⟩
  · exact .inr ⟨d, s _ _ h1, s _ _ h2⟩
/-- C's own __init__ (self, ..): lays the fields fs -/
def spErrH (C : Addr) (fs : List Str) : Sp := fun vs H Q _ => ∃ (a : Addr) (ys : List V), vs = .ref a :: ys ∧ ys.length = fs.length ∧ H a = some (exo a C none) ∧ (fs = [] → Q .non H) ∧ (fs ≠ [] → ∀ dx, H dx = none → dx ≠ a → Q .non (upd (upd H dx (exd dx (fld fs ys))) a (exo a C (some dx))))
structure ErrH (P : Program) (w : World) (K : PySem.W.Frag) (mg : Str → Option Value) (base : Heap) (x : Str) (C : Addr) (fs : List Str) : Prop where
  ox : ∃ B nw ini tail, ExB.Base B nw ini tail ∧ ExB.OexG K C nw tail
  nm : mg x = some (.ref C)
  ini : ∃ (fI : Addr) (fd : FuncData), PySem.W.findIn K (.ref C) "__init__" = some (some (.ref fI)) ∧ PySem.W.typeIn K (.ref fI) = some (.type "function") ∧ FnOk P w K mg base (fun _ _ _ _ _ _ => False) 2 fI fd ("self" :: fs) (spErrH C fs) ∧ Binds K fd ("self" :: fs) [] ∧
    ∀ (s : Shared) (u : Value) (ws : List Value), ws.length = fs.length → BindsTo s fd ⟨[u], fs.reverse.zip ws⟩ ((("self" : Str) :: fs).zip (u :: ws.reverse))
theorem ErrH.toG {P : Program} {w : World} {K : PySem.W.Frag} {mg : Str → Option Value} {base : Heap} {x : Str} {C : Addr} {fs : List Str} (c : ErrH P w K mg base x C fs) (n : fs ≠ []) : ErrG P w K mg base x C fs := by
  obtain ⟨fI, fd, h1, h2, F, h4, _⟩ := c.ini
  refine ⟨c.ox, c.nm, fI, fd, h1, h2, ⟨fun vs H Q E h => F.len vs H Q E ?_, fun A outer s H args us vs Q E hr e0 bt rv hs => F.run A outer s H args us vs Q E hr e0 bt rv ?_⟩, h4⟩
  · obtain ⟨a, ys, e, l, ha, k⟩ := h
    exact ⟨a, ys, e, l, ha, fun z => absurd z n, fun _ => k⟩
  · obtain ⟨a, ys, e, l, ha, k⟩ := hs
    exact ⟨a, ys, e, l, ha, fun z => absurd z n, fun _ => k⟩
/-- C(e, ..): a new exception -/
def tMkE (C : Addr) (fs : List Str) (ta : TA) : TE := fun σ H Q => ta σ H fun vs H1 => vs.length = fs.length ∧ vs.length ≤ 1000 ∧ ∀ a H2, H1 a = none → Same H1 H2 → EvAt H2 a C (fld fs vs) → Q (.ref a) H2
/-- C(k = e, ..), the keywords from the last one -/
def tMkK (C : Addr) (fs : List Str) (tk : TA) : TE := fun σ H Q => tk σ H fun ws H1 => ws.length = fs.length ∧ ws.length ≤ 1000 ∧ ∀ a H2, H1 a = none → Same H1 H2 → EvAt H2 a C (fld fs ws.reverse) → Q (.ref a) H2
theorem vals_rv : ∀ {zs : List V} {ws : List Value}, Vals zs ws → Vals zs.reverse ws.reverse
  | _, _, .nil => .nil
  | _, _, .cons r t => by
    rw [List.reverse_cons, List.reverse_cons]
    exact (vals_rv t).append (.cons r .nil)
section
variable {X : Cx}
theorem spErrH_go {C a : Addr} {fs : List Str} {vs : List V} {H1 : Hp} {Q : VK} (na : H1 a = none) (hl : vs.length = fs.length) (q : ∀ H2, Same H1 H2 → EvAt H2 a C (fld fs vs) → Q (.ref a) H2) :
    spErrH C fs (.ref a :: vs) (upd H1 a (exo a C none)) (fun u H2 => u = .non ∧ Q (.ref a) H2) (fun _ _ _ => False) := by
  have s0 : ∀ {b : Addr} {o : HO}, H1 b = some o → upd H1 a (exo a C none) b = some o := fun {b o} e => (upd_ne (ne_of_none e na)).trans e
  refine ⟨a, vs, rfl, hl, upd_same, fun e => ⟨rfl, q _ (fun b o e => s0 e) (.inl ⟨by rw [e]; rfl, upd_same⟩)⟩, fun _ dx nd ne => ⟨rfl, q _ (fun b o e => ?_) (.inr ⟨dx, upd_same, (upd_ne ne).trans upd_same⟩)⟩⟩
  have nba : b ≠ a := ne_of_none e na
  have nbd : b ≠ dx := ne_of_none (s0 e) nd
  exact (upd_ne nba).trans ((upd_ne nbd).trans (s0 e))
theorem run_mkH {x : Str} {C : Addr} {fs : List Str} {j : Nat} {pins : List (Addr × Obj)} {σ : L2.St} {H1 : Hp} {s : Shared} {Q : VK} {us : List Value} {kw : List (Str × Value)} {vs : List V} {all : List Value} (c : ErrH X.prog X.w X.K X.mg X.base x C fs) (hr : Room j X.A) (hj : 3 ≤ j)
    (I1 : Inv X pins σ H1 s) (hz : us.length ≤ 1000) (hbt : ∀ (fI : Addr) (fd : FuncData) (n : Addr) (s' : Shared), X.K.In s'.heap → Binds X.K fd ("self" :: fs) [] → (∀ (s : Shared) (u : Value) (ws : List Value), ws.length = fs.length → BindsTo s fd ⟨[u], fs.reverse.zip ws⟩ ((("self" : Str) :: fs).zip (u :: ws.reverse))) → BindsTo s' fd ⟨.ref n :: us, kw⟩ ((("self" : Str) :: fs).zip (.ref n :: all)))
    (ra : Vals vs all) (hl : vs.length = fs.length) (q : ∀ a H2, H1 a = none → Same H1 H2 → EvAt H2 a C (fld fs vs) → Q (.ref a) H2) : wpAny (model X.prog X.w) X.A (call (.ref C) us kw) (EP X pins σ Q) X.xe s := by
  obtain ⟨B, nw, ini, tail, Z, T⟩ := c.ox
  obtain ⟨nm, qq, N, bs, bm, sn, sub, ab, col, dd, k0, k1, k2, k3, k5, hC, hbm⟩ := T.cls
  obtain ⟨fI, fd, iC, tI, F1, hb, hk⟩ := c.ini
  obtain ⟨hp, g, dr, tk, os⟩ := s
  let n := hp.objs.size + 1
  let hp2 := (hp.push (PySem.W.kdv_tup us)).push (PySem.HandSPX.excO C hp.objs.size)
  have hsz : hp.objs.size ≤ n := Nat.le_succ _
  have na : H1 n = none := I1.hok.fresh hsz
  have kk : ∀ b o, hp.get? b = some o → hp2.get? b = some o := fun b o e => Heap.get?_push_of_some _ (Heap.get?_push_of_some _ e)
  have hget : hp2.get? n = some (PySem.HandSPX.excO C hp.objs.size) := by
    show ((hp.push (PySem.W.kdv_tup us)).push (PySem.HandSPX.excO C hp.objs.size)).get? (hp.objs.size + 1) = _
    heap_get
  have I2 : Inv X pins σ (upd H1 n (exo n C none)) ⟨hp2, g, dr, tk, os⟩ := I1.laid (t' := tk) (a := n) (o := exo n C none) (h' := hp2) kk hsz (exo_ok hget)
  have hus : us.length ≤ sizeLine := by
    rw [sizeLine_eq]
    omega
  refine wpAny_call (ExK.call_kw Z.f (fun Y => PySem.W.excTail_contains Y bm hbm) (I1.kIn _ _ hC) (PySem.W.looks_findIn I1.kIn iC) (fun self => PySem.W.bind_fn I1.kIn self tI) hus
    (codeAny_mono (F1.run _ X.stack _ _ ⟨Value.ref n :: us, kw⟩ (Value.ref n :: all) (V.ref n :: vs) _ (fun _ _ _ => False) ((hr.mono hj).make C us kw) (I2.env0.make C us kw) (hbt fI fd n _ I2.kIn hb hk) (.cons rfl ra) (spErrH_go na hl fun H2 s2 e2 => q n H2 na s2 e2)) fun r s' z => ?_))
  match r, z with
  | .error er, z => exact (show False from z).elim
  | .ok .next, z => exact z.elim
  | .ok .brk, z => exact z.elim
  | .ok .cont, z => exact z.elim
  | .ok (.ret u), z =>
    obtain ⟨v, H', I3, rv, ev, q3⟩ := I2.after z
    subst ev
    exact ⟨rv, ⟨V.ref n, H', I3, rfl, q3⟩⟩
theorem pe_mkE {x : Str} {C : Addr} {fs : List Str} {j : Nat} {e : Expr} {es : List Expr} {ta : TA} {p pos : Pos} (c : ErrH X.prog X.w X.K X.mg X.base x C fs) (hr : Room j X.A) (hj : 3 ≤ j) (hg : Gl X x) (ha : PA X (e :: es) ta)
    (hdb : (x == ("__debug__" : Str)) = false := by decide) (he : starEach (e :: es) X.env = (false, eval e X.env) :: starEach es X.env := by rfl) (hpl : (backTo pos (starEach es X.env)).any (·.1) = false := by rfl) :
    PE X (.Call (.Name x p) (e :: es) [] pos) (tMkE C fs ta) := by
  obtain ⟨B, nw, ini, tail, Z, T⟩ := c.ox
  refine ⟨fun pins s σ H Q I h => ?_⟩
  refine wpAny_Call_Name_kw (ld_glob I hg c.nm ?_ hdb)
  refine PySem.W.callWith_K (h₀ := X.base) I.ok.mod.kin T.kC (thn (ha.run pos pins s σ H _ I h) fun us s1 ⟨vs, H1, I1, r, l, hz, q⟩ => ⟨I1.kIn, ?_⟩) he hpl
  exact run_mkH c hr hj I1 (by show us.length ≤ 1000; rw [← r.length]; exact hz) (fun fI fd n s' hk hb _ => by
    have e := hb s' (Value.ref n :: us) hk (by simp [← r.length, l])
    simpa using e) r l q
theorem pe_mk0 {x : Str} {C : Addr} {j : Nat} {p pos : Pos} (c : ErrH X.prog X.w X.K X.mg X.base x C []) (hr : Room j X.A) (hj : 3 ≤ j) (hg : Gl X x) (hdb : (x == ("__debug__" : Str)) = false := by decide) :
    PE X (.Call (.Name x p) [] [] pos) (tMkE C [] tNil) := by
  obtain ⟨B, nw, ini, tail, Z, T⟩ := c.ox
  refine ⟨fun pins s σ H Q I h => ?_⟩
  refine wpAny_Call_Name_kw (ld_glob I hg c.nm ?_ hdb)
  obtain ⟨l, hz, q⟩ := h
  exact PySem.W.callWith_K0 I.kIn T.kC (run_mkH (us := []) (vs := []) (all := []) c hr hj I (Nat.zero_le _) (fun fI fd n s' hk hb _ => by
    have e := hb s' [Value.ref n] hk rfl
    simpa using e) .nil rfl q)
theorem pe_mkK {x : Str} {C : Addr} {fs : List Str} {j : Nat} {kws : List Keyword} {tk : TA} {p pos : Pos} (c : ErrH X.prog X.w X.K X.mg X.base x C fs) (hr : Room j X.A) (hj : 3 ≤ j) (hg : Gl X x) (hkw : PK X kws tk)
    (hall : (backToKw pos (keywordEach kws X.env)).all (·.1.isSome) = true := by rfl) (hks : (backToKw pos (keywordEach kws X.env)).filterMap (·.1) = fs.reverse := by rfl) (hdb : (x == ("__debug__" : Str)) = false := by decide)
    (hpl : ((backTo pos (starEach [] X.env)).any (·.1) || (backToKw pos (keywordEach kws X.env)).any (·.1.isNone)) = false := by rfl) :
    PE X (.Call (.Name x p) [] kws pos) (tMkK C fs tk) := by
  obtain ⟨B, nw, ini, tail, Z, T⟩ := c.ox
  refine ⟨fun pins s σ H Q I h => ?_⟩
  refine wpAny_Call_Name_kw (ld_glob I hg c.nm ?_ hdb)
  refine PySem.W.callWith_KW0 (h₀ := X.base) I.ok.mod.kin T.kC hall ?_ hpl
  refine thn (hkw.run pos pins s σ H _ I h) fun ws s2 ⟨zs, H2, I2, rz, l1, hz, q2⟩ => ⟨I2.kIn, ?_⟩
  rw [hks]
  exact run_mkH (us := []) (all := ws.reverse) c hr hj I2 (Nat.zero_le _) (fun fI fd n s' hk _ hb => hb s' (.ref n) ws (by rw [← rz.length, l1])) (vals_rv rz) (by rw [List.length_reverse, l1]) q2
theorem evAt_inst {pins : List (Addr × Obj)} {σ : L2.St} {H : Hp} {s : Shared} {a C : Addr} {fs : List (Str × V)} (I : Inv X pins σ H s) (h : EvAt H a C fs) : ∃ (oe : Obj) (od : Option Obj), PySem.W.InstAt s.heap a oe C od := by
  rcases h with ⟨rfl, h⟩ | ⟨d, h1, h2⟩
  · obtain ⟨t1, ho⟩ := exo_at I.hok h
    exact ⟨_, none, ⟨ho, rfl, rfl, trivial⟩⟩
  · obtain ⟨t1, ho⟩ := exo_at I.hok h1
    obtain ⟨mA, hns, hr⟩ := exd_at I.hok h2
    obtain ⟨od, ho', hl⟩ := lookIn_ns hns
    exact ⟨_, some od, ⟨ho, rfl, rfl, ho'⟩⟩
/-- e.f of an exception -/
def tXo (K : PySem.W.Frag) (f : Str) (te : TE) : TE := fun σ H Q => te σ H fun x H1 => ∃ (a C : Addr) (fs : List (Str × V)) (v : V), x = .ref a ∧ EvAt H1 a C fs ∧ XfC K C ∧ PySem.W.findIn K (.ref C) f = some none ∧ fs.lookup f = some v ∧ Q v H1
theorem pe_xo {e : Expr} {te : TE} {pos : Pos} {n : Str} (he : PE X e te) (hb : attributeBase e n X.env (eval e X.env) = eval e X.env := by rfl) : PE X (.Attribute e n pos) (tXo X.K n te) := by
  refine ⟨fun pins s σ H Q I h => ?_⟩
  refine attr_of hb (thn (he.run pins s σ H _ I h) fun u s1 hh => ?_)
  obtain ⟨x, H1, I1, rx, a, C, fs, v, ex, ea, T, hno, l, q⟩ := hh
  subst ex
  obtain rfl : u = Value.ref a := rx
  rcases ea with ⟨rfl, h⟩ | ⟨d, h1, h2⟩
  · cases l
  · obtain ⟨t1, ho⟩ := exo_at I1.hok h1
    obtain ⟨mA, hns, hr⟩ := exd_at I1.hok h2
    obtain ⟨od, ho', hl⟩ := lookIn_ns hns
    obtain ⟨u, hu, ru⟩ := RelO.some_of (v := v) (o := mA n) (by rw [← l]; exact hr n)
    have J : PySem.W.InstAt s1.heap a _ C (some od) := ⟨ho, rfl, rfl, ho'⟩
    exact HandSPX.exc_get I1.kIn J T.ga T.gg T.exC (PySem.W.findObj_own T.hdC hno rfl (by rw [hl, hu])) (handed_of ru) ⟨v, H1, I1.tok _, ru, q⟩
/-- isinstance(e, c) of an exception -/
@[irreducible] def rIsO (K : PySem.W.Frag) : List V → Hp → VK → Prop := fun xs H Q => ∃ (a C : Addr) (fs : List (Str × V)) (c : V) (cv : Value) (b : Bool), xs = [.ref a, c] ∧ EvAt H a C fs ∧ ExcC K C ∧ (∀ u, RelV c u → u = cv) ∧ PySem.W.kitOne K (.ref C) cv = some b ∧ Q (.bl b) H
theorem call_isO : CallR X (.builtin "isinstance") (rIsO X.K) := by
  intro pins s σ H xs us Q I r h
  unfold rIsO at h
  obtain ⟨a, D, fs, c, cv, b, rfl, ea, C, hcv, e, q⟩ := h
  match r with
  | .cons rx (.cons rt .nil) =>
    cases rx
    obtain rfl := hcv _ rt
    obtain ⟨oe, od, J⟩ := evAt_inst I ea
    have hcl : (PySem.W.clsIn X.K D).isSome = true := by
      obtain ⟨cd, hc, _⟩ := PySem.W.any_some C.hd
      rw [hc]; rfl
    exact PySem.W.kia_one (PySem.W.kitx_exc hcl C.hg C.hk C.hs C.ha C.hn C.ht C.hm) I.kIn J e (fun z => nomatch z) fun tk => ⟨.bl b, H, I.kept (t' := tk) fun _ _ z => z, rfl, q⟩
/-- repr(v) of a value of any shape -/
@[irreducible] def rReprV : List V → Hp → VK → Prop := fun xs H Q => ∃ (v : V) (d : PyData) (n : Nat), xs = [v] ∧ Tr H n v d ∧ PyData.showable d = true ∧ PyData.depth d ≤ 50 ∧ d.shown.length ≤ sizeLine ∧ Q (.str d.shown) H
theorem call_reprV (hg : X.A.guards = some []) (hu : X.A.units + 60 < cLine) : CallR X (.builtin "repr") rReprV := by
  intro pins s σ H xs us Q I r h
  unfold rReprV at h
  obtain ⟨v, d, n, rfl, ht, hs, hd, hz, q⟩ := h
  obtain ⟨u, rfl, ru⟩ := vals1 r
  obtain ⟨as, rd, hm⟩ := tr_reads I n v d _ ht ru
  cases rd with
  | none => exact PySem.P.repr_of_none ⟨.str _, H, I.tok _, ⟨_, rfl⟩, by simpa only [PyData.shown] using q⟩
  | bool b => exact PySem.P.repr_of_bool ⟨.str _, H, I.tok _, ⟨_, rfl⟩, by simpa only [PyData.shown] using q⟩
  | int i t => exact PySem.P.repr_of_int (by simpa [PyData.showable] using hs) ⟨.str _, H, I.tok _, ⟨_, rfl⟩, by simpa only [PyData.shown] using q⟩
  | str y t => exact PySem.P.repr_of_str (hsz := by simpa only [PyData.shown] using hz) ⟨.str _, H, I.tok _, ⟨_, rfl⟩, by simpa only [PyData.shown] using q⟩
  | list h1 h2 h3 h4 => exact repr_of_reads' (.list h1 h2 h3 h4) hs (fun _ => hm) hg (by omega) (fun _ _ e => e) (fun h' u tk hk => ⟨.str _, H, I.kept hk, ⟨_, rfl⟩, q⟩) hz
  | tuple h1 h2 h3 h4 => exact repr_of_reads' (.tuple h1 h2 h3 h4) hs (fun _ => hm) hg (by omega) (fun _ _ e => e) (fun h' u tk hk => ⟨.str _, H, I.kept hk, ⟨_, rfl⟩, q⟩) hz
  | dict h1 h2 h3 h4 h5 => exact repr_of_reads' (.dict h1 h2 h3 h4 h5) hs (fun _ => hm) hg (by omega) (fun _ _ e => e) (fun h' u tk hk => ⟨.str _, H, I.kept hk, ⟨_, rfl⟩, q⟩) hz
end
open PySem PySem.Spec PyProof.Rows
open L2 hiding pass0
def Alk (K : PySem.W.Frag) (H : Hp) : Nat → V → V → Prop
  | 0 => fun x y => (x = y ∧ flatB x = true) ∨ ∃ a, x = .ref a ∧ y = .ref a
  | n + 1 => fun x y => ((x = y ∧ flatB x = true) ∨ ∃ a, x = .ref a ∧ y = .ref a) ∨ ∃ a b xs ys, x = .ref a ∧ y = .ref b ∧ SqL K H a xs ∧ SqL K H b ys ∧ Paired (Alk K H n) xs ys
theorem vals_pos : ∀ {xs : List V} {us : List Value} {j : Nat} {u : Value}, Vals xs us → us[j]? = some u → ∃ x, xs[j]? = some x ∧ RelV x u
  | _, _, _, _, .nil, e => by simp at e
  | _, _, 0, _, .cons h _, e => by
    cases e
    exact ⟨_, rfl, h⟩
  | _, _, j + 1, _, .cons _ r, e => vals_pos (j := j) r e
theorem pair_pos {F : V → V → Prop} : ∀ {xs ys : List V} {j : Nat} {x y : V}, Paired F xs ys → xs[j]? = some x → ys[j]? = some y → F x y
  | _, _, _, _, _, .nil, e, _ => by simp at e
  | _, _, 0, _, _, .cons h _, e1, e2 => by
    cases e1
    cases e2
    exact h
  | _, _, j + 1, _, _, .cons _ r, e1, e2 => pair_pos (j := j) r e1 e2
section
variable {X : Cx} {pins : List (Addr × Obj)} {σ : L2.St} {H : Hp} {s : Shared}
theorem alk_items (I : Inv X pins σ H s) {n : Nat} {A : Around} {a b : Addr} {xs ys : List V} (ih : ∀ (x y : V) (v u : Value), Alk X.K H n x y → RelV x v → RelV y u → SeqAt.EqAt A s v u true) (ha : SqL X.K H a xs) (hb : SqL X.K H b ys) (hp : Paired (Alk X.K H n) xs ys) :
    ∃ us ws : Array Value, s.heap.IsList a us ∧ s.heap.IsList b ws ∧ us.size = ws.size ∧ ∀ j (h1 : j < us.size) (h2 : j < ws.size), SeqAt.EqAt A s us[j] ws[j] true := by
  obtain ⟨us, r1, p1, _⟩ := I.list ha
  obtain ⟨ws, r2, p2, _⟩ := I.list hb
  refine ⟨us.toArray, ws.toArray, p1.isList, p2.isList, ?_, fun j h1 h2 => ?_⟩
  · rw [List.size_toArray, List.size_toArray, ← r1.length, ← r2.length]
    exact Paired.length hp
  · have h1' : j < us.length := by simpa using h1
    have h2' : j < ws.length := by simpa using h2
    obtain ⟨x, e1, q1⟩ := vals_pos r1 (List.getElem?_eq_getElem h1')
    obtain ⟨y, e2, q2⟩ := vals_pos r2 (List.getElem?_eq_getElem h2')
    have k := ih x y _ _ (pair_pos hp e1 e2) q1 q2
    simpa using k
theorem all_trueW (n : Nat) : ((List.range n).all fun _ => true) = true := List.all_eq_true.mpr fun _ _ => rfl
theorem alk_at (I : Inv X pins σ H s) : ∀ (n : Nat) (A : Around), A.units + n < cLine → ∀ (x y : V) (v u : Value), Alk X.K H n x y → RelV x v → RelV y u → SeqAt.EqAt A s v u true := by
  have leaf : ∀ {A : Around} {x y : V} {v u : Value}, ((x = y ∧ flatB x = true) ∨ ∃ a, x = .ref a ∧ y = .ref a) → RelV x v → RelV y u → SeqAt.EqAt A s v u true := fun {A x y v u} h rx ry => by
    rcases h with ⟨rfl, f⟩ | ⟨a, rfl, rfl⟩
    · exact eqAt_same rx ry f
    · cases (show v = Value.ref a from rx)
      cases (show u = Value.ref a from ry)
      exact SeqAt.EqAt.same _
  intro n
  induction n with
  | zero => exact fun A _ x y v u h rx ry => leaf h rx ry
  | succ n ih =>
    intro A hu x y v u h rx ry
    rcases h with h | ⟨a, b, xs, ys, rfl, rfl, ha, hb, hp⟩
    · exact leaf h rx ry
    · cases (show v = Value.ref a from rx)
      cases (show u = Value.ref b from ry)
      by_cases e : a = b
      · subst e
        exact SeqAt.EqAt.same _
      · obtain ⟨us, ws, p1, p2, hz, he⟩ := alk_items I (A := A.in1) (ih A.in1 (by show A.units + 1 + n < cLine; omega)) ha hb hp
        have r := SeqAt.RcAt.lists (e := fun _ => true) p1 p2 hz (by omega) he
        rw [all_trueW] at r
        exact SeqAt.EqAt.of_refs e r
end
def rEqW (K : PySem.W.Frag) : R2 := fun x y H Q => ∃ n a b xs ys, n ≤ 50 ∧ x = .ref a ∧ y = .ref b ∧ SqL K H a xs ∧ SqL K H b ys ∧ Paired (Alk K H n) xs ys ∧ Q (.bl true) H
def rNeW (K : PySem.W.Frag) : R2 := fun x y H Q => ∃ n a b xs ys, n ≤ 50 ∧ x = .ref a ∧ y = .ref b ∧ SqL K H a xs ∧ SqL K H b ys ∧ Paired (Alk K H n) xs ys ∧ Q (.bl false) H
section
variable {X : Cx} {K : PySem.W.Frag}
theorem op_eqW (eK : X.K = K) (hu : X.A.units + 64 < cLine) : OpR X (compareOp .Eq) (rEqW K) := by
  subst eK
  intro pins s σ H x y v u Q I rx ry h
  obtain ⟨n, a, b, xs, ys, hn, rfl, rfl, ha, hb, hp, q⟩ := h
  cases (show v = Value.ref a from rx)
  cases (show u = Value.ref b from ry)
  obtain ⟨us, ws, p1, p2, hz, he⟩ := alk_items I (A := X.A.in1) (alk_at I n X.A.in1 (by show X.A.units + 1 + n < cLine; omega)) ha hb hp
  have r := SeqAt.RcAt.lists (e := fun _ => true) p1 p2 hz (by omega) he
  rw [all_trueW] at r
  exact r _ _ _ _ ⟨.bl true, H, I, rfl, q⟩
theorem op_neW (eK : X.K = K) (hu : X.A.units + 64 < cLine) : OpR X (compareOp .NotEq) (rNeW K) := by
  subst eK
  intro pins s σ H x y v u Q I rx ry h
  obtain ⟨n, a, b, xs, ys, hn, rfl, rfl, ha, hb, hp, q⟩ := h
  cases (show v = Value.ref a from rx)
  cases (show u = Value.ref b from ry)
  obtain ⟨us, ws, p1, p2, hz, he⟩ := alk_items I (A := X.A.in1) (alk_at I n X.A.in1 (by show X.A.units + 1 + n < cLine; omega)) ha hb hp
  have r := SeqAt.RcNeAt.lists (e := fun _ => true) p1 p2 hz (by omega) he
  rw [all_trueW] at r
  exact r _ _ _ _ ⟨.bl false, H, I, rfl, q⟩
end
open PySem PySem.Spec PyProof.Rows
open L2 hiding pass0
open PySem PySem.Spec PySem.Calls PyProof.Rows
open L2 hiding pass0
open PySem PySem.Spec PyProof.Rows
open L2 hiding pass0
/-- isinstance(e, c) of an exception that is held fast -/
@[irreducible] def rIsP (K : PySem.W.Frag) (cls : Value) (d : Option Addr) (a : Addr) : List V → Hp → VK → Prop := rIsD K cls d a
theorem call_isP {X : Cx} {a : Addr} {cls : Value} {d : Option Addr} {oe : Obj} (hp : (a, oe) ∈ X.pn) (hz : Zc cls d oe) (hf : ∃ vs, oe.data = .fields vs) : CallR X (.builtin "isinstance") (rIsP X.K cls d a) := by
  intro pins s σ H xs us Q I r h
  unfold rIsP at h
  obtain ⟨D, dd, fs, c, cv, b, rfl, rfl, C, ed, rfl, hcv, e, q⟩ := h
  match r with
  | .cons rx (.cons rt .nil) =>
    cases rx
    obtain rfl := hcv _ rt
    obtain ⟨ha, _⟩ := I.pin (a, oe) (List.mem_append.mpr (.inl hp))
    obtain ⟨vs, hv⟩ := hf
    have hx : ObjOk X.prog X.w H s.heap dd (.xd fs) := I.hok dd _ ed
    obtain ⟨mA, hns, _⟩ := hx
    obtain ⟨od, ho, _⟩ := lookIn_ns hns
    have J : PySem.W.InstAt s.heap a oe D (some od) := ⟨ha, hz.1, by unfold PySem.W.notCls; rw [hv] <;> rfl, by rw [hz.2]; exact ho⟩
    have hcl : (PySem.W.clsIn X.K D).isSome = true := by
      obtain ⟨cd, hc, _⟩ := PySem.W.any_some C.hd
      rw [hc]; rfl
    exact PySem.W.kia_one (PySem.W.kitx_exc hcl C.hg C.hk C.hs C.ha C.hn C.ht C.hm) I.kIn J e (fun z => nomatch z) fun tk => ⟨.bl b, H, I.kept (t' := tk) fun _ _ z => z, rfl, q⟩
/-- x(e, ..) within an except suite -/
def tHot (TT : List V → Hp → VK → Prop) (n : Nat) (t : TA) : TE := fun σ H Q => t σ H fun vs H1 => vs.length = n ∧ TT vs H1 Q
theorem pe_hot {X : Cx} {a : Addr} {oe : Obj} {pn : List (Addr × Obj)} {TT : List V → Hp → VK → Prop} {x : Str} {g : Addr} {k : Nat} {st : Stmt} {dV kV doc pm cdv ct oc : Value} {an od : Option Addr} {osl : Array (Option Value)} {Ng ps : List Str} {e : Expr} {es : List Expr} {ta : TA} {p pos : Pos}
    (lk : X.K.lookup g = some ⟨oc, od, .func (PySem.W.fnOf x x (defArgs st) (defBody st) (defScope st) dV kV doc pm an cdv ct), osl⟩) (hcg : PySem.W.codeIn X.K cdv x = true) (hk : PySem.W.keepIn X.K (.ref g) = true) (hm : X.mg x = some (.ref g)) (hb : Binds X.K (PySem.W.fnOf x x (defArgs st) (defBody st) (defScope st) dV kV doc pm an cdv ct) ps [])
    (Sg : FnScope Ng ps (defScope st)) (hr : Room (k + 1) X.A) (hg : Gl (X.suite a ((a, oe) :: pn)) x) (hs : X.stack = X.env :: X.outer) (hfr : X.env.frame = some X.env.locals) (ha : PA (X.suite a ((a, oe) :: pn)) (e :: es) ta)
    (hG : ∀ (A : Around) (outer : List Env) (s : Shared) (H : Hp) (vs : List V) (Q : VK), A.handled = some (.ref a) → TT vs H Q → ∃ t, PSs (L2H.cxH C8.CX0 X.prog X.w X.K X.mg X.base Ng x (defScope st) g cdv A outer s H C8.E0 (a, oe)) (defBody st) t ∧ t { nx := fun _ H' => Q .non H', rt := Q } (L2.start Ng vs) H)
    (hdb : (x == ("__debug__" : Str)) = false := by decide) (hst : starEach (e :: es) X.env = (false, eval e X.env) :: starEach es X.env := by rfl) (hpl : (backTo pos (starEach es X.env)).any (·.1) = false := by rfl) :
    PE (X.suite a ((a, oe) :: pn)) (.Call (.Name x p) (e :: es) [] pos) (tHot TT ps.length ta) := by
  refine ⟨fun pins s σ H Q I h => ?_⟩
  refine wpAny_Call_Name_kw (ld_glob I hg hm ?_ hdb)
  refine PySem.W.callWith_K (h₀ := X.base) I.ok.mod.kin hk (thn (ha.run pos pins s σ H _ I h) fun us s1 z => ?_) hst hpl
  obtain ⟨vs, H1, I1, r1, hl, hq⟩ := z
  refine ⟨I1.kIn, ?_⟩
  obtain ⟨p1, p2', p3, p4, p5⟩ := I1.pin (a, oe) (List.mem_append_left _ List.mem_cons_self)
  have nfr : a ∉ frs X.stack := fun hm => by
    rw [hs] at hm
    obtain ⟨e, h1, h2⟩ := List.mem_filterMap.mp hm
    rcases List.mem_cons.mp h1 with rfl | h1
    · rw [hfr] at h2
      exact p3 (Option.some.inj h2).symm
    · exact p4 (List.mem_filterMap.mpr ⟨e, h1, h2⟩)
  have e0 := I1.env0
  have kin : X.K.In s1.heap := I1.kIn
  have nol : s1.heap.NoLimit := e0.mod.nolimit.keeps fun b o e => (e0.bs b o e).1
  have run : codeAny (model X.prog X.w) (X.suite a ((a, oe) :: pn)).A (.call (.ref g) ⟨us, []⟩) (CR C8.CX0 X.stack X.prog X.w H1 s1 Q C8.E0) s1 := by
    have hkind : ∀ z ∈ ps.zip us, (defScope st).names.lookup z.1 = some .local ∨ ((defScope st).names.lookup z.1 = some .cell ∧ ((cellsFrom (s1.heap.objs.size + 1) (defScope st).names []).lookup z.1).isSome = true) := fun ⟨n, v⟩ hy => by
      rcases Sg.par n (List.of_mem_zip hy).1 with q | q
      · exact .inl q
      · exact .inr ⟨q, PySem.W.cellsFrom_some _ _ _ (.inl q)⟩
    have hb1 := hb s1 us kin (by rw [List.append_nil, ← r1.length, hl])
    rw [List.append_nil] at hb1
    refine codeAny_call_function (by have := hr.dp; show X.A.depth < _; omega) (kin _ _ lk) rfl Sg.co Sg.gen rfl (PySem.W.codeRec_of kin hcg) (hb1 _ _ _ _ ?_)
    refine wpAny_newFunctionEnv_cells Sg.kind hkind fun env he s2 x2 => ?_
    subst he
    refine ⟨nol.keeps x2.toInCall.keep, codeAny_func ?_⟩
    obtain ⟨t, ht, hq2⟩ := hG (X.suite a ((a, oe) :: pn)).A X.stack s1 H1 vs Q rfl hq
    have I2 := L2H.inv_startH (CX := C8.CX0) (E := C8.E0) Sg ⟨p1, p2', nfr, p5⟩ e0 hl r1 x2
    refine wpAny_mono (ht.run [] s2 _ H1 _ I2 hq2) (fun fl s' z => ?_) fun e s' z => z
    cases fl with
    | ret u => obtain ⟨v, σ', H', J, r2, q⟩ := z; exact ⟨v, H', J.os, J.bare, J.base, J.hok, r2, q⟩
    | next => obtain ⟨σ', H', J, q⟩ := z; exact ⟨.non, H', J.os, J.bare, J.base, J.hok, rfl, q⟩
    | brk => obtain ⟨_, _, _, q⟩ := z; exact q.elim
    | cont => obtain ⟨_, _, _, q⟩ := z; exact q.elim
  refine wpAny_call (codeAny_mono run fun r s' z => ?_)
  cases r with
  | error e => exact (show False from z).elim
  | ok fl =>
    cases fl with
    | ret u => exact I1.after z
    | next => exact z.elim
    | brk => exact z.elim
    | cont => exact z.elim
open PySem PySem.Spec PyProof.Rows
open L2 hiding pass0
section
variable {X : Cx}
theorem pmk_errN {x : Str} {C : Addr} {fs : List Str} {j : Nat} {e : Expr} {es : List Expr} {ta : TA} {p q : Pos} (c : ErrG X.prog X.w X.K X.mg X.base x C fs) (hr : Room j X.A) (hj : 3 ≤ j) (hg : Gl X x) (ha : PA X (e :: es) ta)
    (hdb : (x == ("__debug__" : Str)) = false) (hst : starEach (e :: es) X.env = (false, eval e X.env) :: starEach es X.env) (hpl : (backTo q (starEach es X.env)).any (·.1) = false) :
    L2N.PMk X (.Call (.Name x p) (e :: es) [] q) (tMkO C (spErrG C fs) [] ta) := by
  obtain ⟨fI, fd, iC, tI, F1, hb⟩ := c.ini
  obtain ⟨B, nw, ini, tail, Z, T⟩ := c.ox
  obtain ⟨nm, qq, N, bs, bm, sn, sub, ab, col, dd, k0, k1, k2, k3, k5, hC, hbm⟩ := T.cls
  intro pins s σ H Q I h
  refine wpAny_Call_Name_kw (ld_glob I hg c.nm ?_ hdb)
  refine PySem.W.callWith_K (h₀ := X.base) I.ok.mod.kin T.kC (thn (ha.run q pins s σ H _ I h) fun us s1 ⟨vs, H1, I1, r1, hz, q1⟩ => ⟨I1.kIn, ?_⟩) hst hpl
  obtain ⟨hp, g, dr, tk, os⟩ := s1
  let n := hp.objs.size + 1
  let hp2 := (hp.push (PySem.W.kdv_tup us)).push (PySem.HandSPX.excO C hp.objs.size)
  have hsz : hp.objs.size ≤ n := Nat.le_succ _
  have kk : ∀ b o, hp.get? b = some o → hp2.get? b = some o := fun b o e => Heap.get?_push_of_some _ (Heap.get?_push_of_some _ e)
  have hget : hp2.get? n = some (PySem.HandSPX.excO C hp.objs.size) := by
    show ((hp.push (PySem.W.kdv_tup us)).push (PySem.HandSPX.excO C hp.objs.size)).get? (hp.objs.size + 1) = _
    heap_get
  have I2 : Inv X pins σ (upd H1 n (exo n C none)) ⟨hp2, g, dr, tk, os⟩ := I1.laid (t' := tk) (a := n) (o := exo n C none) (h' := hp2) kk hsz (exo_ok hget)
  have hus : us.length ≤ sizeLine := by
    rw [← Paired.length r1, sizeLine_eq]
    omega
  have r2 : Vals (V.ref n :: (vs ++ [])) (Value.ref n :: (us ++ [])) := .cons rfl (r1.append .nil)
  have hq := q1 n (I1.hok.fresh hsz)
  have hl : (Value.ref n :: us ++ []).length = (("self" : Str) :: fs).length := r2.length.symm.trans (F1.len _ _ _ _ hq)
  refine wpAny_call (PySem.HandSPX.call_own Z.f (fun Y => PySem.W.excTail_contains Y bm hbm) (I1.kIn _ _ hC) (PySem.W.looks_findIn I1.kIn iC) (fun self => PySem.W.bind_fn I1.kIn self tI) hus
    (codeAny_mono (F1.run _ X.stack _ _ ⟨Value.ref n :: us, []⟩ (Value.ref n :: (us ++ [])) _ _ (fun _ _ _ => False) ((hr.mono hj).make C us []) (I2.env0.make C us []) (by have z := hb _ (Value.ref n :: us) I2.kIn hl; exact z) r2 hq) fun r s' z => ?_))
  match r, z with
  | .error er, z => exact (show False from z).elim
  | .ok .next, z => exact z.elim
  | .ok .brk, z => exact z.elim
  | .ok .cont, z => exact z.elim
  | .ok (.ret u), ⟨v, H2, os2, bare2, un2, hok2, rv, ev, d, gs, ea, ed, hd1, q2⟩ =>
    subst ev
    obtain ⟨h2, g2, d2, t2, os'⟩ := s'
    obtain ⟨t0, G, J, kG, ge, hoe, na⟩ := mk_end0 (d2 := d2) (t2 := t2) I1 hsz kk un2 hok2 os2 bare2 ea ed hd1
    exact ⟨rv, ⟨n, _, _, ⟨G, g2, d2, t2, os'⟩, _, .ref C, some d, rfl, J, kG, ge, hoe, ⟨rfl, rfl, fun vs e => by cases e; rfl⟩, rfl, rfl, na, rfl, bare2, raises_own T.exC T.tyC, q2⟩⟩
theorem ps_raiseN {x : Str} {C : Addr} {fs : List Str} {j : Nat} {W : WX} {e : Expr} {es : List Expr} {ta : TA} {p q pos : Pos} (c : ErrG X.prog X.w X.K X.mg X.base x C fs) (hr : Room j X.A) (hj : 3 ≤ j) (hc : X.calm = true) (tk : L2N.Takes X W) (hg : Gl X x) (ha : PA X (e :: es) ta)
    (hdb : (x == ("__debug__" : Str)) = false := by decide) (hst : starEach (e :: es) X.env = (false, eval e X.env) :: starEach es X.env := by rfl) (hpl : (backTo q (starEach es X.env)).any (·.1) = false := by rfl) :
    PS X (.Raise (some (.Call (.Name x p) (e :: es) [] q)) none pos) (tRaiseG C fs ta W) := L2N.ps_raise (pos := pos) hc tk (pmk_errN (p := p) (q := q) c hr hj hg ha hdb hst hpl)
end
open PySem PySem.Spec PyProof.Rows
open L2 hiding pass0
open L2 (cxOf)
def top (i : Nat) : Stmt := PySem.Challenge.pw_coverways_k10_errors.main.body.getD i (.Pass ⟨0, 0, 0, 0⟩)
abbrev s_law_pot : Stmt := top 41
theorem sc_law_pot : FnScope ["_law_script", "_law_k", "_law_cell"] ["_law_script", "_law_k"] (defScope s_law_pot) := ⟨rfl, rfl, rfl, by decide +kernel, rfl, by decide +kernel, by decide +kernel⟩
theorem bp_law_pot : BndP "_law_pot" s_law_pot ["_law_script", "_law_k"] := fun _ _ _ _ _ _ us h => match us, h with | [_, _], _ => rfl
abbrev s_law_draw : Stmt := top 42
theorem sc_law_draw : FnScope ["_law_pot_here", "_law_many", "_law_digit"] ["_law_pot_here", "_law_many"] (defScope s_law_draw) := ⟨rfl, rfl, rfl, by decide +kernel, rfl, by decide +kernel, by decide +kernel⟩
theorem bp_law_draw : BndP "_law_draw" s_law_draw ["_law_pot_here", "_law_many"] := fun _ _ _ _ _ _ us h => match us, h with | [_, _], _ => rfl
abbrev s_law_among : Stmt := top 43
theorem sc_law_among : FnScope ["_law_pot_here", "_law_some"] ["_law_pot_here", "_law_some"] (defScope s_law_among) := ⟨rfl, rfl, rfl, by decide +kernel, rfl, by decide +kernel, by decide +kernel⟩
theorem bp_law_among : BndP "_law_among" s_law_among ["_law_pot_here", "_law_some"] := fun _ _ _ _ _ _ us h => match us, h with | [_, _], _ => rfl
/-- what the top leaves of the built-in names -/
structure Txt (K : PySem.W.Frag) (mg : Str → Option Value) : Prop where
  b_len : mg "len" = none
  b_abs : mg "abs" = none
  b_max : mg "max" = none
  b_min : mg "min" = none
  b_int : mg "int" = none
  b_divmod : mg "divmod" = none
  b_range : mg "range" = none
  b_repr : mg "repr" = none
  b_all : mg "all" = none
  b_str : mg "str" = none
  b_bool : mg "bool" = none
  b_isinstance : mg "isinstance" = none
  b_tuple : mg "tuple" = none
  b_dict : mg "dict" = none
  b_list : mg "list" = none
  b_sorted : mg "sorted" = none
  b_zip : mg "zip" = none
  b_enumerate : mg "enumerate" = none
  b_sum : mg "sum" = none
  b_super : mg "super" = none
  b_ValueError : mg "ValueError" = none
  b_LookupError : mg "LookupError" = none
  b_RuntimeError : mg "RuntimeError" = none
  b_ArithmeticError : mg "ArithmeticError" = none
  b_any : mg "any" = none
def PotAt (H : Hp) (p : Addr) : Prop := ∃ a b : Int, H p = some (.lst [.int a, .int b]) ∧ 0 ≤ a ∧ 0 ≤ b ∧ b < 2147483648
/-- all that stood stands, but for the pot at p -/
structure Go (p : Addr) (H H' : Hp) : Prop where
  pot : PotAt H' p
  keep : ∀ a o, H a = some o → a ≠ p → H' a = some o
theorem Go.trans {p : Addr} {H H1 H2 : Hp} (a : Go p H H1) (b : Go p H1 H2) : Go p H H2 := ⟨b.pot, fun c o h n => b.keep c o (a.keep c o h n) n⟩
theorem Go.refl {p : Addr} {H : Hp} (h : PotAt H p) : Go p H H := ⟨h, fun _ _ e _ => e⟩
theorem Go.new {p q : Addr} {H H1 : Hp} {o : HO} (g : Go p H H1) (h : H1 q = none) : Go p H (upd H1 q o) := by
  obtain ⟨a, b, e, r⟩ := g.pot
  refine ⟨⟨a, b, by rw [upd_ne (ne_of_none e h)]; exact e, r⟩, fun c u hc n => ?_⟩
  have := g.keep c u hc n
  rw [upd_ne (ne_of_none this h)]
  exact this
theorem Go.lst {K : PySem.W.Frag} {p a : Addr} {H H' : Hp} {xs : List V} (g : Go p H H') (n : a ≠ p) (h : SqL K H a xs) : SqL K H' a xs := by
  rcases h with (h | ⟨o, h⟩) | h
  · exact .inl (.inl (g.keep _ _ h n))
  · exact .inl (.inr ⟨o, g.keep _ _ h n⟩)
  · exact .inr h
theorem Go.fresh {p q : Addr} {H H' : Hp} (g : Go p H H') (hp : PotAt H p) (h : H' q = none) : H q = none := by
  cases e : H q with
  | none => rfl
  | some o =>
    by_cases n : q = p
    · subst n
      obtain ⟨a, b, e2, _⟩ := g.pot
      rw [h] at e2
      cases e2
    · have := g.keep q o e n
      rw [h] at this
      cases this
theorem szl {n : Nat} (h : n ≤ 1000000) : n ≤ sizeLine := Nat.le_trans h (by decide)
theorem szt {n : Nat} (h : n < 1000000) : n < sizeLine := Nat.lt_of_lt_of_le h (by decide)
theorem nonn {H : Hp} {a b : Addr} {o : HO} (h' : H b = none) (h : H a = some o) : a ≠ b := ne_of_none h h'
theorem Go.kp {p a : Addr} {H H' : Hp} {o : HO} (g : Go p H H') (h : H a = some o) (n : a ≠ p) : H' a = some o := g.keep a o h n
theorem updn {H : Hp} {a b : Addr} {o u : HO} (n : b ≠ a) (h : H b = some u) : upd H a o b = some u := (upd_ne n).trans h
local macro_rules | `(tactic| walk_at "hp") => `(tactic| first | assumption | exact upd_same | exact updn (by walk_at "ne") (by walk_at "hp") | exact Go.kp (by assumption) (by walk_at "hp") (by walk_at "ne"))
local macro_rules | `(tactic| walk_at "ne") => `(tactic| first | assumption | exact Ne.symm (by assumption) | exact nonn (by assumption) (by walk_at "hp") | exact Ne.symm (nonn (by assumption) (by walk_at "hp")))
local macro_rules | `(tactic| walk_at "sq") => `(tactic| first | assumption | exact SqL.of (by walk_at "hp") | exact SqT.of (by walk_at "hp") | exact Go.lst (by assumption) (by walk_at "ne") (by walk_at "sq"))
local macro_rules | `(tactic| walk_at "sz") => `(tactic| first | assumption | exact szl (Nat.le_of_ble_eq_true rfl) | (apply szl; first | omega | (simp; omega)) | (apply szt; first | omega | (simp; omega)))
local macro_rules | `(tactic| walk_at "len") => `(tactic| first | exact Or.inl ⟨_, (by walk_at "sq"), rfl⟩ | exact ⟨(by walk_at "sz"), rfl⟩ | exact Or.inr ⟨_, (by walk_at "sq"), rfl⟩)
local macro_rules | `(tactic| walk_at "ar") => `(tactic| first | assumption | omega | decide | exact upd_same | rfl | walk_at "sz" | (simp only [CDiv, CMul, CPow]; first | omega | decide) | (refine ⟨?_, ?_⟩ <;> first | omega | decide))
local macro_rules | `(tactic| walk_at "at") => `(tactic| first | rfl | assumption | decide)
local macro_rules | `(tactic| walk_at "s1") => `(tactic| first
  | (refine ⟨_, rfl, ?_⟩)
  | (refine ⟨_, _, rfl, rfl, ?_⟩)
  | (refine Or.inl ⟨_, _, _, _, rfl, rfl, by walk_at "sq", by walk_at "at", ?_⟩)
  | (refine Or.inr (Or.inl ⟨_, _, _, _, rfl, rfl, by walk_at "sq", by walk_at "at", ?_⟩))
  | (refine Or.inl ⟨_, rfl, ?_⟩)
  | (refine And.intro (by walk_at "ar") ?_)
  | (refine ⟨_, _, rfl, ?_⟩)
  | (refine ⟨_, _, rfl, (by walk_at "sq"), rfl, ?_⟩)
  | (refine ⟨_, _, rfl, (by walk_at "len"), ?_⟩)
  | (refine ⟨_, _, _, _, rfl, rfl, (by walk_at "hp"), rfl, ?_⟩)
  | (refine fun q (hq : _ = none) => ?_)
  | (intro _; intros))
local macro_rules | `(tactic| walk_at "go") => `(tactic| first | assumption | exact Go.refl (by assumption) | exact Go.new (by walk_at "go") (by assumption) | exact Go.trans (by walk_at "go") (by assumption))
local macro_rules | `(tactic| walk_at "pot") => `(tactic| first | assumption | exact Go.pot (by assumption) | exact Go.pot (by walk_at "go"))
theorem atI_ok {α : Type} {xs : List α} {d : Int} (h0 : 0 ≤ d) (h1 : d < (xs.length : Int)) : ∃ v, v ∈ xs ∧ atI xs d = some v := by
  obtain ⟨j, rfl⟩ := Int.eq_ofNat_of_zero_le h0
  have hj : j < xs.length := by omega
  exact ⟨xs[j], List.getElem_mem hj, atI_nat (by simp [hj])⟩
theorem potb (x M : Int) (h0 : 0 < M) (h1 : M < 2147483648) : 0 ≤ x % M + 1 ∧ x % M + 1 < 2147483648 := by
  have := Int.emod_nonneg x (show M ≠ 0 by omega)
  have := Int.emod_lt_of_pos x h0
  omega
theorem emodb (x M : Int) (h0 : 0 < M) (h1 : M ≤ 2147483648) : x % M < 2147483648 := by
  have := Int.emod_lt_of_pos x h0
  omega
theorem max0 {x : Int} : 0 ≤ (if x > 0 then x else 0) := by split <;> omega
theorem PotAt.ne {p q : Addr} {H : Hp} (h : PotAt H p) (n : H q = none) : q ≠ p := by
  obtain ⟨a, b, e, _⟩ := h
  exact (ne_of_none e n).symm
/-- a def that raises nothing -/
theorem nm_of0 {P : Program} {w : World} {K : PySem.W.Frag} {mg : Str → Option Value} {base : Heap} {CX : CXT} {x : Str} {st : Stmt} {f : Addr} {fd : FuncData} {N ps : List Str} {k : Nat} {sp : Sp} (F : Fun K x x st f fd) (hm : mg x = some (.ref f)) (S : FnScope N ps (defScope st)) (len : ∀ vs H Q E, sp vs H Q E → vs.length = ps.length)
    (hb : ∀ (cdv : Value) (A : Around) (outer : List Env) (s : Shared) (H : Hp) (vs : List V) (Q : VK) (E : XK), RoomG k (A.deeper (envOfC x (defScope st) s.heap.objs.size f cdv)) → sp vs H Q E →
      ∃ t, PSs (cxOf CX P w K mg base N x (defScope st) f cdv A outer s H E).nox (defBody st) t ∧ t { nx := fun _ H' => Q .non H', rt := Q } (start N vs) H) : Nm P w K mg base CX (k + 1) x st ps sp :=
  nm_of F hm S len fun cdv A outer s H vs Q E hr h => let ⟨t, h1, h2⟩ := hb cdv A outer s H vs Q E hr h; ⟨t, h1.nox, h2⟩
theorem Go.put {p : Addr} {H H1 : Hp} {a b : Int} (g : Go p H H1) (ha : 0 ≤ a) (hb : 0 ≤ b) (hb2 : b < 2147483648) : Go p H (upd H1 p (.lst [.int a, .int b])) :=
  ⟨⟨a, b, upd_same, ha, hb, hb2⟩, fun c o e n => by rw [upd_ne n]; exact g.keep c o e n⟩
theorem Go.any {p : Addr} {H : Hp} (q : Addr) (o : HO) (h : PotAt H p) (n : H q = none) : Go p H (upd H q o) := (Go.refl h).new n
@[irreducible] def spPot (K : PySem.W.Frag) : Sp := fun vs H Q _ => ∃ (a : Addr) (ns : List Int) (k : Int), vs = [.ref a, .int k] ∧ SqL K H a (ns.map V.int) ∧ ns.length ≤ 63 ∧ 0 ≤ k ∧ k ≤ 100 ∧
  ∀ p H', H p = none → PotAt H' p → (∀ b o, H b = some o → H' b = some o) → Q (.ref p) H'
@[irreducible] def spDraw : Sp := fun vs H Q _ => ∃ (p : Addr) (n : Int), vs = [.ref p, .int n] ∧ PotAt H p ∧ 0 < n ∧ n < 1073741824 ∧ ∀ (d : Int) H', 0 ≤ d → d < n → Go p H H' → Q (.int d) H'
@[irreducible] def spAmong (K : PySem.W.Frag) : Sp := fun vs H Q _ => ∃ (p : Addr) (x : V), vs = [.ref p, x] ∧ PotAt H p ∧
  ((∃ (a : Addr) (xs : List V), x = .ref a ∧ a ≠ p ∧ SqL K H a xs ∧ 0 < xs.length ∧ xs.length ≤ 1000 ∧ ∀ v ∈ xs, ∀ H', Go p H H' → Q v H') ∨
   (∃ z : Str, x = .str z ∧ 0 < z.length ∧ z.length ≤ 1000 ∧ ∀ c ∈ z.cps.toList, ∀ H', Go p H H' → Q (.str ⟨#[c]⟩) H'))
section
variable {K : PySem.W.Frag} {p a : Addr} {n lo hi k : Int} {H : Hp} {Q : VK} {E : XK} {xs : List V} {z : Str} {ns : List Int}
theorem pot_go (hS : SqL K H a (ns.map V.int)) (hl : ns.length ≤ 63) (h0 : 0 ≤ k) (h1 : k ≤ 100) (q : ∀ p H', H p = none → PotAt H' p → (∀ b o, H b = some o → H' b = some o) → Q (.ref p) H') : spPot K [.ref a, .int k] H Q E := by
  unfold spPot
  exact ⟨a, ns, k, rfl, hS, hl, h0, h1, q⟩
theorem draw_go (hp : PotAt H p) (h0 : 0 < n) (h1 : n < 1073741824) (q : ∀ (d : Int) H', 0 ≤ d → d < n → Go p H H' → Q (.int d) H') : spDraw [.ref p, .int n] H Q E := by
  unfold spDraw
  exact ⟨p, n, rfl, hp, h0, h1, q⟩
theorem among_l (hp : PotAt H p) (na : a ≠ p) (hS : SqL K H a xs) (h0 : 0 < xs.length) (h1 : xs.length ≤ 1000) (q : ∀ v ∈ xs, ∀ H', Go p H H' → Q v H') : spAmong K [.ref p, .ref a] H Q E := by
  unfold spAmong
  exact ⟨p, _, rfl, hp, .inl ⟨a, xs, rfl, na, hS, h0, h1, q⟩⟩
end
section
variable {P : Program} {w : World} {K : PySem.W.Frag} {mg : Str → Option Value} {base : Heap} {f : Addr} {fd : FuncData}
theorem ok_draw (F : Fun K "_law_draw" "_law_draw" s_law_draw f fd) (hm : mg "_law_draw" = some (.ref f)) (T : Txt K mg) : Nm P w K mg base CX0 1 "_law_draw" s_law_draw ["_law_pot_here", "_law_many"] spDraw := by
  refine nm_of F hm sc_law_draw (fun vs H Q E h => ?_) fun cdv A outer s H vs Q E hr h => ?_
  · unfold spDraw at h
    obtain ⟨p, n, rfl, _⟩ := h
    rfl
  · unfold spDraw at h
    obtain ⟨p, n, rfl, ⟨a, b, hp, ha, hb, hb2⟩, hn, hn2, k⟩ := h
    refine ⟨_, (pss_cons (ps_if (pt_cmpR op_gt (pe_ix (ix_seqK (K := K) rfl) (pv 0) pe_int (fun _ _ => rfl)) pe_int (nomark _)) (pss_cons (ps_asg (pe_callB call_divmod (by rfl) T.b_divmod (by decide +kernel) (pa_cons (pe_ix (ix_seqK (K := K) rfl) (pv 0) pe_int (fun _ _ => rfl)) (pa_cons (pv 1) pa_nil))) (pg_tup (by rfl) (pgs_cons (pg_sub (pv 0) pe_int set_list) (pgs_cons (pg_name (i := 2) sc_law_draw.nd rfl (by first | exact Or.inl rfl | exact Or.inr rfl)) pgs_nil))))
      (pss_one (ps_ret (pv 2)))) pss_nil)
      (pss_cons (ps_asg (pe_op op_mod (pe_callTy call_int1 (by rfl) T.b_int (by decide +kernel) (pa_cons (pe_op op_add (pe_op op_mul (pe_ix (ix_seqK (K := K) rfl) (pv 0) pe_int (fun _ _ => rfl)) pe_int) pe_int) pa_nil)) pe_int) (pg_sub (pv 0) pe_int set_list))
      (pss_one (ps_ret (pe_op op_mod (pe_callTy call_int1 (by rfl) T.b_int (by decide +kernel) (pa_cons (pe_op op_fdiv (pe_op op_mod (pe_callTy call_int1 (by rfl) T.b_int (by decide +kernel) (pa_cons (pe_op op_mul (pe_ix (ix_seqK (K := K) rfl) (pv 0) pe_int (fun _ _ => rfl)) (pe_ix (ix_seqK (K := K) rfl) (pv 0) pe_int (fun _ _ => rfl))) pa_nil)) pe_int) pe_int) pa_nil)) (pv 1)))))), ?_⟩
    have g0 : PotAt H p := ⟨a, b, hp, ha, hb, hb2⟩
    repeat walk_at "s1"
    refine ite2 (fun c => ?_) fun c => ?_
    · have c' : 0 < a := of_decide_eq_true c
      repeat walk_at "s1"
      rename_i q hq
      exact k _ _ (Int.emod_nonneg _ (by omega)) (Int.emod_lt_of_pos _ hn) (((Go.refl g0).new hq).put (Int.ediv_nonneg ha (by omega)) hb hb2)
    · repeat walk_at "s1"
      exact k _ _ (Int.emod_nonneg _ (by omega)) (Int.emod_lt_of_pos _ hn) ((Go.refl g0).put ha (Int.emod_nonneg _ (by decide)) (emodb _ _ (by decide) (by decide)))
theorem ok_pot (F : Fun K "_law_pot" "_law_pot" s_law_pot f fd) (hm : mg "_law_pot" = some (.ref f)) (T : Txt K mg) : Nm P w K mg base CX0 1 "_law_pot" s_law_pot ["_law_script", "_law_k"] (spPot K) := by
  refine nm_of F hm sc_law_pot (fun vs H Q E h => ?_) fun cdv A outer s H vs Q E hr h => ?_
  · unfold spPot at h
    obtain ⟨a, ns, k, rfl, _⟩ := h
    rfl
  · unfold spPot at h
    obtain ⟨a, ns, k, rfl, hS, hl, hk, hk2, kk⟩ := h
    refine ⟨_, (pss_cons (ps_set (i := 2) sc_law_pot.nd rfl (by first | exact Or.inl rfl | exact Or.inr rfl) (pe_op op_add (pe_op op_mul pe_int (pv 1)) pe_int))
      (pss_cons (ps_if (pt_cmpR op_lt (pv 1) (pe_callB (call_lenK (K := K) rfl) (by rfl) T.b_len PySem.boot_len (pa_cons (pv 0) pa_nil)) (nomark _)) (pss_one (ps_set (i := 2) sc_law_pot.nd rfl (by first | exact Or.inl rfl | exact Or.inr rfl) (pe_callB call_abs (by rfl) T.b_abs (by decide +kernel) (pa_cons (pe_ix (ix_seqK (K := K) rfl) (pv 0) (pv 1) (fun _ _ => rfl)) pa_nil)))) pss_nil)
      (pss_one (ps_ret (pe_lst (pa_cons (pe_callB (call_max2 rfl) (by rfl) T.b_max (by decide +kernel) (pa_cons pe_int (pa_cons (pe_op op_sub (pv 2) (pe_op op_pow pe_int pe_int)) pa_nil))) (pa_cons (pe_op op_add (pe_op op_mod (pe_callTy call_int1 (by rfl) T.b_int (by decide +kernel) (pa_cons (pe_op op_add (pe_op op_add (pe_op op_mul (pe_op op_mod (pe_callTy call_int1 (by rfl) T.b_int (by decide +kernel) (pa_cons (pv 2) pa_nil)) pe_int) pe_int) (pe_op op_mul pe_int (pv 1))) pe_int) pa_nil)) pe_int) pe_int) pa_nil))))))), ?_⟩
    repeat walk_at "s1"
    refine ite2 (fun c => ?_) fun c => ?_
    · have c' : k < (ns.length : Int) := by have := of_decide_eq_true c; rw [List.length_map] at this; exact this
      have hat : atI (ns.map V.int) k = some (.int (ns.getD k.toNat 0)) := by
        obtain ⟨j, rfl⟩ := Int.eq_ofNat_of_zero_le hk
        have hj : j < ns.length := by omega
        refine atI_nat ?_
        simp [List.getElem?_map, hj, List.getD]
      iterate 30 (try walk_at "s1")
      refine kk _ _ (by assumption) ⟨_, _, upd_same, ?_, ?_, ?_⟩ fun b o e => updn (nonn (by assumption) e) e
      · exact max0
      · exact (potb _ _ (by decide) (by decide)).1
      · exact (potb _ _ (by decide) (by decide)).2
    · iterate 30 (try walk_at "s1")
      refine kk _ _ (by assumption) ⟨_, _, upd_same, ?_, ?_, ?_⟩ fun b o e => updn (nonn (by assumption) e) e
      · exact max0
      · exact (potb _ _ (by decide) (by decide)).1
      · exact (potb _ _ (by decide) (by decide)).2
theorem ok_among (F : Fun K "_law_among" "_law_among" s_law_among f fd) (hm : mg "_law_among" = some (.ref f)) (T : Txt K mg) (c_law_draw : Nm P w K mg base CX0 1 "_law_draw" s_law_draw ["_law_pot_here", "_law_many"] spDraw) :
    Nm P w K mg base CX0 2 "_law_among" s_law_among ["_law_pot_here", "_law_some"] (spAmong K) := by
  refine nm_of F hm sc_law_among (fun vs H Q E h => ?_) fun cdv A outer s H vs Q E hr h => ?_
  · unfold spAmong at h
    obtain ⟨p, x, rfl, _⟩ := h
    rfl
  · unfold spAmong at h
    obtain ⟨p, x, rfl, hp, h⟩ := h
    refine ⟨_, (pss_one (ps_ret (pe_ix (ix_seqK (K := K) rfl) (pv 1) (pe_g c_law_draw hr (by decide) L2.pass0 bp_law_draw (by rfl) (pa_cons (pv 0) (pa_cons (pe_callB (call_lenK (K := K) rfl) (by rfl) T.b_len PySem.boot_len (pa_cons (pv 1) pa_nil)) pa_nil))) (fun _ _ => rfl)))), ?_⟩
    rcases h with ⟨a, xs, rfl, na, hS, l0, l1, k⟩ | ⟨z, rfl, l0, l1, k⟩
    · iterate 4 walk_at "s1"
      refine draw_go hp (by omega) (by omega) fun d H' h0 h1 g => ?_
      obtain ⟨v, hv, hat⟩ := atI_ok (xs := xs) h0 h1
      exact Or.inl ⟨_, _, _, _, rfl, rfl, g.lst na hS, hat, k v hv H' g⟩
    · iterate 4 walk_at "s1"
      refine draw_go hp (by omega) (by omega) fun d H' h0 h1 g => ?_
      obtain ⟨c, hc, hat⟩ := atI_ok (xs := z.cps.toList) h0 (by rw [Array.length_toList]; exact h1)
      exact Or.inr (Or.inr ⟨_, _, c, rfl, rfl, szl (by omega), hat, k c hc H' g⟩)
end
open PySem PySem.Spec PyProof.Rows
open L2 hiding pass0
abbrev s_InvalidWidth_init : Stmt := inClass (top 2) 0
theorem ns_InvalidWidth : NdefX.NScope ["self", "value", "__class__"] ["self", "value"] ["__class__"] (defScope s_InvalidWidth_init) := NdefX.nscope_by (by decide +kernel)
theorem err_InvalidWidth {P : Program} {w : World} {K : PySem.W.Frag} {mg : Str → Option Value} {base : Heap} {C fI cc cda : Addr} {oc kV doc pm ct : Value} {od an : Option Addr} {osl : Array (Option Value)} {B nw ini : String} {tail : List Value} (Z : ExB.Base B nw ini tail)
    (lk : K.lookup fI = some ⟨oc, od, .func (PySem.W.fnX "__init__" "InvalidWidth.__init__" (defArgs s_InvalidWidth_init) (defBody s_InvalidWidth_init) (defScope s_InvalidWidth_init) [(("__class__" : Str), cc)] .none kV doc pm an (.ref cda) ct), osl⟩)
    (S : SupG.SupF B nw ini tail K P C cc cda "InvalidWidth.__init__") (hmg : mg "super" = none) (no0 : PySem.W.findIn K (.ref C) "value" = some none)
    (iC : PySem.W.findIn K (.ref C) "__init__" = some (some (.ref fI))) (tI : PySem.W.typeIn K (.ref fI) = some (.type "function")) (hm : mg "InvalidWidth" = some (.ref C)) :
    ErrH P w K mg base "InvalidWidth" C ["value"] := by
  refine ⟨⟨_, _, _, _, Z, S.ox⟩, hm, fI, _, iC, tI, SupG.fnok_super (N := ["self", "value", "__class__"]) (ps := ["self", "value"]) (k := 1) lk Z S hmg ns_InvalidWidth rfl rfl rfl rfl (by decide) ?_ (fun L => by rfl) (fun L => by rfl) (fun L => by rfl) ?_, ?_, ?_⟩
  · rintro vs H Q E ⟨a, ys, rfl, hl, _⟩
    exact congrArg (· + 1) hl
  · intro A outer s H vs Q E h
    obtain ⟨a, ys, rfl, hl, ha, _, k⟩ := h
    match ys, hl, k with
    | [y0], _, k =>
    refine ⟨a, [y0], rfl, ha, _, pss_one (ExB.ps_set_exc Z (f := "value") (pv 0) (pv 1)), ?_⟩
    refine ⟨_, rfl, _, rfl, a, C, rfl, S.ox, no0, .inl ⟨ha, fun dx n ne => ?_⟩⟩
    exact k (by simp) dx n ne
  · exact Binds.all fun us h => match us, h with | [_, _], _ => rfl
  · exact fun s u ws h => match ws, h with | [_], _ => .of_eq rfl
abbrev s_InvalidStretch_init : Stmt := inClass (top 3) 0
theorem ns_InvalidStretch : NdefX.NScope ["self", "value", "__class__"] ["self", "value"] ["__class__"] (defScope s_InvalidStretch_init) := NdefX.nscope_by (by decide +kernel)
theorem err_InvalidStretch {P : Program} {w : World} {K : PySem.W.Frag} {mg : Str → Option Value} {base : Heap} {C fI cc cda : Addr} {oc kV doc pm ct : Value} {od an : Option Addr} {osl : Array (Option Value)} {B nw ini : String} {tail : List Value} (Z : ExB.Base B nw ini tail)
    (lk : K.lookup fI = some ⟨oc, od, .func (PySem.W.fnX "__init__" "InvalidStretch.__init__" (defArgs s_InvalidStretch_init) (defBody s_InvalidStretch_init) (defScope s_InvalidStretch_init) [(("__class__" : Str), cc)] .none kV doc pm an (.ref cda) ct), osl⟩)
    (S : SupG.SupF B nw ini tail K P C cc cda "InvalidStretch.__init__") (hmg : mg "super" = none) (no0 : PySem.W.findIn K (.ref C) "value" = some none)
    (iC : PySem.W.findIn K (.ref C) "__init__" = some (some (.ref fI))) (tI : PySem.W.typeIn K (.ref fI) = some (.type "function")) (hm : mg "InvalidStretch" = some (.ref C)) :
    ErrH P w K mg base "InvalidStretch" C ["value"] := by
  refine ⟨⟨_, _, _, _, Z, S.ox⟩, hm, fI, _, iC, tI, SupG.fnok_super (N := ["self", "value", "__class__"]) (ps := ["self", "value"]) (k := 1) lk Z S hmg ns_InvalidStretch rfl rfl rfl rfl (by decide) ?_ (fun L => by rfl) (fun L => by rfl) (fun L => by rfl) ?_, ?_, ?_⟩
  · rintro vs H Q E ⟨a, ys, rfl, hl, _⟩
    exact congrArg (· + 1) hl
  · intro A outer s H vs Q E h
    obtain ⟨a, ys, rfl, hl, ha, _, k⟩ := h
    match ys, hl, k with
    | [y0], _, k =>
    refine ⟨a, [y0], rfl, ha, _, pss_one (ExB.ps_set_exc Z (f := "value") (pv 0) (pv 1)), ?_⟩
    refine ⟨_, rfl, _, rfl, a, C, rfl, S.ox, no0, .inl ⟨ha, fun dx n ne => ?_⟩⟩
    exact k (by simp) dx n ne
  · exact Binds.all fun us h => match us, h with | [_, _], _ => rfl
  · exact fun s u ws h => match ws, h with | [_], _ => .of_eq rfl
abbrev s_InvalidStretches_init : Stmt := inClass (top 4) 0
theorem ns_InvalidStretches : NdefX.NScope ["self", "position", "__class__"] ["self", "position"] ["__class__"] (defScope s_InvalidStretches_init) := NdefX.nscope_by (by decide +kernel)
theorem err_InvalidStretches {P : Program} {w : World} {K : PySem.W.Frag} {mg : Str → Option Value} {base : Heap} {C fI cc cda : Addr} {oc kV doc pm ct : Value} {od an : Option Addr} {osl : Array (Option Value)} {B nw ini : String} {tail : List Value} (Z : ExB.Base B nw ini tail)
    (lk : K.lookup fI = some ⟨oc, od, .func (PySem.W.fnX "__init__" "InvalidStretches.__init__" (defArgs s_InvalidStretches_init) (defBody s_InvalidStretches_init) (defScope s_InvalidStretches_init) [(("__class__" : Str), cc)] .none kV doc pm an (.ref cda) ct), osl⟩)
    (S : SupG.SupF B nw ini tail K P C cc cda "InvalidStretches.__init__") (hmg : mg "super" = none) (no0 : PySem.W.findIn K (.ref C) "position" = some none)
    (iC : PySem.W.findIn K (.ref C) "__init__" = some (some (.ref fI))) (tI : PySem.W.typeIn K (.ref fI) = some (.type "function")) (hm : mg "InvalidStretches" = some (.ref C)) :
    ErrH P w K mg base "InvalidStretches" C ["position"] := by
  refine ⟨⟨_, _, _, _, Z, S.ox⟩, hm, fI, _, iC, tI, SupG.fnok_super (N := ["self", "position", "__class__"]) (ps := ["self", "position"]) (k := 1) lk Z S hmg ns_InvalidStretches rfl rfl rfl rfl (by decide) ?_ (fun L => by rfl) (fun L => by rfl) (fun L => by rfl) ?_, ?_, ?_⟩
  · rintro vs H Q E ⟨a, ys, rfl, hl, _⟩
    exact congrArg (· + 1) hl
  · intro A outer s H vs Q E h
    obtain ⟨a, ys, rfl, hl, ha, _, k⟩ := h
    match ys, hl, k with
    | [y0], _, k =>
    refine ⟨a, [y0], rfl, ha, _, pss_one (ExB.ps_set_exc Z (f := "position") (pv 0) (pv 1)), ?_⟩
    refine ⟨_, rfl, _, rfl, a, C, rfl, S.ox, no0, .inl ⟨ha, fun dx n ne => ?_⟩⟩
    exact k (by simp) dx n ne
  · exact Binds.all fun us h => match us, h with | [_, _], _ => rfl
  · exact fun s u ws h => match ws, h with | [_], _ => .of_eq rfl
abbrev s_InvalidAddress_init : Stmt := inClass (top 5) 0
theorem ns_InvalidAddress : NdefX.NScope ["self", "value", "__class__"] ["self", "value"] ["__class__"] (defScope s_InvalidAddress_init) := NdefX.nscope_by (by decide +kernel)
theorem err_InvalidAddress {P : Program} {w : World} {K : PySem.W.Frag} {mg : Str → Option Value} {base : Heap} {C fI cc cda : Addr} {oc kV doc pm ct : Value} {od an : Option Addr} {osl : Array (Option Value)} {B nw ini : String} {tail : List Value} (Z : ExB.Base B nw ini tail)
    (lk : K.lookup fI = some ⟨oc, od, .func (PySem.W.fnX "__init__" "InvalidAddress.__init__" (defArgs s_InvalidAddress_init) (defBody s_InvalidAddress_init) (defScope s_InvalidAddress_init) [(("__class__" : Str), cc)] .none kV doc pm an (.ref cda) ct), osl⟩)
    (S : SupG.SupF B nw ini tail K P C cc cda "InvalidAddress.__init__") (hmg : mg "super" = none) (no0 : PySem.W.findIn K (.ref C) "value" = some none)
    (iC : PySem.W.findIn K (.ref C) "__init__" = some (some (.ref fI))) (tI : PySem.W.typeIn K (.ref fI) = some (.type "function")) (hm : mg "InvalidAddress" = some (.ref C)) :
    ErrH P w K mg base "InvalidAddress" C ["value"] := by
  refine ⟨⟨_, _, _, _, Z, S.ox⟩, hm, fI, _, iC, tI, SupG.fnok_super (N := ["self", "value", "__class__"]) (ps := ["self", "value"]) (k := 1) lk Z S hmg ns_InvalidAddress rfl rfl rfl rfl (by decide) ?_ (fun L => by rfl) (fun L => by rfl) (fun L => by rfl) ?_, ?_, ?_⟩
  · rintro vs H Q E ⟨a, ys, rfl, hl, _⟩
    exact congrArg (· + 1) hl
  · intro A outer s H vs Q E h
    obtain ⟨a, ys, rfl, hl, ha, _, k⟩ := h
    match ys, hl, k with
    | [y0], _, k =>
    refine ⟨a, [y0], rfl, ha, _, pss_one (ExB.ps_set_exc Z (f := "value") (pv 0) (pv 1)), ?_⟩
    refine ⟨_, rfl, _, rfl, a, C, rfl, S.ox, no0, .inl ⟨ha, fun dx n ne => ?_⟩⟩
    exact k (by simp) dx n ne
  · exact Binds.all fun us h => match us, h with | [_, _], _ => rfl
  · exact fun s u ws h => match ws, h with | [_], _ => .of_eq rfl
abbrev s_InvalidGoal_init : Stmt := inClass (top 6) 0
theorem ns_InvalidGoal : NdefX.NScope ["self", "value", "__class__"] ["self", "value"] ["__class__"] (defScope s_InvalidGoal_init) := NdefX.nscope_by (by decide +kernel)
theorem err_InvalidGoal {P : Program} {w : World} {K : PySem.W.Frag} {mg : Str → Option Value} {base : Heap} {C fI cc cda : Addr} {oc kV doc pm ct : Value} {od an : Option Addr} {osl : Array (Option Value)} {B nw ini : String} {tail : List Value} (Z : ExB.Base B nw ini tail)
    (lk : K.lookup fI = some ⟨oc, od, .func (PySem.W.fnX "__init__" "InvalidGoal.__init__" (defArgs s_InvalidGoal_init) (defBody s_InvalidGoal_init) (defScope s_InvalidGoal_init) [(("__class__" : Str), cc)] .none kV doc pm an (.ref cda) ct), osl⟩)
    (S : SupG.SupF B nw ini tail K P C cc cda "InvalidGoal.__init__") (hmg : mg "super" = none) (no0 : PySem.W.findIn K (.ref C) "value" = some none)
    (iC : PySem.W.findIn K (.ref C) "__init__" = some (some (.ref fI))) (tI : PySem.W.typeIn K (.ref fI) = some (.type "function")) (hm : mg "InvalidGoal" = some (.ref C)) :
    ErrH P w K mg base "InvalidGoal" C ["value"] := by
  refine ⟨⟨_, _, _, _, Z, S.ox⟩, hm, fI, _, iC, tI, SupG.fnok_super (N := ["self", "value", "__class__"]) (ps := ["self", "value"]) (k := 1) lk Z S hmg ns_InvalidGoal rfl rfl rfl rfl (by decide) ?_ (fun L => by rfl) (fun L => by rfl) (fun L => by rfl) ?_, ?_, ?_⟩
  · rintro vs H Q E ⟨a, ys, rfl, hl, _⟩
    exact congrArg (· + 1) hl
  · intro A outer s H vs Q E h
    obtain ⟨a, ys, rfl, hl, ha, _, k⟩ := h
    match ys, hl, k with
    | [y0], _, k =>
    refine ⟨a, [y0], rfl, ha, _, pss_one (ExB.ps_set_exc Z (f := "value") (pv 0) (pv 1)), ?_⟩
    refine ⟨_, rfl, _, rfl, a, C, rfl, S.ox, no0, .inl ⟨ha, fun dx n ne => ?_⟩⟩
    exact k (by simp) dx n ne
  · exact Binds.all fun us h => match us, h with | [_, _], _ => rfl
  · exact fun s u ws h => match ws, h with | [_], _ => .of_eq rfl
abbrev s_InvalidRows_init : Stmt := inClass (top 7) 0
theorem ns_InvalidRows : NdefX.NScope ["self", "value", "__class__"] ["self", "value"] ["__class__"] (defScope s_InvalidRows_init) := NdefX.nscope_by (by decide +kernel)
theorem err_InvalidRows {P : Program} {w : World} {K : PySem.W.Frag} {mg : Str → Option Value} {base : Heap} {C fI cc cda : Addr} {oc kV doc pm ct : Value} {od an : Option Addr} {osl : Array (Option Value)} {B nw ini : String} {tail : List Value} (Z : ExB.Base B nw ini tail)
    (lk : K.lookup fI = some ⟨oc, od, .func (PySem.W.fnX "__init__" "InvalidRows.__init__" (defArgs s_InvalidRows_init) (defBody s_InvalidRows_init) (defScope s_InvalidRows_init) [(("__class__" : Str), cc)] .none kV doc pm an (.ref cda) ct), osl⟩)
    (S : SupG.SupF B nw ini tail K P C cc cda "InvalidRows.__init__") (hmg : mg "super" = none) (no0 : PySem.W.findIn K (.ref C) "value" = some none)
    (iC : PySem.W.findIn K (.ref C) "__init__" = some (some (.ref fI))) (tI : PySem.W.typeIn K (.ref fI) = some (.type "function")) (hm : mg "InvalidRows" = some (.ref C)) :
    ErrH P w K mg base "InvalidRows" C ["value"] := by
  refine ⟨⟨_, _, _, _, Z, S.ox⟩, hm, fI, _, iC, tI, SupG.fnok_super (N := ["self", "value", "__class__"]) (ps := ["self", "value"]) (k := 1) lk Z S hmg ns_InvalidRows rfl rfl rfl rfl (by decide) ?_ (fun L => by rfl) (fun L => by rfl) (fun L => by rfl) ?_, ?_, ?_⟩
  · rintro vs H Q E ⟨a, ys, rfl, hl, _⟩
    exact congrArg (· + 1) hl
  · intro A outer s H vs Q E h
    obtain ⟨a, ys, rfl, hl, ha, _, k⟩ := h
    match ys, hl, k with
    | [y0], _, k =>
    refine ⟨a, [y0], rfl, ha, _, pss_one (ExB.ps_set_exc Z (f := "value") (pv 0) (pv 1)), ?_⟩
    refine ⟨_, rfl, _, rfl, a, C, rfl, S.ox, no0, .inl ⟨ha, fun dx n ne => ?_⟩⟩
    exact k (by simp) dx n ne
  · exact Binds.all fun us h => match us, h with | [_, _], _ => rfl
  · exact fun s u ws h => match ws, h with | [_], _ => .of_eq rfl
abbrev s_InvalidFree_init : Stmt := inClass (top 8) 0
theorem ns_InvalidFree : NdefX.NScope ["self", "position", "__class__"] ["self", "position"] ["__class__"] (defScope s_InvalidFree_init) := NdefX.nscope_by (by decide +kernel)
theorem err_InvalidFree {P : Program} {w : World} {K : PySem.W.Frag} {mg : Str → Option Value} {base : Heap} {C fI cc cda : Addr} {oc kV doc pm ct : Value} {od an : Option Addr} {osl : Array (Option Value)} {B nw ini : String} {tail : List Value} (Z : ExB.Base B nw ini tail)
    (lk : K.lookup fI = some ⟨oc, od, .func (PySem.W.fnX "__init__" "InvalidFree.__init__" (defArgs s_InvalidFree_init) (defBody s_InvalidFree_init) (defScope s_InvalidFree_init) [(("__class__" : Str), cc)] .none kV doc pm an (.ref cda) ct), osl⟩)
    (S : SupG.SupF B nw ini tail K P C cc cda "InvalidFree.__init__") (hmg : mg "super" = none) (no0 : PySem.W.findIn K (.ref C) "position" = some none)
    (iC : PySem.W.findIn K (.ref C) "__init__" = some (some (.ref fI))) (tI : PySem.W.typeIn K (.ref fI) = some (.type "function")) (hm : mg "InvalidFree" = some (.ref C)) :
    ErrH P w K mg base "InvalidFree" C ["position"] := by
  refine ⟨⟨_, _, _, _, Z, S.ox⟩, hm, fI, _, iC, tI, SupG.fnok_super (N := ["self", "position", "__class__"]) (ps := ["self", "position"]) (k := 1) lk Z S hmg ns_InvalidFree rfl rfl rfl rfl (by decide) ?_ (fun L => by rfl) (fun L => by rfl) (fun L => by rfl) ?_, ?_, ?_⟩
  · rintro vs H Q E ⟨a, ys, rfl, hl, _⟩
    exact congrArg (· + 1) hl
  · intro A outer s H vs Q E h
    obtain ⟨a, ys, rfl, hl, ha, _, k⟩ := h
    match ys, hl, k with
    | [y0], _, k =>
    refine ⟨a, [y0], rfl, ha, _, pss_one (ExB.ps_set_exc Z (f := "position") (pv 0) (pv 1)), ?_⟩
    refine ⟨_, rfl, _, rfl, a, C, rfl, S.ox, no0, .inl ⟨ha, fun dx n ne => ?_⟩⟩
    exact k (by simp) dx n ne
  · exact Binds.all fun us h => match us, h with | [_, _], _ => rfl
  · exact fun s u ws h => match ws, h with | [_], _ => .of_eq rfl
abbrev s_InvalidTables_init : Stmt := inClass (top 9) 0
theorem ns_InvalidTables : NdefX.NScope ["self", "value", "__class__"] ["self", "value"] ["__class__"] (defScope s_InvalidTables_init) := NdefX.nscope_by (by decide +kernel)
theorem err_InvalidTables {P : Program} {w : World} {K : PySem.W.Frag} {mg : Str → Option Value} {base : Heap} {C fI cc cda : Addr} {oc kV doc pm ct : Value} {od an : Option Addr} {osl : Array (Option Value)} {B nw ini : String} {tail : List Value} (Z : ExB.Base B nw ini tail)
    (lk : K.lookup fI = some ⟨oc, od, .func (PySem.W.fnX "__init__" "InvalidTables.__init__" (defArgs s_InvalidTables_init) (defBody s_InvalidTables_init) (defScope s_InvalidTables_init) [(("__class__" : Str), cc)] .none kV doc pm an (.ref cda) ct), osl⟩)
    (S : SupG.SupF B nw ini tail K P C cc cda "InvalidTables.__init__") (hmg : mg "super" = none) (no0 : PySem.W.findIn K (.ref C) "value" = some none)
    (iC : PySem.W.findIn K (.ref C) "__init__" = some (some (.ref fI))) (tI : PySem.W.typeIn K (.ref fI) = some (.type "function")) (hm : mg "InvalidTables" = some (.ref C)) :
    ErrH P w K mg base "InvalidTables" C ["value"] := by
  refine ⟨⟨_, _, _, _, Z, S.ox⟩, hm, fI, _, iC, tI, SupG.fnok_super (N := ["self", "value", "__class__"]) (ps := ["self", "value"]) (k := 1) lk Z S hmg ns_InvalidTables rfl rfl rfl rfl (by decide) ?_ (fun L => by rfl) (fun L => by rfl) (fun L => by rfl) ?_, ?_, ?_⟩
  · rintro vs H Q E ⟨a, ys, rfl, hl, _⟩
    exact congrArg (· + 1) hl
  · intro A outer s H vs Q E h
    obtain ⟨a, ys, rfl, hl, ha, _, k⟩ := h
    match ys, hl, k with
    | [y0], _, k =>
    refine ⟨a, [y0], rfl, ha, _, pss_one (ExB.ps_set_exc Z (f := "value") (pv 0) (pv 1)), ?_⟩
    refine ⟨_, rfl, _, rfl, a, C, rfl, S.ox, no0, .inl ⟨ha, fun dx n ne => ?_⟩⟩
    exact k (by simp) dx n ne
  · exact Binds.all fun us h => match us, h with | [_, _], _ => rfl
  · exact fun s u ws h => match ws, h with | [_], _ => .of_eq rfl
abbrev s_InvalidFirm_init : Stmt := inClass (top 10) 0
theorem ns_InvalidFirm : NdefX.NScope ["self", "value", "__class__"] ["self", "value"] ["__class__"] (defScope s_InvalidFirm_init) := NdefX.nscope_by (by decide +kernel)
theorem err_InvalidFirm {P : Program} {w : World} {K : PySem.W.Frag} {mg : Str → Option Value} {base : Heap} {C fI cc cda : Addr} {oc kV doc pm ct : Value} {od an : Option Addr} {osl : Array (Option Value)} {B nw ini : String} {tail : List Value} (Z : ExB.Base B nw ini tail)
    (lk : K.lookup fI = some ⟨oc, od, .func (PySem.W.fnX "__init__" "InvalidFirm.__init__" (defArgs s_InvalidFirm_init) (defBody s_InvalidFirm_init) (defScope s_InvalidFirm_init) [(("__class__" : Str), cc)] .none kV doc pm an (.ref cda) ct), osl⟩)
    (S : SupG.SupF B nw ini tail K P C cc cda "InvalidFirm.__init__") (hmg : mg "super" = none) (no0 : PySem.W.findIn K (.ref C) "value" = some none)
    (iC : PySem.W.findIn K (.ref C) "__init__" = some (some (.ref fI))) (tI : PySem.W.typeIn K (.ref fI) = some (.type "function")) (hm : mg "InvalidFirm" = some (.ref C)) :
    ErrH P w K mg base "InvalidFirm" C ["value"] := by
  refine ⟨⟨_, _, _, _, Z, S.ox⟩, hm, fI, _, iC, tI, SupG.fnok_super (N := ["self", "value", "__class__"]) (ps := ["self", "value"]) (k := 1) lk Z S hmg ns_InvalidFirm rfl rfl rfl rfl (by decide) ?_ (fun L => by rfl) (fun L => by rfl) (fun L => by rfl) ?_, ?_, ?_⟩
  · rintro vs H Q E ⟨a, ys, rfl, hl, _⟩
    exact congrArg (· + 1) hl
  · intro A outer s H vs Q E h
    obtain ⟨a, ys, rfl, hl, ha, _, k⟩ := h
    match ys, hl, k with
    | [y0], _, k =>
    refine ⟨a, [y0], rfl, ha, _, pss_one (ExB.ps_set_exc Z (f := "value") (pv 0) (pv 1)), ?_⟩
    refine ⟨_, rfl, _, rfl, a, C, rfl, S.ox, no0, .inl ⟨ha, fun dx n ne => ?_⟩⟩
    exact k (by simp) dx n ne
  · exact Binds.all fun us h => match us, h with | [_, _], _ => rfl
  · exact fun s u ws h => match ws, h with | [_], _ => .of_eq rfl
abbrev s_InvalidGone_init : Stmt := inClass (top 11) 0
theorem ns_InvalidGone : NdefX.NScope ["self", "position", "__class__"] ["self", "position"] ["__class__"] (defScope s_InvalidGone_init) := NdefX.nscope_by (by decide +kernel)
theorem err_InvalidGone {P : Program} {w : World} {K : PySem.W.Frag} {mg : Str → Option Value} {base : Heap} {C fI cc cda : Addr} {oc kV doc pm ct : Value} {od an : Option Addr} {osl : Array (Option Value)} {B nw ini : String} {tail : List Value} (Z : ExB.Base B nw ini tail)
    (lk : K.lookup fI = some ⟨oc, od, .func (PySem.W.fnX "__init__" "InvalidGone.__init__" (defArgs s_InvalidGone_init) (defBody s_InvalidGone_init) (defScope s_InvalidGone_init) [(("__class__" : Str), cc)] .none kV doc pm an (.ref cda) ct), osl⟩)
    (S : SupG.SupF B nw ini tail K P C cc cda "InvalidGone.__init__") (hmg : mg "super" = none) (no0 : PySem.W.findIn K (.ref C) "position" = some none)
    (iC : PySem.W.findIn K (.ref C) "__init__" = some (some (.ref fI))) (tI : PySem.W.typeIn K (.ref fI) = some (.type "function")) (hm : mg "InvalidGone" = some (.ref C)) :
    ErrH P w K mg base "InvalidGone" C ["position"] := by
  refine ⟨⟨_, _, _, _, Z, S.ox⟩, hm, fI, _, iC, tI, SupG.fnok_super (N := ["self", "position", "__class__"]) (ps := ["self", "position"]) (k := 1) lk Z S hmg ns_InvalidGone rfl rfl rfl rfl (by decide) ?_ (fun L => by rfl) (fun L => by rfl) (fun L => by rfl) ?_, ?_, ?_⟩
  · rintro vs H Q E ⟨a, ys, rfl, hl, _⟩
    exact congrArg (· + 1) hl
  · intro A outer s H vs Q E h
    obtain ⟨a, ys, rfl, hl, ha, _, k⟩ := h
    match ys, hl, k with
    | [y0], _, k =>
    refine ⟨a, [y0], rfl, ha, _, pss_one (ExB.ps_set_exc Z (f := "position") (pv 0) (pv 1)), ?_⟩
    refine ⟨_, rfl, _, rfl, a, C, rfl, S.ox, no0, .inl ⟨ha, fun dx n ne => ?_⟩⟩
    exact k (by simp) dx n ne
  · exact Binds.all fun us h => match us, h with | [_, _], _ => rfl
  · exact fun s u ws h => match ws, h with | [_], _ => .of_eq rfl
abbrev s_InvalidName_init : Stmt := inClass (top 12) 0
theorem ns_InvalidName : NdefX.NScope ["self", "value", "__class__"] ["self", "value"] ["__class__"] (defScope s_InvalidName_init) := NdefX.nscope_by (by decide +kernel)
theorem err_InvalidName {P : Program} {w : World} {K : PySem.W.Frag} {mg : Str → Option Value} {base : Heap} {C fI cc cda : Addr} {oc kV doc pm ct : Value} {od an : Option Addr} {osl : Array (Option Value)} {B nw ini : String} {tail : List Value} (Z : ExB.Base B nw ini tail)
    (lk : K.lookup fI = some ⟨oc, od, .func (PySem.W.fnX "__init__" "InvalidName.__init__" (defArgs s_InvalidName_init) (defBody s_InvalidName_init) (defScope s_InvalidName_init) [(("__class__" : Str), cc)] .none kV doc pm an (.ref cda) ct), osl⟩)
    (S : SupG.SupF B nw ini tail K P C cc cda "InvalidName.__init__") (hmg : mg "super" = none) (no0 : PySem.W.findIn K (.ref C) "value" = some none)
    (iC : PySem.W.findIn K (.ref C) "__init__" = some (some (.ref fI))) (tI : PySem.W.typeIn K (.ref fI) = some (.type "function")) (hm : mg "InvalidName" = some (.ref C)) :
    ErrH P w K mg base "InvalidName" C ["value"] := by
  refine ⟨⟨_, _, _, _, Z, S.ox⟩, hm, fI, _, iC, tI, SupG.fnok_super (N := ["self", "value", "__class__"]) (ps := ["self", "value"]) (k := 1) lk Z S hmg ns_InvalidName rfl rfl rfl rfl (by decide) ?_ (fun L => by rfl) (fun L => by rfl) (fun L => by rfl) ?_, ?_, ?_⟩
  · rintro vs H Q E ⟨a, ys, rfl, hl, _⟩
    exact congrArg (· + 1) hl
  · intro A outer s H vs Q E h
    obtain ⟨a, ys, rfl, hl, ha, _, k⟩ := h
    match ys, hl, k with
    | [y0], _, k =>
    refine ⟨a, [y0], rfl, ha, _, pss_one (ExB.ps_set_exc Z (f := "value") (pv 0) (pv 1)), ?_⟩
    refine ⟨_, rfl, _, rfl, a, C, rfl, S.ox, no0, .inl ⟨ha, fun dx n ne => ?_⟩⟩
    exact k (by simp) dx n ne
  · exact Binds.all fun us h => match us, h with | [_, _], _ => rfl
  · exact fun s u ws h => match ws, h with | [_], _ => .of_eq rfl
abbrev s_InvalidHop_init : Stmt := inClass (top 13) 0
theorem ns_InvalidHop : NdefX.NScope ["self", "value", "__class__"] ["self", "value"] ["__class__"] (defScope s_InvalidHop_init) := NdefX.nscope_by (by decide +kernel)
theorem err_InvalidHop {P : Program} {w : World} {K : PySem.W.Frag} {mg : Str → Option Value} {base : Heap} {C fI cc cda : Addr} {oc kV doc pm ct : Value} {od an : Option Addr} {osl : Array (Option Value)} {B nw ini : String} {tail : List Value} (Z : ExB.Base B nw ini tail)
    (lk : K.lookup fI = some ⟨oc, od, .func (PySem.W.fnX "__init__" "InvalidHop.__init__" (defArgs s_InvalidHop_init) (defBody s_InvalidHop_init) (defScope s_InvalidHop_init) [(("__class__" : Str), cc)] .none kV doc pm an (.ref cda) ct), osl⟩)
    (S : SupG.SupF B nw ini tail K P C cc cda "InvalidHop.__init__") (hmg : mg "super" = none) (no0 : PySem.W.findIn K (.ref C) "value" = some none)
    (iC : PySem.W.findIn K (.ref C) "__init__" = some (some (.ref fI))) (tI : PySem.W.typeIn K (.ref fI) = some (.type "function")) (hm : mg "InvalidHop" = some (.ref C)) :
    ErrH P w K mg base "InvalidHop" C ["value"] := by
  refine ⟨⟨_, _, _, _, Z, S.ox⟩, hm, fI, _, iC, tI, SupG.fnok_super (N := ["self", "value", "__class__"]) (ps := ["self", "value"]) (k := 1) lk Z S hmg ns_InvalidHop rfl rfl rfl rfl (by decide) ?_ (fun L => by rfl) (fun L => by rfl) (fun L => by rfl) ?_, ?_, ?_⟩
  · rintro vs H Q E ⟨a, ys, rfl, hl, _⟩
    exact congrArg (· + 1) hl
  · intro A outer s H vs Q E h
    obtain ⟨a, ys, rfl, hl, ha, _, k⟩ := h
    match ys, hl, k with
    | [y0], _, k =>
    refine ⟨a, [y0], rfl, ha, _, pss_one (ExB.ps_set_exc Z (f := "value") (pv 0) (pv 1)), ?_⟩
    refine ⟨_, rfl, _, rfl, a, C, rfl, S.ox, no0, .inl ⟨ha, fun dx n ne => ?_⟩⟩
    exact k (by simp) dx n ne
  · exact Binds.all fun us h => match us, h with | [_, _], _ => rfl
  · exact fun s u ws h => match ws, h with | [_], _ => .of_eq rfl
abbrev s_InvalidWay_init : Stmt := inClass (top 14) 0
theorem ns_InvalidWay : NdefX.NScope ["self", "value", "__class__"] ["self", "value"] ["__class__"] (defScope s_InvalidWay_init) := NdefX.nscope_by (by decide +kernel)
theorem err_InvalidWay {P : Program} {w : World} {K : PySem.W.Frag} {mg : Str → Option Value} {base : Heap} {C fI cc cda : Addr} {oc kV doc pm ct : Value} {od an : Option Addr} {osl : Array (Option Value)} {B nw ini : String} {tail : List Value} (Z : ExB.Base B nw ini tail)
    (lk : K.lookup fI = some ⟨oc, od, .func (PySem.W.fnX "__init__" "InvalidWay.__init__" (defArgs s_InvalidWay_init) (defBody s_InvalidWay_init) (defScope s_InvalidWay_init) [(("__class__" : Str), cc)] .none kV doc pm an (.ref cda) ct), osl⟩)
    (S : SupG.SupF B nw ini tail K P C cc cda "InvalidWay.__init__") (hmg : mg "super" = none) (no0 : PySem.W.findIn K (.ref C) "value" = some none)
    (iC : PySem.W.findIn K (.ref C) "__init__" = some (some (.ref fI))) (tI : PySem.W.typeIn K (.ref fI) = some (.type "function")) (hm : mg "InvalidWay" = some (.ref C)) :
    ErrH P w K mg base "InvalidWay" C ["value"] := by
  refine ⟨⟨_, _, _, _, Z, S.ox⟩, hm, fI, _, iC, tI, SupG.fnok_super (N := ["self", "value", "__class__"]) (ps := ["self", "value"]) (k := 1) lk Z S hmg ns_InvalidWay rfl rfl rfl rfl (by decide) ?_ (fun L => by rfl) (fun L => by rfl) (fun L => by rfl) ?_, ?_, ?_⟩
  · rintro vs H Q E ⟨a, ys, rfl, hl, _⟩
    exact congrArg (· + 1) hl
  · intro A outer s H vs Q E h
    obtain ⟨a, ys, rfl, hl, ha, _, k⟩ := h
    match ys, hl, k with
    | [y0], _, k =>
    refine ⟨a, [y0], rfl, ha, _, pss_one (ExB.ps_set_exc Z (f := "value") (pv 0) (pv 1)), ?_⟩
    refine ⟨_, rfl, _, rfl, a, C, rfl, S.ox, no0, .inl ⟨ha, fun dx n ne => ?_⟩⟩
    exact k (by simp) dx n ne
  · exact Binds.all fun us h => match us, h with | [_, _], _ => rfl
  · exact fun s u ws h => match ws, h with | [_], _ => .of_eq rfl
abbrev s_InvalidMembers_init : Stmt := inClass (top 15) 0
theorem ns_InvalidMembers : NdefX.NScope ["self", "position", "__class__"] ["self", "position"] ["__class__"] (defScope s_InvalidMembers_init) := NdefX.nscope_by (by decide +kernel)
theorem err_InvalidMembers {P : Program} {w : World} {K : PySem.W.Frag} {mg : Str → Option Value} {base : Heap} {C fI cc cda : Addr} {oc kV doc pm ct : Value} {od an : Option Addr} {osl : Array (Option Value)} {B nw ini : String} {tail : List Value} (Z : ExB.Base B nw ini tail)
    (lk : K.lookup fI = some ⟨oc, od, .func (PySem.W.fnX "__init__" "InvalidMembers.__init__" (defArgs s_InvalidMembers_init) (defBody s_InvalidMembers_init) (defScope s_InvalidMembers_init) [(("__class__" : Str), cc)] .none kV doc pm an (.ref cda) ct), osl⟩)
    (S : SupG.SupF B nw ini tail K P C cc cda "InvalidMembers.__init__") (hmg : mg "super" = none) (no0 : PySem.W.findIn K (.ref C) "position" = some none)
    (iC : PySem.W.findIn K (.ref C) "__init__" = some (some (.ref fI))) (tI : PySem.W.typeIn K (.ref fI) = some (.type "function")) (hm : mg "InvalidMembers" = some (.ref C)) :
    ErrH P w K mg base "InvalidMembers" C ["position"] := by
  refine ⟨⟨_, _, _, _, Z, S.ox⟩, hm, fI, _, iC, tI, SupG.fnok_super (N := ["self", "position", "__class__"]) (ps := ["self", "position"]) (k := 1) lk Z S hmg ns_InvalidMembers rfl rfl rfl rfl (by decide) ?_ (fun L => by rfl) (fun L => by rfl) (fun L => by rfl) ?_, ?_, ?_⟩
  · rintro vs H Q E ⟨a, ys, rfl, hl, _⟩
    exact congrArg (· + 1) hl
  · intro A outer s H vs Q E h
    obtain ⟨a, ys, rfl, hl, ha, _, k⟩ := h
    match ys, hl, k with
    | [y0], _, k =>
    refine ⟨a, [y0], rfl, ha, _, pss_one (ExB.ps_set_exc Z (f := "position") (pv 0) (pv 1)), ?_⟩
    refine ⟨_, rfl, _, rfl, a, C, rfl, S.ox, no0, .inl ⟨ha, fun dx n ne => ?_⟩⟩
    exact k (by simp) dx n ne
  · exact Binds.all fun us h => match us, h with | [_, _], _ => rfl
  · exact fun s u ws h => match ws, h with | [_], _ => .of_eq rfl
abbrev s_InvalidItems_init : Stmt := inClass (top 16) 0
theorem ns_InvalidItems : NdefX.NScope ["self", "position", "__class__"] ["self", "position"] ["__class__"] (defScope s_InvalidItems_init) := NdefX.nscope_by (by decide +kernel)
theorem err_InvalidItems {P : Program} {w : World} {K : PySem.W.Frag} {mg : Str → Option Value} {base : Heap} {C fI cc cda : Addr} {oc kV doc pm ct : Value} {od an : Option Addr} {osl : Array (Option Value)} {B nw ini : String} {tail : List Value} (Z : ExB.Base B nw ini tail)
    (lk : K.lookup fI = some ⟨oc, od, .func (PySem.W.fnX "__init__" "InvalidItems.__init__" (defArgs s_InvalidItems_init) (defBody s_InvalidItems_init) (defScope s_InvalidItems_init) [(("__class__" : Str), cc)] .none kV doc pm an (.ref cda) ct), osl⟩)
    (S : SupG.SupF B nw ini tail K P C cc cda "InvalidItems.__init__") (hmg : mg "super" = none) (no0 : PySem.W.findIn K (.ref C) "position" = some none)
    (iC : PySem.W.findIn K (.ref C) "__init__" = some (some (.ref fI))) (tI : PySem.W.typeIn K (.ref fI) = some (.type "function")) (hm : mg "InvalidItems" = some (.ref C)) :
    ErrH P w K mg base "InvalidItems" C ["position"] := by
  refine ⟨⟨_, _, _, _, Z, S.ox⟩, hm, fI, _, iC, tI, SupG.fnok_super (N := ["self", "position", "__class__"]) (ps := ["self", "position"]) (k := 1) lk Z S hmg ns_InvalidItems rfl rfl rfl rfl (by decide) ?_ (fun L => by rfl) (fun L => by rfl) (fun L => by rfl) ?_, ?_, ?_⟩
  · rintro vs H Q E ⟨a, ys, rfl, hl, _⟩
    exact congrArg (· + 1) hl
  · intro A outer s H vs Q E h
    obtain ⟨a, ys, rfl, hl, ha, _, k⟩ := h
    match ys, hl, k with
    | [y0], _, k =>
    refine ⟨a, [y0], rfl, ha, _, pss_one (ExB.ps_set_exc Z (f := "position") (pv 0) (pv 1)), ?_⟩
    refine ⟨_, rfl, _, rfl, a, C, rfl, S.ox, no0, .inl ⟨ha, fun dx n ne => ?_⟩⟩
    exact k (by simp) dx n ne
  · exact Binds.all fun us h => match us, h with | [_, _], _ => rfl
  · exact fun s u ws h => match ws, h with | [_], _ => .of_eq rfl
abbrev s_InvalidWithdrawn_init : Stmt := inClass (top 17) 0
theorem ns_InvalidWithdrawn : NdefX.NScope ["self", "position", "__class__"] ["self", "position"] ["__class__"] (defScope s_InvalidWithdrawn_init) := NdefX.nscope_by (by decide +kernel)
theorem err_InvalidWithdrawn {P : Program} {w : World} {K : PySem.W.Frag} {mg : Str → Option Value} {base : Heap} {C fI cc cda : Addr} {oc kV doc pm ct : Value} {od an : Option Addr} {osl : Array (Option Value)} {B nw ini : String} {tail : List Value} (Z : ExB.Base B nw ini tail)
    (lk : K.lookup fI = some ⟨oc, od, .func (PySem.W.fnX "__init__" "InvalidWithdrawn.__init__" (defArgs s_InvalidWithdrawn_init) (defBody s_InvalidWithdrawn_init) (defScope s_InvalidWithdrawn_init) [(("__class__" : Str), cc)] .none kV doc pm an (.ref cda) ct), osl⟩)
    (S : SupG.SupF B nw ini tail K P C cc cda "InvalidWithdrawn.__init__") (hmg : mg "super" = none) (no0 : PySem.W.findIn K (.ref C) "position" = some none)
    (iC : PySem.W.findIn K (.ref C) "__init__" = some (some (.ref fI))) (tI : PySem.W.typeIn K (.ref fI) = some (.type "function")) (hm : mg "InvalidWithdrawn" = some (.ref C)) :
    ErrH P w K mg base "InvalidWithdrawn" C ["position"] := by
  refine ⟨⟨_, _, _, _, Z, S.ox⟩, hm, fI, _, iC, tI, SupG.fnok_super (N := ["self", "position", "__class__"]) (ps := ["self", "position"]) (k := 1) lk Z S hmg ns_InvalidWithdrawn rfl rfl rfl rfl (by decide) ?_ (fun L => by rfl) (fun L => by rfl) (fun L => by rfl) ?_, ?_, ?_⟩
  · rintro vs H Q E ⟨a, ys, rfl, hl, _⟩
    exact congrArg (· + 1) hl
  · intro A outer s H vs Q E h
    obtain ⟨a, ys, rfl, hl, ha, _, k⟩ := h
    match ys, hl, k with
    | [y0], _, k =>
    refine ⟨a, [y0], rfl, ha, _, pss_one (ExB.ps_set_exc Z (f := "position") (pv 0) (pv 1)), ?_⟩
    refine ⟨_, rfl, _, rfl, a, C, rfl, S.ox, no0, .inl ⟨ha, fun dx n ne => ?_⟩⟩
    exact k (by simp) dx n ne
  · exact Binds.all fun us h => match us, h with | [_, _], _ => rfl
  · exact fun s u ws h => match ws, h with | [_], _ => .of_eq rfl
abbrev s_InvalidRegion_init : Stmt := inClass (top 18) 0
theorem ns_InvalidRegion : NdefX.NScope ["self", "position", "__class__"] ["self", "position"] ["__class__"] (defScope s_InvalidRegion_init) := NdefX.nscope_by (by decide +kernel)
theorem err_InvalidRegion {P : Program} {w : World} {K : PySem.W.Frag} {mg : Str → Option Value} {base : Heap} {C fI cc cda : Addr} {oc kV doc pm ct : Value} {od an : Option Addr} {osl : Array (Option Value)} {B nw ini : String} {tail : List Value} (Z : ExB.Base B nw ini tail)
    (lk : K.lookup fI = some ⟨oc, od, .func (PySem.W.fnX "__init__" "InvalidRegion.__init__" (defArgs s_InvalidRegion_init) (defBody s_InvalidRegion_init) (defScope s_InvalidRegion_init) [(("__class__" : Str), cc)] .none kV doc pm an (.ref cda) ct), osl⟩)
    (S : SupG.SupF B nw ini tail K P C cc cda "InvalidRegion.__init__") (hmg : mg "super" = none) (no0 : PySem.W.findIn K (.ref C) "position" = some none)
    (iC : PySem.W.findIn K (.ref C) "__init__" = some (some (.ref fI))) (tI : PySem.W.typeIn K (.ref fI) = some (.type "function")) (hm : mg "InvalidRegion" = some (.ref C)) :
    ErrH P w K mg base "InvalidRegion" C ["position"] := by
  refine ⟨⟨_, _, _, _, Z, S.ox⟩, hm, fI, _, iC, tI, SupG.fnok_super (N := ["self", "position", "__class__"]) (ps := ["self", "position"]) (k := 1) lk Z S hmg ns_InvalidRegion rfl rfl rfl rfl (by decide) ?_ (fun L => by rfl) (fun L => by rfl) (fun L => by rfl) ?_, ?_, ?_⟩
  · rintro vs H Q E ⟨a, ys, rfl, hl, _⟩
    exact congrArg (· + 1) hl
  · intro A outer s H vs Q E h
    obtain ⟨a, ys, rfl, hl, ha, _, k⟩ := h
    match ys, hl, k with
    | [y0], _, k =>
    refine ⟨a, [y0], rfl, ha, _, pss_one (ExB.ps_set_exc Z (f := "position") (pv 0) (pv 1)), ?_⟩
    refine ⟨_, rfl, _, rfl, a, C, rfl, S.ox, no0, .inl ⟨ha, fun dx n ne => ?_⟩⟩
    exact k (by simp) dx n ne
  · exact Binds.all fun us h => match us, h with | [_, _], _ => rfl
  · exact fun s u ws h => match ws, h with | [_], _ => .of_eq rfl
abbrev s_InvalidHops_init : Stmt := inClass (top 19) 0
theorem ns_InvalidHops : NdefX.NScope ["self", "position", "__class__"] ["self", "position"] ["__class__"] (defScope s_InvalidHops_init) := NdefX.nscope_by (by decide +kernel)
theorem err_InvalidHops {P : Program} {w : World} {K : PySem.W.Frag} {mg : Str → Option Value} {base : Heap} {C fI cc cda : Addr} {oc kV doc pm ct : Value} {od an : Option Addr} {osl : Array (Option Value)} {B nw ini : String} {tail : List Value} (Z : ExB.Base B nw ini tail)
    (lk : K.lookup fI = some ⟨oc, od, .func (PySem.W.fnX "__init__" "InvalidHops.__init__" (defArgs s_InvalidHops_init) (defBody s_InvalidHops_init) (defScope s_InvalidHops_init) [(("__class__" : Str), cc)] .none kV doc pm an (.ref cda) ct), osl⟩)
    (S : SupG.SupF B nw ini tail K P C cc cda "InvalidHops.__init__") (hmg : mg "super" = none) (no0 : PySem.W.findIn K (.ref C) "position" = some none)
    (iC : PySem.W.findIn K (.ref C) "__init__" = some (some (.ref fI))) (tI : PySem.W.typeIn K (.ref fI) = some (.type "function")) (hm : mg "InvalidHops" = some (.ref C)) :
    ErrH P w K mg base "InvalidHops" C ["position"] := by
  refine ⟨⟨_, _, _, _, Z, S.ox⟩, hm, fI, _, iC, tI, SupG.fnok_super (N := ["self", "position", "__class__"]) (ps := ["self", "position"]) (k := 1) lk Z S hmg ns_InvalidHops rfl rfl rfl rfl (by decide) ?_ (fun L => by rfl) (fun L => by rfl) (fun L => by rfl) ?_, ?_, ?_⟩
  · rintro vs H Q E ⟨a, ys, rfl, hl, _⟩
    exact congrArg (· + 1) hl
  · intro A outer s H vs Q E h
    obtain ⟨a, ys, rfl, hl, ha, _, k⟩ := h
    match ys, hl, k with
    | [y0], _, k =>
    refine ⟨a, [y0], rfl, ha, _, pss_one (ExB.ps_set_exc Z (f := "position") (pv 0) (pv 1)), ?_⟩
    refine ⟨_, rfl, _, rfl, a, C, rfl, S.ox, no0, .inl ⟨ha, fun dx n ne => ?_⟩⟩
    exact k (by simp) dx n ne
  · exact Binds.all fun us h => match us, h with | [_, _], _ => rfl
  · exact fun s u ws h => match ws, h with | [_], _ => .of_eq rfl
abbrev s_InvalidWord_init : Stmt := inClass (top 20) 0
theorem ns_InvalidWord : NdefX.NScope ["self", "value", "__class__"] ["self", "value"] ["__class__"] (defScope s_InvalidWord_init) := NdefX.nscope_by (by decide +kernel)
theorem err_InvalidWord {P : Program} {w : World} {K : PySem.W.Frag} {mg : Str → Option Value} {base : Heap} {C fI cc cda : Addr} {oc kV doc pm ct : Value} {od an : Option Addr} {osl : Array (Option Value)} {B nw ini : String} {tail : List Value} (Z : ExB.Base B nw ini tail)
    (lk : K.lookup fI = some ⟨oc, od, .func (PySem.W.fnX "__init__" "InvalidWord.__init__" (defArgs s_InvalidWord_init) (defBody s_InvalidWord_init) (defScope s_InvalidWord_init) [(("__class__" : Str), cc)] .none kV doc pm an (.ref cda) ct), osl⟩)
    (S : SupG.SupF B nw ini tail K P C cc cda "InvalidWord.__init__") (hmg : mg "super" = none) (no0 : PySem.W.findIn K (.ref C) "value" = some none)
    (iC : PySem.W.findIn K (.ref C) "__init__" = some (some (.ref fI))) (tI : PySem.W.typeIn K (.ref fI) = some (.type "function")) (hm : mg "InvalidWord" = some (.ref C)) :
    ErrH P w K mg base "InvalidWord" C ["value"] := by
  refine ⟨⟨_, _, _, _, Z, S.ox⟩, hm, fI, _, iC, tI, SupG.fnok_super (N := ["self", "value", "__class__"]) (ps := ["self", "value"]) (k := 1) lk Z S hmg ns_InvalidWord rfl rfl rfl rfl (by decide) ?_ (fun L => by rfl) (fun L => by rfl) (fun L => by rfl) ?_, ?_, ?_⟩
  · rintro vs H Q E ⟨a, ys, rfl, hl, _⟩
    exact congrArg (· + 1) hl
  · intro A outer s H vs Q E h
    obtain ⟨a, ys, rfl, hl, ha, _, k⟩ := h
    match ys, hl, k with
    | [y0], _, k =>
    refine ⟨a, [y0], rfl, ha, _, pss_one (ExB.ps_set_exc Z (f := "value") (pv 0) (pv 1)), ?_⟩
    refine ⟨_, rfl, _, rfl, a, C, rfl, S.ox, no0, .inl ⟨ha, fun dx n ne => ?_⟩⟩
    exact k (by simp) dx n ne
  · exact Binds.all fun us h => match us, h with | [_, _], _ => rfl
  · exact fun s u ws h => match ws, h with | [_], _ => .of_eq rfl
abbrev s_InvalidText_init : Stmt := inClass (top 21) 0
theorem ns_InvalidText : NdefX.NScope ["self", "line", "__class__"] ["self", "line"] ["__class__"] (defScope s_InvalidText_init) := NdefX.nscope_by (by decide +kernel)
theorem err_InvalidText {P : Program} {w : World} {K : PySem.W.Frag} {mg : Str → Option Value} {base : Heap} {C fI cc cda : Addr} {oc kV doc pm ct : Value} {od an : Option Addr} {osl : Array (Option Value)} {B nw ini : String} {tail : List Value} (Z : ExB.Base B nw ini tail)
    (lk : K.lookup fI = some ⟨oc, od, .func (PySem.W.fnX "__init__" "InvalidText.__init__" (defArgs s_InvalidText_init) (defBody s_InvalidText_init) (defScope s_InvalidText_init) [(("__class__" : Str), cc)] .none kV doc pm an (.ref cda) ct), osl⟩)
    (S : SupG.SupF B nw ini tail K P C cc cda "InvalidText.__init__") (hmg : mg "super" = none) (no0 : PySem.W.findIn K (.ref C) "line" = some none)
    (iC : PySem.W.findIn K (.ref C) "__init__" = some (some (.ref fI))) (tI : PySem.W.typeIn K (.ref fI) = some (.type "function")) (hm : mg "InvalidText" = some (.ref C)) :
    ErrH P w K mg base "InvalidText" C ["line"] := by
  refine ⟨⟨_, _, _, _, Z, S.ox⟩, hm, fI, _, iC, tI, SupG.fnok_super (N := ["self", "line", "__class__"]) (ps := ["self", "line"]) (k := 1) lk Z S hmg ns_InvalidText rfl rfl rfl rfl (by decide) ?_ (fun L => by rfl) (fun L => by rfl) (fun L => by rfl) ?_, ?_, ?_⟩
  · rintro vs H Q E ⟨a, ys, rfl, hl, _⟩
    exact congrArg (· + 1) hl
  · intro A outer s H vs Q E h
    obtain ⟨a, ys, rfl, hl, ha, _, k⟩ := h
    match ys, hl, k with
    | [y0], _, k =>
    refine ⟨a, [y0], rfl, ha, _, pss_one (ExB.ps_set_exc Z (f := "line") (pv 0) (pv 1)), ?_⟩
    refine ⟨_, rfl, _, rfl, a, C, rfl, S.ox, no0, .inl ⟨ha, fun dx n ne => ?_⟩⟩
    exact k (by simp) dx n ne
  · exact Binds.all fun us h => match us, h with | [_, _], _ => rfl
  · exact fun s u ws h => match ws, h with | [_], _ => .of_eq rfl
abbrev s_InvalidClaim_init : Stmt := inClass (top 22) 0
theorem ns_InvalidClaim : NdefX.NScope ["self", "value", "__class__"] ["self", "value"] ["__class__"] (defScope s_InvalidClaim_init) := NdefX.nscope_by (by decide +kernel)
theorem err_InvalidClaim {P : Program} {w : World} {K : PySem.W.Frag} {mg : Str → Option Value} {base : Heap} {C fI cc cda : Addr} {oc kV doc pm ct : Value} {od an : Option Addr} {osl : Array (Option Value)} {B nw ini : String} {tail : List Value} (Z : ExB.Base B nw ini tail)
    (lk : K.lookup fI = some ⟨oc, od, .func (PySem.W.fnX "__init__" "InvalidClaim.__init__" (defArgs s_InvalidClaim_init) (defBody s_InvalidClaim_init) (defScope s_InvalidClaim_init) [(("__class__" : Str), cc)] .none kV doc pm an (.ref cda) ct), osl⟩)
    (S : SupG.SupF B nw ini tail K P C cc cda "InvalidClaim.__init__") (hmg : mg "super" = none) (no0 : PySem.W.findIn K (.ref C) "value" = some none)
    (iC : PySem.W.findIn K (.ref C) "__init__" = some (some (.ref fI))) (tI : PySem.W.typeIn K (.ref fI) = some (.type "function")) (hm : mg "InvalidClaim" = some (.ref C)) :
    ErrH P w K mg base "InvalidClaim" C ["value"] := by
  refine ⟨⟨_, _, _, _, Z, S.ox⟩, hm, fI, _, iC, tI, SupG.fnok_super (N := ["self", "value", "__class__"]) (ps := ["self", "value"]) (k := 1) lk Z S hmg ns_InvalidClaim rfl rfl rfl rfl (by decide) ?_ (fun L => by rfl) (fun L => by rfl) (fun L => by rfl) ?_, ?_, ?_⟩
  · rintro vs H Q E ⟨a, ys, rfl, hl, _⟩
    exact congrArg (· + 1) hl
  · intro A outer s H vs Q E h
    obtain ⟨a, ys, rfl, hl, ha, _, k⟩ := h
    match ys, hl, k with
    | [y0], _, k =>
    refine ⟨a, [y0], rfl, ha, _, pss_one (ExB.ps_set_exc Z (f := "value") (pv 0) (pv 1)), ?_⟩
    refine ⟨_, rfl, _, rfl, a, C, rfl, S.ox, no0, .inl ⟨ha, fun dx n ne => ?_⟩⟩
    exact k (by simp) dx n ne
  · exact Binds.all fun us h => match us, h with | [_, _], _ => rfl
  · exact fun s u ws h => match ws, h with | [_], _ => .of_eq rfl
abbrev s_InvalidCommand_init : Stmt := inClass (top 23) 0
theorem ns_InvalidCommand : NdefX.NScope ["self", "value", "__class__"] ["self", "value"] ["__class__"] (defScope s_InvalidCommand_init) := NdefX.nscope_by (by decide +kernel)
theorem err_InvalidCommand {P : Program} {w : World} {K : PySem.W.Frag} {mg : Str → Option Value} {base : Heap} {C fI cc cda : Addr} {oc kV doc pm ct : Value} {od an : Option Addr} {osl : Array (Option Value)} {B nw ini : String} {tail : List Value} (Z : ExB.Base B nw ini tail)
    (lk : K.lookup fI = some ⟨oc, od, .func (PySem.W.fnX "__init__" "InvalidCommand.__init__" (defArgs s_InvalidCommand_init) (defBody s_InvalidCommand_init) (defScope s_InvalidCommand_init) [(("__class__" : Str), cc)] .none kV doc pm an (.ref cda) ct), osl⟩)
    (S : SupG.SupF B nw ini tail K P C cc cda "InvalidCommand.__init__") (hmg : mg "super" = none) (no0 : PySem.W.findIn K (.ref C) "value" = some none)
    (iC : PySem.W.findIn K (.ref C) "__init__" = some (some (.ref fI))) (tI : PySem.W.typeIn K (.ref fI) = some (.type "function")) (hm : mg "InvalidCommand" = some (.ref C)) :
    ErrH P w K mg base "InvalidCommand" C ["value"] := by
  refine ⟨⟨_, _, _, _, Z, S.ox⟩, hm, fI, _, iC, tI, SupG.fnok_super (N := ["self", "value", "__class__"]) (ps := ["self", "value"]) (k := 1) lk Z S hmg ns_InvalidCommand rfl rfl rfl rfl (by decide) ?_ (fun L => by rfl) (fun L => by rfl) (fun L => by rfl) ?_, ?_, ?_⟩
  · rintro vs H Q E ⟨a, ys, rfl, hl, _⟩
    exact congrArg (· + 1) hl
  · intro A outer s H vs Q E h
    obtain ⟨a, ys, rfl, hl, ha, _, k⟩ := h
    match ys, hl, k with
    | [y0], _, k =>
    refine ⟨a, [y0], rfl, ha, _, pss_one (ExB.ps_set_exc Z (f := "value") (pv 0) (pv 1)), ?_⟩
    refine ⟨_, rfl, _, rfl, a, C, rfl, S.ox, no0, .inl ⟨ha, fun dx n ne => ?_⟩⟩
    exact k (by simp) dx n ne
  · exact Binds.all fun us h => match us, h with | [_, _], _ => rfl
  · exact fun s u ws h => match ws, h with | [_], _ => .of_eq rfl
abbrev s_UnknownStretch_init : Stmt := inClass (top 25) 0
theorem ns_UnknownStretch : NdefX.NScope ["self", "value", "__class__"] ["self", "value"] ["__class__"] (defScope s_UnknownStretch_init) := NdefX.nscope_by (by decide +kernel)
theorem err_UnknownStretch {P : Program} {w : World} {K : PySem.W.Frag} {mg : Str → Option Value} {base : Heap} {C fI cc cda : Addr} {oc kV doc pm ct : Value} {od an : Option Addr} {osl : Array (Option Value)} {B nw ini : String} {tail : List Value} (Z : ExB.Base B nw ini tail)
    (lk : K.lookup fI = some ⟨oc, od, .func (PySem.W.fnX "__init__" "UnknownStretch.__init__" (defArgs s_UnknownStretch_init) (defBody s_UnknownStretch_init) (defScope s_UnknownStretch_init) [(("__class__" : Str), cc)] .none kV doc pm an (.ref cda) ct), osl⟩)
    (S : SupG.SupF B nw ini tail K P C cc cda "UnknownStretch.__init__") (hmg : mg "super" = none) (no0 : PySem.W.findIn K (.ref C) "value" = some none)
    (iC : PySem.W.findIn K (.ref C) "__init__" = some (some (.ref fI))) (tI : PySem.W.typeIn K (.ref fI) = some (.type "function")) (hm : mg "UnknownStretch" = some (.ref C)) :
    ErrH P w K mg base "UnknownStretch" C ["value"] := by
  refine ⟨⟨_, _, _, _, Z, S.ox⟩, hm, fI, _, iC, tI, SupG.fnok_super (N := ["self", "value", "__class__"]) (ps := ["self", "value"]) (k := 1) lk Z S hmg ns_UnknownStretch rfl rfl rfl rfl (by decide) ?_ (fun L => by rfl) (fun L => by rfl) (fun L => by rfl) ?_, ?_, ?_⟩
  · rintro vs H Q E ⟨a, ys, rfl, hl, _⟩
    exact congrArg (· + 1) hl
  · intro A outer s H vs Q E h
    obtain ⟨a, ys, rfl, hl, ha, _, k⟩ := h
    match ys, hl, k with
    | [y0], _, k =>
    refine ⟨a, [y0], rfl, ha, _, pss_one (ExB.ps_set_exc Z (f := "value") (pv 0) (pv 1)), ?_⟩
    refine ⟨_, rfl, _, rfl, a, C, rfl, S.ox, no0, .inl ⟨ha, fun dx n ne => ?_⟩⟩
    exact k (by simp) dx n ne
  · exact Binds.all fun us h => match us, h with | [_, _], _ => rfl
  · exact fun s u ws h => match ws, h with | [_], _ => .of_eq rfl
abbrev s_UnknownHop_init : Stmt := inClass (top 26) 0
theorem ns_UnknownHop : NdefX.NScope ["self", "value", "__class__"] ["self", "value"] ["__class__"] (defScope s_UnknownHop_init) := NdefX.nscope_by (by decide +kernel)
theorem err_UnknownHop {P : Program} {w : World} {K : PySem.W.Frag} {mg : Str → Option Value} {base : Heap} {C fI cc cda : Addr} {oc kV doc pm ct : Value} {od an : Option Addr} {osl : Array (Option Value)} {B nw ini : String} {tail : List Value} (Z : ExB.Base B nw ini tail)
    (lk : K.lookup fI = some ⟨oc, od, .func (PySem.W.fnX "__init__" "UnknownHop.__init__" (defArgs s_UnknownHop_init) (defBody s_UnknownHop_init) (defScope s_UnknownHop_init) [(("__class__" : Str), cc)] .none kV doc pm an (.ref cda) ct), osl⟩)
    (S : SupG.SupF B nw ini tail K P C cc cda "UnknownHop.__init__") (hmg : mg "super" = none) (no0 : PySem.W.findIn K (.ref C) "value" = some none)
    (iC : PySem.W.findIn K (.ref C) "__init__" = some (some (.ref fI))) (tI : PySem.W.typeIn K (.ref fI) = some (.type "function")) (hm : mg "UnknownHop" = some (.ref C)) :
    ErrH P w K mg base "UnknownHop" C ["value"] := by
  refine ⟨⟨_, _, _, _, Z, S.ox⟩, hm, fI, _, iC, tI, SupG.fnok_super (N := ["self", "value", "__class__"]) (ps := ["self", "value"]) (k := 1) lk Z S hmg ns_UnknownHop rfl rfl rfl rfl (by decide) ?_ (fun L => by rfl) (fun L => by rfl) (fun L => by rfl) ?_, ?_, ?_⟩
  · rintro vs H Q E ⟨a, ys, rfl, hl, _⟩
    exact congrArg (· + 1) hl
  · intro A outer s H vs Q E h
    obtain ⟨a, ys, rfl, hl, ha, _, k⟩ := h
    match ys, hl, k with
    | [y0], _, k =>
    refine ⟨a, [y0], rfl, ha, _, pss_one (ExB.ps_set_exc Z (f := "value") (pv 0) (pv 1)), ?_⟩
    refine ⟨_, rfl, _, rfl, a, C, rfl, S.ox, no0, .inl ⟨ha, fun dx n ne => ?_⟩⟩
    exact k (by simp) dx n ne
  · exact Binds.all fun us h => match us, h with | [_, _], _ => rfl
  · exact fun s u ws h => match ws, h with | [_], _ => .of_eq rfl
abbrev s_UnknownGoal_init : Stmt := inClass (top 27) 0
theorem ns_UnknownGoal : NdefX.NScope ["self", "value", "__class__"] ["self", "value"] ["__class__"] (defScope s_UnknownGoal_init) := NdefX.nscope_by (by decide +kernel)
theorem err_UnknownGoal {P : Program} {w : World} {K : PySem.W.Frag} {mg : Str → Option Value} {base : Heap} {C fI cc cda : Addr} {oc kV doc pm ct : Value} {od an : Option Addr} {osl : Array (Option Value)} {B nw ini : String} {tail : List Value} (Z : ExB.Base B nw ini tail)
    (lk : K.lookup fI = some ⟨oc, od, .func (PySem.W.fnX "__init__" "UnknownGoal.__init__" (defArgs s_UnknownGoal_init) (defBody s_UnknownGoal_init) (defScope s_UnknownGoal_init) [(("__class__" : Str), cc)] .none kV doc pm an (.ref cda) ct), osl⟩)
    (S : SupG.SupF B nw ini tail K P C cc cda "UnknownGoal.__init__") (hmg : mg "super" = none) (no0 : PySem.W.findIn K (.ref C) "value" = some none)
    (iC : PySem.W.findIn K (.ref C) "__init__" = some (some (.ref fI))) (tI : PySem.W.typeIn K (.ref fI) = some (.type "function")) (hm : mg "UnknownGoal" = some (.ref C)) :
    ErrH P w K mg base "UnknownGoal" C ["value"] := by
  refine ⟨⟨_, _, _, _, Z, S.ox⟩, hm, fI, _, iC, tI, SupG.fnok_super (N := ["self", "value", "__class__"]) (ps := ["self", "value"]) (k := 1) lk Z S hmg ns_UnknownGoal rfl rfl rfl rfl (by decide) ?_ (fun L => by rfl) (fun L => by rfl) (fun L => by rfl) ?_, ?_, ?_⟩
  · rintro vs H Q E ⟨a, ys, rfl, hl, _⟩
    exact congrArg (· + 1) hl
  · intro A outer s H vs Q E h
    obtain ⟨a, ys, rfl, hl, ha, _, k⟩ := h
    match ys, hl, k with
    | [y0], _, k =>
    refine ⟨a, [y0], rfl, ha, _, pss_one (ExB.ps_set_exc Z (f := "value") (pv 0) (pv 1)), ?_⟩
    refine ⟨_, rfl, _, rfl, a, C, rfl, S.ox, no0, .inl ⟨ha, fun dx n ne => ?_⟩⟩
    exact k (by simp) dx n ne
  · exact Binds.all fun us h => match us, h with | [_, _], _ => rfl
  · exact fun s u ws h => match ws, h with | [_], _ => .of_eq rfl
abbrev s_UnknownItem_init : Stmt := inClass (top 28) 0
theorem ns_UnknownItem : NdefX.NScope ["self", "value", "__class__"] ["self", "value"] ["__class__"] (defScope s_UnknownItem_init) := NdefX.nscope_by (by decide +kernel)
theorem err_UnknownItem {P : Program} {w : World} {K : PySem.W.Frag} {mg : Str → Option Value} {base : Heap} {C fI cc cda : Addr} {oc kV doc pm ct : Value} {od an : Option Addr} {osl : Array (Option Value)} {B nw ini : String} {tail : List Value} (Z : ExB.Base B nw ini tail)
    (lk : K.lookup fI = some ⟨oc, od, .func (PySem.W.fnX "__init__" "UnknownItem.__init__" (defArgs s_UnknownItem_init) (defBody s_UnknownItem_init) (defScope s_UnknownItem_init) [(("__class__" : Str), cc)] .none kV doc pm an (.ref cda) ct), osl⟩)
    (S : SupG.SupF B nw ini tail K P C cc cda "UnknownItem.__init__") (hmg : mg "super" = none) (no0 : PySem.W.findIn K (.ref C) "value" = some none)
    (iC : PySem.W.findIn K (.ref C) "__init__" = some (some (.ref fI))) (tI : PySem.W.typeIn K (.ref fI) = some (.type "function")) (hm : mg "UnknownItem" = some (.ref C)) :
    ErrH P w K mg base "UnknownItem" C ["value"] := by
  refine ⟨⟨_, _, _, _, Z, S.ox⟩, hm, fI, _, iC, tI, SupG.fnok_super (N := ["self", "value", "__class__"]) (ps := ["self", "value"]) (k := 1) lk Z S hmg ns_UnknownItem rfl rfl rfl rfl (by decide) ?_ (fun L => by rfl) (fun L => by rfl) (fun L => by rfl) ?_, ?_, ?_⟩
  · rintro vs H Q E ⟨a, ys, rfl, hl, _⟩
    exact congrArg (· + 1) hl
  · intro A outer s H vs Q E h
    obtain ⟨a, ys, rfl, hl, ha, _, k⟩ := h
    match ys, hl, k with
    | [y0], _, k =>
    refine ⟨a, [y0], rfl, ha, _, pss_one (ExB.ps_set_exc Z (f := "value") (pv 0) (pv 1)), ?_⟩
    refine ⟨_, rfl, _, rfl, a, C, rfl, S.ox, no0, .inl ⟨ha, fun dx n ne => ?_⟩⟩
    exact k (by simp) dx n ne
  · exact Binds.all fun us h => match us, h with | [_, _], _ => rfl
  · exact fun s u ws h => match ws, h with | [_], _ => .of_eq rfl
abbrev s_OtherWidth_init : Stmt := inClass (top 30) 0
theorem ns_OtherWidth : NdefX.NScope ["self", "one", "other", "__class__"] ["self", "one", "other"] ["__class__"] (defScope s_OtherWidth_init) := NdefX.nscope_by (by decide +kernel)
theorem err_OtherWidth {P : Program} {w : World} {K : PySem.W.Frag} {mg : Str → Option Value} {base : Heap} {C fI cc cda : Addr} {oc kV doc pm ct : Value} {od an : Option Addr} {osl : Array (Option Value)} {B nw ini : String} {tail : List Value} (Z : ExB.Base B nw ini tail)
    (lk : K.lookup fI = some ⟨oc, od, .func (PySem.W.fnX "__init__" "OtherWidth.__init__" (defArgs s_OtherWidth_init) (defBody s_OtherWidth_init) (defScope s_OtherWidth_init) [(("__class__" : Str), cc)] .none kV doc pm an (.ref cda) ct), osl⟩)
    (S : SupG.SupF B nw ini tail K P C cc cda "OtherWidth.__init__") (hmg : mg "super" = none) (no0 : PySem.W.findIn K (.ref C) "one" = some none) (no1 : PySem.W.findIn K (.ref C) "other" = some none)
    (iC : PySem.W.findIn K (.ref C) "__init__" = some (some (.ref fI))) (tI : PySem.W.typeIn K (.ref fI) = some (.type "function")) (hm : mg "OtherWidth" = some (.ref C)) :
    ErrH P w K mg base "OtherWidth" C ["one", "other"] := by
  refine ⟨⟨_, _, _, _, Z, S.ox⟩, hm, fI, _, iC, tI, SupG.fnok_super (N := ["self", "one", "other", "__class__"]) (ps := ["self", "one", "other"]) (k := 1) lk Z S hmg ns_OtherWidth rfl rfl rfl rfl (by decide) ?_ (fun L => by rfl) (fun L => by rfl) (fun L => by rfl) ?_, ?_, ?_⟩
  · rintro vs H Q E ⟨a, ys, rfl, hl, _⟩
    exact congrArg (· + 1) hl
  · intro A outer s H vs Q E h
    obtain ⟨a, ys, rfl, hl, ha, _, k⟩ := h
    match ys, hl, k with
    | [y0, y1], _, k =>
    refine ⟨a, [y0, y1], rfl, ha, _, pss_cons (ExB.ps_set_exc Z (f := "one") (pv 0) (pv 1)) (pss_one (ExB.ps_set_exc Z (f := "other") (pv 0) (pv 2))), ?_⟩
    refine ⟨_, rfl, _, rfl, a, C, rfl, S.ox, no0, .inl ⟨ha, fun dx n ne => ?_⟩⟩
    refine ⟨_, rfl, _, rfl, a, C, rfl, S.ox, no1, .inr ⟨dx, _, upd_same, (upd_ne ne).trans upd_same, (by show 1 ≤ 900; decide), ?_⟩⟩
    rw [lay_two ne]
    exact k (by simp) dx n ne
  · exact Binds.all fun us h => match us, h with | [_, _, _], _ => rfl
  · exact fun s u ws h => match ws, h with | [_, _], _ => .of_eq rfl
abbrev s_OtherHops_init : Stmt := inClass (top 31) 0
theorem ns_OtherHops : NdefX.NScope ["self", "one", "other", "__class__"] ["self", "one", "other"] ["__class__"] (defScope s_OtherHops_init) := NdefX.nscope_by (by decide +kernel)
theorem err_OtherHops {P : Program} {w : World} {K : PySem.W.Frag} {mg : Str → Option Value} {base : Heap} {C fI cc cda : Addr} {oc kV doc pm ct : Value} {od an : Option Addr} {osl : Array (Option Value)} {B nw ini : String} {tail : List Value} (Z : ExB.Base B nw ini tail)
    (lk : K.lookup fI = some ⟨oc, od, .func (PySem.W.fnX "__init__" "OtherHops.__init__" (defArgs s_OtherHops_init) (defBody s_OtherHops_init) (defScope s_OtherHops_init) [(("__class__" : Str), cc)] .none kV doc pm an (.ref cda) ct), osl⟩)
    (S : SupG.SupF B nw ini tail K P C cc cda "OtherHops.__init__") (hmg : mg "super" = none) (no0 : PySem.W.findIn K (.ref C) "one" = some none) (no1 : PySem.W.findIn K (.ref C) "other" = some none)
    (iC : PySem.W.findIn K (.ref C) "__init__" = some (some (.ref fI))) (tI : PySem.W.typeIn K (.ref fI) = some (.type "function")) (hm : mg "OtherHops" = some (.ref C)) :
    ErrH P w K mg base "OtherHops" C ["one", "other"] := by
  refine ⟨⟨_, _, _, _, Z, S.ox⟩, hm, fI, _, iC, tI, SupG.fnok_super (N := ["self", "one", "other", "__class__"]) (ps := ["self", "one", "other"]) (k := 1) lk Z S hmg ns_OtherHops rfl rfl rfl rfl (by decide) ?_ (fun L => by rfl) (fun L => by rfl) (fun L => by rfl) ?_, ?_, ?_⟩
  · rintro vs H Q E ⟨a, ys, rfl, hl, _⟩
    exact congrArg (· + 1) hl
  · intro A outer s H vs Q E h
    obtain ⟨a, ys, rfl, hl, ha, _, k⟩ := h
    match ys, hl, k with
    | [y0, y1], _, k =>
    refine ⟨a, [y0, y1], rfl, ha, _, pss_cons (ExB.ps_set_exc Z (f := "one") (pv 0) (pv 1)) (pss_one (ExB.ps_set_exc Z (f := "other") (pv 0) (pv 2))), ?_⟩
    refine ⟨_, rfl, _, rfl, a, C, rfl, S.ox, no0, .inl ⟨ha, fun dx n ne => ?_⟩⟩
    refine ⟨_, rfl, _, rfl, a, C, rfl, S.ox, no1, .inr ⟨dx, _, upd_same, (upd_ne ne).trans upd_same, (by show 1 ≤ 900; decide), ?_⟩⟩
    rw [lay_two ne]
    exact k (by simp) dx n ne
  · exact Binds.all fun us h => match us, h with | [_, _, _], _ => rfl
  · exact fun s u ws h => match ws, h with | [_, _], _ => .of_eq rfl
abbrev s_WrongMember_init : Stmt := inClass (top 32) 0
theorem ns_WrongMember : NdefX.NScope ["self", "value", "__class__"] ["self", "value"] ["__class__"] (defScope s_WrongMember_init) := NdefX.nscope_by (by decide +kernel)
theorem err_WrongMember {P : Program} {w : World} {K : PySem.W.Frag} {mg : Str → Option Value} {base : Heap} {C fI cc cda : Addr} {oc kV doc pm ct : Value} {od an : Option Addr} {osl : Array (Option Value)} {B nw ini : String} {tail : List Value} (Z : ExB.Base B nw ini tail)
    (lk : K.lookup fI = some ⟨oc, od, .func (PySem.W.fnX "__init__" "WrongMember.__init__" (defArgs s_WrongMember_init) (defBody s_WrongMember_init) (defScope s_WrongMember_init) [(("__class__" : Str), cc)] .none kV doc pm an (.ref cda) ct), osl⟩)
    (S : SupG.SupF B nw ini tail K P C cc cda "WrongMember.__init__") (hmg : mg "super" = none) (no0 : PySem.W.findIn K (.ref C) "value" = some none)
    (iC : PySem.W.findIn K (.ref C) "__init__" = some (some (.ref fI))) (tI : PySem.W.typeIn K (.ref fI) = some (.type "function")) (hm : mg "WrongMember" = some (.ref C)) :
    ErrH P w K mg base "WrongMember" C ["value"] := by
  refine ⟨⟨_, _, _, _, Z, S.ox⟩, hm, fI, _, iC, tI, SupG.fnok_super (N := ["self", "value", "__class__"]) (ps := ["self", "value"]) (k := 1) lk Z S hmg ns_WrongMember rfl rfl rfl rfl (by decide) ?_ (fun L => by rfl) (fun L => by rfl) (fun L => by rfl) ?_, ?_, ?_⟩
  · rintro vs H Q E ⟨a, ys, rfl, hl, _⟩
    exact congrArg (· + 1) hl
  · intro A outer s H vs Q E h
    obtain ⟨a, ys, rfl, hl, ha, _, k⟩ := h
    match ys, hl, k with
    | [y0], _, k =>
    refine ⟨a, [y0], rfl, ha, _, pss_one (ExB.ps_set_exc Z (f := "value") (pv 0) (pv 1)), ?_⟩
    refine ⟨_, rfl, _, rfl, a, C, rfl, S.ox, no0, .inl ⟨ha, fun dx n ne => ?_⟩⟩
    exact k (by simp) dx n ne
  · exact Binds.all fun us h => match us, h with | [_, _], _ => rfl
  · exact fun s u ws h => match ws, h with | [_], _ => .of_eq rfl
abbrev s_Stranger_init : Stmt := inClass (top 33) 0
theorem ns_Stranger : NdefX.NScope ["self", "value", "__class__"] ["self", "value"] ["__class__"] (defScope s_Stranger_init) := NdefX.nscope_by (by decide +kernel)
theorem err_Stranger {P : Program} {w : World} {K : PySem.W.Frag} {mg : Str → Option Value} {base : Heap} {C fI cc cda : Addr} {oc kV doc pm ct : Value} {od an : Option Addr} {osl : Array (Option Value)} {B nw ini : String} {tail : List Value} (Z : ExB.Base B nw ini tail)
    (lk : K.lookup fI = some ⟨oc, od, .func (PySem.W.fnX "__init__" "Stranger.__init__" (defArgs s_Stranger_init) (defBody s_Stranger_init) (defScope s_Stranger_init) [(("__class__" : Str), cc)] .none kV doc pm an (.ref cda) ct), osl⟩)
    (S : SupG.SupF B nw ini tail K P C cc cda "Stranger.__init__") (hmg : mg "super" = none) (no0 : PySem.W.findIn K (.ref C) "value" = some none)
    (iC : PySem.W.findIn K (.ref C) "__init__" = some (some (.ref fI))) (tI : PySem.W.typeIn K (.ref fI) = some (.type "function")) (hm : mg "Stranger" = some (.ref C)) :
    ErrH P w K mg base "Stranger" C ["value"] := by
  refine ⟨⟨_, _, _, _, Z, S.ox⟩, hm, fI, _, iC, tI, SupG.fnok_super (N := ["self", "value", "__class__"]) (ps := ["self", "value"]) (k := 1) lk Z S hmg ns_Stranger rfl rfl rfl rfl (by decide) ?_ (fun L => by rfl) (fun L => by rfl) (fun L => by rfl) ?_, ?_, ?_⟩
  · rintro vs H Q E ⟨a, ys, rfl, hl, _⟩
    exact congrArg (· + 1) hl
  · intro A outer s H vs Q E h
    obtain ⟨a, ys, rfl, hl, ha, _, k⟩ := h
    match ys, hl, k with
    | [y0], _, k =>
    refine ⟨a, [y0], rfl, ha, _, pss_one (ExB.ps_set_exc Z (f := "value") (pv 0) (pv 1)), ?_⟩
    refine ⟨_, rfl, _, rfl, a, C, rfl, S.ox, no0, .inl ⟨ha, fun dx n ne => ?_⟩⟩
    exact k (by simp) dx n ne
  · exact Binds.all fun us h => match us, h with | [_, _], _ => rfl
  · exact fun s u ws h => match ws, h with | [_], _ => .of_eq rfl
abbrev s_NoOrder_init : Stmt := inClass (top 34) 0
theorem ns_NoOrder : NdefX.NScope ["self", "__class__"] ["self"] ["__class__"] (defScope s_NoOrder_init) := NdefX.nscope_by (by decide +kernel)
theorem err_NoOrder {P : Program} {w : World} {K : PySem.W.Frag} {mg : Str → Option Value} {base : Heap} {C fI cc cda : Addr} {oc kV doc pm ct : Value} {od an : Option Addr} {osl : Array (Option Value)} {B nw ini : String} {tail : List Value} (Z : ExB.Base B nw ini tail)
    (lk : K.lookup fI = some ⟨oc, od, .func (PySem.W.fnX "__init__" "NoOrder.__init__" (defArgs s_NoOrder_init) (defBody s_NoOrder_init) (defScope s_NoOrder_init) [(("__class__" : Str), cc)] .none kV doc pm an (.ref cda) ct), osl⟩)
    (S : SupG.SupF B nw ini tail K P C cc cda "NoOrder.__init__") (hmg : mg "super" = none) 
    (iC : PySem.W.findIn K (.ref C) "__init__" = some (some (.ref fI))) (tI : PySem.W.typeIn K (.ref fI) = some (.type "function")) (hm : mg "NoOrder" = some (.ref C)) :
    ErrH P w K mg base "NoOrder" C [] := by
  refine ⟨⟨_, _, _, _, Z, S.ox⟩, hm, fI, _, iC, tI, SupG.fnok_super (N := ["self", "__class__"]) (ps := ["self"]) (k := 1) lk Z S hmg ns_NoOrder rfl rfl rfl rfl (by decide) ?_ (fun L => by rfl) (fun L => by rfl) (fun L => by rfl) ?_, ?_, ?_⟩
  · rintro vs H Q E ⟨a, ys, rfl, hl, _⟩
    exact congrArg (· + 1) hl
  · intro A outer s H vs Q E h
    obtain ⟨a, ys, rfl, hl, ha, k, _⟩ := h
    match ys, hl, k with
    | [], _, k =>
    refine ⟨a, [], rfl, ha, _, pss_nil, ?_⟩
    exact k rfl
  · exact Binds.all fun us h => match us, h with | [_], _ => rfl
  · exact fun s u ws h => match ws, h with | [], _ => .of_eq rfl
abbrev s_AlreadySo_init : Stmt := inClass (top 35) 0
theorem ns_AlreadySo : NdefX.NScope ["self", "value", "__class__"] ["self", "value"] ["__class__"] (defScope s_AlreadySo_init) := NdefX.nscope_by (by decide +kernel)
theorem err_AlreadySo {P : Program} {w : World} {K : PySem.W.Frag} {mg : Str → Option Value} {base : Heap} {C fI cc cda : Addr} {oc kV doc pm ct : Value} {od an : Option Addr} {osl : Array (Option Value)} {B nw ini : String} {tail : List Value} (Z : ExB.Base B nw ini tail)
    (lk : K.lookup fI = some ⟨oc, od, .func (PySem.W.fnX "__init__" "AlreadySo.__init__" (defArgs s_AlreadySo_init) (defBody s_AlreadySo_init) (defScope s_AlreadySo_init) [(("__class__" : Str), cc)] .none kV doc pm an (.ref cda) ct), osl⟩)
    (S : SupG.SupF B nw ini tail K P C cc cda "AlreadySo.__init__") (hmg : mg "super" = none) (no0 : PySem.W.findIn K (.ref C) "value" = some none)
    (iC : PySem.W.findIn K (.ref C) "__init__" = some (some (.ref fI))) (tI : PySem.W.typeIn K (.ref fI) = some (.type "function")) (hm : mg "AlreadySo" = some (.ref C)) :
    ErrH P w K mg base "AlreadySo" C ["value"] := by
  refine ⟨⟨_, _, _, _, Z, S.ox⟩, hm, fI, _, iC, tI, SupG.fnok_super (N := ["self", "value", "__class__"]) (ps := ["self", "value"]) (k := 1) lk Z S hmg ns_AlreadySo rfl rfl rfl rfl (by decide) ?_ (fun L => by rfl) (fun L => by rfl) (fun L => by rfl) ?_, ?_, ?_⟩
  · rintro vs H Q E ⟨a, ys, rfl, hl, _⟩
    exact congrArg (· + 1) hl
  · intro A outer s H vs Q E h
    obtain ⟨a, ys, rfl, hl, ha, _, k⟩ := h
    match ys, hl, k with
    | [y0], _, k =>
    refine ⟨a, [y0], rfl, ha, _, pss_one (ExB.ps_set_exc Z (f := "value") (pv 0) (pv 1)), ?_⟩
    refine ⟨_, rfl, _, rfl, a, C, rfl, S.ox, no0, .inl ⟨ha, fun dx n ne => ?_⟩⟩
    exact k (by simp) dx n ne
  · exact Binds.all fun us h => match us, h with | [_, _], _ => rfl
  · exact fun s u ws h => match ws, h with | [_], _ => .of_eq rfl
abbrev s_NothingToUndo_init : Stmt := inClass (top 36) 0
theorem ns_NothingToUndo : NdefX.NScope ["self", "__class__"] ["self"] ["__class__"] (defScope s_NothingToUndo_init) := NdefX.nscope_by (by decide +kernel)
theorem err_NothingToUndo {P : Program} {w : World} {K : PySem.W.Frag} {mg : Str → Option Value} {base : Heap} {C fI cc cda : Addr} {oc kV doc pm ct : Value} {od an : Option Addr} {osl : Array (Option Value)} {B nw ini : String} {tail : List Value} (Z : ExB.Base B nw ini tail)
    (lk : K.lookup fI = some ⟨oc, od, .func (PySem.W.fnX "__init__" "NothingToUndo.__init__" (defArgs s_NothingToUndo_init) (defBody s_NothingToUndo_init) (defScope s_NothingToUndo_init) [(("__class__" : Str), cc)] .none kV doc pm an (.ref cda) ct), osl⟩)
    (S : SupG.SupF B nw ini tail K P C cc cda "NothingToUndo.__init__") (hmg : mg "super" = none) 
    (iC : PySem.W.findIn K (.ref C) "__init__" = some (some (.ref fI))) (tI : PySem.W.typeIn K (.ref fI) = some (.type "function")) (hm : mg "NothingToUndo" = some (.ref C)) :
    ErrH P w K mg base "NothingToUndo" C [] := by
  refine ⟨⟨_, _, _, _, Z, S.ox⟩, hm, fI, _, iC, tI, SupG.fnok_super (N := ["self", "__class__"]) (ps := ["self"]) (k := 1) lk Z S hmg ns_NothingToUndo rfl rfl rfl rfl (by decide) ?_ (fun L => by rfl) (fun L => by rfl) (fun L => by rfl) ?_, ?_, ?_⟩
  · rintro vs H Q E ⟨a, ys, rfl, hl, _⟩
    exact congrArg (· + 1) hl
  · intro A outer s H vs Q E h
    obtain ⟨a, ys, rfl, hl, ha, k, _⟩ := h
    match ys, hl, k with
    | [], _, k =>
    refine ⟨a, [], rfl, ha, _, pss_nil, ?_⟩
    exact k rfl
  · exact Binds.all fun us h => match us, h with | [_], _ => rfl
  · exact fun s u ws h => match ws, h with | [], _ => .of_eq rfl
abbrev s_CommandFailed_init : Stmt := inClass (top 37) 0
theorem ns_CommandFailed : NdefX.NScope ["self", "position", "__class__"] ["self", "position"] ["__class__"] (defScope s_CommandFailed_init) := NdefX.nscope_by (by decide +kernel)
theorem err_CommandFailed {P : Program} {w : World} {K : PySem.W.Frag} {mg : Str → Option Value} {base : Heap} {C fI cc cda : Addr} {oc kV doc pm ct : Value} {od an : Option Addr} {osl : Array (Option Value)} {B nw ini : String} {tail : List Value} (Z : ExB.Base B nw ini tail)
    (lk : K.lookup fI = some ⟨oc, od, .func (PySem.W.fnX "__init__" "CommandFailed.__init__" (defArgs s_CommandFailed_init) (defBody s_CommandFailed_init) (defScope s_CommandFailed_init) [(("__class__" : Str), cc)] .none kV doc pm an (.ref cda) ct), osl⟩)
    (S : SupG.SupF B nw ini tail K P C cc cda "CommandFailed.__init__") (hmg : mg "super" = none) (no0 : PySem.W.findIn K (.ref C) "position" = some none)
    (iC : PySem.W.findIn K (.ref C) "__init__" = some (some (.ref fI))) (tI : PySem.W.typeIn K (.ref fI) = some (.type "function")) (hm : mg "CommandFailed" = some (.ref C)) :
    ErrH P w K mg base "CommandFailed" C ["position"] := by
  refine ⟨⟨_, _, _, _, Z, S.ox⟩, hm, fI, _, iC, tI, SupG.fnok_super (N := ["self", "position", "__class__"]) (ps := ["self", "position"]) (k := 1) lk Z S hmg ns_CommandFailed rfl rfl rfl rfl (by decide) ?_ (fun L => by rfl) (fun L => by rfl) (fun L => by rfl) ?_, ?_, ?_⟩
  · rintro vs H Q E ⟨a, ys, rfl, hl, _⟩
    exact congrArg (· + 1) hl
  · intro A outer s H vs Q E h
    obtain ⟨a, ys, rfl, hl, ha, _, k⟩ := h
    match ys, hl, k with
    | [y0], _, k =>
    refine ⟨a, [y0], rfl, ha, _, pss_one (ExB.ps_set_exc Z (f := "position") (pv 0) (pv 1)), ?_⟩
    refine ⟨_, rfl, _, rfl, a, C, rfl, S.ox, no0, .inl ⟨ha, fun dx n ne => ?_⟩⟩
    exact k (by simp) dx n ne
  · exact Binds.all fun us h => match us, h with | [_, _], _ => rfl
  · exact fun s u ws h => match ws, h with | [_], _ => .of_eq rfl
abbrev s_TooMany_init : Stmt := inClass (top 39) 0
theorem ns_TooMany : NdefX.NScope ["self", "what", "limit", "__class__"] ["self", "what", "limit"] ["__class__"] (defScope s_TooMany_init) := NdefX.nscope_by (by decide +kernel)
theorem err_TooMany {P : Program} {w : World} {K : PySem.W.Frag} {mg : Str → Option Value} {base : Heap} {C fI cc cda : Addr} {oc kV doc pm ct : Value} {od an : Option Addr} {osl : Array (Option Value)} {B nw ini : String} {tail : List Value} (Z : ExB.Base B nw ini tail)
    (lk : K.lookup fI = some ⟨oc, od, .func (PySem.W.fnX "__init__" "TooMany.__init__" (defArgs s_TooMany_init) (defBody s_TooMany_init) (defScope s_TooMany_init) [(("__class__" : Str), cc)] .none kV doc pm an (.ref cda) ct), osl⟩)
    (S : SupG.SupF B nw ini tail K P C cc cda "TooMany.__init__") (hmg : mg "super" = none) (no0 : PySem.W.findIn K (.ref C) "what" = some none) (no1 : PySem.W.findIn K (.ref C) "limit" = some none)
    (iC : PySem.W.findIn K (.ref C) "__init__" = some (some (.ref fI))) (tI : PySem.W.typeIn K (.ref fI) = some (.type "function")) (hm : mg "TooMany" = some (.ref C)) :
    ErrH P w K mg base "TooMany" C ["what", "limit"] := by
  refine ⟨⟨_, _, _, _, Z, S.ox⟩, hm, fI, _, iC, tI, SupG.fnok_super (N := ["self", "what", "limit", "__class__"]) (ps := ["self", "what", "limit"]) (k := 1) lk Z S hmg ns_TooMany rfl rfl rfl rfl (by decide) ?_ (fun L => by rfl) (fun L => by rfl) (fun L => by rfl) ?_, ?_, ?_⟩
  · rintro vs H Q E ⟨a, ys, rfl, hl, _⟩
    exact congrArg (· + 1) hl
  · intro A outer s H vs Q E h
    obtain ⟨a, ys, rfl, hl, ha, _, k⟩ := h
    match ys, hl, k with
    | [y0, y1], _, k =>
    refine ⟨a, [y0, y1], rfl, ha, _, pss_cons (ExB.ps_set_exc Z (f := "what") (pv 0) (pv 1)) (pss_one (ExB.ps_set_exc Z (f := "limit") (pv 0) (pv 2))), ?_⟩
    refine ⟨_, rfl, _, rfl, a, C, rfl, S.ox, no0, .inl ⟨ha, fun dx n ne => ?_⟩⟩
    refine ⟨_, rfl, _, rfl, a, C, rfl, S.ox, no1, .inr ⟨dx, _, upd_same, (upd_ne ne).trans upd_same, (by show 1 ≤ 900; decide), ?_⟩⟩
    rw [lay_two ne]
    exact k (by simp) dx n ne
  · exact Binds.all fun us h => match us, h with | [_, _, _], _ => rfl
  · exact fun s u ws h => match ws, h with | [_, _], _ => .of_eq rfl
open PySem PySem.Spec PyProof.Rows
open L2 hiding pass0
abbrev s_law_values : Stmt := top 45
theorem sc_law_values : FnScope ["_law_pot_here", "_law_many", "_law_free", "_law_turn"] ["_law_pot_here", "_law_many"] (defScope s_law_values) := ⟨rfl, rfl, rfl, by decide +kernel, rfl, by decide +kernel, by decide +kernel⟩
theorem bp_law_values : BndP "_law_values" s_law_values ["_law_pot_here", "_law_many"] := fun _ _ _ _ _ _ us h => match us, h with | [_, _], _ => rfl
/-- v, shown as d, whatever becomes of the pot -/
structure VL (p : Addr) (H : Hp) (v : V) (d : PyData) : Prop where
  tr : ∀ H', (∀ b o, b ≠ p → H b = some o → H' b = some o) → Tr H' 1 v d
  fit : FitB 40 100 1 d
theorem VL.go {p : Addr} {H H' : Hp} {v : V} {d : PyData} (h : VL p H v d) (k : ∀ b o, b ≠ p → H b = some o → H' b = some o) : VL p H' v d := ⟨fun H2 k2 => h.tr H2 fun b o n e => k2 b o n (k b o n e), h.fit⟩
theorem Go.kq {p : Addr} {H H' : Hp} (g : Go p H H') : ∀ b o, b ≠ p → H b = some o → H' b = some o := fun b o n e => g.keep b o e n
theorem VL.atom {p : Addr} {H : Hp} {v : V} {d : PyData} (h : vD v = some d) (f : FitB 40 100 1 d) : VL p H v d := ⟨fun _ _ => .inl (.atom h), f⟩
def Vx (p : Addr) (H : Hp) (v : V) : Prop := ∃ d, VL p H v d
theorem Vx.go {p : Addr} {H H' : Hp} {v : V} (o : Vx p H v) (k : Go p H H') : Vx p H' v := let ⟨d, a⟩ := o; ⟨d, a.go k.kq⟩
def DE (p : Addr) (σ : L2.St) (t : TE) : Prop := ∀ (H : Hp) (Q : VK), PotAt H p → (∀ v H', Go p H H' → Vx p H' v → Q v H') → t σ H Q
def DL (p : Addr) (σ : L2.St) (m : Nat) (t : TA) : Prop := ∀ (H : Hp) (Q : List V → Hp → Prop), PotAt H p → (∀ xs H', Go p H H' → xs.length = m → (∀ v ∈ xs, Vx p H' v) → Q xs H') → t σ H Q
section
variable {p : Addr} {σ : L2.St}
theorem dl_nil : DL p σ 0 tNil := fun H Q hp k => k [] H (Go.refl hp) rfl fun v hv => by cases hv
theorem dl_cons {m : Nat} {t : TE} {ts : TA} (a : DE p σ t) (b : DL p σ m ts) : DL p σ (m + 1) (tCons t ts) := fun H Q hp k => a H _ hp fun v H1 g1 o => b H1 _ g1.pot fun xs H2 g2 l h => k (v :: xs) H2 (g1.trans g2) (by rw [List.length_cons, l]) fun u hu => by
  rcases List.mem_cons.mp hu with rfl | hu
  · exact o.go g2
  · exact h u hu
theorem de_c {v : V} {d : PyData} (h : vD v = some d) (f : FitB 40 100 1 d) : DE p σ (tC v) := fun H Q hp k => k v H (Go.refl hp) ⟨d, .atom h f⟩
theorem fit_int {i : Int} (h : i.natAbs < 10 ^ 32) : FitB 40 100 1 (.int i) := FitB.int (k := 32) (by decide) (by decide) h (Nat.lt_of_lt_of_le h (by decide))
theorem de_neg {i : Int} (h : (-i).natAbs < 10 ^ 32) : DE p σ (tUn (L2.rU fun i => V.int (-i)) (tC (V.int i))) := fun H Q hp k => ⟨i, rfl, k _ H (Go.refl hp) ⟨_, .atom rfl (fit_int h)⟩⟩
theorem fit_one {d : PyData} (h : FitB 40 49 0 d) : ∀ e ∈ [d], FitB 40 49 0 e := fun e he => by
  rw [List.mem_singleton] at he
  rw [he]; exact h
theorem de_lst : DE p σ (tLstN (tCons (tC (.int 1)) tNil)) := fun H Q hp k => ⟨szl (by show 1 ≤ 1000000; decide), fun a na ma => by
  have n := hp.ne na
  refine k _ _ ((Go.refl hp).new na) ⟨.list [.int 1], ⟨fun H' q => .inr (.inl ⟨a, [.int 1], [.int 1], rfl, rfl, ma, q _ _ n upd_same, .cons (.atom rfl) .nil⟩), ?_⟩⟩
  exact (FitB.list (N := 49) (D := 0) (fit_one (FitB.int (k := 2) (by decide) (by decide) (by decide) (by decide)))).mono (by decide) (by decide)⟩
theorem de_tup : DE p σ (tTupN (tCons (tC (.str "a")) (tCons (tC (.int 2)) tNil))) := fun H Q hp k => ⟨szl (by show 2 ≤ 1000000; decide), fun a na ma => by
  have n := hp.ne na
  refine k _ _ ((Go.refl hp).new na) ⟨.tuple [.str "a", .int 2], ⟨fun H' q => .inr (.inr ⟨a, [.str "a", .int 2], [.str "a", .int 2], rfl, rfl, ma, q _ _ n upd_same, .cons (.atom rfl) (.cons (.atom rfl) .nil)⟩), ?_⟩⟩
  refine (FitB.tuple (N := 49) (D := 0) fun d hd => ?_).mono (by decide) (by decide)
  simp only [List.mem_cons, List.not_mem_nil, or_false] at hd
  rcases hd with rfl | rfl
  · exact FitB.str (by decide) (by decide)
  · exact FitB.int (k := 2) (by decide) (by decide) (by decide) (by decide)⟩
theorem upd_upd {H : Hp} {a : Addr} {x y : HO} : upd (upd H a x) a y = upd H a y := by
  funext b
  by_cases c : b = a
  · rw [c, upd_same, upd_same]
  · unfold upd
    rw [if_neg c, if_neg c, if_neg c]
theorem de_dct : DE p σ (tDisp [(tC (.str "b"), tC (.int 3))]) := fun H Q hp k a na => ⟨upd_same, [(.inr "b", .int 3)], rfl, by show 1 ≤ 15; decide, by
  rw [upd_upd]
  have n := hp.ne na
  refine k _ _ ((Go.refl hp).new na) ⟨.dict [(.str "b", .int 3)], ⟨fun H' q => .inl (.dct (q _ _ n upd_same) (.cons rfl .nil)), ?_⟩⟩
  refine (FitB.dict (B := 40) (N := 40) (D := 0) fun d hd => ?_).mono (by decide) (by decide)
  rw [List.mem_singleton] at hd
  subst hd
  exact ⟨FitB.str (by decide) (by decide), FitB.int (k := 2) (by decide) (by decide) (by decide) (by decide)⟩⟩
theorem made_S {m i : Nat} {t : TA} {H : Hp} {u : L2.Ends → L2.St → Hp → Prop} {D : L2.Ends} (hp : PotAt H p) (m1 : m ≤ 1000) (l : DL p σ m t) (k : ∀ xs L H', Go p H H' → L ≠ p → H' L = some (.lst xs) → xs.length = m → (∀ v ∈ xs, Vx p H' v) → u D (σ.set i (some (.ref L))) H') : tSeq (tAsg (tLst t) (gName i)) u D σ H := by
  refine l H _ hp fun xs H1 g1 e h => ?_
  refine ⟨szl (by omega), fun a na => ?_⟩
  exact k xs a _ (g1.new na) (g1.pot.ne na) upd_same e fun v hv => (h v hv).go ((Go.refl g1.pot).new na)
end
theorem VL.same {p : Addr} {H H' : Hp} {v : V} {d : PyData} (h : VL p H v d) (s : Same H H') : VL p H' v d := h.go fun b o _ e => s b o e
theorem VL.t {p : Addr} {H : Hp} {v : V} {d : PyData} (h : VL p H v d) : Tr H 1 v d := h.tr H fun _ _ _ e => e
@[irreducible] def spVals : Sp := fun vs H Q _ => ∃ (p : Addr) (n : Nat), vs = [.ref p, .int n] ∧ PotAt H p ∧ n ≤ 10 ∧ ∀ L xs H', Go p H H' → L ≠ p → H' L = some (.lst xs) → xs.length = n → (∀ v ∈ xs, Vx p H' v) → Q (.ref L) H'
theorem vals_go {p : Addr} {n : Nat} {H : Hp} {Q : VK} {E : XK} (hp : PotAt H p) (hn : n ≤ 10) (q : ∀ L xs H', Go p H H' → L ≠ p → H' L = some (.lst xs) → xs.length = n → (∀ v ∈ xs, Vx p H' v) → Q (.ref L) H') : spVals [.ref p, .int n] H Q E := by
  unfold spVals
  exact ⟨p, n, rfl, hp, hn, q⟩
section
variable {P : Program} {w : World} {K : PySem.W.Frag} {mg : Str → Option Value} {base : Heap} {f : Addr} {fd : FuncData}
theorem ok_values (F : Fun K "_law_values" "_law_values" s_law_values f fd) (hm : mg "_law_values" = some (.ref f)) (T : Txt K mg) (c_law_draw : Nm P w K mg base CX0 1 "_law_draw" s_law_draw ["_law_pot_here", "_law_many"] (spDraw)) (c_law_among : Nm P w K mg base CX0 2 "_law_among" s_law_among ["_law_pot_here", "_law_some"] (spAmong K)) : Nm P w K mg base CX0 3 "_law_values" s_law_values ["_law_pot_here", "_law_many"] (spVals) := by
  refine nm_of F hm sc_law_values (fun vs H Q E h => ?_) fun cdv A outer s H vs Q E hr h => ?_
  · unfold spVals at h
    obtain ⟨p, n, rfl, hp, hn, k⟩ := h
    subst_vars
    rfl
  unfold spVals at h
  obtain ⟨p, n, rfl, hp, hn, k⟩ := h
  refine ⟨_, (pss_cons (ps_set (i := 2) sc_law_values.nd rfl (by first | exact Or.inl rfl | exact Or.inr rfl) (pe_lst (pa_cons pe_non (pa_cons pe_int (pa_cons pe_int (pa_cons (pe_un un_neg pe_int) (pa_cons pe_str (pa_cons pe_str (pa_cons (pe_lstN (pa_cons pe_int pa_nil)) (pa_cons (pe_tupN (pa_cons pe_str (pa_cons pe_int pa_nil))) (pa_cons (pe_disp (pps_cons pe_str pe_int pps_nil) (by rfl) (by rfl) (fun z => by cases z) (by decide)) (pa_cons pe_bl (pa_cons pe_str (pa_cons (pe_op op_sub (pe_op op_pow pe_int pe_int) (pe_g c_law_draw hr (by decide) L2.pass0 bp_law_draw (by rfl) (pa_cons (pv 0) (pa_cons pe_int pa_nil)))) pa_nil))))))))))))))
      (pss_one (ps_ret (pe_lc (own := [("_law_turn", 3)]) (g := (gName 3)) (by rfl) sc_law_values.nd (pi_range1 (by rfl) T.b_range (pa_cons (pv 1) pa_nil)) (blkOk_by (own := [("_law_turn", 3)]) (N := ["_law_pot_here", "_law_many", "_law_free", "_law_turn"]) (sc := defScope s_law_values) (by decide +kernel)) (fun _ _ _ _ _ => (pg_name (i := 3) sc_law_values.nd rfl (by first | exact Or.inl rfl | exact Or.inr rfl))) (fun _ _ _ _ _ => pts_nil) (fun _ _ _ _ _ => (pe_g c_law_among hr (by decide) L2.pass0 bp_law_among (by rfl) (pa_cons (pv 0) (pa_cons (pv 2) pa_nil)))))))), ?_⟩
  refine made_S (m := 12) hp (by decide) ?_ fun xs L H2 g2 nL eL e h => ?_
  · refine dl_cons (de_c rfl .non) (dl_cons (de_c rfl (fit_int (by decide))) (dl_cons (de_c rfl (fit_int (by decide))) (dl_cons (de_neg (by decide)) (dl_cons (de_c rfl (FitB.str (by decide) (by decide)))
      (dl_cons (de_c rfl (FitB.str (by decide) (by decide))) (dl_cons de_lst (dl_cons de_tup (dl_cons de_dct (dl_cons (de_c rfl (FitB.bool true)) (dl_cons (de_c rfl (FitB.str (by decide) (by decide))) (dl_cons ?_ dl_nil)))))))))))
    intro H Q hp k
    repeat walk_at "s1"
    refine draw_go hp (by decide) (by decide) fun d H1 d0 d1 g1 => ?_
    refine ⟨_, _, rfl, rfl, ?_⟩
    exact k _ _ g1 ⟨_, .atom rfl (fit_int (by show ((10 : Int) ^ 30 - d).natAbs < _; omega))⟩
  · repeat walk_at "s1"
    rename_i D nD
    have nDp : D ≠ p := g2.pot.ne nD
    have nDL : L ≠ D := nonn nD eL
    refine lc_it walk_range (fun i H1 => ∃ ys : List V, H1 D = some (.lst ys) ∧ ys.length = i ∧ i ≤ n ∧ (∀ v ∈ ys, v ∈ xs) ∧ PotAt H1 p ∧ ∀ b o, b ≠ p → H2 b = some o → H1 b = some o) ⟨[], upd_same, rfl, Nat.zero_le _, fun v hv => (List.not_mem_nil hv).elim, (g2.new nD).pot, fun b o _ e => updn (nonn nD e) e⟩ (fun _ _ _ _ => trivial) ?_ ?_
    · rintro i x H1 H3 hi ⟨ys, hD, hl, h5, hy, hp3, kp⟩ ⟨rfl, rfl⟩
      have hin : i < n := by
        have q : i < Int.toNat ((n : Int)) := hi
        omega
      refine ⟨rfl, ?_⟩
      dsimp only [tYes]
      rw [if_pos rfl]
      repeat walk_at "s1"
      refine among_l hp3 nL (SqL.of (kp _ _ nL eL)) (by omega) (by omega) fun v hv H4 g4 => ?_
      refine ⟨ys, g4.keep _ _ hD nDp, szt (by omega), ys ++ [v], upd_same, by rw [List.length_append, hl]; rfl, by omega, fun u hu => ?_, ?_, fun b o m e => updn (nonn nD e) (g4.keep _ _ (kp b o m e) m)⟩
      · rcases List.mem_append.mp hu with hu | hu
        · exact hy u hu
        · rw [List.mem_singleton] at hu
          rw [hu]; exact hv
      · obtain ⟨a, b, e, r⟩ := g4.pot
        exact ⟨a, b, updn (Ne.symm nDp) e, r⟩
    · rintro H1 ⟨ys, hD, hl, h5, hy, hp3, kp⟩
      refine k D ys H1 ⟨hp3, fun b o e m => kp b o m (g2.keep b o e m)⟩ nDp hD (by simpa using hl) fun v hv => ?_
      obtain ⟨d, q⟩ := h v (hy v hv)
      exact ⟨d, q.go kp⟩
end
open PySem PySem.Spec PyProof.Rows
open L2 hiding pass0
abbrev s_law_branches : Stmt := top 49
theorem sc_law_branches : FnScope ["_law_e", "_law_own"] ["_law_e"] (defScope s_law_branches) := ⟨rfl, rfl, rfl, by decide +kernel, rfl, by decide +kernel, by decide +kernel⟩
theorem bp_law_branches : BndP "_law_branches" s_law_branches ["_law_e"] := fun _ _ _ _ _ _ us h => match us, h with | [_], _ => rfl
abbrev s_law_on : Stmt := top 50
theorem sc_law_on : FnScope ["_law_which", "_law_at"] ["_law_which"] (defScope s_law_on) := ⟨rfl, rfl, rfl, by decide +kernel, rfl, by decide +kernel, by decide +kernel⟩
theorem bp_law_on : BndP "_law_on" s_law_on ["_law_which"] := fun _ _ _ _ _ _ us h => match us, h with | [_], _ => rfl
/-- the names of the branches -/
structure Bs (K : PySem.W.Frag) (mg : Str → Option Value) (B0 B1 B2 B3 : Addr) : Prop where
  c_CoverError : ∃ u, mg "CoverError" = some u ∧ RelV (.ref B0) u
  c_MissingError : ∃ u, mg "MissingError" = some u ∧ RelV (.ref B1) u
  c_StateError : ∃ u, mg "StateError" = some u ∧ RelV (.ref B2) u
  c_LimitError : ∃ u, mg "LimitError" = some u ∧ RelV (.ref B3) u
/-- the class C is of the branch w alone -/
structure Br (K : PySem.W.Frag) (B0 B1 B2 B3 C : Addr) (w : Nat) : Prop where
  ex : ExcC K C
  xf : XfC K C
  k0 : PySem.W.kitOne K (.ref C) (.ref B0) = some (decide (0 = w))
  k1 : PySem.W.kitOne K (.ref C) (.ref B1) = some (decide (1 = w))
  k2 : PySem.W.kitOne K (.ref C) (.ref B2) = some (decide (2 = w))
  k3 : PySem.W.kitOne K (.ref C) (.ref B3) = some (decide (3 = w))
  t0 : PySem.W.kitOne K (.ref C) (.type "ValueError") = some (decide (0 = w))
  t1 : PySem.W.kitOne K (.ref C) (.type "LookupError") = some (decide (1 = w))
  t2 : PySem.W.kitOne K (.ref C) (.type "RuntimeError") = some (decide (2 = w))
  t3 : PySem.W.kitOne K (.ref C) (.type "ArithmeticError") = some (decide (3 = w))
def onW (w : Nat) : List V := [.bl (decide (0 = w)), .bl (decide (1 = w)), .bl (decide (2 = w)), .bl (decide (3 = w)), .bl (decide (0 = w)), .bl (decide (1 = w)), .bl (decide (2 = w)), .bl (decide (3 = w))]
theorem onW_alk {K : PySem.W.Frag} {H : Hp} (w : Nat) : Paired (Alk K H 0) (onW w) (onW w) := .cons (.inl ⟨rfl, rfl⟩) (.cons (.inl ⟨rfl, rfl⟩) (.cons (.inl ⟨rfl, rfl⟩) (.cons (.inl ⟨rfl, rfl⟩) (.cons (.inl ⟨rfl, rfl⟩) (.cons (.inl ⟨rfl, rfl⟩) (.cons (.inl ⟨rfl, rfl⟩) (.cons (.inl ⟨rfl, rfl⟩) .nil)))))))
theorem ne_none_of {H H' : Hp} {a : Addr} (s : Same H H') (n : H' a = none) : H a = none := by
  cases e : H a with
  | none => rfl
  | some o => rw [s a o e] at n; cases n
@[irreducible] def spBr (K : PySem.W.Frag) (B0 B1 B2 B3 : Addr) : Sp := fun vs H Q _ => ∃ (a C : Addr) (fs : List (Str × V)) (w : Nat), vs = [.ref a] ∧ EvAt H a C fs ∧ Br K B0 B1 B2 B3 C w ∧ ∀ L H', H L = none → Same H H' → H' L = some (.lst (onW w)) → Q (.ref L) H'
@[irreducible] def spOn : Sp := fun vs H Q _ => ∃ w : Nat, vs = [.int w] ∧ ∀ L H', H L = none → Same H H' → H' L = some (.lst (onW w)) → Q (.ref L) H'
section
variable {K : PySem.W.Frag} {B0 B1 B2 B3 a C : Addr} {fs : List (Str × V)} {w : Nat} {H : Hp} {Q : VK} {E : XK}
theorem br_go (h : EvAt H a C fs) (b : Br K B0 B1 B2 B3 C w) (q : ∀ L H', H L = none → Same H H' → H' L = some (.lst (onW w)) → Q (.ref L) H') : spBr K B0 B1 B2 B3 [.ref a] H Q E := by
  unfold spBr
  exact ⟨a, C, fs, w, rfl, h, b, q⟩
theorem on_go (q : ∀ L H', H L = none → Same H H' → H' L = some (.lst (onW w)) → Q (.ref L) H') : spOn [.int w] H Q E := by
  unfold spOn
  exact ⟨w, rfl, q⟩
theorem iso_go {c : V} {cv : Value} {b : Bool} (h : EvAt H a C fs) (e : ExcC K C) (hc : ∀ u, RelV c u → u = cv) (k : PySem.W.kitOne K (.ref C) cv = some b) (q : Q (.bl b) H) : rIsO K [.ref a, c] H Q := by
  unfold rIsO
  exact ⟨a, C, fs, c, cv, b, rfl, h, e, hc, k, q⟩
end
section
variable {P : Program} {w : World} {K : PySem.W.Frag} {mg : Str → Option Value} {base : Heap} {f : Addr} {fd : FuncData}
theorem ok_on (F : Fun K "_law_on" "_law_on" s_law_on f fd) (hm : mg "_law_on" = some (.ref f)) (T : Txt K mg) : Nm P w K mg base CX0 1 "_law_on" s_law_on ["_law_which"] (spOn) := by
  refine nm_of F hm sc_law_on (fun vs H Q E h => ?_) fun cdv A outer s H vs Q E hr h => ?_
  · unfold spOn at h
    obtain ⟨n, rfl, k⟩ := h
    subst_vars
    rfl
  unfold spOn at h
  obtain ⟨n, rfl, k⟩ := h
  refine ⟨_, (pss_one (ps_ret (pe_op op_rep (pe_lc (own := [("_law_at", 1)]) (g := (gName 1)) (by rfl) sc_law_on.nd (pi_range1 (by rfl) T.b_range (pa_cons pe_int pa_nil)) (blkOk_by (own := [("_law_at", 1)]) (N := ["_law_which", "_law_at"]) (sc := defScope s_law_on) (by decide +kernel)) (fun _ _ _ _ _ => (pg_name (i := 1) sc_law_on.nd rfl (by first | exact Or.inl rfl | exact Or.inr rfl))) (fun _ _ _ _ _ => pts_nil) (fun _ _ _ _ _ => (pe_cmpR op_eq (pv 1) (pv 0) (nomark _)))) pe_int))), ?_⟩
  repeat walk_at "s1"
  rename_i D nD
  refine lc_it walk_range (fun i H1 => H1 D = some (.lst ((List.range i).map fun j => V.bl (decide (j = n)))) ∧ i ≤ 4 ∧ Same H H1) ⟨upd_same, Nat.zero_le _, fun b o e => updn (nonn nD e) e⟩ (fun _ _ _ _ => trivial) ?_ ?_
  · rintro i x H1 H3 hi ⟨hD, h5, sm⟩ ⟨rfl, rfl⟩
    have hin : i < 4 := hi
    refine ⟨rfl, ?_⟩
    dsimp only [tYes]
    rw [if_pos rfl]
    repeat walk_at "s1"
    refine ⟨_, hD, szt (by rw [List.length_map, List.length_range]; omega), ?_, by omega, fun b o e => updn (nonn nD e) (sm b o e)⟩
    rw [upd_same, List.range_succ, List.map_append]
    refine congrArg (fun z => some (HO.lst (_ ++ [V.bl z]))) ?_
    exact decide_eq_decide.mpr ⟨fun z => by injection z with z; omega, fun z => by rw [z]; simp⟩
  · rintro H1 ⟨hD, h5, sm⟩
    refine ⟨D, 2, _, rfl, rfl, hD, by decide, by decide, szl (by rw [List.length_map, List.length_range]; show 4 * 2 ≤ _; decide), fun p np => ?_⟩
    exact k p _ (ne_none_of sm np) (fun b o e => updn (nonn np (sm b o e)) (sm b o e)) upd_same
theorem ok_branches {B0 B1 B2 B3 : Addr} (BB : Bs K mg B0 B1 B2 B3) (F : Fun K "_law_branches" "_law_branches" s_law_branches f fd) (hm : mg "_law_branches" = some (.ref f)) (T : Txt K mg) : Nm P w K mg base CX0 1 "_law_branches" s_law_branches ["_law_e"] (spBr K B0 B1 B2 B3) := by
  refine nm_of F hm sc_law_branches (fun vs H Q E h => ?_) fun cdv A outer s H vs Q E hr h => ?_
  · unfold spBr at h
    obtain ⟨a, C, fs, n, rfl, ha, b, k⟩ := h
    subst_vars
    rfl
  unfold spBr at h
  obtain ⟨a, C, fs, n, rfl, ha, b, k⟩ := h
  refine ⟨_, (pss_cons (ps_set (i := 1) sc_law_branches.nd rfl (by first | exact Or.inl rfl | exact Or.inr rfl) (pe_lst (pa_cons (pe_callB call_isO (by rfl) T.b_isinstance (by decide +kernel) (pa_cons (pv 0) (pa_cons (pe_cst (by rfl) BB.c_CoverError) pa_nil))) (pa_cons (pe_callB call_isO (by rfl) T.b_isinstance (by decide +kernel) (pa_cons (pv 0) (pa_cons (pe_cst (by rfl) BB.c_MissingError) pa_nil))) (pa_cons (pe_callB call_isO (by rfl) T.b_isinstance (by decide +kernel) (pa_cons (pv 0) (pa_cons (pe_cst (by rfl) BB.c_StateError) pa_nil))) (pa_cons (pe_callB call_isO (by rfl) T.b_isinstance (by decide +kernel) (pa_cons (pv 0) (pa_cons (pe_cst (by rfl) BB.c_LimitError) pa_nil))) pa_nil))))))
      (pss_one (ps_ret (pe_op op_cat (pe_op op_cat (pv 1) (pe_lst (pa_cons (pe_callB call_isO (by rfl) T.b_isinstance (by decide +kernel) (pa_cons (pv 0) (pa_cons (pe_ty "ValueError" (by rfl) T.b_ValueError (by decide +kernel)) pa_nil))) (pa_cons (pe_callB call_isO (by rfl) T.b_isinstance (by decide +kernel) (pa_cons (pv 0) (pa_cons (pe_ty "LookupError" (by rfl) T.b_LookupError (by decide +kernel)) pa_nil))) (pa_cons (pe_callB call_isO (by rfl) T.b_isinstance (by decide +kernel) (pa_cons (pv 0) (pa_cons (pe_ty "RuntimeError" (by rfl) T.b_RuntimeError (by decide +kernel)) pa_nil))) pa_nil))))) (pe_lst (pa_cons (pe_callB call_isO (by rfl) T.b_isinstance (by decide +kernel) (pa_cons (pv 0) (pa_cons (pe_ty "ArithmeticError" (by rfl) T.b_ArithmeticError (by decide +kernel)) pa_nil))) pa_nil)))))), ?_⟩
  refine ⟨_, rfl, ?_⟩
  refine iso_go (c := .ref B0) (cv := .ref B0) ha b.ex (fun u r => r) b.k0 ?_
  refine ⟨_, rfl, ?_⟩
  refine iso_go (c := .ref B1) (cv := .ref B1) ha b.ex (fun u r => r) b.k1 ?_
  refine ⟨_, rfl, ?_⟩
  refine iso_go (c := .ref B2) (cv := .ref B2) ha b.ex (fun u r => r) b.k2 ?_
  refine ⟨_, rfl, ?_⟩
  refine iso_go (c := .ref B3) (cv := .ref B3) ha b.ex (fun u r => r) b.k3 ?_
  refine ⟨szl (by show 4 ≤ 1000000; decide), fun D nD => ?_⟩
  have h2 := ha.same fun b o e => updn (o := HO.lst [.bl (decide (0 = n)), .bl (decide (1 = n)), .bl (decide (2 = n)), .bl (decide (3 = n))]) (nonn nD e) e
  refine ⟨_, rfl, ?_⟩
  refine ⟨_, rfl, ?_⟩
  refine iso_go (c := .ty "ValueError") (cv := .type "ValueError") h2 b.ex (fun u r => r) b.t0 ?_
  refine ⟨_, rfl, ?_⟩
  refine iso_go (c := .ty "LookupError") (cv := .type "LookupError") h2 b.ex (fun u r => r) b.t1 ?_
  refine ⟨_, rfl, ?_⟩
  refine iso_go (c := .ty "RuntimeError") (cv := .type "RuntimeError") h2 b.ex (fun u r => r) b.t2 ?_
  refine ⟨szl (by show 3 ≤ 1000000; decide), fun D2 nD2 => ?_⟩
  have e2 : upd (upd H D (HO.lst [.bl (decide (0 = n)), .bl (decide (1 = n)), .bl (decide (2 = n)), .bl (decide (3 = n))])) D2 (HO.lst [.bl (decide (0 = n)), .bl (decide (1 = n)), .bl (decide (2 = n))]) D = some (HO.lst [.bl (decide (0 = n)), .bl (decide (1 = n)), .bl (decide (2 = n)), .bl (decide (3 = n))]) := updn (nonn nD2 upd_same) upd_same
  refine ⟨D, D2, _, _, rfl, rfl, e2, upd_same, szl (by show 4 + 3 ≤ 1000000; decide), fun D3 nD3 => ?_⟩
  have s3 : ∀ b o, H b = some o → upd (upd (upd H D (HO.lst [.bl (decide (0 = n)), .bl (decide (1 = n)), .bl (decide (2 = n)), .bl (decide (3 = n))])) D2 (HO.lst [.bl (decide (0 = n)), .bl (decide (1 = n)), .bl (decide (2 = n))])) D3 (HO.lst [.bl (decide (0 = n)), .bl (decide (1 = n)), .bl (decide (2 = n)), .bl (decide (3 = n)), .bl (decide (0 = n)), .bl (decide (1 = n)), .bl (decide (2 = n))]) b = some o := fun b o e => by
    have e1 := updn (o := HO.lst [.bl (decide (0 = n)), .bl (decide (1 = n)), .bl (decide (2 = n)), .bl (decide (3 = n))]) (nonn nD e) e
    have e2 := updn (o := HO.lst [.bl (decide (0 = n)), .bl (decide (1 = n)), .bl (decide (2 = n))]) (nonn nD2 e1) e1
    exact updn (nonn nD3 e2) e2
  have h3 := ha.same s3
  refine ⟨_, rfl, ?_⟩
  refine iso_go (c := .ty "ArithmeticError") (cv := .type "ArithmeticError") h3 b.ex (fun u r => r) b.t3 ?_
  refine ⟨szl (by show 1 ≤ 1000000; decide), fun D4 nD4 => ?_⟩
  refine ⟨D3, D4, _, _, rfl, rfl, updn (nonn nD4 upd_same) upd_same, upd_same, szl (by show 7 + 1 ≤ 1000000; decide), fun D5 nD5 => ?_⟩
  have s4 : ∀ b o, H b = some o → _ := fun b o e => updn (o := HO.lst [.bl (decide (3 = n))]) (nonn nD4 (s3 b o e)) (s3 b o e)
  exact k D5 _ (ne_none_of s4 nD5) (fun b o e => updn (nonn nD5 (s4 b o e)) (s4 b o e)) upd_same
end
open PySem PySem.Spec PyProof.Rows
open L2 hiding pass0
abbrev s_law_of_value : Stmt := top 46
theorem sc_law_of_value : FnScope ["_law_here", "_law_made", "_law_gone"] ["_law_here"] (defScope s_law_of_value) := ⟨rfl, rfl, rfl, by decide +kernel, rfl, by decide +kernel, by decide +kernel⟩
theorem bp_law_of_value : BndP "_law_of_value" s_law_of_value ["_law_here"] := fun _ _ _ _ _ _ us h => match us, h with | [_], _ => rfl
abbrev s_law_named : Stmt := top 47
theorem sc_law_named : FnScope ["_law_here", "_law_made"] ["_law_here"] (defScope s_law_named) := ⟨rfl, rfl, rfl, by decide +kernel, rfl, by decide +kernel, by decide +kernel⟩
theorem bp_law_named : BndP "_law_named" s_law_named ["_law_here"] := fun _ _ _ _ _ _ us h => match us, h with | [_], _ => rfl
abbrev s_law_of_place : Stmt := top 48
theorem sc_law_of_place : FnScope ["_law_spot", "_law_made"] ["_law_spot"] (defScope s_law_of_place) := ⟨rfl, rfl, rfl, by decide +kernel, rfl, by decide +kernel, by decide +kernel⟩
theorem bp_law_of_place : BndP "_law_of_place" s_law_of_place ["_law_spot"] := fun _ _ _ _ _ _ us h => match us, h with | [_], _ => rfl
/-- the errors' classes -/
structure Cls where
  (InvalidWidth InvalidStretch InvalidStretches InvalidAddress InvalidGoal InvalidRows InvalidFree InvalidTables InvalidFirm InvalidGone InvalidName InvalidHop InvalidWay InvalidMembers InvalidItems InvalidWithdrawn InvalidRegion InvalidHops InvalidWord InvalidText InvalidClaim InvalidCommand UnknownStretch UnknownHop UnknownGoal UnknownItem OtherWidth OtherHops WrongMember Stranger NoOrder AlreadySo NothingToUndo CommandFailed TooMany : Addr)
/-- what is known of them: they are made -/
structure EE (P : Program) (w : World) (K : PySem.W.Frag) (mg : Str → Option Value) (base : Heap) (c : Cls) : Prop where
  e_InvalidWidth : ErrH P w K mg base "InvalidWidth" c.InvalidWidth ["value"]
  e_InvalidStretch : ErrH P w K mg base "InvalidStretch" c.InvalidStretch ["value"]
  e_InvalidStretches : ErrH P w K mg base "InvalidStretches" c.InvalidStretches ["position"]
  e_InvalidAddress : ErrH P w K mg base "InvalidAddress" c.InvalidAddress ["value"]
  e_InvalidGoal : ErrH P w K mg base "InvalidGoal" c.InvalidGoal ["value"]
  e_InvalidRows : ErrH P w K mg base "InvalidRows" c.InvalidRows ["value"]
  e_InvalidFree : ErrH P w K mg base "InvalidFree" c.InvalidFree ["position"]
  e_InvalidTables : ErrH P w K mg base "InvalidTables" c.InvalidTables ["value"]
  e_InvalidFirm : ErrH P w K mg base "InvalidFirm" c.InvalidFirm ["value"]
  e_InvalidGone : ErrH P w K mg base "InvalidGone" c.InvalidGone ["position"]
  e_InvalidName : ErrH P w K mg base "InvalidName" c.InvalidName ["value"]
  e_InvalidHop : ErrH P w K mg base "InvalidHop" c.InvalidHop ["value"]
  e_InvalidWay : ErrH P w K mg base "InvalidWay" c.InvalidWay ["value"]
  e_InvalidMembers : ErrH P w K mg base "InvalidMembers" c.InvalidMembers ["position"]
  e_InvalidItems : ErrH P w K mg base "InvalidItems" c.InvalidItems ["position"]
  e_InvalidWithdrawn : ErrH P w K mg base "InvalidWithdrawn" c.InvalidWithdrawn ["position"]
  e_InvalidRegion : ErrH P w K mg base "InvalidRegion" c.InvalidRegion ["position"]
  e_InvalidHops : ErrH P w K mg base "InvalidHops" c.InvalidHops ["position"]
  e_InvalidWord : ErrH P w K mg base "InvalidWord" c.InvalidWord ["value"]
  e_InvalidText : ErrH P w K mg base "InvalidText" c.InvalidText ["line"]
  e_InvalidClaim : ErrH P w K mg base "InvalidClaim" c.InvalidClaim ["value"]
  e_InvalidCommand : ErrH P w K mg base "InvalidCommand" c.InvalidCommand ["value"]
  e_UnknownStretch : ErrH P w K mg base "UnknownStretch" c.UnknownStretch ["value"]
  e_UnknownHop : ErrH P w K mg base "UnknownHop" c.UnknownHop ["value"]
  e_UnknownGoal : ErrH P w K mg base "UnknownGoal" c.UnknownGoal ["value"]
  e_UnknownItem : ErrH P w K mg base "UnknownItem" c.UnknownItem ["value"]
  e_OtherWidth : ErrH P w K mg base "OtherWidth" c.OtherWidth ["one", "other"]
  e_OtherHops : ErrH P w K mg base "OtherHops" c.OtherHops ["one", "other"]
  e_WrongMember : ErrH P w K mg base "WrongMember" c.WrongMember ["value"]
  e_Stranger : ErrH P w K mg base "Stranger" c.Stranger ["value"]
  e_NoOrder : ErrH P w K mg base "NoOrder" c.NoOrder []
  e_AlreadySo : ErrH P w K mg base "AlreadySo" c.AlreadySo ["value"]
  e_NothingToUndo : ErrH P w K mg base "NothingToUndo" c.NothingToUndo []
  e_CommandFailed : ErrH P w K mg base "CommandFailed" c.CommandFailed ["position"]
  e_TooMany : ErrH P w K mg base "TooMany" c.TooMany ["what", "limit"]
/-- .. their branches -/
structure BF (K : PySem.W.Frag) (B0 B1 B2 B3 : Addr) (c : Cls) : Prop where
  b_InvalidWidth : Br K B0 B1 B2 B3 c.InvalidWidth 0
  n_InvalidWidth_value : PySem.W.findIn K (.ref c.InvalidWidth) "value" = some none
  b_InvalidStretch : Br K B0 B1 B2 B3 c.InvalidStretch 0
  n_InvalidStretch_value : PySem.W.findIn K (.ref c.InvalidStretch) "value" = some none
  b_InvalidStretches : Br K B0 B1 B2 B3 c.InvalidStretches 0
  n_InvalidStretches_position : PySem.W.findIn K (.ref c.InvalidStretches) "position" = some none
  b_InvalidAddress : Br K B0 B1 B2 B3 c.InvalidAddress 0
  n_InvalidAddress_value : PySem.W.findIn K (.ref c.InvalidAddress) "value" = some none
  b_InvalidGoal : Br K B0 B1 B2 B3 c.InvalidGoal 0
  n_InvalidGoal_value : PySem.W.findIn K (.ref c.InvalidGoal) "value" = some none
  b_InvalidRows : Br K B0 B1 B2 B3 c.InvalidRows 0
  n_InvalidRows_value : PySem.W.findIn K (.ref c.InvalidRows) "value" = some none
  b_InvalidFree : Br K B0 B1 B2 B3 c.InvalidFree 0
  n_InvalidFree_position : PySem.W.findIn K (.ref c.InvalidFree) "position" = some none
  b_InvalidTables : Br K B0 B1 B2 B3 c.InvalidTables 0
  n_InvalidTables_value : PySem.W.findIn K (.ref c.InvalidTables) "value" = some none
  b_InvalidFirm : Br K B0 B1 B2 B3 c.InvalidFirm 0
  n_InvalidFirm_value : PySem.W.findIn K (.ref c.InvalidFirm) "value" = some none
  b_InvalidGone : Br K B0 B1 B2 B3 c.InvalidGone 0
  n_InvalidGone_position : PySem.W.findIn K (.ref c.InvalidGone) "position" = some none
  b_InvalidName : Br K B0 B1 B2 B3 c.InvalidName 0
  n_InvalidName_value : PySem.W.findIn K (.ref c.InvalidName) "value" = some none
  b_InvalidHop : Br K B0 B1 B2 B3 c.InvalidHop 0
  n_InvalidHop_value : PySem.W.findIn K (.ref c.InvalidHop) "value" = some none
  b_InvalidWay : Br K B0 B1 B2 B3 c.InvalidWay 0
  n_InvalidWay_value : PySem.W.findIn K (.ref c.InvalidWay) "value" = some none
  b_InvalidMembers : Br K B0 B1 B2 B3 c.InvalidMembers 0
  n_InvalidMembers_position : PySem.W.findIn K (.ref c.InvalidMembers) "position" = some none
  b_InvalidItems : Br K B0 B1 B2 B3 c.InvalidItems 0
  n_InvalidItems_position : PySem.W.findIn K (.ref c.InvalidItems) "position" = some none
  b_InvalidWithdrawn : Br K B0 B1 B2 B3 c.InvalidWithdrawn 0
  n_InvalidWithdrawn_position : PySem.W.findIn K (.ref c.InvalidWithdrawn) "position" = some none
  b_InvalidRegion : Br K B0 B1 B2 B3 c.InvalidRegion 0
  n_InvalidRegion_position : PySem.W.findIn K (.ref c.InvalidRegion) "position" = some none
  b_InvalidHops : Br K B0 B1 B2 B3 c.InvalidHops 0
  n_InvalidHops_position : PySem.W.findIn K (.ref c.InvalidHops) "position" = some none
  b_InvalidWord : Br K B0 B1 B2 B3 c.InvalidWord 0
  n_InvalidWord_value : PySem.W.findIn K (.ref c.InvalidWord) "value" = some none
  b_InvalidText : Br K B0 B1 B2 B3 c.InvalidText 0
  n_InvalidText_line : PySem.W.findIn K (.ref c.InvalidText) "line" = some none
  b_InvalidClaim : Br K B0 B1 B2 B3 c.InvalidClaim 0
  n_InvalidClaim_value : PySem.W.findIn K (.ref c.InvalidClaim) "value" = some none
  b_InvalidCommand : Br K B0 B1 B2 B3 c.InvalidCommand 0
  n_InvalidCommand_value : PySem.W.findIn K (.ref c.InvalidCommand) "value" = some none
  b_UnknownStretch : Br K B0 B1 B2 B3 c.UnknownStretch 1
  n_UnknownStretch_value : PySem.W.findIn K (.ref c.UnknownStretch) "value" = some none
  b_UnknownHop : Br K B0 B1 B2 B3 c.UnknownHop 1
  n_UnknownHop_value : PySem.W.findIn K (.ref c.UnknownHop) "value" = some none
  b_UnknownGoal : Br K B0 B1 B2 B3 c.UnknownGoal 1
  n_UnknownGoal_value : PySem.W.findIn K (.ref c.UnknownGoal) "value" = some none
  b_UnknownItem : Br K B0 B1 B2 B3 c.UnknownItem 1
  n_UnknownItem_value : PySem.W.findIn K (.ref c.UnknownItem) "value" = some none
  b_OtherWidth : Br K B0 B1 B2 B3 c.OtherWidth 2
  n_OtherWidth_one : PySem.W.findIn K (.ref c.OtherWidth) "one" = some none
  n_OtherWidth_other : PySem.W.findIn K (.ref c.OtherWidth) "other" = some none
  b_OtherHops : Br K B0 B1 B2 B3 c.OtherHops 2
  n_OtherHops_one : PySem.W.findIn K (.ref c.OtherHops) "one" = some none
  n_OtherHops_other : PySem.W.findIn K (.ref c.OtherHops) "other" = some none
  b_WrongMember : Br K B0 B1 B2 B3 c.WrongMember 2
  n_WrongMember_value : PySem.W.findIn K (.ref c.WrongMember) "value" = some none
  b_Stranger : Br K B0 B1 B2 B3 c.Stranger 2
  n_Stranger_value : PySem.W.findIn K (.ref c.Stranger) "value" = some none
  b_NoOrder : Br K B0 B1 B2 B3 c.NoOrder 2
  b_AlreadySo : Br K B0 B1 B2 B3 c.AlreadySo 2
  n_AlreadySo_value : PySem.W.findIn K (.ref c.AlreadySo) "value" = some none
  b_NothingToUndo : Br K B0 B1 B2 B3 c.NothingToUndo 2
  b_CommandFailed : Br K B0 B1 B2 B3 c.CommandFailed 2
  n_CommandFailed_position : PySem.W.findIn K (.ref c.CommandFailed) "position" = some none
  b_TooMany : Br K B0 B1 B2 B3 c.TooMany 3
  n_TooMany_what : PySem.W.findIn K (.ref c.TooMany) "what" = some none
  n_TooMany_limit : PySem.W.findIn K (.ref c.TooMany) "limit" = some none
theorem pa_weak {X : Cx} {es : List Expr} {t u : TA} (h : PA X es t) (k : ∀ σ H Q, u σ H Q → t σ H Q) : PA X es u := ⟨fun pos pins s σ H Q I z => h.run pos pins s σ H Q I (k σ H Q z)⟩
def EVs (H : Hp) (f : Str) (v : V) (cs : List (Addr × Nat)) (xs : List V) : Prop := Paired (fun (c : Addr × Nat) x => ∃ a, x = .ref a ∧ EvAt H a c.1 [(f, v)]) cs xs
theorem EVs.same {H H' : Hp} {f : Str} {v : V} (s : Same H H') : ∀ {cs : List (Addr × Nat)} {xs : List V}, EVs H f v cs xs → EVs H' f v cs xs
  | _, _, .nil => .nil
  | _, _, .cons ⟨a, e, h⟩ r => .cons ⟨a, e, h.same s⟩ (EVs.same s r)
theorem EVs.app {H : Hp} {f : Str} {v : V} : ∀ {cs ds : List (Addr × Nat)} {xs ys : List V}, EVs H f v cs xs → EVs H f v ds ys → EVs H f v (cs ++ ds) (xs ++ ys)
  | _, _, _, _, .nil, h => h
  | _, _, _, _, .cons a r, h => .cons a (EVs.app r h)
theorem EVs.len {H : Hp} {f : Str} {v : V} : ∀ {cs : List (Addr × Nat)} {xs : List V}, EVs H f v cs xs → xs.length = cs.length
  | _, _, .nil => rfl
  | _, _, .cons _ r => congrArg (· + 1) (EVs.len r)
/-- new errors of the classes cs, each with the field f of the value at the slot i -/
def tMks (f : Str) (i : Nat) (cs : List (Addr × Nat)) : TA := fun σ H Q => ∃ v, σ[i]? = some (some v) ∧ ∀ xs H2, Same H H2 → EVs H2 f v cs xs → Q xs H2
section
variable {X : Cx} {f x : Str} {C : Addr} {i j w : Nat} {cs : List (Addr × Nat)} {e : Expr} {es : List Expr} {p pos kpos : Pos}
theorem pm_nil : PA X [] (tMks f i []) := pa_weak pa_nil fun σ H Q ⟨v, _, h⟩ => h [] H (Same.refl H) .nil
theorem pm_cons (c : ErrH X.prog X.w X.K X.mg X.base x C [f]) (hr : Room j X.A) (hj : 3 ≤ j) (hg : Gl X x) (he : PE X e (tVar i)) (hr2 : PA X es (tMks f i cs)) (hdb : (x == ("__debug__" : Str)) = false := by decide)
    (h1 : starEach [e] X.env = (false, eval e X.env) :: starEach [] X.env := by rfl) (h2 : (backTo pos (starEach [] X.env)).any (·.1) = false := by rfl)
    (h3 : starEach (.Call (.Name x p) [e] [] pos :: es) X.env = (false, eval (.Call (.Name x p) [e] [] pos) X.env) :: starEach es X.env := by rfl) : PA X (.Call (.Name x p) [e] [] pos :: es) (tMks f i ((C, w) :: cs)) := by
  refine pa_weak (pa_cons (pe_mkE c hr hj hg (pa_cons he pa_nil h1) hdb h1 h2) hr2 h3) fun σ H Q ⟨v, hv, h⟩ => ?_
  exact ⟨v, hv, rfl, by show 1 ≤ 1000; decide, fun a H2 na s ev => ⟨v, hv, fun xs H3 s3 r => h (.ref a :: xs) H3 (fun b o q => s3 b o (s b o q)) (.cons ⟨a, rfl, ev.same s3⟩ r)⟩⟩
theorem pm_consK (c : ErrH X.prog X.w X.K X.mg X.base x C [f]) (hr : Room j X.A) (hj : 3 ≤ j) (hg : Gl X x) (he : PE X e (tVar i)) (hr2 : PA X es (tMks f i cs))
    (hall : (backToKw pos (keywordEach [⟨some f, e, kpos⟩] X.env)).all (·.1.isSome) = true := by rfl) (hks : (backToKw pos (keywordEach [⟨some f, e, kpos⟩] X.env)).filterMap (·.1) = [f] := by rfl) (hdb : (x == ("__debug__" : Str)) = false := by decide)
    (hpl : ((backTo pos (starEach [] X.env)).any (·.1) || (backToKw pos (keywordEach [⟨some f, e, kpos⟩] X.env)).any (·.1.isNone)) = false := by rfl)
    (h3 : starEach (.Call (.Name x p) [] [⟨some f, e, kpos⟩] pos :: es) X.env = (false, eval (.Call (.Name x p) [] [⟨some f, e, kpos⟩] pos) X.env) :: starEach es X.env := by rfl) : PA X (.Call (.Name x p) [] [⟨some f, e, kpos⟩] pos :: es) (tMks f i ((C, w) :: cs)) := by
  refine pa_weak (pa_cons (pe_mkK c hr hj hg (pk_cons he pk_nil) hall hks hdb hpl) hr2 h3) fun σ H Q ⟨v, hv, h⟩ => ?_
  exact ⟨v, hv, rfl, by show 1 ≤ 1000; decide, fun a H2 na s ev => ⟨v, hv, fun xs H3 s3 r => h (.ref a :: xs) H3 (fun b o q => s3 b o (s b o q)) (.cons ⟨a, rfl, ev.same s3⟩ r)⟩⟩
end
/-- what is not written yet stands -/
def SameX (H H' : Hp) : Prop := ∀ b φ, H b = some (.ext φ) → H' b = some (.ext φ)
theorem Same.x {H H' : Hp} (s : Same H H') : SameX H H' := fun b φ e => s b _ e
theorem EvAt.x {H H' : Hp} {a C : Addr} {fs : List (Str × V)} (h : EvAt H a C fs) (s : SameX H H') : EvAt H' a C fs := by
  rcases h with ⟨e, h⟩ | ⟨d, h1, h2⟩
  · exact .inl ⟨e, s _ _ h⟩
  · exact .inr ⟨d, s _ _ h1, s _ _ h2⟩
theorem EVs.x {H H' : Hp} {f : Str} {v : V} (s : SameX H H') : ∀ {cs : List (Addr × Nat)} {xs : List V}, EVs H f v cs xs → EVs H' f v cs xs
  | _, _, .nil => .nil
  | _, _, .cons ⟨a, e, h⟩ r => .cons ⟨a, e, h.x s⟩ (EVs.x s r)
theorem mks_go {f : Str} {i : Nat} {cs : List (Addr × Nat)} {σ : L2.St} {H : Hp} {Q : VK} {v : V} (hv : σ[i]? = some (some v)) (hl : cs.length ≤ 20) (k : ∀ D xs H', Same H H' → H D = none → H' D = some (.lst xs) → EVs H' f v cs xs → Q (.ref D) H') : tLst (tMks f i cs) σ H Q :=
  ⟨v, hv, fun xs H1 s e => ⟨szl (by rw [e.len]; omega), fun D nD => k D xs _ (fun b o q => updn (nonn nD (s b o q)) (s b o q)) (ne_none_of s nD) upd_same (e.same fun b o q => updn (nonn nD q) q)⟩⟩
theorem set_mk {f : Str} {i j : Nat} {cs : List (Addr × Nat)} {σ : L2.St} {H : Hp} {v : V} {u : L2.Ends → L2.St → Hp → Prop} {De : L2.Ends} (hv : σ[i]? = some (some v)) (hl : cs.length ≤ 20) (k : ∀ D xs H', Same H H' → H D = none → H' D = some (.lst xs) → EVs H' f v cs xs → u De (σ.set j (some (.ref D))) H') :
    tSeq (tAsg (tLst (tMks f i cs)) (gName j)) u De σ H := mks_go (Q := fun y H' => u De (σ.set j (some y)) H') hv hl k
theorem ext_mk {K : PySem.W.Frag} {f : Str} {i j : Nat} {cs cs0 : List (Addr × Nat)} {σ : L2.St} {H : Hp} {v : V} {D : Addr} {xs : List V} {u : L2.Ends → L2.St → Hp → Prop} {De : L2.Ends} (hj : σ[j]? = some (some (.ref D))) (hv : σ[i]? = some (some v)) (hD : H D = some (.lst xs)) (h0 : EVs H f v cs0 xs) (l0 : cs0.length ≤ 20) (l1 : cs.length ≤ 20)
    (k : ∀ H' ys, (∀ b o, b ≠ D → H b = some o → H' b = some o) → H' D = some (.lst (xs ++ ys)) → EVs H' f v (cs0 ++ cs) (xs ++ ys) → u De σ H') : tSeq (tDrop (tBM K "list" rExtend (tVar j) (tCons (tLst (tMks f i cs)) tNil))) u De σ H := by
  refine ⟨_, hj, Or.inl ⟨rfl, _, SqL.of hD⟩, ?_⟩
  refine mks_go hv l1 fun D2 ys H1 s n e ev => ?_
  refine ⟨D, D2, xs, ys, rfl, rfl, s _ _ hD, e, szl (by rw [h0.len, ev.len]; omega), ?_⟩
  have sx : SameX H1 (upd H1 D (.lst (xs ++ ys))) := fun b φ q => updn (fun z => by rw [z, s _ _ hD] at q; cases q) q
  exact k _ ys (fun b o m q => updn m (s b o q)) upd_same (((h0.same s).x sx).app (ev.x sx))
/-- all of xs are errors of the branch w, their field f is v -/
def EW (K : PySem.W.Frag) (B0 B1 B2 B3 : Addr) (H : Hp) (f : Str) (v : V) (w : Nat) (xs : List V) : Prop := ∀ x ∈ xs, ∃ a C, x = .ref a ∧ EvAt H a C [(f, v)] ∧ Br K B0 B1 B2 B3 C w ∧ PySem.W.findIn K (.ref C) f = some none
theorem EW.same {K : PySem.W.Frag} {B0 B1 B2 B3 : Addr} {H H' : Hp} {f : Str} {v : V} {w : Nat} {xs : List V} (h : EW K B0 B1 B2 B3 H f v w xs) (s : Same H H') : EW K B0 B1 B2 B3 H' f v w xs := fun x hx => let ⟨a, C, e, h1, h2⟩ := h x hx; ⟨a, C, e, h1.same s, h2⟩
theorem EVs.ew {K : PySem.W.Frag} {B0 B1 B2 B3 : Addr} {H : Hp} {f : Str} {v : V} {w : Nat} : ∀ {cs : List (Addr × Nat)} {xs : List V}, EVs H f v cs xs → (∀ p ∈ cs, Br K B0 B1 B2 B3 p.1 w ∧ PySem.W.findIn K (.ref p.1) f = some none) → EW K B0 B1 B2 B3 H f v w xs
  | _, _, .nil, _ => fun x hx => by cases hx
  | _, _, .cons ⟨a, e, h⟩ r, k => fun x hx => by
    rcases List.mem_cons.mp hx with rfl | hx
    · exact ⟨a, _, e, h, k _ List.mem_cons_self⟩
    · exact EVs.ew r (fun p hp => k p (List.mem_cons_of_mem _ hp)) x hx
@[irreducible] def spOV (K : PySem.W.Frag) (B0 B1 B2 B3 : Addr) : Sp := fun vs H Q _ => ∃ v, vs = [v] ∧ ∀ L L1 L2 L3 xs1 xs2 xs3 H', Same H H' → H L = none → H' L = some (.lst [.ref L1, .ref L2, .ref L3]) → H' L1 = some (.lst xs1) → H' L2 = some (.lst xs2) → H' L3 = some (.lst xs3) →
  xs1.length ≤ 20 → xs2.length ≤ 20 → xs3.length ≤ 20 → EW K B0 B1 B2 B3 H' "value" v 0 xs1 → EW K B0 B1 B2 B3 H' "value" v 1 xs2 → EW K B0 B1 B2 B3 H' "value" v 2 xs3 → Q (.ref L) H'
@[irreducible] def spNm (K : PySem.W.Frag) (B0 B1 B2 B3 : Addr) (c : Cls) : Sp := fun vs H Q _ => ∃ v, vs = [v] ∧ ∀ L a1 a2 xs1 xs2 xs3 H', Same H H' → H L = none → H' L = some (.lst ((.ref a1 :: xs1) ++ (.ref a2 :: xs2) ++ xs3)) → xs1.length = 12 → xs2.length = 3 → xs3.length = 3 → EvAt H' a1 c.InvalidWidth [("value", v)] → EvAt H' a2 c.UnknownStretch [("value", v)] →
  EW K B0 B1 B2 B3 H' "value" v 0 (.ref a1 :: xs1) → EW K B0 B1 B2 B3 H' "value" v 1 (.ref a2 :: xs2) → EW K B0 B1 B2 B3 H' "value" v 2 xs3 → Q (.ref L) H'
@[irreducible] def spOP (K : PySem.W.Frag) (B0 B1 B2 B3 : Addr) : Sp := fun vs H Q _ => ∃ v, vs = [v] ∧ ∀ L xs H', Same H H' → H L = none → H' L = some (.lst xs) → xs.length ≤ 40 → EW K B0 B1 B2 B3 H' "position" v 0 xs → Q (.ref L) H'
theorem evs_split {H : Hp} {f : Str} {v : V} : ∀ {cs ds : List (Addr × Nat)} {xs : List V}, EVs H f v (cs ++ ds) xs → ∃ ys zs, xs = ys ++ zs ∧ EVs H f v cs ys ∧ EVs H f v ds zs
  | [], _, _, h => ⟨[], _, rfl, .nil, h⟩
  | _ :: _, _, _, .cons a r => let ⟨ys, zs, e, h1, h2⟩ := evs_split r; ⟨_ :: ys, zs, by rw [e]; rfl, .cons a h1, h2⟩
theorem named_split {c : Cls} {H : Hp} {v : V} {xs : List V} {Q : Prop} (h : EVs H "value" v ([(c.InvalidWidth, 0), (c.InvalidStretch, 0), (c.InvalidAddress, 0), (c.InvalidGoal, 0), (c.InvalidRows, 0), (c.InvalidTables, 0), (c.InvalidFirm, 0), (c.InvalidName, 0), (c.InvalidHop, 0), (c.InvalidWay, 0), (c.InvalidWord, 0), (c.InvalidClaim, 0), (c.InvalidCommand, 0)] ++ [(c.UnknownStretch, 1), (c.UnknownHop, 1), (c.UnknownGoal, 1), (c.UnknownItem, 1)] ++ [(c.WrongMember, 2), (c.Stranger, 2), (c.AlreadySo, 2)]) xs)
    (k : ∀ (a1 a2 : Addr) (xs1 xs2 xs3 : List V), xs = (.ref a1 :: xs1) ++ (.ref a2 :: xs2) ++ xs3 → xs1.length = 12 → xs2.length = 3 → xs3.length = 3 → EvAt H a1 c.InvalidWidth [("value", v)] → EvAt H a2 c.UnknownStretch [("value", v)] →
      EVs H "value" v [(c.InvalidWidth, 0), (c.InvalidStretch, 0), (c.InvalidAddress, 0), (c.InvalidGoal, 0), (c.InvalidRows, 0), (c.InvalidTables, 0), (c.InvalidFirm, 0), (c.InvalidName, 0), (c.InvalidHop, 0), (c.InvalidWay, 0), (c.InvalidWord, 0), (c.InvalidClaim, 0), (c.InvalidCommand, 0)] (.ref a1 :: xs1) → EVs H "value" v [(c.UnknownStretch, 1), (c.UnknownHop, 1), (c.UnknownGoal, 1), (c.UnknownItem, 1)] (.ref a2 :: xs2) → EVs H "value" v [(c.WrongMember, 2), (c.Stranger, 2), (c.AlreadySo, 2)] xs3 → Q) : Q := by
  obtain ⟨ys, zs, rfl, h, h3⟩ := evs_split h
  obtain ⟨ys1, ys2, rfl, h1, h2⟩ := evs_split h
  cases h1 with
  | cons p1 r1 =>
    obtain ⟨a1, rfl, w1⟩ := p1
    cases h2 with
    | cons p2 r2 =>
      obtain ⟨a2, rfl, w2⟩ := p2
      exact k a1 a2 _ _ _ rfl (EVs.len r1) (EVs.len r2) h3.len w1 w2 (.cons ⟨a1, rfl, w1⟩ r1) (.cons ⟨a2, rfl, w2⟩ r2) h3
section
variable {P : Program} {w : World} {K : PySem.W.Frag} {mg : Str → Option Value} {base : Heap} {f : Addr} {fd : FuncData} {B0 B1 B2 B3 : Addr} {c : Cls}
theorem ok_of_value (ee : EE P w K mg base c) (bf : BF K B0 B1 B2 B3 c) (F : Fun K "_law_of_value" "_law_of_value" s_law_of_value f fd) (hm : mg "_law_of_value" = some (.ref f)) (T : Txt K mg) : Nm P w K mg base CX0 4 "_law_of_value" s_law_of_value ["_law_here"] (spOV K B0 B1 B2 B3) := by
  refine nm_of F hm sc_law_of_value (fun vs H Q E h => ?_) fun cdv A outer s H vs Q E hr h => ?_
  · unfold spOV at h
    obtain ⟨v, rfl, k⟩ := h
    subst_vars
    rfl
  unfold spOV at h
  obtain ⟨v, rfl, k⟩ := h
  refine ⟨_, (pss_cons (ps_set (i := 1) sc_law_of_value.nd rfl (by first | exact Or.inl rfl | exact Or.inr rfl) (pe_lst (pm_cons (w := 0) ee.e_InvalidWidth hr.r (by decide) (by rfl) (pv 0) (pm_cons (w := 0) ee.e_InvalidStretch hr.r (by decide) (by rfl) (pv 0) (pm_cons (w := 0) ee.e_InvalidAddress hr.r (by decide) (by rfl) (pv 0) (pm_cons (w := 0) ee.e_InvalidGoal hr.r (by decide) (by rfl) (pv 0) (pm_cons (w := 0) ee.e_InvalidRows hr.r (by decide) (by rfl) (pv 0) pm_nil)))))))
      (pss_cons (ps_expr (pe_bm PySem.F.plainAttrs_list PySem.F.slot_list_extend PySem.F.type_list_extend mt_extend (pv 1) (pa_cons (pe_lst (pm_cons (w := 0) ee.e_InvalidTables hr.r (by decide) (by rfl) (pv 0) (pm_cons (w := 0) ee.e_InvalidFirm hr.r (by decide) (by rfl) (pv 0) (pm_cons (w := 0) ee.e_InvalidName hr.r (by decide) (by rfl) (pv 0) (pm_cons (w := 0) ee.e_InvalidHop hr.r (by decide) (by rfl) (pv 0) (pm_cons (w := 0) ee.e_InvalidWay hr.r (by decide) (by rfl) (pv 0) pm_nil)))))) pa_nil)))
      (pss_cons (ps_expr (pe_bm PySem.F.plainAttrs_list PySem.F.slot_list_extend PySem.F.type_list_extend mt_extend (pv 1) (pa_cons (pe_lst (pm_cons (w := 0) ee.e_InvalidWord hr.r (by decide) (by rfl) (pv 0) (pm_cons (w := 0) ee.e_InvalidClaim hr.r (by decide) (by rfl) (pv 0) (pm_cons (w := 0) ee.e_InvalidCommand hr.r (by decide) (by rfl) (pv 0) pm_nil)))) pa_nil)))
      (pss_cons (ps_set (i := 2) sc_law_of_value.nd rfl (by first | exact Or.inl rfl | exact Or.inr rfl) (pe_lst (pm_cons (w := 1) ee.e_UnknownStretch hr.r (by decide) (by rfl) (pv 0) (pm_cons (w := 1) ee.e_UnknownHop hr.r (by decide) (by rfl) (pv 0) (pm_cons (w := 1) ee.e_UnknownGoal hr.r (by decide) (by rfl) (pv 0) (pm_cons (w := 1) ee.e_UnknownItem hr.r (by decide) (by rfl) (pv 0) pm_nil))))))
      (pss_one (ps_ret (pe_lst (pa_cons (pv 1) (pa_cons (pv 2) (pa_cons (pe_lst (pm_cons (w := 2) ee.e_WrongMember hr.r (by decide) (by rfl) (pv 0) (pm_cons (w := 2) ee.e_Stranger hr.r (by decide) (by rfl) (pv 0) (pm_cons (w := 2) ee.e_AlreadySo hr.r (by decide) (by rfl) (pv 0) pm_nil)))) pa_nil)))))))))), ?_⟩
  refine set_mk rfl (Nat.le_of_ble_eq_true rfl) fun D xs H1 s1 n1 e1 v1 => ?_
  refine ext_mk rfl rfl e1 v1 (Nat.le_of_ble_eq_true rfl) (Nat.le_of_ble_eq_true rfl) fun H2 ys k2 e2 v2 => ?_
  refine ext_mk rfl rfl e2 v2 (Nat.le_of_ble_eq_true rfl) (Nat.le_of_ble_eq_true rfl) fun H3 zs k3 e3 v3 => ?_
  refine set_mk rfl (Nat.le_of_ble_eq_true rfl) fun D2 xs2 H4 s4 n4 e4 v4 => ?_
  refine ⟨_, rfl, _, rfl, ?_⟩
  refine mks_go (v := v) ?g1 ?g2 fun D3 xs3 H5 s5 n5 e5 v5 => ?_
  case g1 => rfl
  case g2 => exact Nat.le_of_ble_eq_true rfl
  refine ⟨szl (by show 3 ≤ 1000000; decide), fun L nL => ?_⟩
  have s03 : Same H H3 := fun b o q => k3 b o (fun z => by rw [z, n1] at q; cases q) (k2 b o (fun z => by rw [z, n1] at q; cases q) (s1 b o q))
  have s6 : Same H5 (upd H5 L (.lst [.ref D, .ref D2, .ref D3])) := fun b o q => updn (nonn nL q) q
  have s05 : Same H H5 := fun b o q => s5 b o (s4 b o (s03 b o q))
  have sA : Same H3 (upd H5 L (.lst [.ref D, .ref D2, .ref D3])) := fun b o q => s6 b o (s5 b o (s4 b o q))
  have sB : Same H4 (upd H5 L (.lst [.ref D, .ref D2, .ref D3])) := fun b o q => s6 b o (s5 b o q)
  refine k L D D2 D3 _ xs2 xs3 _ (fun b o q => s6 b o (s05 b o q)) (ne_none_of s05 nL) upd_same (sA _ _ e3) (sB _ _ e4) (s6 _ _ e5) (by rw [v3.len]; exact Nat.le_of_ble_eq_true rfl) (by rw [v4.len]; exact Nat.le_of_ble_eq_true rfl) (by rw [v5.len]; exact Nat.le_of_ble_eq_true rfl) ((v3.same sA).ew ?_) ((v4.same sB).ew ?_) ((v5.same s6).ew ?_)
  · intro p hp
    simp only [List.mem_cons, List.not_mem_nil, or_false, List.cons_append, List.nil_append] at hp
    rcases hp with rfl | rfl | rfl | rfl | rfl | rfl | rfl | rfl | rfl | rfl | rfl | rfl | rfl
    · exact ⟨bf.b_InvalidWidth, bf.n_InvalidWidth_value⟩
    · exact ⟨bf.b_InvalidStretch, bf.n_InvalidStretch_value⟩
    · exact ⟨bf.b_InvalidAddress, bf.n_InvalidAddress_value⟩
    · exact ⟨bf.b_InvalidGoal, bf.n_InvalidGoal_value⟩
    · exact ⟨bf.b_InvalidRows, bf.n_InvalidRows_value⟩
    · exact ⟨bf.b_InvalidTables, bf.n_InvalidTables_value⟩
    · exact ⟨bf.b_InvalidFirm, bf.n_InvalidFirm_value⟩
    · exact ⟨bf.b_InvalidName, bf.n_InvalidName_value⟩
    · exact ⟨bf.b_InvalidHop, bf.n_InvalidHop_value⟩
    · exact ⟨bf.b_InvalidWay, bf.n_InvalidWay_value⟩
    · exact ⟨bf.b_InvalidWord, bf.n_InvalidWord_value⟩
    · exact ⟨bf.b_InvalidClaim, bf.n_InvalidClaim_value⟩
    · exact ⟨bf.b_InvalidCommand, bf.n_InvalidCommand_value⟩
  · intro p hp
    simp only [List.mem_cons, List.not_mem_nil, or_false, List.cons_append, List.nil_append] at hp
    rcases hp with rfl | rfl | rfl | rfl
    · exact ⟨bf.b_UnknownStretch, bf.n_UnknownStretch_value⟩
    · exact ⟨bf.b_UnknownHop, bf.n_UnknownHop_value⟩
    · exact ⟨bf.b_UnknownGoal, bf.n_UnknownGoal_value⟩
    · exact ⟨bf.b_UnknownItem, bf.n_UnknownItem_value⟩
  · intro p hp
    simp only [List.mem_cons, List.not_mem_nil, or_false, List.cons_append, List.nil_append] at hp
    rcases hp with rfl | rfl | rfl
    · exact ⟨bf.b_WrongMember, bf.n_WrongMember_value⟩
    · exact ⟨bf.b_Stranger, bf.n_Stranger_value⟩
    · exact ⟨bf.b_AlreadySo, bf.n_AlreadySo_value⟩
theorem ok_named (ee : EE P w K mg base c) (bf : BF K B0 B1 B2 B3 c) (F : Fun K "_law_named" "_law_named" s_law_named f fd) (hm : mg "_law_named" = some (.ref f)) (T : Txt K mg) : Nm P w K mg base CX0 4 "_law_named" s_law_named ["_law_here"] (spNm K B0 B1 B2 B3 c) := by
  refine nm_of F hm sc_law_named (fun vs H Q E h => ?_) fun cdv A outer s H vs Q E hr h => ?_
  · unfold spNm at h
    obtain ⟨v, rfl, k⟩ := h
    subst_vars
    rfl
  unfold spNm at h
  obtain ⟨v, rfl, k⟩ := h
  refine ⟨_, (pss_cons (ps_set (i := 1) sc_law_named.nd rfl (by first | exact Or.inl rfl | exact Or.inr rfl) (pe_lst (pm_consK (w := 0) ee.e_InvalidWidth hr.r (by decide) (by rfl) (pv 0) (pm_consK (w := 0) ee.e_InvalidStretch hr.r (by decide) (by rfl) (pv 0) (pm_consK (w := 0) ee.e_InvalidAddress hr.r (by decide) (by rfl) (pv 0) (pm_consK (w := 0) ee.e_InvalidGoal hr.r (by decide) (by rfl) (pv 0) pm_nil))))))
      (pss_cons (ps_expr (pe_bm PySem.F.plainAttrs_list PySem.F.slot_list_extend PySem.F.type_list_extend mt_extend (pv 1) (pa_cons (pe_lst (pm_consK (w := 0) ee.e_InvalidRows hr.r (by decide) (by rfl) (pv 0) (pm_consK (w := 0) ee.e_InvalidTables hr.r (by decide) (by rfl) (pv 0) (pm_consK (w := 0) ee.e_InvalidFirm hr.r (by decide) (by rfl) (pv 0) (pm_consK (w := 0) ee.e_InvalidName hr.r (by decide) (by rfl) (pv 0) pm_nil))))) pa_nil)))
      (pss_cons (ps_expr (pe_bm PySem.F.plainAttrs_list PySem.F.slot_list_extend PySem.F.type_list_extend mt_extend (pv 1) (pa_cons (pe_lst (pm_consK (w := 0) ee.e_InvalidHop hr.r (by decide) (by rfl) (pv 0) (pm_consK (w := 0) ee.e_InvalidWay hr.r (by decide) (by rfl) (pv 0) (pm_consK (w := 0) ee.e_InvalidWord hr.r (by decide) (by rfl) (pv 0) (pm_consK (w := 0) ee.e_InvalidClaim hr.r (by decide) (by rfl) (pv 0) pm_nil))))) pa_nil)))
      (pss_cons (ps_expr (pe_bm PySem.F.plainAttrs_list PySem.F.slot_list_extend PySem.F.type_list_extend mt_extend (pv 1) (pa_cons (pe_lst (pm_consK (w := 0) ee.e_InvalidCommand hr.r (by decide) (by rfl) (pv 0) (pm_consK (w := 1) ee.e_UnknownStretch hr.r (by decide) (by rfl) (pv 0) (pm_consK (w := 1) ee.e_UnknownHop hr.r (by decide) (by rfl) (pv 0) (pm_consK (w := 1) ee.e_UnknownGoal hr.r (by decide) (by rfl) (pv 0) pm_nil))))) pa_nil)))
      (pss_one (ps_ret (pe_op op_cat (pv 1) (pe_lst (pm_consK (w := 1) ee.e_UnknownItem hr.r (by decide) (by rfl) (pv 0) (pm_consK (w := 2) ee.e_WrongMember hr.r (by decide) (by rfl) (pv 0) (pm_consK (w := 2) ee.e_Stranger hr.r (by decide) (by rfl) (pv 0) (pm_consK (w := 2) ee.e_AlreadySo hr.r (by decide) (by rfl) (pv 0) pm_nil)))))))))))), ?_⟩
  refine set_mk rfl (Nat.le_of_ble_eq_true rfl) fun D xs H1 s1 n1 e1 v1 => ?_
  refine ext_mk rfl rfl e1 v1 (Nat.le_of_ble_eq_true rfl) (Nat.le_of_ble_eq_true rfl) fun H2 ys2 k2 e2 v2 => ?_
  refine ext_mk rfl rfl e2 v2 (Nat.le_of_ble_eq_true rfl) (Nat.le_of_ble_eq_true rfl) fun H3 ys3 k3 e3 v3 => ?_
  refine ext_mk rfl rfl e3 v3 (Nat.le_of_ble_eq_true rfl) (Nat.le_of_ble_eq_true rfl) fun H4 ys4 k4 e4 v4 => ?_
  refine ⟨_, rfl, ?_⟩
  refine mks_go (v := v) ?g1 ?g2 fun D2 xs5 H5 s5 n5 e5 v5 => ?_
  case g1 => rfl
  case g2 => exact Nat.le_of_ble_eq_true rfl
  have s04 : Same H H4 := fun b o q => k4 b o (fun z => by rw [z, n1] at q; cases q) (k3 b o (fun z => by rw [z, n1] at q; cases q) (k2 b o (fun z => by rw [z, n1] at q; cases q) (s1 b o q)))
  refine ⟨D, D2, _, _, rfl, rfl, s5 _ _ e4, e5, szl (by rw [v4.len, v5.len]; show 16 + 4 ≤ 1000000; decide), fun L nL => ?_⟩
  have s05 : Same H H5 := fun b o q => s5 b o (s04 b o q)
  have s6 : ∀ o', Same H5 (upd H5 L o') := fun o' b o q => updn (nonn nL q) q
  have ev : EVs _ "value" v _ _ := ((v4.same s5).app v5).same (s6 (.lst (xs ++ ys2 ++ ys3 ++ ys4 ++ xs5)))
  refine named_split (c := c) ev fun a1 a2 xs1 xs2 xs3 e l1 l2 l3 h1 h2 w1 w2 w3 => ?_
  refine k L a1 a2 xs1 xs2 xs3 _ (fun b o q => s6 _ b o (s05 b o q)) (ne_none_of s05 nL) (by rw [upd_same]; exact congrArg (fun z => some (HO.lst z)) e) l1 l2 l3 h1 h2 (w1.ew ?_) (w2.ew ?_) (w3.ew ?_)
  · intro p hp
    simp only [List.mem_cons, List.not_mem_nil, or_false, List.cons_append, List.nil_append] at hp
    rcases hp with rfl | rfl | rfl | rfl | rfl | rfl | rfl | rfl | rfl | rfl | rfl | rfl | rfl
    · exact ⟨bf.b_InvalidWidth, bf.n_InvalidWidth_value⟩
    · exact ⟨bf.b_InvalidStretch, bf.n_InvalidStretch_value⟩
    · exact ⟨bf.b_InvalidAddress, bf.n_InvalidAddress_value⟩
    · exact ⟨bf.b_InvalidGoal, bf.n_InvalidGoal_value⟩
    · exact ⟨bf.b_InvalidRows, bf.n_InvalidRows_value⟩
    · exact ⟨bf.b_InvalidTables, bf.n_InvalidTables_value⟩
    · exact ⟨bf.b_InvalidFirm, bf.n_InvalidFirm_value⟩
    · exact ⟨bf.b_InvalidName, bf.n_InvalidName_value⟩
    · exact ⟨bf.b_InvalidHop, bf.n_InvalidHop_value⟩
    · exact ⟨bf.b_InvalidWay, bf.n_InvalidWay_value⟩
    · exact ⟨bf.b_InvalidWord, bf.n_InvalidWord_value⟩
    · exact ⟨bf.b_InvalidClaim, bf.n_InvalidClaim_value⟩
    · exact ⟨bf.b_InvalidCommand, bf.n_InvalidCommand_value⟩
  · intro p hp
    simp only [List.mem_cons, List.not_mem_nil, or_false, List.cons_append, List.nil_append] at hp
    rcases hp with rfl | rfl | rfl | rfl
    · exact ⟨bf.b_UnknownStretch, bf.n_UnknownStretch_value⟩
    · exact ⟨bf.b_UnknownHop, bf.n_UnknownHop_value⟩
    · exact ⟨bf.b_UnknownGoal, bf.n_UnknownGoal_value⟩
    · exact ⟨bf.b_UnknownItem, bf.n_UnknownItem_value⟩
  · intro p hp
    simp only [List.mem_cons, List.not_mem_nil, or_false, List.cons_append, List.nil_append] at hp
    rcases hp with rfl | rfl | rfl
    · exact ⟨bf.b_WrongMember, bf.n_WrongMember_value⟩
    · exact ⟨bf.b_Stranger, bf.n_Stranger_value⟩
    · exact ⟨bf.b_AlreadySo, bf.n_AlreadySo_value⟩
theorem ok_of_place (ee : EE P w K mg base c) (bf : BF K B0 B1 B2 B3 c) (F : Fun K "_law_of_place" "_law_of_place" s_law_of_place f fd) (hm : mg "_law_of_place" = some (.ref f)) (T : Txt K mg) : Nm P w K mg base CX0 4 "_law_of_place" s_law_of_place ["_law_spot"] (spOP K B0 B1 B2 B3) := by
  refine nm_of F hm sc_law_of_place (fun vs H Q E h => ?_) fun cdv A outer s H vs Q E hr h => ?_
  · unfold spOP at h
    obtain ⟨v, rfl, k⟩ := h
    subst_vars
    rfl
  unfold spOP at h
  obtain ⟨v, rfl, k⟩ := h
  refine ⟨_, (pss_cons (ps_set (i := 1) sc_law_of_place.nd rfl (by first | exact Or.inl rfl | exact Or.inr rfl) (pe_lst (pm_cons (w := 0) ee.e_InvalidStretches hr.r (by decide) (by rfl) (pv 0) (pm_cons (w := 0) ee.e_InvalidFree hr.r (by decide) (by rfl) (pv 0) (pm_cons (w := 0) ee.e_InvalidGone hr.r (by decide) (by rfl) (pv 0) (pm_cons (w := 0) ee.e_InvalidMembers hr.r (by decide) (by rfl) (pv 0) (pm_cons (w := 0) ee.e_InvalidItems hr.r (by decide) (by rfl) (pv 0) pm_nil)))))))
      (pss_cons (ps_expr (pe_bm PySem.F.plainAttrs_list PySem.F.slot_list_extend PySem.F.type_list_extend mt_extend (pv 1) (pa_cons (pe_lst (pm_cons (w := 0) ee.e_InvalidWithdrawn hr.r (by decide) (by rfl) (pv 0) (pm_cons (w := 0) ee.e_InvalidRegion hr.r (by decide) (by rfl) (pv 0) (pm_cons (w := 0) ee.e_InvalidHops hr.r (by decide) (by rfl) (pv 0) (pm_consK (w := 0) ee.e_InvalidStretches hr.r (by decide) (by rfl) (pv 0) pm_nil))))) pa_nil)))
      (pss_cons (ps_expr (pe_bm PySem.F.plainAttrs_list PySem.F.slot_list_extend PySem.F.type_list_extend mt_extend (pv 1) (pa_cons (pe_lst (pm_consK (w := 0) ee.e_InvalidFree hr.r (by decide) (by rfl) (pv 0) (pm_consK (w := 0) ee.e_InvalidGone hr.r (by decide) (by rfl) (pv 0) (pm_consK (w := 0) ee.e_InvalidMembers hr.r (by decide) (by rfl) (pv 0) pm_nil)))) pa_nil)))
      (pss_one (ps_ret (pe_op op_cat (pv 1) (pe_lst (pm_consK (w := 0) ee.e_InvalidItems hr.r (by decide) (by rfl) (pv 0) (pm_consK (w := 0) ee.e_InvalidWithdrawn hr.r (by decide) (by rfl) (pv 0) (pm_consK (w := 0) ee.e_InvalidHops hr.r (by decide) (by rfl) (pv 0) (pm_consK (w := 0) ee.e_InvalidRegion hr.r (by decide) (by rfl) (pv 0) pm_nil))))))))))), ?_⟩
  refine set_mk rfl (Nat.le_of_ble_eq_true rfl) fun D xs H1 s1 n1 e1 v1 => ?_
  refine ext_mk rfl rfl e1 v1 (Nat.le_of_ble_eq_true rfl) (Nat.le_of_ble_eq_true rfl) fun H2 ys2 k2 e2 v2 => ?_
  refine ext_mk rfl rfl e2 v2 (Nat.le_of_ble_eq_true rfl) (Nat.le_of_ble_eq_true rfl) fun H3 ys3 k3 e3 v3 => ?_
  refine ⟨_, rfl, ?_⟩
  refine mks_go (v := v) ?g1 ?g2 fun D2 xs5 H5 s5 n5 e5 v5 => ?_
  case g1 => rfl
  case g2 => exact Nat.le_of_ble_eq_true rfl
  have s03 : Same H H3 := fun b o q => k3 b o (fun z => by rw [z, n1] at q; cases q) (k2 b o (fun z => by rw [z, n1] at q; cases q) (s1 b o q))
  refine ⟨D, D2, _, _, rfl, rfl, s5 _ _ e3, e5, szl (by rw [v3.len, v5.len]; show 12 + 4 ≤ 1000000; decide), fun L nL => ?_⟩
  have s05 : Same H H5 := fun b o q => s5 b o (s03 b o q)
  have s6 : ∀ o', Same H5 (upd H5 L o') := fun o' b o q => updn (nonn nL q) q
  have ev : EVs _ "position" v _ _ := ((v3.same s5).app v5).same (s6 (.lst (xs ++ ys2 ++ ys3 ++ xs5)))
  refine k L _ _ (fun b o q => s6 _ b o (s05 b o q)) (ne_none_of s05 nL) upd_same (by rw [ev.len]; exact Nat.le_of_ble_eq_true rfl) (ev.ew ?_)
  · intro p hp
    simp only [List.mem_cons, List.not_mem_nil, or_false, List.cons_append, List.nil_append] at hp
    rcases hp with rfl | rfl | rfl | rfl | rfl | rfl | rfl | rfl | rfl | rfl | rfl | rfl | rfl | rfl | rfl | rfl
    · exact ⟨bf.b_InvalidStretches, bf.n_InvalidStretches_position⟩
    · exact ⟨bf.b_InvalidFree, bf.n_InvalidFree_position⟩
    · exact ⟨bf.b_InvalidGone, bf.n_InvalidGone_position⟩
    · exact ⟨bf.b_InvalidMembers, bf.n_InvalidMembers_position⟩
    · exact ⟨bf.b_InvalidItems, bf.n_InvalidItems_position⟩
    · exact ⟨bf.b_InvalidWithdrawn, bf.n_InvalidWithdrawn_position⟩
    · exact ⟨bf.b_InvalidRegion, bf.n_InvalidRegion_position⟩
    · exact ⟨bf.b_InvalidHops, bf.n_InvalidHops_position⟩
    · exact ⟨bf.b_InvalidStretches, bf.n_InvalidStretches_position⟩
    · exact ⟨bf.b_InvalidFree, bf.n_InvalidFree_position⟩
    · exact ⟨bf.b_InvalidGone, bf.n_InvalidGone_position⟩
    · exact ⟨bf.b_InvalidMembers, bf.n_InvalidMembers_position⟩
    · exact ⟨bf.b_InvalidItems, bf.n_InvalidItems_position⟩
    · exact ⟨bf.b_InvalidWithdrawn, bf.n_InvalidWithdrawn_position⟩
    · exact ⟨bf.b_InvalidHops, bf.n_InvalidHops_position⟩
    · exact ⟨bf.b_InvalidRegion, bf.n_InvalidRegion_position⟩
end
open PySem PySem.Spec PyProof.Rows
open L2 hiding pass0
abbrev s_law_pairs_right : Stmt := top 51
theorem sc_law_pairs_right : FnScope ["_law_here", "_law_two", "_law_made", "_law_many", "_law_bare", "_law_e"] ["_law_here", "_law_two"] (defScope s_law_pairs_right) := ⟨rfl, rfl, rfl, by decide +kernel, rfl, by decide +kernel, by decide +kernel⟩
theorem bp_law_pairs_right : BndP "_law_pairs_right" s_law_pairs_right ["_law_here", "_law_two"] := fun _ _ _ _ _ _ us h => match us, h with | [_, _], _ => rfl
/-- names of classes that are asked for -/
structure Cn (K : PySem.W.Frag) (mg : Str → Option Value) (c : Cls) : Prop where
  c_OtherHops : ∃ u, mg "OtherHops" = some u ∧ RelV (.ref c.OtherHops) u
  c_OtherWidth : ∃ u, mg "OtherWidth" = some u ∧ RelV (.ref c.OtherWidth) u
  c_NothingToUndo : ∃ u, mg "NothingToUndo" = some u ∧ RelV (.ref c.NothingToUndo) u
  c_InvalidStretch : ∃ u, mg "InvalidStretch" = some u ∧ RelV (.ref c.InvalidStretch) u
  c_UnknownHop : ∃ u, mg "UnknownHop" = some u ∧ RelV (.ref c.UnknownHop) u
  c_NoOrder : ∃ u, mg "NoOrder" = some u ∧ RelV (.ref c.NoOrder) u
  no_OtherWidth : PySem.W.kitOne K (.ref c.OtherWidth) (.ref c.OtherHops) = some false
  no_OtherHops : PySem.W.kitOne K (.ref c.OtherHops) (.ref c.OtherWidth) = some false
  no_NoOrder : PySem.W.kitOne K (.ref c.NoOrder) (.ref c.NothingToUndo) = some false
  no_InvalidWidth : PySem.W.kitOne K (.ref c.InvalidWidth) (.ref c.InvalidStretch) = some false
  no_UnknownStretch : PySem.W.kitOne K (.ref c.UnknownStretch) (.ref c.UnknownHop) = some false
  no_CommandFailed : PySem.W.kitOne K (.ref c.CommandFailed) (.ref c.NoOrder) = some false
theorem pe_xoK {X : Cx} {K : PySem.W.Frag} (eK : X.K = K) {e : Expr} {te : TE} {pos : Pos} {n : Str} (he : PE X e te) (hb : attributeBase e n X.env (eval e X.env) = eval e X.env := by rfl) : PE X (.Attribute e n pos) (tXo K n te) := by
  subst eK
  exact pe_xo he hb
theorem Tr.same {H H' : Hp} (s : Same H H') : ∀ {n : Nat} {v : V} {d : PyData}, Tr H n v d → Tr H' n v d := by
  intro n
  induction n with
  | zero =>
    intro v d h
    cases h with
    | atom e => exact .atom e
    | dct e f => exact .dct (s _ _ e) f
  | succ n ih =>
    intro v d h
    have all : ∀ {xs : List V} {ds : List PyData}, Paired (Tr H n) xs ds → Paired (Tr H' n) xs ds := fun {xs ds} p => by
      induction p with
      | nil => exact .nil
      | cons a b ih2 => exact .cons (ih a) ih2
    rcases h with h | ⟨a, xs, ds, rfl, rfl, na, ha, hp⟩ | ⟨a, xs, ds, rfl, rfl, na, ha, hp⟩
    · refine .inl ?_
      cases h with
      | atom e => exact .atom e
      | dct e f => exact .dct (s _ _ e) f
    · exact .inr (.inl ⟨a, xs, ds, rfl, rfl, na, s _ _ ha, all hp⟩)
    · exact .inr (.inr ⟨a, xs, ds, rfl, rfl, na, s _ _ ha, all hp⟩)
/-- a value of any kind -/
def Vs (H : Hp) (v : V) (d : PyData) : Prop := Tr H 1 v d ∧ FitB 40 100 1 d
theorem Vs.same {H H' : Hp} {v : V} {d : PyData} (h : Vs H v d) (s : Same H H') : Vs H' v d := ⟨Tr.same s h.1, h.2⟩
theorem itF {p q : Prop} (h : q) : (if (!true) = true then p else q) := h
theorem itT {p q : Prop} (h : p) : (if true = true then p else q) := h
theorem itG {p q : Prop} (h : q) : (if false = true then p else q) := h
theorem wipe_set {σ : L2.St} {j : Nat} {o : Option V} : wipe ((wipe σ [j]).set j o) [j] = wipe σ [j] := by
  show ((σ.set j none).set j o).set j none = σ.set j none
  rw [List.set_set, List.set_set]
theorem all_repT : ∀ n : Nat, (List.replicate n true).all id = true
  | 0 => rfl
  | n + 1 => by rw [List.replicate_succ, List.all_cons, all_repT n]; rfl
theorem lcB_go {K : PySem.W.Frag} {i j : Nat} {elt : TE} {σ : L2.St} {H : Hp} {Q : VK} {L : Addr} {xs : List V} (hi : σ[i]? = some (some (.ref L))) (hL : H L = some (.lst xs)) (hl : xs.length ≤ 1000)
    (he : ∀ x ∈ xs, ∀ H1 (R : VK), Same H H1 → (∀ H2, Same H1 H2 → R (.bl true) H2) → elt ((wipe σ [j]).set j (some x)) H1 R)
    (k : ∀ D H', Same H H' → H D = none → H' D = some (.lst ((List.replicate xs.length true).map V.bl)) → Q (.ref D) H') : tLc (iList K (tVar i)) (gName j) tYes elt [j] σ H Q := by
  refine ⟨.ref L, hi, L, rfl, ⟨xs, SqL.of hL⟩, fun D nD => ?_⟩
  refine lc_it (walk_list (xs := xs)) (fun i H' => H' D = some (.lst ((List.replicate i true).map V.bl)) ∧ Same H H') ⟨upd_same, fun b o e => updn (nonn nD e) e⟩ (fun i H' _ h => SqL.of (h.2 _ _ hL)) ?_ ?_
  · rintro n x H1 H2 hn ⟨hD, sm⟩ ⟨rfl, hx⟩
    have hm : x ∈ xs := List.mem_of_getElem? hx
    refine ⟨wipe_set, ?_⟩
    dsimp only [tYes]
    rw [if_pos rfl]
    refine he x hm _ _ sm fun H3 s3 => ?_
    refine ⟨_, s3 _ _ hD, szt (by rw [List.length_map, List.length_replicate]; omega), ?_, fun b o e => updn (nonn nD e) (s3 b o (sm b o e))⟩
    rw [upd_same, List.replicate_succ', List.map_append]
    rfl
  · rintro H1 ⟨hD, sm⟩
    exact k D H1 sm nD hD
theorem allB_go {K : PySem.W.Frag} {i j : Nat} {elt : TE} {σ : L2.St} {H : Hp} {Q : VK} {L : Addr} {xs : List V} (hi : σ[i]? = some (some (.ref L))) (hL : H L = some (.lst xs)) (hl : xs.length ≤ 1000)
    (he : ∀ x ∈ xs, ∀ H1 (R : VK), Same H H1 → (∀ H2, Same H1 H2 → R (.bl true) H2) → elt ((wipe σ [j]).set j (some x)) H1 R)
    (k : ∀ H', Same H H' → Q (.bl true) H') : tCB (rAll K) (tCons (tLc (iList K (tVar i)) (gName j) tYes elt [j]) tNil) σ H Q := by
  refine lcB_go (Q := fun x H1 => rAll K [x] H1 Q) hi hL hl he fun D H' s n e => ?_
  refine ⟨D, List.replicate xs.length true, rfl, SqL.of e, ?_⟩
  rw [all_repT]
  exact k H' s
@[irreducible] def spPR : Sp := fun vs H Q _ => ∃ (x y : V) (d e : PyData), vs = [x, y] ∧ Vs H x d ∧ Vs H y e ∧ ∀ H', Same H H' → Q (.bl true) H'
section
variable {K : PySem.W.Frag} {B0 B1 B2 B3 : Addr} {σ : L2.St} {H : Hp} {R : VK} {x y : V} {dx dy : PyData} {a C : Addr} {fs : List (Str × V)} {i w : Nat}
theorem fit2 {H : Hp} (hx : Vs H x dx) (hy : Vs H y dy) : PyData.showable (.list [dx, dy]) = true ∧ PyData.depth (.list [dx, dy]) ≤ 50 ∧ (PyData.list [dx, dy]).shown.length ≤ sizeLine :=
  (FitB.list (B := 40) (N := 100) (D := 1) (ds := [dx, dy]) fun d hd => by
    simp only [List.mem_cons, List.not_mem_nil, or_false] at hd
    rcases hd with rfl | rfl
    · exact hx.2
    · exact hy.2).ok (by decide) (by show (40 + 2) * ((100 + 1) * 2) + 40 ≤ 1000000; decide) (by decide)
/-- repr([x, y]) -/
theorem rep2_go {t1 t2 : TE} (h1 : ∀ Q : VK, Q x H → t1 σ H Q) (h2 : ∀ Q : VK, Q y H → t2 σ H Q) (hx : Vs H x dx) (hy : Vs H y dy) (k : ∀ H', Same H H' → R (.str (PyData.list [dx, dy]).shown) H') :
    tCB rReprT (tCons (tLstN (tCons t1 (tCons t2 tNil))) tNil) σ H R := by
  refine h1 _ (h2 _ ⟨szl (by show 2 ≤ 1000000; decide), fun L nL mL => ?_⟩)
  have s : Same H (upd H L (.lst [x, y])) := fun b o e => updn (nonn nL e) e
  obtain ⟨f1, f2, f3⟩ := fit2 hx hy
  show rReprT [.ref L] (upd H L (.lst [x, y])) R
  unfold rReprT
  exact ⟨L, [x, y], [dx, dy], 1, rfl, mL, upd_same, .cons (hx.same s).1 (.cons (hy.same s).1 .nil), f1, f2, f3, k _ s⟩
/-- _law_branches(e) == _law_on(w) -/
theorem bron_go {te : TE} (hi : σ[i]? = some (some (.ref a))) (ht : ∀ (H : Hp) (Q : VK), Q (.int w) H → te σ H Q) (ev : EvAt H a C fs) (b : Br K B0 B1 B2 B3 C w) (k : ∀ H', Same H H' → R (.bl true) H') :
    tOp (rEqW K) (tG (spBr K B0 B1 B2 B3) C8.E0 (tCons (tVar i) tNil)) (tG spOn C8.E0 (tCons te tNil)) σ H R := by
  refine ⟨_, hi, ?_⟩
  refine br_go ev b fun L H1 n1 s1 e1 => ?_
  refine ht _ _ ?_
  refine on_go fun L2 H2 n2 s2 e2 => ?_
  exact ⟨0, L, L2, onW w, onW w, by decide, rfl, rfl, SqL.of (s2 _ _ e1), SqL.of e2, onW_alk w, k H2 fun b o e => s2 b o (s1 b o e)⟩
/-- repr([e.f, e.g]) == repr([x, y]) and _law_branches(e) == _law_on(w) -/
theorem pair_elt {f1 f2 : Str} {te : TE} (hi : σ[i]? = some (some (.ref a))) (h0 : σ[0]? = some (some x)) (h1 : σ[1]? = some (some y)) (ht : ∀ (H : Hp) (Q : VK), Q (.int w) H → te σ H Q) (ev : EvAt H a C fs) (l1 : fs.lookup f1 = some x) (l2 : fs.lookup f2 = some y)
    (b : Br K B0 B1 B2 B3 C w) (n1 : PySem.W.findIn K (.ref C) f1 = some none) (n2 : PySem.W.findIn K (.ref C) f2 = some none) (hx : Vs H x dx) (hy : Vs H y dy) (k : ∀ H2, Same H H2 → R (.bl true) H2) :
    tAndV (tOp rEq (tCB rReprT (tCons (tLstN (tCons (tXo K f1 (tVar i)) (tCons (tXo K f2 (tVar i)) tNil))) tNil)) (tCB rReprT (tCons (tLstN (tCons (tVar 0) (tCons (tVar 1) tNil))) tNil)))
      (tOp (rEqW K) (tG (spBr K B0 B1 B2 B3) C8.E0 (tCons (tVar i) tNil)) (tG spOn C8.E0 (tCons te tNil))) σ H R := by
  refine rep2_go (fun Q q => ⟨_, hi, a, C, fs, x, rfl, ev, b.xf, n1, l1, q⟩) (fun Q q => ⟨_, hi, a, C, fs, y, rfl, ev, b.xf, n2, l2, q⟩) hx hy fun H1 s1 => ?_
  refine rep2_go (fun Q q => ⟨_, h0, q⟩) (fun Q q => ⟨_, h1, q⟩) (hx.same s1) (hy.same s1) fun H2 s2 => ?_
  refine ⟨rfl, _, rfl, ?_⟩
  rw [decide_eq_true rfl, if_pos rfl]
  exact bron_go hi ht ((ev.same s1).same s2) b fun H3 s3 => k H3 fun b o e => s3 b o (s2 b o (s1 b o e))
end
section
variable {P : Program} {w : World} {K : PySem.W.Frag} {mg : Str → Option Value} {base : Heap} {f : Addr} {fd : FuncData} {B0 B1 B2 B3 : Addr} {c : Cls}
theorem ok_pairs_right (ee : EE P w K mg base c) (bf : BF K B0 B1 B2 B3 c) (cn : Cn K mg c) (F : Fun K "_law_pairs_right" "_law_pairs_right" s_law_pairs_right f fd) (hm : mg "_law_pairs_right" = some (.ref f)) (T : Txt K mg) (c_law_branches : Nm P w K mg base CX0 1 "_law_branches" s_law_branches ["_law_e"] (spBr K B0 B1 B2 B3)) (c_law_on : Nm P w K mg base CX0 1 "_law_on" s_law_on ["_law_which"] (spOn)) : Nm P w K mg base CX0 4 "_law_pairs_right" s_law_pairs_right ["_law_here", "_law_two"] (spPR) := by
  refine nm_of F hm sc_law_pairs_right (fun vs H Q E h => ?_) fun cdv A outer s H vs Q E hr h => ?_
  · unfold spPR at h
    obtain ⟨x, y, d, e, rfl, hx, hy, k⟩ := h
    subst_vars
    rfl
  unfold spPR at h
  obtain ⟨x, y, d, e, rfl, hx, hy, k⟩ := h
  refine ⟨_, (pss_cons (ps_set (i := 2) sc_law_pairs_right.nd rfl (by first | exact Or.inl rfl | exact Or.inr rfl) (pe_lst (pa_cons ((pe_mkE ee.e_OtherWidth hr.r (by decide) (by rfl) (pa_cons (pv 0) (pa_cons (pv 1) pa_nil)))) (pa_cons ((pe_mkK ee.e_OtherWidth hr.r (by decide) (by rfl) (pk_cons (pv 1) (pk_cons (pv 0) pk_nil)))) (pa_cons ((pe_mkE ee.e_OtherHops hr.r (by decide) (by rfl) (pa_cons (pv 0) (pa_cons (pv 1) pa_nil)))) (pa_cons ((pe_mkK ee.e_OtherHops hr.r (by decide) (by rfl) (pk_cons (pv 1) (pk_cons (pv 0) pk_nil)))) pa_nil))))))
      (pss_cons (ps_if (pt_not (pt_val (pe_callB (call_allK (K := K) rfl rfl) (by rfl) T.b_all (by decide +kernel) (pa_cons (pe_lc (own := [("_law_e", 5)]) (g := (gName 5)) (by rfl) sc_law_pairs_right.nd (pi_listK (K := K) rfl (pv 2)) (blkOk_by (own := [("_law_e", 5)]) (N := ["_law_here", "_law_two", "_law_made", "_law_many", "_law_bare", "_law_e"]) (sc := defScope s_law_pairs_right) (by decide +kernel)) (fun _ _ _ _ _ => (pg_name (i := 5) sc_law_pairs_right.nd rfl (by first | exact Or.inl rfl | exact Or.inr rfl))) (fun _ _ _ _ _ => pts_nil) (fun _ _ _ _ _ => (pe_and (pe_cmpR op_eq (pe_callB (call_reprT hr.g hr.u) (by rfl) T.b_repr (by decide +kernel) (pa_cons (pe_lstN (pa_cons (pe_xoK (K := K) rfl (pv 5)) (pa_cons (pe_xoK (K := K) rfl (pv 5)) pa_nil))) pa_nil)) (pe_callB (call_reprT hr.g hr.u) (by rfl) T.b_repr (by decide +kernel) (pa_cons (pe_lstN (pa_cons (pv 0) (pa_cons (pv 1) pa_nil))) pa_nil)) (nomark _)) (pe_one (pe_cmpR (op_eqW (K := K) rfl hr.u64) (pe_g c_law_branches hr (by decide) L2.pass0 bp_law_branches (by rfl) (pa_cons (pv 5) pa_nil)) (pe_g c_law_on hr (by decide) L2.pass0 bp_law_on (by rfl) (pa_cons pe_int pa_nil)) (nomark _)))))) pa_nil)))) (pss_one (ps_ret pe_bl)) pss_nil)
      (pss_cons (ps_set (i := 3) sc_law_pairs_right.nd rfl (by first | exact Or.inl rfl | exact Or.inr rfl) (pe_lst (pa_cons ((pe_mkE ee.e_TooMany hr.r (by decide) (by rfl) (pa_cons (pv 0) (pa_cons (pv 1) pa_nil)))) (pa_cons ((pe_mkK ee.e_TooMany hr.r (by decide) (by rfl) (pk_cons (pv 1) (pk_cons (pv 0) pk_nil)))) pa_nil))))
      (pss_cons (ps_if (pt_not (pt_val (pe_callB (call_allK (K := K) rfl rfl) (by rfl) T.b_all (by decide +kernel) (pa_cons (pe_lc (own := [("_law_e", 5)]) (g := (gName 5)) (by rfl) sc_law_pairs_right.nd (pi_listK (K := K) rfl (pv 3)) (blkOk_by (own := [("_law_e", 5)]) (N := ["_law_here", "_law_two", "_law_made", "_law_many", "_law_bare", "_law_e"]) (sc := defScope s_law_pairs_right) (by decide +kernel)) (fun _ _ _ _ _ => (pg_name (i := 5) sc_law_pairs_right.nd rfl (by first | exact Or.inl rfl | exact Or.inr rfl))) (fun _ _ _ _ _ => pts_nil) (fun _ _ _ _ _ => (pe_and (pe_cmpR op_eq (pe_callB (call_reprT hr.g hr.u) (by rfl) T.b_repr (by decide +kernel) (pa_cons (pe_lstN (pa_cons (pe_xoK (K := K) rfl (pv 5)) (pa_cons (pe_xoK (K := K) rfl (pv 5)) pa_nil))) pa_nil)) (pe_callB (call_reprT hr.g hr.u) (by rfl) T.b_repr (by decide +kernel) (pa_cons (pe_lstN (pa_cons (pv 0) (pa_cons (pv 1) pa_nil))) pa_nil)) (nomark _)) (pe_one (pe_cmpR (op_eqW (K := K) rfl hr.u64) (pe_g c_law_branches hr (by decide) L2.pass0 bp_law_branches (by rfl) (pa_cons (pv 5) pa_nil)) (pe_g c_law_on hr (by decide) L2.pass0 bp_law_on (by rfl) (pa_cons pe_int pa_nil)) (nomark _)))))) pa_nil)))) (pss_one (ps_ret pe_bl)) pss_nil)
      (pss_cons (ps_if (PW.pt (pw_or (pt_val (pe_callB call_isO (by rfl) T.b_isinstance (by decide +kernel) (pa_cons (pe_ix (ix_seqK (K := K) rfl) (pv 2) pe_int (fun _ _ => rfl)) (pa_cons (pe_cst (by rfl) cn.c_OtherHops) pa_nil)))) (pw_or1 (pt_val (pe_callB call_isO (by rfl) T.b_isinstance (by decide +kernel) (pa_cons (pe_ix (ix_seqK (K := K) rfl) (pv 2) pe_int (fun _ _ => rfl)) (pa_cons (pe_cst (by rfl) cn.c_OtherWidth) pa_nil))))))) (pss_one (ps_ret pe_bl)) pss_nil)
      (pss_cons (ps_set (i := 4) sc_law_pairs_right.nd rfl (by first | exact Or.inl rfl | exact Or.inr rfl) (pe_lst (pa_cons ((pe_mk0 ee.e_NoOrder hr.r (by decide) (by rfl))) (pa_cons ((pe_mk0 ee.e_NothingToUndo hr.r (by decide) (by rfl))) pa_nil))))
      (pss_one (ps_ret (pe_and (pe_callB (call_allK (K := K) rfl rfl) (by rfl) T.b_all (by decide +kernel) (pa_cons (pe_lc (own := [("_law_e", 5)]) (g := (gName 5)) (by rfl) sc_law_pairs_right.nd (pi_listK (K := K) rfl (pv 4)) (blkOk_by (own := [("_law_e", 5)]) (N := ["_law_here", "_law_two", "_law_made", "_law_many", "_law_bare", "_law_e"]) (sc := defScope s_law_pairs_right) (by decide +kernel)) (fun _ _ _ _ _ => (pg_name (i := 5) sc_law_pairs_right.nd rfl (by first | exact Or.inl rfl | exact Or.inr rfl))) (fun _ _ _ _ _ => pts_nil) (fun _ _ _ _ _ => (pe_cmpR (op_eqW (K := K) rfl hr.u64) (pe_g c_law_branches hr (by decide) L2.pass0 bp_law_branches (by rfl) (pa_cons (pv 5) pa_nil)) (pe_g c_law_on hr (by decide) L2.pass0 bp_law_on (by rfl) (pa_cons pe_int pa_nil)) (nomark _)))) pa_nil)) (pe_one (pe_not (pe_callB call_isO (by rfl) T.b_isinstance (by decide +kernel) (pa_cons (pe_ix (ix_seqK (K := K) rfl) (pv 4) pe_int (fun _ _ => rfl)) (pa_cons (pe_cst (by rfl) cn.c_NothingToUndo) pa_nil)))))))))))))), ?_⟩
  refine ⟨_, rfl, _, rfl, rfl, by show 2 ≤ 1000; decide, fun a1 H1 n1 s1 e1 => ?_⟩
  refine ⟨_, rfl, _, rfl, rfl, by show 2 ≤ 1000; decide, fun a2 H2 n2 s2 e2 => ?_⟩
  refine ⟨_, rfl, _, rfl, rfl, by show 2 ≤ 1000; decide, fun a3 H3 n3 s3 e3 => ?_⟩
  refine ⟨_, rfl, _, rfl, rfl, by show 2 ≤ 1000; decide, fun a4 H4 n4 s4 e4 => ?_⟩
  refine ⟨szl (by show 4 ≤ 1000000; decide), fun D nD => ?_⟩
  have sD : Same H4 (upd H4 D (.lst [.ref a1, .ref a2, .ref a3, .ref a4])) := fun b o q => updn (nonn nD q) q
  have sA : Same H (upd H4 D (.lst [.ref a1, .ref a2, .ref a3, .ref a4])) := fun b o q => sD b o (s4 b o (s3 b o (s2 b o (s1 b o q))))
  have v1 := (((e1.same s2).same s3).same s4).same sD
  have v2 := ((e2.same s3).same s4).same sD
  have v3 := (e3.same s4).same sD
  have v4 := e4.same sD
  refine allB_go rfl upd_same (by show 4 ≤ 1000; decide) ?_ fun H5 s5 => ?_
  · intro z hz H6 R s6 q
    simp only [List.mem_cons, List.not_mem_nil, or_false] at hz
    rcases hz with rfl | rfl | rfl | rfl
    · exact pair_elt rfl rfl rfl (fun _ _ q => q) (v1.same s6) rfl rfl bf.b_OtherWidth bf.n_OtherWidth_one bf.n_OtherWidth_other ((hx.same sA).same s6) ((hy.same sA).same s6) q
    · exact pair_elt rfl rfl rfl (fun _ _ q => q) (v2.same s6) rfl rfl bf.b_OtherWidth bf.n_OtherWidth_one bf.n_OtherWidth_other ((hx.same sA).same s6) ((hy.same sA).same s6) q
    · exact pair_elt rfl rfl rfl (fun _ _ q => q) (v3.same s6) rfl rfl bf.b_OtherHops bf.n_OtherHops_one bf.n_OtherHops_other ((hx.same sA).same s6) ((hy.same sA).same s6) q
    · exact pair_elt rfl rfl rfl (fun _ _ q => q) (v4.same s6) rfl rfl bf.b_OtherHops bf.n_OtherHops_one bf.n_OtherHops_other ((hx.same sA).same s6) ((hy.same sA).same s6) q
  refine ⟨true, rfl, itF ?_⟩
  have sB : Same H H5 := fun b o q => s5 b o (sA b o q)
  refine ⟨_, rfl, _, rfl, rfl, by show 2 ≤ 1000; decide, fun a5 H7 n7 s7 e7 => ?_⟩
  refine ⟨_, rfl, _, rfl, rfl, by show 2 ≤ 1000; decide, fun a6 H8 n8 s8 e8 => ?_⟩
  refine ⟨szl (by show 2 ≤ 1000000; decide), fun D2 nD2 => ?_⟩
  have sD2 : Same H8 (upd H8 D2 (.lst [.ref a5, .ref a6])) := fun b o q => updn (nonn nD2 q) q
  have sC : Same H5 (upd H8 D2 (.lst [.ref a5, .ref a6])) := fun b o q => sD2 b o (s8 b o (s7 b o q))
  have sE : Same H (upd H8 D2 (.lst [.ref a5, .ref a6])) := fun b o q => sC b o (sB b o q)
  refine allB_go rfl upd_same (by show 2 ≤ 1000; decide) ?_ fun H9 s9 => ?_
  · intro z hz H6 R s6 q
    simp only [List.mem_cons, List.not_mem_nil, or_false] at hz
    rcases hz with rfl | rfl
    · exact pair_elt rfl rfl rfl (fun _ _ q => q) (((e7.same s8).same sD2).same s6) rfl rfl bf.b_TooMany bf.n_TooMany_what bf.n_TooMany_limit ((hx.same sE).same s6) ((hy.same sE).same s6) q
    · exact pair_elt rfl rfl rfl (fun _ _ q => q) ((e8.same sD2).same s6) rfl rfl bf.b_TooMany bf.n_TooMany_what bf.n_TooMany_limit ((hx.same sE).same s6) ((hy.same sE).same s6) q
  refine ⟨true, rfl, itF ?_⟩
  have sF : Same (upd H4 D (.lst [.ref a1, .ref a2, .ref a3, .ref a4])) H9 := fun b o q => s9 b o (sC b o (s5 b o q))
  have atD : H9 D = some (.lst [.ref a1, .ref a2, .ref a3, .ref a4]) := sF _ _ upd_same
  refine ⟨_, rfl, Or.inl ⟨_, _, _, _, rfl, rfl, SqL.of atD, rfl, ?_⟩⟩
  refine iso_go (c := .ref c.OtherHops) (cv := .ref c.OtherHops) (v1.same sF) bf.b_OtherWidth.ex (fun u r => r) cn.no_OtherWidth ?_
  refine ⟨_, rfl, itG ?_⟩
  refine ⟨_, rfl, Or.inl ⟨_, _, _, _, rfl, rfl, SqL.of atD, rfl, ?_⟩⟩
  refine iso_go (c := .ref c.OtherWidth) (cv := .ref c.OtherWidth) (v3.same sF) bf.b_OtherHops.ex (fun u r => r) cn.no_OtherHops ?_
  refine ⟨_, rfl, itG ?_⟩
  refine ⟨rfl, by show 0 ≤ 1000; decide, fun a7 H10 n10 s10 e10 => ?_⟩
  refine ⟨rfl, by show 0 ≤ 1000; decide, fun a8 H11 n11 s11 e11 => ?_⟩
  refine ⟨szl (by show 2 ≤ 1000000; decide), fun D3 nD3 => ?_⟩
  have sD3 : Same H11 (upd H11 D3 (.lst [.ref a7, .ref a8])) := fun b o q => updn (nonn nD3 q) q
  have v7 := (e10.same s11).same sD3
  refine allB_go rfl upd_same (by show 2 ≤ 1000; decide) ?_ fun H12 s12 => ?_
  · intro z hz H6 R s6 q
    simp only [List.mem_cons, List.not_mem_nil, or_false] at hz
    rcases hz with rfl | rfl
    · exact bron_go rfl (fun _ _ q => q) (v7.same s6) bf.b_NoOrder q
    · exact bron_go rfl (fun _ _ q => q) ((e11.same sD3).same s6) bf.b_NothingToUndo q
  refine ⟨true, rfl, itT ?_⟩
  refine ⟨_, rfl, Or.inl ⟨_, _, _, _, rfl, rfl, SqL.of (s12 _ _ upd_same), rfl, ?_⟩⟩
  refine iso_go (c := .ref c.NothingToUndo) (cv := .ref c.NothingToUndo) (v7.same s12) bf.b_NoOrder.ex (fun u r => r) cn.no_NoOrder ?_
  refine ⟨_, rfl, ?_⟩
  exact k H12 fun b o q => s12 b o (sD3 b o (s11 b o (s10 b o (sF b o (sA b o q)))))
end
open PySem PySem.Spec PyProof.Rows
open L2 hiding pass0
theorem isp_go {K : PySem.W.Frag} {C dd a : Addr} {fs : List (Str × V)} {H : Hp} {Q : VK} {c : V} {cv : Value} {b : Bool} (h : H dd = some (.xd fs)) (e : ExcC K C) (hc : ∀ u, RelV c u → u = cv) (k : PySem.W.kitOne K (.ref C) cv = some b) (q : Q (.bl b) H) : rIsP K (.ref C) (some dd) a [.ref a, c] H Q := by
  unfold rIsP
  exact ⟨C, dd, fs, c, cv, b, rfl, rfl, e, h, rfl, hc, k, q⟩
/-- _law_branches(e) of the caught exception -/
def TBr (K : PySem.W.Frag) (B0 B1 B2 B3 a : Addr) (cls : Value) (d : Option Addr) : List V → Hp → VK → Prop := fun vs H Q => vs = [.ref a] ∧ ∃ (C dd : Addr) (fs : List (Str × V)) (n : Nat), cls = .ref C ∧ d = some dd ∧ H dd = some (.xd fs) ∧ Br K B0 B1 B2 B3 C n ∧ ∀ L H', H L = none → Same H H' → H' L = some (.lst (onW n)) → Q (.ref L) H'
def TOn : List V → Hp → VK → Prop := fun vs H Q => ∃ n : Nat, vs = [.int n] ∧ ∀ L H', H L = none → Same H H' → H' L = some (.lst (onW n)) → Q (.ref L) H'
theorem br_hot {P : Program} {w : World} {K : PySem.W.Frag} {mg : Str → Option Value} {base : Heap} {B0 B1 B2 B3 g a : Addr} {cdv cls : Value} {d : Option Addr} {oe : Obj} (BB : Bs K mg B0 B1 B2 B3) (T : Txt K mg) (hz : L2N.Zn cls d oe) (hf : ∃ vs, oe.data = .fields vs) (A : Around) (outer : List Env) (s : Shared) (H : Hp) (vs : List V) (Q : VK) (hA : A.handled = some (.ref a))
    (h : TBr K B0 B1 B2 B3 a cls d vs H Q) : ∃ t, PSs (L2H.cxH C8.CX0 P w K mg base ["_law_e", "_law_own"] "_law_branches" (defScope s_law_branches) g cdv A outer s H C8.E0 (a, oe)) (defBody s_law_branches) t ∧ t { nx := fun _ H' => Q .non H', rt := Q } (L2.start ["_law_e", "_law_own"] vs) H := by
  obtain ⟨rfl, C, dd, fs, n, rfl, rfl, ha, b, k⟩ := h
  refine ⟨_, (pss_cons (ps_set (i := 1) sc_law_branches.nd rfl (by first | exact Or.inl rfl | exact Or.inr rfl) (pe_lst (pa_cons (pe_callB (call_isP (List.mem_cons_self) hz.zc hf) (by rfl) T.b_isinstance (by decide +kernel) (pa_cons (pv 0) (pa_cons (pe_cst (by rfl) BB.c_CoverError) pa_nil))) (pa_cons (pe_callB (call_isP (List.mem_cons_self) hz.zc hf) (by rfl) T.b_isinstance (by decide +kernel) (pa_cons (pv 0) (pa_cons (pe_cst (by rfl) BB.c_MissingError) pa_nil))) (pa_cons (pe_callB (call_isP (List.mem_cons_self) hz.zc hf) (by rfl) T.b_isinstance (by decide +kernel) (pa_cons (pv 0) (pa_cons (pe_cst (by rfl) BB.c_StateError) pa_nil))) (pa_cons (pe_callB (call_isP (List.mem_cons_self) hz.zc hf) (by rfl) T.b_isinstance (by decide +kernel) (pa_cons (pv 0) (pa_cons (pe_cst (by rfl) BB.c_LimitError) pa_nil))) pa_nil))))))
      (pss_one (ps_ret (pe_op op_cat (pe_op op_cat (pv 1) (pe_lst (pa_cons (pe_callB (call_isP (List.mem_cons_self) hz.zc hf) (by rfl) T.b_isinstance (by decide +kernel) (pa_cons (pv 0) (pa_cons (pe_ty "ValueError" (by rfl) T.b_ValueError (by decide +kernel)) pa_nil))) (pa_cons (pe_callB (call_isP (List.mem_cons_self) hz.zc hf) (by rfl) T.b_isinstance (by decide +kernel) (pa_cons (pv 0) (pa_cons (pe_ty "LookupError" (by rfl) T.b_LookupError (by decide +kernel)) pa_nil))) (pa_cons (pe_callB (call_isP (List.mem_cons_self) hz.zc hf) (by rfl) T.b_isinstance (by decide +kernel) (pa_cons (pv 0) (pa_cons (pe_ty "RuntimeError" (by rfl) T.b_RuntimeError (by decide +kernel)) pa_nil))) pa_nil))))) (pe_lst (pa_cons (pe_callB (call_isP (List.mem_cons_self) hz.zc hf) (by rfl) T.b_isinstance (by decide +kernel) (pa_cons (pv 0) (pa_cons (pe_ty "ArithmeticError" (by rfl) T.b_ArithmeticError (by decide +kernel)) pa_nil))) pa_nil)))))), ?_⟩
  refine ⟨_, rfl, ?_⟩
  refine isp_go (c := .ref B0) (cv := .ref B0) ha b.ex (fun u r => r) b.k0 ?_
  refine ⟨_, rfl, ?_⟩
  refine isp_go (c := .ref B1) (cv := .ref B1) ha b.ex (fun u r => r) b.k1 ?_
  refine ⟨_, rfl, ?_⟩
  refine isp_go (c := .ref B2) (cv := .ref B2) ha b.ex (fun u r => r) b.k2 ?_
  refine ⟨_, rfl, ?_⟩
  refine isp_go (c := .ref B3) (cv := .ref B3) ha b.ex (fun u r => r) b.k3 ?_
  refine ⟨szl (by show 4 ≤ 1000000; decide), fun D nD => ?_⟩
  have h2 := updn (o := HO.lst [.bl (decide (0 = n)), .bl (decide (1 = n)), .bl (decide (2 = n)), .bl (decide (3 = n))]) (nonn nD ha) ha
  refine ⟨_, rfl, ?_⟩
  refine ⟨_, rfl, ?_⟩
  refine isp_go (c := .ty "ValueError") (cv := .type "ValueError") h2 b.ex (fun u r => r) b.t0 ?_
  refine ⟨_, rfl, ?_⟩
  refine isp_go (c := .ty "LookupError") (cv := .type "LookupError") h2 b.ex (fun u r => r) b.t1 ?_
  refine ⟨_, rfl, ?_⟩
  refine isp_go (c := .ty "RuntimeError") (cv := .type "RuntimeError") h2 b.ex (fun u r => r) b.t2 ?_
  refine ⟨szl (by show 3 ≤ 1000000; decide), fun D2 nD2 => ?_⟩
  have e2 : upd (upd H D (HO.lst [.bl (decide (0 = n)), .bl (decide (1 = n)), .bl (decide (2 = n)), .bl (decide (3 = n))])) D2 (HO.lst [.bl (decide (0 = n)), .bl (decide (1 = n)), .bl (decide (2 = n))]) D = some (HO.lst [.bl (decide (0 = n)), .bl (decide (1 = n)), .bl (decide (2 = n)), .bl (decide (3 = n))]) := updn (nonn nD2 upd_same) upd_same
  refine ⟨D, D2, _, _, rfl, rfl, e2, upd_same, szl (by show 4 + 3 ≤ 1000000; decide), fun D3 nD3 => ?_⟩
  have s3 : ∀ b o, H b = some o → upd (upd (upd H D (HO.lst [.bl (decide (0 = n)), .bl (decide (1 = n)), .bl (decide (2 = n)), .bl (decide (3 = n))])) D2 (HO.lst [.bl (decide (0 = n)), .bl (decide (1 = n)), .bl (decide (2 = n))])) D3 (HO.lst [.bl (decide (0 = n)), .bl (decide (1 = n)), .bl (decide (2 = n)), .bl (decide (3 = n)), .bl (decide (0 = n)), .bl (decide (1 = n)), .bl (decide (2 = n))]) b = some o := fun b o e => by
    have e1 := updn (o := HO.lst [.bl (decide (0 = n)), .bl (decide (1 = n)), .bl (decide (2 = n)), .bl (decide (3 = n))]) (nonn nD e) e
    have e2 := updn (o := HO.lst [.bl (decide (0 = n)), .bl (decide (1 = n)), .bl (decide (2 = n))]) (nonn nD2 e1) e1
    exact updn (nonn nD3 e2) e2
  have h3 := s3 _ _ ha
  refine ⟨_, rfl, ?_⟩
  refine isp_go (c := .ty "ArithmeticError") (cv := .type "ArithmeticError") h3 b.ex (fun u r => r) b.t3 ?_
  refine ⟨szl (by show 1 ≤ 1000000; decide), fun D4 nD4 => ?_⟩
  refine ⟨D3, D4, _, _, rfl, rfl, updn (nonn nD4 upd_same) upd_same, upd_same, szl (by show 7 + 1 ≤ 1000000; decide), fun D5 nD5 => ?_⟩
  have s4 : ∀ b o, H b = some o → _ := fun b o e => updn (o := HO.lst [.bl (decide (3 = n))]) (nonn nD4 (s3 b o e)) (s3 b o e)
  exact k D5 _ (ne_none_of s4 nD5) (fun b o e => updn (nonn nD5 (s4 b o e)) (s4 b o e)) upd_same
theorem on_hot {P : Program} {w : World} {K : PySem.W.Frag} {mg : Str → Option Value} {base : Heap} {g a : Addr} {cdv : Value} {cls : Value} {d : Option Addr} {oe : Obj} (T : Txt K mg) (hz : L2N.Zn cls d oe) (hf : ∃ vs, oe.data = .fields vs) (A : Around) (outer : List Env) (s : Shared) (H : Hp) (vs : List V) (Q : VK) (hA : A.handled = some (.ref a))
    (h : TOn vs H Q) : ∃ t, PSs (L2H.cxH C8.CX0 P w K mg base ["_law_which", "_law_at"] "_law_on" (defScope s_law_on) g cdv A outer s H C8.E0 (a, oe)) (defBody s_law_on) t ∧ t { nx := fun _ H' => Q .non H', rt := Q } (L2.start ["_law_which", "_law_at"] vs) H := by
  obtain ⟨n, rfl, k⟩ := h
  have hot : L2H.Hot1 (A.deeper (envOfC "_law_on" (defScope s_law_on) s.heap.objs.size g cdv)) (a, oe) := ⟨hA, let ⟨ws, e⟩ := hf; ⟨ws, e, hz.2.2 ws e⟩⟩
  refine ⟨_, (pss_one (ps_ret (pe_op op_rep (HotLc.pe_lcH (own := [("_law_at", 1)]) (g := (gName 1)) hot List.mem_cons_self sc_law_on.nd (L2H.pi_range1H (by rfl) T.b_range (pa_cons pe_int pa_nil)) (blkOk_by (own := [("_law_at", 1)]) (N := ["_law_which", "_law_at"]) (sc := defScope s_law_on) (by decide +kernel)) (fun _ _ _ _ _ => (pg_name (i := 1) sc_law_on.nd rfl (by first | exact Or.inl rfl | exact Or.inr rfl))) (fun _ _ _ _ _ => (pe_cmpR op_eq (pv 1) (pv 0) (nomark _)))) pe_int))), ?_⟩
  repeat walk_at "s1"
  rename_i D nD
  refine lc_it walk_range (fun i H1 => H1 D = some (.lst ((List.range i).map fun j => V.bl (decide (j = n)))) ∧ i ≤ 4 ∧ Same H H1) ⟨upd_same, Nat.zero_le _, fun b o e => updn (nonn nD e) e⟩ (fun _ _ _ _ => trivial) ?_ ?_
  · rintro i x H1 H3 hi ⟨hD, h5, sm⟩ ⟨rfl, rfl⟩
    have hin : i < 4 := hi
    refine ⟨rfl, ?_⟩
    dsimp only [tYes]
    rw [if_pos rfl]
    repeat walk_at "s1"
    refine ⟨_, hD, szt (by rw [List.length_map, List.length_range]; omega), ?_, by omega, fun b o e => updn (nonn nD e) (sm b o e)⟩
    rw [upd_same, List.range_succ, List.map_append]
    refine congrArg (fun z => some (HO.lst (_ ++ [V.bl z]))) ?_
    exact decide_eq_decide.mpr ⟨fun z => by injection z with z; omega, fun z => by rw [z]; simp⟩
  · rintro H1 ⟨hD, h5, sm⟩
    refine ⟨D, 2, _, rfl, rfl, hD, by decide, by decide, szl (by rw [List.length_map, List.length_range]; show 4 * 2 ≤ _; decide), fun p np => ?_⟩
    exact k p _ (ne_none_of sm np) (fun b o e => updn (nonn np (sm b o e)) (sm b o e)) upd_same
open PySem PySem.Spec PyProof.Rows
open L2 hiding pass0
abbrev s_law_caught : Stmt := top 52
theorem sc_law_caught : FnScope ["_law_at", "_law_here", "_law_heard", "wrong", "right"] ["_law_at", "_law_here"] (defScope s_law_caught) := ⟨rfl, rfl, rfl, by decide +kernel, rfl, by decide +kernel, by decide +kernel⟩
theorem bp_law_caught : BndP "_law_caught" s_law_caught ["_law_at", "_law_here"] := fun _ _ _ _ _ _ us h => match us, h with | [_, _], _ => rfl
/-- what the clauses of `_law_caught` take -/
structure Ex (K : PySem.W.Frag) (B0 B1 B2 B3 : Addr) (c : Cls) : Prop where
  w1 : PySem.W.exmAny K (.ref c.InvalidWidth) [.ref c.InvalidStretch, .ref c.UnknownGoal, .ref c.WrongMember] = some false
  u1 : PySem.W.exmAny K (.ref c.UnknownHop) [.ref c.InvalidStretch, .ref c.UnknownGoal, .ref c.WrongMember] = some false
  s1 : PySem.W.exmAny K (.ref c.Stranger) [.ref c.InvalidStretch, .ref c.UnknownGoal, .ref c.WrongMember] = some false
  t1 : PySem.W.exmAny K (.ref c.TooMany) [.ref c.InvalidStretch, .ref c.UnknownGoal, .ref c.WrongMember] = some false
  w2 : PySem.W.exmAny K (.ref c.InvalidWidth) [.ref B0, .ref B1, .ref B2, .ref B3] = some true
  u2 : PySem.W.exmAny K (.ref c.UnknownHop) [.ref B0, .ref B1, .ref B2, .ref B3] = some true
  s2 : PySem.W.exmAny K (.ref c.Stranger) [.ref B0, .ref B1, .ref B2, .ref B3] = some true
  t2 : PySem.W.exmAny K (.ref c.TooMany) [.ref B0, .ref B1, .ref B2, .ref B3] = some true
  m0 : True
theorem itC {b : Bool} {p q : Prop} (e : b = true) (h : p) : (if b = true then p else q) := by subst e; exact h
theorem itD {b : Bool} {p q : Prop} (e : b = false) (h : q) : (if b = true then p else q) := by subst e; exact h
theorem errG_goW {C : Addr} {fs : List Str} {vs : List V} {H1 : Hp} {W : WX} {σ : L2.St} (hl : vs.length = fs.length) (hz : vs.length ≤ 1000) (q : ∀ d, H1 d = none → W (.ref C) (some d) σ (upd H1 d (.xd (fld fs vs)))) :
    vs.length ≤ 1000 ∧ ∀ a, H1 a = none → spErrG C fs (.ref a :: (vs ++ [])) (upd H1 a (exo a C none))
      (fun u H2 => u = .non ∧ ∃ (d : Addr) (gs : List (Str × V)), H2 a = some (exo a C (some d)) ∧ H2 d = some (exd d gs) ∧ H1 d = none ∧ W (.ref C) (some d) σ (upd (del H2 a) d (.xd gs))) (fun _ _ _ => False) := errG_go (Q := fun cls d H => W cls d σ H) hl hz q
theorem takes0N {X : Cx} : L2N.Takes X (fun _ _ _ _ => False) := fun u s' ⟨_, _, _, _, _, _, _, _, _, _, _, _, _, _, _, _, w⟩ => w.elim
@[irreducible] def spCt : Sp := fun vs H Q _ => ∃ (n : Nat) (x : V), vs = [.int n, x] ∧ n ≤ 3 ∧ ∀ H', Same H H' → Q (.bl true) H'
section
variable {P : Program} {w : World} {K : PySem.W.Frag} {mg : Str → Option Value} {base : Heap} {f : Addr} {fd : FuncData} {B0 B1 B2 B3 : Addr} {c : Cls}
theorem ok_caught {gB gO : Addr} {ocB kVB dcB pmB cdB ctB ocO kVO dcO pmO cdO ctO : Value} {anB odB anO odO : Option Addr} {slB slO : Array (Option Value)}
    (lkB : K.lookup gB = some ⟨ocB, odB, .func (PySem.W.fnOf "_law_branches" "_law_branches" (defArgs s_law_branches) (defBody s_law_branches) (defScope s_law_branches) .none kVB dcB pmB anB cdB ctB), slB⟩) (hcB : PySem.W.codeIn K cdB "_law_branches" = true) (hkB : PySem.W.keepIn K (.ref gB) = true) (hmB : mg "_law_branches" = some (.ref gB))
    (lkO : K.lookup gO = some ⟨ocO, odO, .func (PySem.W.fnOf "_law_on" "_law_on" (defArgs s_law_on) (defBody s_law_on) (defScope s_law_on) .none kVO dcO pmO anO cdO ctO), slO⟩) (hcO : PySem.W.codeIn K cdO "_law_on" = true) (hkO : PySem.W.keepIn K (.ref gO) = true) (hmO : mg "_law_on" = some (.ref gO))
    (ee : EE P w K mg base c) (bf : BF K B0 B1 B2 B3 c) (BB : Bs K mg B0 B1 B2 B3) (ex : Ex K B0 B1 B2 B3 c) (F : Fun K "_law_caught" "_law_caught" s_law_caught f fd) (hm : mg "_law_caught" = some (.ref f)) (T : Txt K mg) : Nm P w K mg base CX0 4 "_law_caught" s_law_caught ["_law_at", "_law_here"] (spCt) := by
  refine nm_of0 F hm sc_law_caught (fun vs H Q E h => ?_) fun cdv A outer s H vs Q E hr h => ?_
  · unfold spCt at h
    obtain ⟨n, x, rfl, _⟩ := h
    rfl
  unfold spCt at h
  obtain ⟨n, x, rfl, hn, k⟩ := h
  have m0 : mg "CoverError" = some (.ref B0) := by obtain ⟨u, h1, h2⟩ := BB.c_CoverError; cases h2; exact h1
  have m1 : mg "MissingError" = some (.ref B1) := by obtain ⟨u, h1, h2⟩ := BB.c_MissingError; cases h2; exact h1
  have m2 : mg "StateError" = some (.ref B2) := by obtain ⟨u, h1, h2⟩ := BB.c_StateError; cases h2; exact h1
  have m3 : mg "LimitError" = some (.ref B3) := by obtain ⟨u, h1, h2⟩ := BB.c_LimitError; cases h2; exact h1
  refine ⟨_, pss_cons (ps_set (i := 2) sc_law_caught.nd rfl (Or.inl rfl) (pe_lst (pa_cons pe_str pa_nil))) (pss_cons (TryT.ps_try_tup rfl rfl sc_law_caught.nd takes0N
    (fun W pn xe tk _ => pss_cons (ps_if (pt_cmpR op_eq (pv 0) pe_int (nomark _)) (pss_one (ps_raiseN (ee.e_InvalidWidth.toG (by simp)) hr.r (by decide) rfl tk (by rfl) (pa_cons (pv 1) pa_nil))) pss_nil)
      (pss_cons (ps_if (pt_cmpR op_eq (pv 0) pe_int (nomark _)) (pss_one (ps_raiseN (ee.e_UnknownHop.toG (by simp)) hr.r (by decide) rfl tk (by rfl) (pa_cons (pv 1) pa_nil))) pss_nil)
      (pss_cons (ps_if (pt_cmpR op_eq (pv 0) pe_int (nomark _)) (pss_one (ps_raiseN (ee.e_Stranger.toG (by simp)) hr.r (by decide) rfl tk (by rfl) (pa_cons (pv 1) pa_nil))) pss_nil)
      (pss_one (ps_raiseN (ee.e_TooMany.toG (by simp)) hr.r (by decide) rfl tk (by rfl) (pa_cons (pv 1) (pa_cons pe_int pa_nil)))))))
    (.cons (i := 3) rfl rfl (.cons ⟨rfl, by decide, .inl ee.e_InvalidStretch.nm⟩ (.cons ⟨rfl, by decide, .inl ee.e_UnknownGoal.nm⟩ (.cons ⟨rfl, by decide, .inl ee.e_WrongMember.nm⟩ .nil))) (.inl rfl)
      (fun a oe cls d pn hz hf => pss_one (ps_set (i := 2) sc_law_caught.nd rfl (Or.inl rfl) (pe_lst (pa_cons pe_str (pa_cons (pe_callB (call_reprV hr.g hr.u) (by rfl) T.b_repr (by decide +kernel) (pa_cons (pe_xf bf.b_InvalidStretch.xf bf.n_InvalidStretch_value hz.zc hf (pv 3)) pa_nil)) pa_nil)))))
    (.cons (i := 4) rfl rfl (.cons ⟨rfl, by decide, .inl m0⟩ (.cons ⟨rfl, by decide, .inl m1⟩ (.cons ⟨rfl, by decide, .inl m2⟩ (.cons ⟨rfl, by decide, .inl m3⟩ .nil)))) (.inr rfl)
      (fun a oe cls d pn hz hf => pss_one (ps_set (i := 2) sc_law_caught.nd rfl (Or.inl rfl) (pe_lst (pa_cons (pv 0) (pa_cons (pe_cmpR (op_eqW (K := K) rfl hr.u64)
        (pe_hot (TT := TBr K B0 B1 B2 B3 a cls d) (k := 0) lkB hcB hkB hmB (Binds.all fun us h => match us, h with | [_], _ => rfl) sc_law_branches (hr.r.mono (by decide)) (by rfl) rfl rfl (pa_cons (pv 4) pa_nil) (fun A outer s H vs Q hA h => br_hot BB T hz hf A outer s H vs Q hA h))
        (pe_hot (TT := TOn) (k := 0) lkO hcO hkO hmO (Binds.all fun us h => match us, h with | [_], _ => rfl) sc_law_on (hr.r.mono (by decide)) (by rfl) rfl rfl (pa_cons (pv 0) pa_nil) (fun A outer s H vs Q hA h => on_hot T hz hf A outer s H vs Q hA h)) (nomark _)) pa_nil)))))
    .nil)))
    (pss_one (ps_ret (pe_cmpR (op_eqW (K := K) rfl hr.u64) (pv 2) (pe_lst (pa_cons (pv 0) (pa_cons pe_bl pa_nil))) (nomark _))))), ?_⟩
  refine ⟨szl (by show 1 ≤ 1000000; decide), fun D0 nD0 => ?_⟩
  have s0 : Same H (upd H D0 (.lst [.str "nothing"])) := fun b o e => updn (nonn nD0 e) e
  match n, hn with
  | 0, _ =>
    refine ⟨_, rfl, rfl, _, rfl, itC (by decide) ?_⟩
    refine ⟨_, rfl, ?_⟩
    refine errG_goW (C := c.InvalidWidth) (fs := ["value"]) (vs := [x]) rfl (by show 1 ≤ 1000; decide) fun dd nd => ?_
    refine ⟨false, ex.w1, (fun z => nomatch z), fun _ => ⟨true, ex.w2, fun _ a na => ?_, (fun z => nomatch z)⟩⟩
    refine ⟨_, rfl, ?_⟩
    refine ⟨_, rfl, rfl, rfl, _, dd, _, 0, rfl, rfl, upd_same, bf.b_InvalidWidth, fun L H1 n1 s1 e1 => ?_⟩
    refine ⟨_, rfl, rfl, 0, rfl, fun L2 H2 n2 s2 e2 => ?_⟩
    refine ⟨0, L, L2, onW 0, onW 0, by decide, rfl, rfl, SqL.of (s2 _ _ e1), SqL.of e2, onW_alk 0, ?_⟩
    refine ⟨szl (by show 2 ≤ 1000000; decide), fun D3 nD3 => ?_⟩
    refine ⟨_, rfl, _, rfl, szl (by show 2 ≤ 1000000; decide), fun D4 nD4 => ?_⟩
    have s3 : Same H2 (upd H2 D3 (.lst [.int (0 : Nat), .bl true])) := fun b o e => updn (nonn nD3 e) e
    refine ⟨0, D3, D4, [.int (0 : Nat), .bl true], [.int (0 : Nat), .bl true], by decide, rfl, rfl, SqL.of (updn (nonn nD4 upd_same) upd_same), SqL.of upd_same, .cons (.inl ⟨rfl, rfl⟩) (.cons (.inl ⟨rfl, rfl⟩) .nil), ?_⟩
    refine k _ fun b o e => ?_
    have q1 := s3 b o (s2 b o (s1 b o (updn (o := HO.xd _) (nonn nd (s0 b o e)) (s0 b o e))))
    exact updn (nonn nD4 q1) q1
  | 1, _ =>
    refine ⟨_, rfl, rfl, _, rfl, itD (by decide) ?_⟩
    refine ⟨_, rfl, rfl, _, rfl, itC (by decide) ?_⟩
    refine ⟨_, rfl, ?_⟩
    refine errG_goW (C := c.UnknownHop) (fs := ["value"]) (vs := [x]) rfl (by show 1 ≤ 1000; decide) fun dd nd => ?_
    refine ⟨false, ex.u1, (fun z => nomatch z), fun _ => ⟨true, ex.u2, fun _ a na => ?_, (fun z => nomatch z)⟩⟩
    refine ⟨_, rfl, ?_⟩
    refine ⟨_, rfl, rfl, rfl, _, dd, _, 1, rfl, rfl, upd_same, bf.b_UnknownHop, fun L H1 n1 s1 e1 => ?_⟩
    refine ⟨_, rfl, rfl, 1, rfl, fun L2 H2 n2 s2 e2 => ?_⟩
    refine ⟨0, L, L2, onW 1, onW 1, by decide, rfl, rfl, SqL.of (s2 _ _ e1), SqL.of e2, onW_alk 1, ?_⟩
    refine ⟨szl (by show 2 ≤ 1000000; decide), fun D3 nD3 => ?_⟩
    refine ⟨_, rfl, _, rfl, szl (by show 2 ≤ 1000000; decide), fun D4 nD4 => ?_⟩
    have s3 : Same H2 (upd H2 D3 (.lst [.int (1 : Nat), .bl true])) := fun b o e => updn (nonn nD3 e) e
    refine ⟨0, D3, D4, [.int (1 : Nat), .bl true], [.int (1 : Nat), .bl true], by decide, rfl, rfl, SqL.of (updn (nonn nD4 upd_same) upd_same), SqL.of upd_same, .cons (.inl ⟨rfl, rfl⟩) (.cons (.inl ⟨rfl, rfl⟩) .nil), ?_⟩
    refine k _ fun b o e => ?_
    have q1 := s3 b o (s2 b o (s1 b o (updn (o := HO.xd _) (nonn nd (s0 b o e)) (s0 b o e))))
    exact updn (nonn nD4 q1) q1
  | 2, _ =>
    refine ⟨_, rfl, rfl, _, rfl, itD (by decide) ?_⟩
    refine ⟨_, rfl, rfl, _, rfl, itD (by decide) ?_⟩
    refine ⟨_, rfl, rfl, _, rfl, itC (by decide) ?_⟩
    refine ⟨_, rfl, ?_⟩
    refine errG_goW (C := c.Stranger) (fs := ["value"]) (vs := [x]) rfl (by show 1 ≤ 1000; decide) fun dd nd => ?_
    refine ⟨false, ex.s1, (fun z => nomatch z), fun _ => ⟨true, ex.s2, fun _ a na => ?_, (fun z => nomatch z)⟩⟩
    refine ⟨_, rfl, ?_⟩
    refine ⟨_, rfl, rfl, rfl, _, dd, _, 2, rfl, rfl, upd_same, bf.b_Stranger, fun L H1 n1 s1 e1 => ?_⟩
    refine ⟨_, rfl, rfl, 2, rfl, fun L2 H2 n2 s2 e2 => ?_⟩
    refine ⟨0, L, L2, onW 2, onW 2, by decide, rfl, rfl, SqL.of (s2 _ _ e1), SqL.of e2, onW_alk 2, ?_⟩
    refine ⟨szl (by show 2 ≤ 1000000; decide), fun D3 nD3 => ?_⟩
    refine ⟨_, rfl, _, rfl, szl (by show 2 ≤ 1000000; decide), fun D4 nD4 => ?_⟩
    have s3 : Same H2 (upd H2 D3 (.lst [.int (2 : Nat), .bl true])) := fun b o e => updn (nonn nD3 e) e
    refine ⟨0, D3, D4, [.int (2 : Nat), .bl true], [.int (2 : Nat), .bl true], by decide, rfl, rfl, SqL.of (updn (nonn nD4 upd_same) upd_same), SqL.of upd_same, .cons (.inl ⟨rfl, rfl⟩) (.cons (.inl ⟨rfl, rfl⟩) .nil), ?_⟩
    refine k _ fun b o e => ?_
    have q1 := s3 b o (s2 b o (s1 b o (updn (o := HO.xd _) (nonn nd (s0 b o e)) (s0 b o e))))
    exact updn (nonn nD4 q1) q1
  | 3, _ =>
    refine ⟨_, rfl, rfl, _, rfl, itD (by decide) ?_⟩
    refine ⟨_, rfl, rfl, _, rfl, itD (by decide) ?_⟩
    refine ⟨_, rfl, rfl, _, rfl, itD (by decide) ?_⟩
    refine ⟨_, rfl, ?_⟩
    refine errG_goW (C := c.TooMany) (fs := ["what", "limit"]) (vs := [x, .int 1]) rfl (by show 2 ≤ 1000; decide) fun dd nd => ?_
    refine ⟨false, ex.t1, (fun z => nomatch z), fun _ => ⟨true, ex.t2, fun _ a na => ?_, (fun z => nomatch z)⟩⟩
    refine ⟨_, rfl, ?_⟩
    refine ⟨_, rfl, rfl, rfl, _, dd, _, 3, rfl, rfl, upd_same, bf.b_TooMany, fun L H1 n1 s1 e1 => ?_⟩
    refine ⟨_, rfl, rfl, 3, rfl, fun L2 H2 n2 s2 e2 => ?_⟩
    refine ⟨0, L, L2, onW 3, onW 3, by decide, rfl, rfl, SqL.of (s2 _ _ e1), SqL.of e2, onW_alk 3, ?_⟩
    refine ⟨szl (by show 2 ≤ 1000000; decide), fun D3 nD3 => ?_⟩
    refine ⟨_, rfl, _, rfl, szl (by show 2 ≤ 1000000; decide), fun D4 nD4 => ?_⟩
    have s3 : Same H2 (upd H2 D3 (.lst [.int (3 : Nat), .bl true])) := fun b o e => updn (nonn nD3 e) e
    refine ⟨0, D3, D4, [.int (3 : Nat), .bl true], [.int (3 : Nat), .bl true], by decide, rfl, rfl, SqL.of (updn (nonn nD4 upd_same) upd_same), SqL.of upd_same, .cons (.inl ⟨rfl, rfl⟩) (.cons (.inl ⟨rfl, rfl⟩) .nil), ?_⟩
    refine k _ fun b o e => ?_
    have q1 := s3 b o (s2 b o (s1 b o (updn (o := HO.xd _) (nonn nd (s0 b o e)) (s0 b o e))))
    exact updn (nonn nD4 q1) q1
  | n + 4, hn => exact absurd hn (by omega)
end
open PySem PySem.Spec PyProof.Rows
open L2 hiding pass0
abbrev s_law_right : Stmt := top 53
theorem sc_law_right : FnScope ["_law_pot_here", "_law_here", "_law_two", "_law_three", "_law_which", "_law_some", "_law_named_here", "_law_e", "_law_texts", "_law_fails", "_law_at"] ["_law_pot_here"] (defScope s_law_right) := ⟨rfl, rfl, rfl, by decide +kernel, rfl, by decide +kernel, by decide +kernel⟩
theorem bp_law_right : BndP "_law_right" s_law_right ["_law_pot_here"] := fun _ _ _ _ _ _ us h => match us, h with | [_], _ => rfl
@[irreducible] def spLR : Sp := fun vs H Q _ => ∃ (p : Addr), vs = [.ref p] ∧ PotAt H p ∧ ∀ H', Go p H H' → Q (.bl true) H'
theorem lr_go {p : Addr} {H : Hp} {Q : VK} {E : XK} (hp : PotAt H p) (q : ∀ H', Go p H H' → Q (.bl true) H') : spLR [.ref p] H Q E := by
  unfold spLR
  exact ⟨p, rfl, hp, q⟩
section
variable {K : PySem.W.Frag} {B0 B1 B2 B3 : Addr} {c : Cls} {σ : L2.St} {H : Hp} {Q R : VK} {E : XK} {v x y : V} {d dx dy : PyData} {a C : Addr} {fs : List (Str × V)} {f : Str} {i j w n : Nat}
theorem ov_go (q : ∀ L L1 L2 L3 xs1 xs2 xs3 H', Same H H' → H L = none → H' L = some (.lst [.ref L1, .ref L2, .ref L3]) → H' L1 = some (.lst xs1) → H' L2 = some (.lst xs2) → H' L3 = some (.lst xs3) →
  xs1.length ≤ 20 → xs2.length ≤ 20 → xs3.length ≤ 20 → EW K B0 B1 B2 B3 H' "value" v 0 xs1 → EW K B0 B1 B2 B3 H' "value" v 1 xs2 → EW K B0 B1 B2 B3 H' "value" v 2 xs3 → Q (.ref L) H') : spOV K B0 B1 B2 B3 [v] H Q E := by
  unfold spOV
  exact ⟨v, rfl, q⟩
theorem nm_go (q : ∀ L a1 a2 xs1 xs2 xs3 H', Same H H' → H L = none → H' L = some (.lst ((.ref a1 :: xs1) ++ (.ref a2 :: xs2) ++ xs3)) → xs1.length = 12 → xs2.length = 3 → xs3.length = 3 → EvAt H' a1 c.InvalidWidth [("value", v)] → EvAt H' a2 c.UnknownStretch [("value", v)] →
  EW K B0 B1 B2 B3 H' "value" v 0 (.ref a1 :: xs1) → EW K B0 B1 B2 B3 H' "value" v 1 (.ref a2 :: xs2) → EW K B0 B1 B2 B3 H' "value" v 2 xs3 → Q (.ref L) H') : spNm K B0 B1 B2 B3 c [v] H Q E := by
  unfold spNm
  exact ⟨v, rfl, q⟩
theorem op_go (q : ∀ L xs H', Same H H' → H L = none → H' L = some (.lst xs) → xs.length ≤ 40 → EW K B0 B1 B2 B3 H' "position" v 0 xs → Q (.ref L) H') : spOP K B0 B1 B2 B3 [v] H Q E := by
  unfold spOP
  exact ⟨v, rfl, q⟩
theorem pr_go (hx : Vs H x dx) (hy : Vs H y dy) (q : ∀ H', Same H H' → Q (.bl true) H') : spPR [x, y] H Q E := by
  unfold spPR
  exact ⟨x, y, dx, dy, rfl, hx, hy, q⟩
theorem ct_go (hn : n ≤ 3) (q : ∀ H', Same H H' → Q (.bl true) H') : spCt [.int n, x] H Q E := by
  unfold spCt
  exact ⟨n, x, rfl, hn, q⟩
/-- repr(x) -/
theorem rv_go (hx : Vs H x dx) (q : R (.str dx.shown) H) : rReprV [x] H R := by
  unfold rReprV
  obtain ⟨f1, f2, f3⟩ := hx.2.ok (by decide) (by decide) (by decide)
  exact ⟨x, dx, 1, rfl, hx.1, f1, f2, f3, q⟩
/-- repr(e.f) == repr(x) -/
theorem rep_elt (hi : σ[i]? = some (some (.ref a))) (hj : σ[j]? = some (some x)) (ev : EvAt H a C fs) (l1 : fs.lookup f = some x) (xf : XfC K C) (n1 : PySem.W.findIn K (.ref C) f = some none) (hx : Vs H x dx) (k : R (.bl true) H) :
    tOp rEq (tCB rReprV (tCons (tXo K f (tVar i)) tNil)) (tCB rReprV (tCons (tVar j) tNil)) σ H R := by
  refine ⟨_, hi, a, C, fs, x, rfl, ev, xf, n1, l1, ?_⟩
  refine rv_go hx ?_
  refine ⟨_, hj, ?_⟩
  refine rv_go hx ?_
  refine ⟨rfl, ?_⟩
  rw [decide_eq_true rfl]
  exact k
theorem one_elt {te : TE} (hi : σ[i]? = some (some (.ref a))) (hj : σ[j]? = some (some x)) (ht : ∀ (H : Hp) (Q : VK), Q (.int w) H → te σ H Q) (ev : EvAt H a C fs) (l1 : fs.lookup f = some x) (b : Br K B0 B1 B2 B3 C w) (n1 : PySem.W.findIn K (.ref C) f = some none) (hx : Vs H x dx)
    (k : ∀ H2, Same H H2 → R (.bl true) H2) :
    tAndV (tOp rEq (tCB rReprV (tCons (tXo K f (tVar i)) tNil)) (tCB rReprV (tCons (tVar j) tNil))) (tOp (rEqW K) (tG (spBr K B0 B1 B2 B3) C8.E0 (tCons (tVar i) tNil)) (tG spOn C8.E0 (tCons te tNil))) σ H R := by
  refine rep_elt hi hj ev l1 b.xf n1 hx ⟨true, rfl, itT ?_⟩
  exact bron_go hi ht ev b k
end
theorem same_new {H : Hp} {a : Addr} {o : HO} (n : H a = none) : Same H (upd H a o) := fun b u e => updn (nonn n e) e
theorem sTr {H H1 H2 : Hp} (a : Same H H1) (b : Same H1 H2) : Same H H2 := fun c o e => b c o (a c o e)
/-- rs are lists, the i-th of them the branch of ws -/
def OnL (H : Hp) (ws : List Nat) (rs : List V) : Prop := Paired (fun w r => ∃ L, r = .ref L ∧ H L = some (.lst (onW w))) ws rs
def BrL (K : PySem.W.Frag) (B0 B1 B2 B3 : Addr) (H : Hp) (ws : List Nat) (xs : List V) : Prop := Paired (fun w x => ∃ a C fs, x = .ref a ∧ EvAt H a C fs ∧ Br K B0 B1 B2 B3 C w) ws xs
theorem OnL.same {H H' : Hp} (s : Same H H') : ∀ {ws : List Nat} {rs : List V}, OnL H ws rs → OnL H' ws rs
  | _, _, .nil => .nil
  | _, _, .cons ⟨L, e, h⟩ r => .cons ⟨L, e, s _ _ h⟩ (OnL.same s r)
theorem OnL.no {H : Hp} {w : Nat} : ∀ {vs : List Nat}, ¬ OnL H vs (onW w)
  | _, .cons ⟨_, e, _⟩ _ => by cases e
theorem OnL.app {H : Hp} : ∀ {ws vs : List Nat} {rs ts : List V}, OnL H ws rs → OnL H vs ts → OnL H (ws ++ vs) (rs ++ ts)
  | _, _, _, _, .nil, h => h
  | _, _, _, _, .cons a r, h => .cons a (OnL.app r h)
theorem OnL.len {H : Hp} : ∀ {ws : List Nat} {rs : List V}, OnL H ws rs → rs.length = ws.length
  | _, _, .nil => rfl
  | _, _, .cons _ r => congrArg (· + 1) (OnL.len r)
theorem OnL.rep {H : Hp} {L : Addr} {w : Nat} (h : H L = some (.lst (onW w))) : ∀ n : Nat, OnL H (List.replicate n w) (List.replicate n [V.ref L]).flatten
  | 0 => .nil
  | n + 1 => .cons ⟨L, rfl, h⟩ (OnL.rep h n)
theorem OnL.alk {K : PySem.W.Frag} {H : Hp} : ∀ {ws : List Nat} {rs ts : List V}, OnL H ws rs → OnL H ws ts → Paired (Alk K H 1) rs ts
  | _, _, _, .nil, .nil => .nil
  | w :: _, _, _, .cons ⟨L, e1, h1⟩ r, .cons ⟨M, e2, h2⟩ t => .cons (.inr ⟨L, M, onW w, onW w, e1, e2, SqL.of h1, SqL.of h2, onW_alk w⟩) (OnL.alk r t)
theorem BrL.len {K : PySem.W.Frag} {B0 B1 B2 B3 : Addr} {H : Hp} : ∀ {ws : List Nat} {xs : List V}, BrL K B0 B1 B2 B3 H ws xs → xs.length = ws.length
  | _, _, .nil => rfl
  | _, _, .cons _ r => congrArg (· + 1) (BrL.len r)
theorem BrL.app {K : PySem.W.Frag} {B0 B1 B2 B3 : Addr} {H : Hp} : ∀ {ws vs : List Nat} {rs ts : List V}, BrL K B0 B1 B2 B3 H ws rs → BrL K B0 B1 B2 B3 H vs ts → BrL K B0 B1 B2 B3 H (ws ++ vs) (rs ++ ts)
  | _, _, _, _, .nil, h => h
  | _, _, _, _, .cons a r, h => .cons a (BrL.app r h)
theorem BrL.at {K : PySem.W.Frag} {B0 B1 B2 B3 : Addr} {H : Hp} : ∀ {ws : List Nat} {xs : List V} {i : Nat} {x : V}, BrL K B0 B1 B2 B3 H ws xs → xs[i]? = some x → ∃ w a C fs, ws[i]? = some w ∧ x = .ref a ∧ EvAt H a C fs ∧ Br K B0 B1 B2 B3 C w
  | _, _, _, _, .nil, e => by simp at e
  | w :: _, _, 0, _, .cons ⟨a, C, fs, e1, e2, e3⟩ _, e => by
    cases e
    exact ⟨w, a, C, fs, rfl, e1, e2, e3⟩
  | _ :: _, _, i + 1, _, .cons _ r, e => BrL.at (i := i) r e
theorem EW.brl {K : PySem.W.Frag} {B0 B1 B2 B3 : Addr} {H : Hp} {f : Str} {v : V} {w : Nat} : ∀ {xs : List V}, EW K B0 B1 B2 B3 H f v w xs → BrL K B0 B1 B2 B3 H (List.replicate xs.length w) xs
  | [], _ => .nil
  | x :: xs, h => by
    obtain ⟨a, C, e1, e2, e3, _⟩ := h x (.head _)
    exact .cons ⟨a, C, _, e1, e2, e3⟩ (EW.brl fun u hu => h u (.tail _ hu))
theorem BrL.same {K : PySem.W.Frag} {B0 B1 B2 B3 : Addr} {H H' : Hp} (s : Same H H') : ∀ {ws : List Nat} {xs : List V}, BrL K B0 B1 B2 B3 H ws xs → BrL K B0 B1 B2 B3 H' ws xs
  | _, _, .nil => .nil
  | _, _, .cons ⟨a, C, fs, e1, e2, e3⟩ r => .cons ⟨a, C, fs, e1, e2.same s, e3⟩ (BrL.same s r)
theorem lcBr_go {K : PySem.W.Frag} {B0 B1 B2 B3 : Addr} {i j : Nat} {σ : L2.St} {H : Hp} {Q : VK} {L : Addr} {xs : List V} {ws : List Nat} (hi : σ[i]? = some (some (.ref L))) (hL : H L = some (.lst xs)) (hl : xs.length ≤ 1000) (hj : j < σ.length) (hb : BrL K B0 B1 B2 B3 H ws xs)
    (k : ∀ D rs H', Same H H' → H D = none → H' D = some (.lst rs) → OnL H' ws rs → Q (.ref D) H') : tLc (iList K (tVar i)) (gName j) tYes (tG (spBr K B0 B1 B2 B3) C8.E0 (tCons (tVar j) tNil)) [j] σ H Q := by
  refine ⟨.ref L, hi, L, rfl, ⟨xs, SqL.of hL⟩, fun D nD => ?_⟩
  refine lc_it (walk_list (xs := xs)) (fun n H' => ∃ rs, H' D = some (.lst rs) ∧ OnL H' (ws.take n) rs ∧ n ≤ xs.length ∧ Same H H') ⟨[], upd_same, .nil, Nat.zero_le _, fun b o e => updn (nonn nD e) e⟩ (fun i H' _ ⟨rs, h⟩ => SqL.of (h.2.2.2 _ _ hL)) ?_ ?_
  · rintro n x H1 H2 hn ⟨rs, hD, ho, hnl, sm⟩ ⟨rfl, hx⟩
    obtain ⟨w, a, C, fs, hw, rfl, ev, b⟩ := hb.at hx
    refine ⟨wipe_set, ?_⟩
    dsimp only [tYes]
    rw [if_pos rfl]
    refine ⟨.ref a, by show ((σ.set j none).set j (some (V.ref a)))[j]? = _; rw [List.set_set, List.getElem?_set_self hj], ?_⟩
    refine br_go (ev.same sm) b fun L2 H3 n3 s3 e3 => ?_
    have eD := s3 _ _ hD
    have n2D : L2 ≠ D := nonn n3 hD |>.symm
    refine ⟨rs, eD, szt (by rw [ho.len, List.length_take]; omega), rs ++ [.ref L2], upd_same, ?_, hn, fun b o e => updn (nonn nD e) (s3 b o (sm b o e))⟩
    rw [List.take_add_one, hw]
    have ho' : OnL (upd H3 D (.lst (rs ++ [.ref L2]))) (ws.take n) rs := by
      have key : ∀ {vs : List Nat} {ts : List V}, OnL H2 vs ts → OnL (upd H3 D (.lst (rs ++ [.ref L2]))) vs ts := fun {vs ts} h => by
        induction h with
        | nil => exact .nil
        | @cons w0 r0 _ _ a0 _ ih =>
          obtain ⟨M, e, q⟩ := a0
          refine .cons ⟨M, e, ?_⟩ ih
          by_cases z : M = D
          · exfalso
            rw [z, hD] at q
            have z2 : rs = onW w0 := by injection q with q; injection q
            rw [z2] at ho
            exact OnL.no ho
          · exact updn z (s3 _ _ q)
      exact key ho
    exact ho'.app (.cons ⟨L2, rfl, updn n2D e3⟩ .nil)
  · rintro H1 ⟨rs, hD, ho, _, sm⟩
    refine k D rs H1 sm nD hD ?_
    rwa [List.take_of_length_le (by rw [hb.len]; exact Nat.le_refl _)] at ho
section
variable {P : Program} {w : World} {K : PySem.W.Frag} {mg : Str → Option Value} {base : Heap} {f : Addr} {fd : FuncData} {B0 B1 B2 B3 : Addr} {c : Cls}
theorem ok_right (ee : EE P w K mg base c) (bf : BF K B0 B1 B2 B3 c) (cn : Cn K mg c) (F : Fun K "_law_right" "_law_right" s_law_right f fd) (hm : mg "_law_right" = some (.ref f)) (T : Txt K mg) (c_law_values : Nm P w K mg base CX0 3 "_law_values" s_law_values ["_law_pot_here", "_law_many"] (spVals)) (c_law_of_value : Nm P w K mg base CX0 4 "_law_of_value" s_law_of_value ["_law_here"] (spOV K B0 B1 B2 B3)) (c_law_named : Nm P w K mg base CX0 4 "_law_named" s_law_named ["_law_here"] (spNm K B0 B1 B2 B3 c)) (c_law_of_place : Nm P w K mg base CX0 4 "_law_of_place" s_law_of_place ["_law_spot"] (spOP K B0 B1 B2 B3)) (c_law_branches : Nm P w K mg base CX0 1 "_law_branches" s_law_branches ["_law_e"] (spBr K B0 B1 B2 B3)) (c_law_on : Nm P w K mg base CX0 1 "_law_on" s_law_on ["_law_which"] (spOn)) (c_law_pairs_right : Nm P w K mg base CX0 4 "_law_pairs_right" s_law_pairs_right ["_law_here", "_law_two"] (spPR)) (c_law_caught : Nm P w K mg base CX0 4 "_law_caught" s_law_caught ["_law_at", "_law_here"] (spCt)) : Nm P w K mg base CX0 5 "_law_right" s_law_right ["_law_pot_here"] (spLR) := by
  refine nm_of0 F hm sc_law_right (fun vs H Q E h => ?_) fun cdv A outer s H vs Q E hr h => ?_
  · unfold spLR at h
    obtain ⟨p, rfl, hp, k⟩ := h
    subst_vars
    rfl
  unfold spLR at h
  obtain ⟨p, rfl, hp, k⟩ := h
  refine ⟨_, (pss_cons (ps_asg (pe_g c_law_values hr (by decide) L2.pass0 bp_law_values (by rfl) (pa_cons (pv 0) (pa_cons pe_int pa_nil))) (pg_lst (by rfl) (pgs_cons (pg_name (i := 1) sc_law_right.nd rfl (by first | exact Or.inl rfl | exact Or.inr rfl)) (pgs_cons (pg_name (i := 2) sc_law_right.nd rfl (by first | exact Or.inl rfl | exact Or.inr rfl)) (pgs_cons (pg_name (i := 3) sc_law_right.nd rfl (by first | exact Or.inl rfl | exact Or.inr rfl)) pgs_nil)))))
      (C8.pss_cut (ps_for PassesOwn.never rfl (pi_enum (by rfl) T.b_enumerate (pa_cons (pe_g c_law_of_value hr (by decide) L2.pass0 bp_law_of_value (by rfl) (pa_cons (pv 1) pa_nil)) pa_nil)) (pg_tup (by rfl) (pgs_cons (pg_name (i := 4) sc_law_right.nd rfl (by first | exact Or.inl rfl | exact Or.inr rfl)) (pgs_cons (pg_name (i := 5) sc_law_right.nd rfl (by first | exact Or.inl rfl | exact Or.inr rfl)) pgs_nil))) (pss_one (ps_if (pt_not (pt_val (pe_callB (call_allK (K := K) rfl rfl) (by rfl) T.b_all (by decide +kernel) (pa_cons (pe_lc (own := [("_law_e", 7)]) (g := (gName 7)) (by rfl) sc_law_right.nd (pi_listK (K := K) rfl (pv 5)) (blkOk_by (own := [("_law_e", 7)]) (N := ["_law_pot_here", "_law_here", "_law_two", "_law_three", "_law_which", "_law_some", "_law_named_here", "_law_e", "_law_texts", "_law_fails", "_law_at"]) (sc := defScope s_law_right) (by decide +kernel)) (fun _ _ _ _ _ => (pg_name (i := 7) sc_law_right.nd rfl (by first | exact Or.inl rfl | exact Or.inr rfl))) (fun _ _ _ _ _ => pts_nil) (fun _ _ _ _ _ => (pe_and (pe_cmpR op_eq (pe_callB (call_reprV hr.g hr.u) (by rfl) T.b_repr (by decide +kernel) (pa_cons (pe_xoK (K := K) rfl (pv 7)) pa_nil)) (pe_callB (call_reprV hr.g hr.u) (by rfl) T.b_repr (by decide +kernel) (pa_cons (pv 1) pa_nil)) (nomark _)) (pe_one (pe_cmpR (op_eqW (K := K) rfl hr.u64) (pe_g c_law_branches hr (by decide) L2.pass0 bp_law_branches (by rfl) (pa_cons (pv 7) pa_nil)) (pe_g c_law_on hr (by decide) L2.pass0 bp_law_on (by rfl) (pa_cons (pv 4) pa_nil)) (nomark _)))))) pa_nil)))) (pss_one (ps_ret pe_bl)) pss_nil)))
      (pss_cons (ps_set (i := 6) sc_law_right.nd rfl (by first | exact Or.inl rfl | exact Or.inr rfl) (pe_g c_law_named hr (by decide) L2.pass0 bp_law_named (by rfl) (pa_cons (pv 2) pa_nil)))
      (C8.pss_cut (ps_if (pt_not (pt_val (pe_callB (call_allK (K := K) rfl rfl) (by rfl) T.b_all (by decide +kernel) (pa_cons (pe_lc (own := [("_law_e", 7)]) (g := (gName 7)) (by rfl) sc_law_right.nd (pi_listK (K := K) rfl (pv 6)) (blkOk_by (own := [("_law_e", 7)]) (N := ["_law_pot_here", "_law_here", "_law_two", "_law_three", "_law_which", "_law_some", "_law_named_here", "_law_e", "_law_texts", "_law_fails", "_law_at"]) (sc := defScope s_law_right) (by decide +kernel)) (fun _ _ _ _ _ => (pg_name (i := 7) sc_law_right.nd rfl (by first | exact Or.inl rfl | exact Or.inr rfl))) (fun _ _ _ _ _ => pts_nil) (fun _ _ _ _ _ => (pe_cmpR op_eq (pe_callB (call_reprV hr.g hr.u) (by rfl) T.b_repr (by decide +kernel) (pa_cons (pe_xoK (K := K) rfl (pv 7)) pa_nil)) (pe_callB (call_reprV hr.g hr.u) (by rfl) T.b_repr (by decide +kernel) (pa_cons (pv 2) pa_nil)) (nomark _)))) pa_nil)))) (pss_one (ps_ret pe_bl)) pss_nil)
      (C8.pss_cut (ps_if (pt_cmpR (op_neW (K := K) rfl hr.u64) (pe_lc (own := [("_law_e", 7)]) (g := (gName 7)) (by rfl) sc_law_right.nd (pi_listK (K := K) rfl (pv 6)) (blkOk_by (own := [("_law_e", 7)]) (N := ["_law_pot_here", "_law_here", "_law_two", "_law_three", "_law_which", "_law_some", "_law_named_here", "_law_e", "_law_texts", "_law_fails", "_law_at"]) (sc := defScope s_law_right) (by decide +kernel)) (fun _ _ _ _ _ => (pg_name (i := 7) sc_law_right.nd rfl (by first | exact Or.inl rfl | exact Or.inr rfl))) (fun _ _ _ _ _ => pts_nil) (fun _ _ _ _ _ => (pe_g c_law_branches hr (by decide) L2.pass0 bp_law_branches (by rfl) (pa_cons (pv 7) pa_nil)))) (pe_op op_cat (pe_op op_cat (pe_op op_rep (pe_lst (pa_cons (pe_g c_law_on hr (by decide) L2.pass0 bp_law_on (by rfl) (pa_cons pe_int pa_nil)) pa_nil)) pe_int) (pe_op op_rep (pe_lst (pa_cons (pe_g c_law_on hr (by decide) L2.pass0 bp_law_on (by rfl) (pa_cons pe_int pa_nil)) pa_nil)) pe_int)) (pe_op op_rep (pe_lst (pa_cons (pe_g c_law_on hr (by decide) L2.pass0 bp_law_on (by rfl) (pa_cons pe_int pa_nil)) pa_nil)) pe_int)) (nomark _)) (pss_one (ps_ret pe_bl)) pss_nil)
      (C8.pss_cut (ps_for PassesOwn.never rfl (pi_listK (K := K) rfl (pe_g c_law_of_place hr (by decide) L2.pass0 bp_law_of_place (by rfl) (pa_cons (pv 3) pa_nil))) (pg_name (i := 7) sc_law_right.nd rfl (by first | exact Or.inl rfl | exact Or.inr rfl)) (pss_one (ps_if (PW.pt (pw_or (pt_cmpR op_ne (pe_callB (call_reprV hr.g hr.u) (by rfl) T.b_repr (by decide +kernel) (pa_cons (pe_xoK (K := K) rfl (pv 7)) pa_nil)) (pe_callB (call_reprV hr.g hr.u) (by rfl) T.b_repr (by decide +kernel) (pa_cons (pv 3) pa_nil)) (nomark _)) (pw_or1 (pt_cmpR (op_neW (K := K) rfl hr.u64) (pe_g c_law_branches hr (by decide) L2.pass0 bp_law_branches (by rfl) (pa_cons (pv 7) pa_nil)) (pe_g c_law_on hr (by decide) L2.pass0 bp_law_on (by rfl) (pa_cons pe_int pa_nil)) (nomark _))))) (pss_one (ps_ret pe_bl)) pss_nil)))
      (pss_cons (ps_set (i := 8) sc_law_right.nd rfl (by first | exact Or.inl rfl | exact Or.inr rfl) (pe_lst (pm_cons (w := 0) ee.e_InvalidText hr.r (by decide) (by rfl) (pv 2) (pm_consK (w := 0) ee.e_InvalidText hr.r (by decide) (by rfl) (pv 2) pm_nil))))
      (C8.pss_cut (ps_if (pt_not (pt_val (pe_callB (call_allK (K := K) rfl rfl) (by rfl) T.b_all (by decide +kernel) (pa_cons (pe_lc (own := [("_law_e", 7)]) (g := (gName 7)) (by rfl) sc_law_right.nd (pi_listK (K := K) rfl (pv 8)) (blkOk_by (own := [("_law_e", 7)]) (N := ["_law_pot_here", "_law_here", "_law_two", "_law_three", "_law_which", "_law_some", "_law_named_here", "_law_e", "_law_texts", "_law_fails", "_law_at"]) (sc := defScope s_law_right) (by decide +kernel)) (fun _ _ _ _ _ => (pg_name (i := 7) sc_law_right.nd rfl (by first | exact Or.inl rfl | exact Or.inr rfl))) (fun _ _ _ _ _ => pts_nil) (fun _ _ _ _ _ => (pe_and (pe_cmpR op_eq (pe_callB (call_reprV hr.g hr.u) (by rfl) T.b_repr (by decide +kernel) (pa_cons (pe_xoK (K := K) rfl (pv 7)) pa_nil)) (pe_callB (call_reprV hr.g hr.u) (by rfl) T.b_repr (by decide +kernel) (pa_cons (pv 2) pa_nil)) (nomark _)) (pe_one (pe_cmpR (op_eqW (K := K) rfl hr.u64) (pe_g c_law_branches hr (by decide) L2.pass0 bp_law_branches (by rfl) (pa_cons (pv 7) pa_nil)) (pe_g c_law_on hr (by decide) L2.pass0 bp_law_on (by rfl) (pa_cons pe_int pa_nil)) (nomark _)))))) pa_nil)))) (pss_one (ps_ret pe_bl)) pss_nil)
      (pss_cons (ps_set (i := 9) sc_law_right.nd rfl (by first | exact Or.inl rfl | exact Or.inr rfl) (pe_lst (pm_cons (w := 2) ee.e_CommandFailed hr.r (by decide) (by rfl) (pv 1) (pm_consK (w := 2) ee.e_CommandFailed hr.r (by decide) (by rfl) (pv 1) pm_nil))))
      (C8.pss_cut (ps_if (pt_not (pt_val (pe_callB (call_allK (K := K) rfl rfl) (by rfl) T.b_all (by decide +kernel) (pa_cons (pe_lc (own := [("_law_e", 7)]) (g := (gName 7)) (by rfl) sc_law_right.nd (pi_listK (K := K) rfl (pv 9)) (blkOk_by (own := [("_law_e", 7)]) (N := ["_law_pot_here", "_law_here", "_law_two", "_law_three", "_law_which", "_law_some", "_law_named_here", "_law_e", "_law_texts", "_law_fails", "_law_at"]) (sc := defScope s_law_right) (by decide +kernel)) (fun _ _ _ _ _ => (pg_name (i := 7) sc_law_right.nd rfl (by first | exact Or.inl rfl | exact Or.inr rfl))) (fun _ _ _ _ _ => pts_nil) (fun _ _ _ _ _ => (pe_and (pe_cmpR op_eq (pe_callB (call_reprV hr.g hr.u) (by rfl) T.b_repr (by decide +kernel) (pa_cons (pe_xoK (K := K) rfl (pv 7)) pa_nil)) (pe_callB (call_reprV hr.g hr.u) (by rfl) T.b_repr (by decide +kernel) (pa_cons (pv 1) pa_nil)) (nomark _)) (pe_one (pe_cmpR (op_eqW (K := K) rfl hr.u64) (pe_g c_law_branches hr (by decide) L2.pass0 bp_law_branches (by rfl) (pa_cons (pv 7) pa_nil)) (pe_g c_law_on hr (by decide) L2.pass0 bp_law_on (by rfl) (pa_cons pe_int pa_nil)) (nomark _)))))) pa_nil)))) (pss_one (ps_ret pe_bl)) pss_nil)
      (C8.pss_cut (ps_if (PW.pt (pw_or (pt_val (pe_callB call_isO (by rfl) T.b_isinstance (by decide +kernel) (pa_cons (pe_ix (ix_seqK (K := K) rfl) (pv 6) pe_int (fun _ _ => rfl)) (pa_cons (pe_cst (by rfl) cn.c_InvalidStretch) pa_nil)))) (pw_or (pt_val (pe_callB call_isO (by rfl) T.b_isinstance (by decide +kernel) (pa_cons (pe_ix (ix_seqK (K := K) rfl) (pv 6) pe_int (fun _ _ => rfl)) (pa_cons (pe_cst (by rfl) cn.c_UnknownHop) pa_nil)))) (pw_or1 (pt_val (pe_callB call_isO (by rfl) T.b_isinstance (by decide +kernel) (pa_cons (pe_ix (ix_seqK (K := K) rfl) (pv 9) pe_int (fun _ _ => rfl)) (pa_cons (pe_cst (by rfl) cn.c_NoOrder) pa_nil)))))))) (pss_one (ps_ret pe_bl)) pss_nil)
      (pss_one (ps_ret (pe_and (pe_g c_law_pairs_right hr (by decide) L2.pass0 bp_law_pairs_right (by rfl) (pa_cons (pv 2) (pa_cons (pv 3) pa_nil))) (pe_one (pe_callB (call_allK (K := K) rfl rfl) (by rfl) T.b_all (by decide +kernel) (pa_cons (pe_lc (own := [("_law_at", 10)]) (g := (gName 10)) (by rfl) sc_law_right.nd (pi_range1 (by rfl) T.b_range (pa_cons pe_int pa_nil)) (blkOk_by (own := [("_law_at", 10)]) (N := ["_law_pot_here", "_law_here", "_law_two", "_law_three", "_law_which", "_law_some", "_law_named_here", "_law_e", "_law_texts", "_law_fails", "_law_at"]) (sc := defScope s_law_right) (by decide +kernel)) (fun _ _ _ _ _ => (pg_name (i := 10) sc_law_right.nd rfl (by first | exact Or.inl rfl | exact Or.inr rfl))) (fun _ _ _ _ _ => pts_nil) (fun _ _ _ _ _ => (pe_g c_law_caught hr (by decide) L2.pass0 bp_law_caught (by rfl) (pa_cons (pv 10) (pa_cons (pv 1) pa_nil))))) pa_nil))))))))))))))))), ?_⟩
  refine ⟨_, rfl, ?_⟩
  refine vals_go (n := 3) hp (by decide) fun L vs H1 g1 nL eL hl hv => ?_
  obtain ⟨x, y, z, rfl⟩ : ∃ x y z, vs = [x, y, z] := by
    match vs, hl with
    | [x, y, z], _ => exact ⟨x, y, z, rfl⟩
  obtain ⟨dx, vx⟩ := hv x (.head _)
  obtain ⟨dy, vy⟩ := hv y (.tail _ (.head _))
  obtain ⟨dz, vz⟩ := hv z (.tail _ (.tail _ (.head _)))
  have hx : Vs H1 x dx := ⟨vx.t, vx.fit⟩
  have hy : Vs H1 y dy := ⟨vy.t, vy.fit⟩
  have hz : Vs H1 z dz := ⟨vz.t, vz.fit⟩
  have kk : ∀ H', Same H1 H' → Q (.bl true) H' := fun H' s => k H' ⟨let ⟨i, j, e, r⟩ := g1.pot; ⟨i, j, s _ _ e, r⟩, fun b o e n => s _ _ (g1.keep b o e n)⟩
  clear k vx vy vz hv hp
  refine ⟨L, [x, y, z], rfl, SqL.of eL, rfl, x, [y, z], rfl, y, [z], rfl, z, [], rfl, rfl, ?_⟩
  refine ⟨fun σ' H' => ∃ x4 x5, σ' = [some (.ref p), some x, some y, some z, x4, x5, none, none, none, none, none] ∧ Same H1 H', ?_, ?_⟩
  · refine ⟨_, rfl, ?_⟩
    refine ov_go fun L0 M1 M2 M3 xs1 xs2 xs3 H2 s2 n0 e0 e1 e2 e3 l1 l2 l3 w1 w2 w3 => ?_
    refine ⟨L0, _, rfl, SqL.of e0, ?_⟩
    refine for_it (walk_enum (xs := [.ref M1, .ref M2, .ref M3])) (fun i σ' H' => ∃ x4 x5, σ' = [some (.ref p), some x, some y, some z, x4, x5, none, none, none, none, none] ∧ Same H2 H') ⟨_, _, rfl, Same.refl H2⟩ (fun i σ' H' _ h => let ⟨_, _, _, s⟩ := h; SqL.of (s _ _ e0)) ?_ ?_
    · rintro i v σ' H3 H4 hi ⟨x4, x5, rfl, sm⟩ ⟨T2, u1, u2, rfl, nT2, rfl, e5, e6⟩
      obtain rfl : u1 = .int (i : Nat) := (Option.some.inj e5).symm
      have sm3 : Same H2 (upd H3 T2 (.tup [.int (i : Nat), u2])) := fun b o q => updn (nonn nT2 (sm b o q)) (sm b o q)
      have s3 : Same H1 (upd H3 T2 (.tup [.int (i : Nat), u2])) := fun b o q => sm3 b o (s2 b o q)
      obtain ⟨M, xs, rfl, eM, lM, wM⟩ : ∃ (M : Addr) (xs : List V), u2 = .ref M ∧ H2 M = some (.lst xs) ∧ xs.length ≤ 20 ∧ EW K B0 B1 B2 B3 H2 "value" x i xs := by
        match i, hi, e6 with
        | 0, _, e6 => exact ⟨M1, xs1, (Option.some.inj e6).symm, e1, l1, w1⟩
        | 1, _, e6 => exact ⟨M2, xs2, (Option.some.inj e6).symm, e2, l2, w2⟩
        | 2, _, e6 => exact ⟨M3, xs3, (Option.some.inj e6).symm, e3, l3, w3⟩
        | i + 3, hi, _ => exact absurd hi (by show ¬ (i + 3 < 3); omega)
      refine ⟨T2, [.int (i : Nat), .ref M], rfl, SqT.of upd_same, rfl, _, _, rfl, _, _, rfl, rfl, ?_⟩
      refine allB_go rfl (sm3 _ _ eM) (by omega) ?_ fun H5 s5 => ?_
      · intro u hu H6 R s6 q
        obtain ⟨a, C, rfl, ev, b, nf⟩ := wM u hu
        have sq : Same H2 H6 := fun b o e => s6 b o (sm3 b o e)
        exact one_elt rfl rfl (fun _ _ q => ⟨_, rfl, q⟩) (ev.same sq) rfl b nf (hx.same fun b o e => s6 b o (s3 b o e)) q
      refine ⟨true, rfl, itF ?_⟩
      exact ⟨_, _, rfl, fun b o e => s5 b o (sm3 b o e)⟩
    · rintro σ' H3 ⟨x4, x5, rfl, sm⟩
      exact ⟨_, _, rfl, fun b o e => sm b o (s2 b o e)⟩
  rintro σ' H2 ⟨x4, x5, rfl, s2⟩
  refine ⟨_, rfl, ?_⟩
  refine nm_go fun Ln a1 a2 xs1 xs2 xs3 H3 s3 n3 e3 l1 l2 l3 v1 v2 w1 w2 w3 => ?_
  have el : ∀ u ∈ (.ref a1 :: xs1) ++ (.ref a2 :: xs2) ++ xs3, ∃ a C w, u = .ref a ∧ EvAt H3 a C [("value", y)] ∧ Br K B0 B1 B2 B3 C w ∧ PySem.W.findIn K (.ref C) "value" = some none := fun u hu => by
    rcases List.mem_append.mp hu with hu | hu
    · rcases List.mem_append.mp hu with hu | hu
      · obtain ⟨a, C, h⟩ := w1 u hu
        exact ⟨a, C, 0, h⟩
      · obtain ⟨a, C, h⟩ := w2 u hu
        exact ⟨a, C, 1, h⟩
    · obtain ⟨a, C, h⟩ := w3 u hu
      exact ⟨a, C, 2, h⟩
  have ln : ((.ref a1 :: xs1) ++ (.ref a2 :: xs2) ++ xs3 : List V).length = 20 := by
    rw [List.length_append, List.length_append, List.length_cons, List.length_cons, l1, l2, l3]
  have hb : BrL K B0 B1 B2 B3 H3 (List.replicate 13 0 ++ List.replicate 4 1 ++ List.replicate 3 2) ((.ref a1 :: xs1) ++ (.ref a2 :: xs2) ++ xs3) := by
    have b1 := w1.brl
    have b2 := w2.brl
    have b3 := w3.brl
    rw [List.length_cons, l1] at b1
    rw [List.length_cons, l2] at b2
    rw [l3] at b3
    exact (b1.app b2).app b3
  generalize hN : ((.ref a1 :: xs1) ++ (.ref a2 :: xs2) ++ xs3 : List V) = nl at e3 el ln hb
  have at0 : atI nl 0 = some (.ref a1) := by
    rw [← hN]
    exact atI_nat (j := 0) rfl
  have at13 : atI nl 13 = some (.ref a2) := by
    rw [← hN]
    refine (atI_nat (xs := _) (j := 13) ?_)
    rw [List.append_assoc, List.getElem?_append_right (by rw [List.length_cons, l1]; decide), List.length_cons, l1]
    rfl
  refine ⟨fun σ' H' => σ' = [some (.ref p), some x, some y, some z, x4, x5, some (.ref Ln), none, none, none, none] ∧ Same H3 H', ?_, ?_⟩
  · refine allB_go rfl e3 (by omega) ?_ fun H5 s5 => ?_
    · intro u hu H6 R s6 q
      obtain ⟨a, C, w0, rfl, ev, b, nf⟩ := el u hu
      exact rep_elt rfl rfl (ev.same s6) rfl b.xf nf (hy.same fun b o e => s6 b o (s3 b o (s2 b o e))) (q _ (Same.refl _))
    exact ⟨true, rfl, itF ⟨rfl, s5⟩⟩
  rintro σ' H4 ⟨rfl, s4⟩
  refine ⟨fun σ' H' => σ' = [some (.ref p), some x, some y, some z, x4, x5, some (.ref Ln), none, none, none, none] ∧ Same H3 H', ?_, ?_⟩
  · unfold tIfS tTest tOp
    dsimp only
    refine lcBr_go rfl (s4 _ _ e3) (by omega) (Nat.lt_of_lt_of_eq (by decide : 7 < 11) rfl) (hb.same s4) fun D rs H5 s5 n5 e5 o5 => ?_
    refine on_go (w := 0) fun M0 H6 n6 s6 e6 => ?_
    refine ⟨szl (by show 1 ≤ 1000000; decide), fun D0 m0 => ?_⟩
    refine ⟨D0, 13, [.ref M0], rfl, rfl, upd_same, by decide, by decide, szl (by show 1 * 13 ≤ 1000000; decide), fun E0 k0 => ?_⟩
    refine on_go (w := 1) fun M1 H7 n7 s7 e7 => ?_
    refine ⟨szl (by show 1 ≤ 1000000; decide), fun D1 m1 => ?_⟩
    refine ⟨D1, 4, [.ref M1], rfl, rfl, upd_same, by decide, by decide, szl (by show 1 * 4 ≤ 1000000; decide), fun E1 k1 => ?_⟩
    have t1 := sTr (same_new (o := HO.lst [.ref M1]) m1) (same_new (o := HO.lst (List.replicate 4 [V.ref M1]).flatten) k1)
    have u0 := sTr (sTr (same_new (o := HO.lst [.ref M0]) m0) (same_new (o := HO.lst (List.replicate 13 [V.ref M0]).flatten) k0)) (sTr s7 t1)
    have q0 := (sTr s7 t1) _ _ (upd_same (a := E0))
    refine ⟨E0, E1, _, _, rfl, rfl, q0, upd_same, szl (by show 13 + 4 ≤ 1000000; decide), fun F nF => ?_⟩
    refine on_go (w := 2) fun M2 H8 n8 s8 e8 => ?_
    refine ⟨szl (by show 1 ≤ 1000000; decide), fun D2 m2 => ?_⟩
    refine ⟨D2, 3, [.ref M2], rfl, rfl, upd_same, by decide, by decide, szl (by show 1 * 3 ≤ 1000000; decide), fun E2 k2 => ?_⟩
    have t2 := sTr (same_new (o := HO.lst [.ref M2]) m2) (same_new (o := HO.lst (List.replicate 3 [V.ref M2]).flatten) k2)
    have qF := (sTr s8 t2) _ _ (upd_same (a := F))
    refine ⟨F, E2, _, _, rfl, rfl, qF, upd_same, szl (by show 17 + 3 ≤ 1000000; decide), fun G nG => ?_⟩
    have t3 := same_new (o := HO.lst (((List.replicate 13 [V.ref M0]).flatten ++ (List.replicate 4 [V.ref M1]).flatten) ++ (List.replicate 3 [V.ref M2]).flatten)) nG
    have uF := sTr (same_new (o := HO.lst ((List.replicate 13 [V.ref M0]).flatten ++ (List.replicate 4 [V.ref M1]).flatten)) nF) (sTr s8 (sTr t2 t3))
    have a5 := sTr s6 (sTr u0 uF)
    have od : OnL _ (List.replicate 13 0 ++ List.replicate 4 1 ++ List.replicate 3 2) _ := ((OnL.rep ((sTr u0 uF) _ _ e6) 13).app (OnL.rep ((sTr t1 uF) _ _ e7) 4)).app (OnL.rep ((sTr t2 t3) _ _ e8) 3)
    refine ⟨1, D, G, _, _, by decide, rfl, rfl, SqL.of (a5 _ _ e5), SqL.of upd_same, (o5.same a5).alk od, ?_⟩
    refine ⟨false, rfl, itG ⟨rfl, sTr s4 (sTr s5 a5)⟩⟩
  rintro σ' H5 ⟨rfl, s5⟩
  refine ⟨fun σ' H' => ∃ x7, σ' = [some (.ref p), some x, some y, some z, x4, x5, some (.ref Ln), x7, none, none, none] ∧ Same H3 H', ?_, ?_⟩
  · refine ⟨_, rfl, ?_⟩
    refine op_go fun Lp xs H6 s6 n6 e6 l6 w6 => ?_
    refine ⟨Lp, rfl, ⟨xs, SqL.of e6⟩, ?_⟩
    refine for_it (walk_list (xs := xs)) (fun i σ' H' => ∃ x7, σ' = [some (.ref p), some x, some y, some z, x4, x5, some (.ref Ln), x7, none, none, none] ∧ Same H6 H') ⟨_, rfl, Same.refl H6⟩ (fun i σ' H' _ h => let ⟨_, _, s⟩ := h; SqL.of (s _ _ e6)) ?_ ?_
    · rintro i u σ' H7 H8 hi ⟨x7, rfl, sm⟩ ⟨rfl, hu⟩
      obtain ⟨a, C, rfl, ev, b, nf⟩ := w6 u (List.mem_of_getElem? hu)
      have zz : Vs H8 z dz := hz.same (sTr s2 (sTr s3 (sTr s5 (sTr s6 sm))))
      have ev8 := ev.same sm
      show tIfS _ _ _ _ _ _
      unfold tIfS tOr tTest tOp
      dsimp only
      refine ⟨_, rfl, a, C, _, z, rfl, ev8, b.xf, nf, rfl, ?_⟩
      refine rv_go zz ?_
      refine ⟨_, rfl, ?_⟩
      refine rv_go zz ?_
      refine ⟨rfl, false, by rw [decide_eq_true rfl]; rfl, itG ?_⟩
      refine ⟨_, rfl, ?_⟩
      refine br_go ev8 b fun L1 H9 n9 s9 e9 => ?_
      refine on_go (w := 0) fun L2 H10 n10 s10 e10 => ?_
      refine ⟨0, L1, L2, onW 0, onW 0, by decide, rfl, rfl, SqL.of (s10 _ _ e9), SqL.of e10, onW_alk 0, false, rfl, itG ?_⟩
      exact ⟨_, rfl, sTr sm (sTr s9 s10)⟩
    · rintro σ' H7 ⟨x7, rfl, sm⟩
      exact ⟨_, rfl, sTr s5 (sTr s6 sm)⟩
  rintro σ' H6 ⟨x7, rfl, s6⟩
  refine set_mk (v := y) rfl (Nat.le_of_ble_eq_true rfl) fun D8 xs8 H7 s7 n7 e7 v7 => ?_
  have w7 := v7.ew (K := K) (B0 := B0) (B1 := B1) (B2 := B2) (B3 := B3) (w := 0) (fun q hq => by
    simp only [List.mem_cons, List.not_mem_nil, or_false] at hq
    rcases hq with rfl | rfl <;> exact ⟨bf.b_InvalidText, bf.n_InvalidText_line⟩)
  refine ⟨fun σ' H' => σ' = [some (.ref p), some x, some y, some z, x4, x5, some (.ref Ln), x7, some (.ref D8), none, none] ∧ Same H3 H', ?_, ?_⟩
  · refine allB_go rfl e7 (by rw [v7.len]; show 2 ≤ 1000; decide) ?_ fun H8 s8 => ?_
    · intro u hu H9 R s9 q
      obtain ⟨a, C, rfl, ev, b, nf⟩ := w7 u hu
      exact one_elt rfl rfl (fun _ _ q => q) (ev.same s9) rfl b nf (hy.same (sTr s2 (sTr s3 (sTr s6 (sTr s7 s9))))) q
    exact ⟨true, rfl, itF ⟨rfl, sTr s6 (sTr s7 s8)⟩⟩
  rintro σ' H8 ⟨rfl, s8⟩
  refine set_mk (v := x) rfl (Nat.le_of_ble_eq_true rfl) fun D9 xs9 H9 s9 n9 e9 v9 => ?_
  have w9 := v9.ew (K := K) (B0 := B0) (B1 := B1) (B2 := B2) (B3 := B3) (w := 2) (fun q hq => by
    simp only [List.mem_cons, List.not_mem_nil, or_false] at hq
    rcases hq with rfl | rfl <;> exact ⟨bf.b_CommandFailed, bf.n_CommandFailed_position⟩)
  obtain ⟨b9, b8, rfl, c9⟩ : ∃ b9 b8, xs9 = [.ref b9, .ref b8] ∧ EvAt H9 b9 c.CommandFailed [("position", x)] := by
    cases v9 with
    | cons p1 r1 =>
      obtain ⟨a, rfl, ha⟩ := p1
      cases r1 with
      | cons p2 r2 =>
        obtain ⟨b, rfl, hb⟩ := p2
        cases r2
        exact ⟨a, b, rfl, ha⟩
  refine ⟨fun σ' H' => σ' = [some (.ref p), some x, some y, some z, x4, x5, some (.ref Ln), x7, some (.ref D8), some (.ref D9), none] ∧ Same H9 H', ?_, ?_⟩
  · refine allB_go rfl e9 (by show 2 ≤ 1000; decide) ?_ fun H10 s10 => ?_
    · intro u hu H11 R s11 q
      obtain ⟨a, C, rfl, ev, b, nf⟩ := w9 u hu
      exact one_elt rfl rfl (fun _ _ q => q) (ev.same s11) rfl b nf (hx.same (sTr s2 (sTr s3 (sTr s8 (sTr s9 s11))))) q
    exact ⟨true, rfl, itF ⟨rfl, s10⟩⟩
  rintro σ' H10 ⟨rfl, s10⟩
  have s310 : Same H3 H10 := sTr s8 (sTr s9 s10)
  refine ⟨fun σ' H' => σ' = [some (.ref p), some x, some y, some z, x4, x5, some (.ref Ln), x7, some (.ref D8), some (.ref D9), none] ∧ Same H3 H', ?_, ?_⟩
  · refine ⟨_, rfl, Or.inl ⟨_, _, _, _, rfl, rfl, SqL.of (s310 _ _ e3), at0, ?_⟩⟩
    refine iso_go (c := .ref c.InvalidStretch) (cv := .ref c.InvalidStretch) (v1.same s310) bf.b_InvalidWidth.ex (fun u r => r) cn.no_InvalidWidth ?_
    refine ⟨_, rfl, itG ?_⟩
    refine ⟨_, rfl, Or.inl ⟨_, _, _, _, rfl, rfl, SqL.of (s310 _ _ e3), at13, ?_⟩⟩
    refine iso_go (c := .ref c.UnknownHop) (cv := .ref c.UnknownHop) (v2.same s310) bf.b_UnknownStretch.ex (fun u r => r) cn.no_UnknownStretch ?_
    refine ⟨_, rfl, itG ?_⟩
    refine ⟨_, rfl, Or.inl ⟨_, _, _, _, rfl, rfl, SqL.of (s10 _ _ e9), rfl, ?_⟩⟩
    refine iso_go (c := .ref c.NoOrder) (cv := .ref c.NoOrder) (c9.same s10) bf.b_CommandFailed.ex (fun u r => r) cn.no_CommandFailed ?_
    exact ⟨_, rfl, itG ⟨rfl, s310⟩⟩
  rintro σ' H11 ⟨rfl, s11⟩
  have sx : Same H1 H11 := sTr s2 (sTr s3 s11)
  refine ⟨_, rfl, _, rfl, ?_⟩
  refine pr_go (hy.same sx) (hz.same sx) fun H12 s12 => ?_
  refine ⟨true, rfl, itT ?_⟩
  repeat walk_at "s1"
  rename_i D nD
  refine lc_it walk_range (fun i H' => H' D = some (.lst ((List.replicate i true).map V.bl)) ∧ i ≤ 4 ∧ Same H12 H') ⟨upd_same, Nat.zero_le _, same_new nD⟩ (fun _ _ _ _ => trivial) ?_ ?_
  · rintro i u H13 H14 hi ⟨hD, h5, sm⟩ ⟨rfl, rfl⟩
    have hin : i < 4 := hi
    refine ⟨rfl, ?_⟩
    dsimp only [tYes]
    rw [if_pos rfl]
    refine ⟨_, rfl, _, rfl, ?_⟩
    rw [Int.zero_add]
    refine ct_go (n := i) (by omega) fun H15 s15 => ?_
    refine ⟨_, s15 _ _ hD, szt (by rw [List.length_map, List.length_replicate]; omega), ?_, by omega, fun b o e => updn (nonn nD e) (s15 b o (sm b o e))⟩
    rw [upd_same, List.replicate_succ', List.map_append]
    rfl
  · rintro H13 ⟨hD, h5, sm⟩
    refine ⟨D, List.replicate 4 true, rfl, SqL.of hD, ?_⟩
    rw [all_repT]
    exact kk H13 (sTr sx (sTr s12 sm))
end
open PySem PySem.Spec PyProof.Rows
open L2 hiding pass0
abbrev s_law : Stmt := top 54
theorem sc_law : FnScope ["_law_script", "_law_k"] ["_law_script"] (defScope s_law) := ⟨rfl, rfl, rfl, by decide +kernel, rfl, by decide +kernel, by decide +kernel⟩
def spLaw (K : PySem.W.Frag) : Sp := fun vs H Q _ => ∃ (a : Addr) (ns : List Int), vs = [.ref a] ∧ SqL K H a (ns.map V.int) ∧ ns.length ≤ 63 ∧ ∀ H', Q (.bl true) H'
section
variable {P : Program} {w : World} {K : PySem.W.Frag} {mg : Str → Option Value} {base : Heap} {f : Addr} {fd : FuncData}
theorem ok_law (F : Fun K "law" "law" s_law f fd) (hm : mg "law" = some (.ref f)) (T : Txt K mg) (c_law_pot : Nm P w K mg base CX0 1 "_law_pot" s_law_pot ["_law_script", "_law_k"] (spPot K)) (c_law_right : Nm P w K mg base CX0 5 "_law_right" s_law_right ["_law_pot_here"] (spLR)) : Nm P w K mg base CX0 6 "law" s_law ["_law_script"] (spLaw K) := by
  refine nm_of F hm sc_law (fun vs H Q E h => ?_) fun cdv A outer s H vs Q E hr h => ?_
  · obtain ⟨p, ns, rfl, _⟩ := h
    rfl
  obtain ⟨a, ns, rfl, hS, hl, k⟩ := h
  refine ⟨_, (pss_one (ps_ret (pe_callB (call_allK (K := K) rfl rfl) (by rfl) T.b_all (by decide +kernel) (pa_cons (pe_lc (own := [("_law_k", 1)]) (g := (gName 1)) (by rfl) sc_law.nd (pi_range1 (by rfl) T.b_range (pa_cons (pe_callB (call_max2 rfl) (by rfl) T.b_max (by decide +kernel) (pa_cons pe_int (pa_cons (pe_callB (call_min2 rfl) (by rfl) T.b_min (by decide +kernel) (pa_cons pe_int (pa_cons (pe_callB (call_lenK (K := K) rfl) (by rfl) T.b_len PySem.boot_len (pa_cons (pv 0) pa_nil)) pa_nil))) pa_nil))) pa_nil)) (blkOk_by (own := [("_law_k", 1)]) (N := ["_law_script", "_law_k"]) (sc := defScope s_law) (by decide +kernel)) (fun _ _ _ _ _ => (pg_name (i := 1) sc_law.nd rfl (by first | exact Or.inl rfl | exact Or.inr rfl))) (fun _ _ _ _ _ => pts_nil) (fun _ _ _ _ _ => (pe_g c_law_right hr (by decide) L2.pass0 bp_law_right (by rfl) (pa_cons (pe_g c_law_pot hr (by decide) L2.pass0 bp_law_pot (by rfl) (pa_cons (pv 0) (pa_cons (pv 1) pa_nil))) pa_nil)))) pa_nil)))), ?_⟩
  have hlen : ((ns.map V.int).length : Int) = (ns.length : Int) := by rw [List.length_map]
  repeat walk_at "s1"
  rename_i D nD
  refine lc_it walk_range (fun i H1 => H1 D = some (.lst ((List.replicate i true).map V.bl)) ∧ i ≤ 3 ∧ Same H H1) ⟨upd_same, by decide, same_new nD⟩ (fun _ _ _ _ => trivial) ?_ ?_
  · rintro i x H1 H2 hi ⟨hD, h5, sm⟩ ⟨rfl, rfl⟩
    have hi4 : i < 3 := by
      have q : i < Int.toNat (if (if ((ns.map V.int).length : Int) < 3 then ((ns.map V.int).length : Int) else 3) > 1 then (if ((ns.map V.int).length : Int) < 3 then ((ns.map V.int).length : Int) else 3) else 1) := hi
      split at q <;> (try split at q) <;> omega
    refine ⟨rfl, ?_⟩
    dsimp only [tYes]
    rw [if_pos rfl]
    repeat walk_at "s1"
    have hS2 : SqL K H2 a (ns.map V.int) := by
      rcases hS with (h | ⟨o, h⟩) | h
      · exact .inl (.inl (sm _ _ h))
      · exact .inl (.inr ⟨o, sm _ _ h⟩)
      · exact .inr h
    refine pot_go hS2 hl (by omega) (by omega) fun p H3 np hp s3 => ?_
    repeat walk_at "s1"
    refine lr_go hp fun H4 g4 => ?_
    have nDp : D ≠ p := nonn np hD
    have eD := g4.keep _ _ (s3 _ _ hD) nDp
    refine ⟨_, eD, szt (by rw [List.length_map, List.length_replicate]; omega), ?_, by omega, fun b o e => updn (nonn nD e) (g4.keep _ _ (s3 b o (sm b o e)) (nonn np (sm b o e)))⟩
    rw [upd_same, List.replicate_succ', List.map_append]
    rfl
  · rintro H1 ⟨hD, h5, sm⟩
    refine ⟨_, _, rfl, SqL.of hD, ?_⟩
    rw [all_repT]
    exact k H1
end
open PySem PySem.Spec PyProof.Rows
open L2 hiding pass0
theorem Nm.fn {P : Program} {w : World} {K : PySem.W.Frag} {mg : Str → Option Value} {base : Heap} {CX : CXT} {k : Nat} {x : Str} {st : Stmt} {ps : List Str} {sp : Sp} {f : Addr} {fd : FuncData} (c : Nm P w K mg base CX k x st ps sp) (F : Fun K x x st f fd) (hm : mg x = some (.ref f)) : FnG P w K mg base CX k f fd ps sp := by
  obtain ⟨f', fd', F', hm', G⟩ := c.ex
  obtain rfl : f' = f := by
    have e := hm'.symm.trans hm
    injection e with e
    injection e
  obtain ⟨_, _, _, _, _, _, _, _, _, _, l1, _⟩ := F.ex
  obtain ⟨_, _, _, _, _, _, _, _, _, _, l2, _⟩ := F'.ex
  have e := l2.symm.trans l1
  injection e with e
  injection e with _ _ e _
  injection e with e
  subst e
  exact G
theorem kitOfB {K : PySem.W.Frag} {C D : Addr} {b : Bool} (h1 : PySem.W.isClsIn K C = true) (h2 : PySem.W.typeIn K (.ref C) = some (.type "type")) (hs : PySem.W.subIn K (.ref C) (.ref C) = some true) (h3 : PySem.W.subIn K (.ref D) (.ref C) = some b) : PySem.W.kitOne K (.ref D) (.ref C) = some b := by
  have h4 : (PySem.W.clsIn K C).isSome = true := by
    unfold PySem.W.isClsIn at h1
    unfold PySem.W.clsIn
    first
      | exact h1
      | (split at h1 <;> simp_all)
  unfold PySem.W.kitOne
  by_cases q : (Value.ref D == Value.ref C) = true
  · rw [if_pos q]
    have e : Value.ref D = Value.ref C := beq_iff_eq.mp q
    rw [e, hs] at h3
    exact h3
  · rw [if_neg q]
    unfold PySem.W.kitCls
    dsimp only
    rw [if_pos (by rw [h4, h2]; exact Bool.and_eq_true_iff.mpr ⟨rfl, beq_self_eq_true _⟩)]
    exact h3
theorem kitTyB {K : PySem.W.Frag} {D : Addr} {T : String} {b : Bool} (m : PySem.W.kitMeta T = true) (h : PySem.W.subIn K (.ref D) (.type T) = some b) : PySem.W.kitOne K (.ref D) (.type T) = some b := by
  unfold PySem.W.kitOne
  have e : (Value.ref D == Value.type T) = false := rfl
  rw [e, if_neg Bool.false_ne_true]
  unfold PySem.W.kitCls
  dsimp only
  rw [if_pos m]
  exact h
theorem any3 {K : PySem.W.Frag} {v a b d : Value} {x y z : Bool} (h1 : PySem.W.exmOne K v a = some x) (h2 : PySem.W.exmOne K v b = some y) (h3 : PySem.W.exmOne K v d = some z) : PySem.W.exmAny K v [a, b, d] = some (x || (y || (z || false))) := by
  simp only [PySem.W.exmAny, h1, h2, h3]
theorem any4 {K : PySem.W.Frag} {v a b d e : Value} {x y z u : Bool} (h1 : PySem.W.exmOne K v a = some x) (h2 : PySem.W.exmOne K v b = some y) (h3 : PySem.W.exmOne K v d = some z) (h4 : PySem.W.exmOne K v e = some u) : PySem.W.exmAny K v [a, b, d, e] = some (x || (y || (z || (u || false)))) := by
  simp only [PySem.W.exmAny, h1, h2, h3, h4]
theorem all_mk {l : PySem.W.OpenLaw} {w : World} {K : PySem.W.Frag} {h : Heap} {mg : Str → Option Value} {fa   f0 f1 f2 f3 f4 f5 f6 f7 f8 f9 f10 f11 f12 : Addr} (X : K.In h) (G : h.Ns mainGlobals mg) (hfa : mg "law" = some (.ref fa))
    {od0 an0 od1 an1 od2 an2 od3 an3 od4 an4 od5 an5 od6 an6 od7 an7 od8 an8 od9 an9 od10 an10 od11 an11 od12 an12 : Option Addr} {sl0 sl1 sl2 sl3 sl4 sl5 sl6 sl7 sl8 sl9 sl10 sl11 sl12 : Array (Option Value)} {oc0 kV0 dc0 pm0 cd0 ct0 oc1 kV1 dc1 pm1 cd1 ct1 oc2 kV2 dc2 pm2 cd2 ct2 oc3 kV3 dc3 pm3 cd3 ct3 oc4 kV4 dc4 pm4 cd4 ct4 oc5 kV5 dc5 pm5 cd5 ct5 oc6 kV6 dc6 pm6 cd6 ct6 oc7 kV7 dc7 pm7 cd7 ct7 oc8 kV8 dc8 pm8 cd8 ct8 oc9 kV9 dc9 pm9 cd9 ct9 oc10 kV10 dc10 pm10 cd10 ct10 oc11 kV11 dc11 pm11 cd11 ct11 oc12 kV12 dc12 pm12 cd12 ct12 : Value}
    (a0 : PySem.W.nsIn K mainGlobals "_law_pot" = some (some (.ref f0))) (l0 : K.lookup f0 = some ⟨oc0, od0, .func (PySem.W.fnOf "_law_pot" "_law_pot" (defArgs s_law_pot) (defBody s_law_pot) (defScope s_law_pot) .none kV0 dc0 pm0 an0 cd0 ct0), sl0⟩) (q0 : PySem.W.codeIn K cd0 "_law_pot" = true) (k0 : PySem.W.keepIn K (.ref f0) = true)
    (a1 : PySem.W.nsIn K mainGlobals "_law_draw" = some (some (.ref f1))) (l1 : K.lookup f1 = some ⟨oc1, od1, .func (PySem.W.fnOf "_law_draw" "_law_draw" (defArgs s_law_draw) (defBody s_law_draw) (defScope s_law_draw) .none kV1 dc1 pm1 an1 cd1 ct1), sl1⟩) (q1 : PySem.W.codeIn K cd1 "_law_draw" = true) (k1 : PySem.W.keepIn K (.ref f1) = true)
    (a2 : PySem.W.nsIn K mainGlobals "_law_among" = some (some (.ref f2))) (l2 : K.lookup f2 = some ⟨oc2, od2, .func (PySem.W.fnOf "_law_among" "_law_among" (defArgs s_law_among) (defBody s_law_among) (defScope s_law_among) .none kV2 dc2 pm2 an2 cd2 ct2), sl2⟩) (q2 : PySem.W.codeIn K cd2 "_law_among" = true) (k2 : PySem.W.keepIn K (.ref f2) = true)
    (a3 : PySem.W.nsIn K mainGlobals "_law_values" = some (some (.ref f3))) (l3 : K.lookup f3 = some ⟨oc3, od3, .func (PySem.W.fnOf "_law_values" "_law_values" (defArgs s_law_values) (defBody s_law_values) (defScope s_law_values) .none kV3 dc3 pm3 an3 cd3 ct3), sl3⟩) (q3 : PySem.W.codeIn K cd3 "_law_values" = true) (k3 : PySem.W.keepIn K (.ref f3) = true)
    (a4 : PySem.W.nsIn K mainGlobals "_law_of_value" = some (some (.ref f4))) (l4 : K.lookup f4 = some ⟨oc4, od4, .func (PySem.W.fnOf "_law_of_value" "_law_of_value" (defArgs s_law_of_value) (defBody s_law_of_value) (defScope s_law_of_value) .none kV4 dc4 pm4 an4 cd4 ct4), sl4⟩) (q4 : PySem.W.codeIn K cd4 "_law_of_value" = true) (k4 : PySem.W.keepIn K (.ref f4) = true)
    (a5 : PySem.W.nsIn K mainGlobals "_law_named" = some (some (.ref f5))) (l5 : K.lookup f5 = some ⟨oc5, od5, .func (PySem.W.fnOf "_law_named" "_law_named" (defArgs s_law_named) (defBody s_law_named) (defScope s_law_named) .none kV5 dc5 pm5 an5 cd5 ct5), sl5⟩) (q5 : PySem.W.codeIn K cd5 "_law_named" = true) (k5 : PySem.W.keepIn K (.ref f5) = true)
    (a6 : PySem.W.nsIn K mainGlobals "_law_of_place" = some (some (.ref f6))) (l6 : K.lookup f6 = some ⟨oc6, od6, .func (PySem.W.fnOf "_law_of_place" "_law_of_place" (defArgs s_law_of_place) (defBody s_law_of_place) (defScope s_law_of_place) .none kV6 dc6 pm6 an6 cd6 ct6), sl6⟩) (q6 : PySem.W.codeIn K cd6 "_law_of_place" = true) (k6 : PySem.W.keepIn K (.ref f6) = true)
    (a7 : PySem.W.nsIn K mainGlobals "_law_branches" = some (some (.ref f7))) (l7 : K.lookup f7 = some ⟨oc7, od7, .func (PySem.W.fnOf "_law_branches" "_law_branches" (defArgs s_law_branches) (defBody s_law_branches) (defScope s_law_branches) .none kV7 dc7 pm7 an7 cd7 ct7), sl7⟩) (q7 : PySem.W.codeIn K cd7 "_law_branches" = true) (k7 : PySem.W.keepIn K (.ref f7) = true)
    (a8 : PySem.W.nsIn K mainGlobals "_law_on" = some (some (.ref f8))) (l8 : K.lookup f8 = some ⟨oc8, od8, .func (PySem.W.fnOf "_law_on" "_law_on" (defArgs s_law_on) (defBody s_law_on) (defScope s_law_on) .none kV8 dc8 pm8 an8 cd8 ct8), sl8⟩) (q8 : PySem.W.codeIn K cd8 "_law_on" = true) (k8 : PySem.W.keepIn K (.ref f8) = true)
    (a9 : PySem.W.nsIn K mainGlobals "_law_pairs_right" = some (some (.ref f9))) (l9 : K.lookup f9 = some ⟨oc9, od9, .func (PySem.W.fnOf "_law_pairs_right" "_law_pairs_right" (defArgs s_law_pairs_right) (defBody s_law_pairs_right) (defScope s_law_pairs_right) .none kV9 dc9 pm9 an9 cd9 ct9), sl9⟩) (q9 : PySem.W.codeIn K cd9 "_law_pairs_right" = true) (k9 : PySem.W.keepIn K (.ref f9) = true)
    (a10 : PySem.W.nsIn K mainGlobals "_law_caught" = some (some (.ref f10))) (l10 : K.lookup f10 = some ⟨oc10, od10, .func (PySem.W.fnOf "_law_caught" "_law_caught" (defArgs s_law_caught) (defBody s_law_caught) (defScope s_law_caught) .none kV10 dc10 pm10 an10 cd10 ct10), sl10⟩) (q10 : PySem.W.codeIn K cd10 "_law_caught" = true) (k10 : PySem.W.keepIn K (.ref f10) = true)
    (a11 : PySem.W.nsIn K mainGlobals "_law_right" = some (some (.ref f11))) (l11 : K.lookup f11 = some ⟨oc11, od11, .func (PySem.W.fnOf "_law_right" "_law_right" (defArgs s_law_right) (defBody s_law_right) (defScope s_law_right) .none kV11 dc11 pm11 an11 cd11 ct11), sl11⟩) (q11 : PySem.W.codeIn K cd11 "_law_right" = true) (k11 : PySem.W.keepIn K (.ref f11) = true)
    (a12 : PySem.W.nsIn K mainGlobals "law" = some (some (.ref f12))) (l12 : K.lookup f12 = some ⟨oc12, od12, .func (PySem.W.fnOf "law" "law" (defArgs s_law) (defBody s_law) (defScope s_law) .none kV12 dc12 pm12 an12 cd12 ct12), sl12⟩) (q12 : PySem.W.codeIn K cd12 "law" = true) (k12 : PySem.W.keepIn K (.ref f12) = true)
    (z0 : PySem.W.nsIn K mainGlobals "len" = some none)
    (z1 : PySem.W.nsIn K mainGlobals "abs" = some none)
    (z2 : PySem.W.nsIn K mainGlobals "max" = some none)
    (z3 : PySem.W.nsIn K mainGlobals "min" = some none)
    (z4 : PySem.W.nsIn K mainGlobals "int" = some none)
    (z5 : PySem.W.nsIn K mainGlobals "divmod" = some none)
    (z6 : PySem.W.nsIn K mainGlobals "range" = some none)
    (z7 : PySem.W.nsIn K mainGlobals "repr" = some none)
    (z8 : PySem.W.nsIn K mainGlobals "all" = some none)
    (z9 : PySem.W.nsIn K mainGlobals "str" = some none)
    (z10 : PySem.W.nsIn K mainGlobals "bool" = some none)
    (z11 : PySem.W.nsIn K mainGlobals "isinstance" = some none)
    (z12 : PySem.W.nsIn K mainGlobals "tuple" = some none)
    (z13 : PySem.W.nsIn K mainGlobals "dict" = some none)
    (z14 : PySem.W.nsIn K mainGlobals "list" = some none)
    (z15 : PySem.W.nsIn K mainGlobals "sorted" = some none)
    (z16 : PySem.W.nsIn K mainGlobals "zip" = some none)
    (z17 : PySem.W.nsIn K mainGlobals "enumerate" = some none)
    (z18 : PySem.W.nsIn K mainGlobals "sum" = some none)
    (z19 : PySem.W.nsIn K mainGlobals "super" = some none)
    (z20 : PySem.W.nsIn K mainGlobals "ValueError" = some none)
    (z21 : PySem.W.nsIn K mainGlobals "LookupError" = some none)
    (z22 : PySem.W.nsIn K mainGlobals "RuntimeError" = some none)
    (z23 : PySem.W.nsIn K mainGlobals "ArithmeticError" = some none)
    (z24 : PySem.W.nsIn K mainGlobals "any" = some none)
    {B0 B1 B2 B3 : Addr} (hn : PySem.W.specialIn K (.builtin "object.__class__") "__get__" = some (some (.builtin "getset_descriptor.__get__"))) (ht : PySem.W.takesIn K (.builtin "object.__class__") = some true) (tp : (l.prog.main.scope.names.lookup ("super" : Str)).isSome = false) (ny : PySem.W.nsIn K cStatics "thirdparty.any" = some none)
    (aB0 : PySem.W.nsIn K mainGlobals "CoverError" = some (some (.ref B0))) (iB0 : PySem.W.isClsIn K B0 = true) (tB0 : PySem.W.typeIn K (.ref B0) = some (.type "type")) (eB0 : PySem.W.subIn K (.ref B0) (.type "BaseException") = some true) (dB0 : PySem.W.hasDictIn K B0 = true) (rB0 : PySem.W.subIn K (.ref B0) (.ref B0) = some true)
    (aB1 : PySem.W.nsIn K mainGlobals "MissingError" = some (some (.ref B1))) (iB1 : PySem.W.isClsIn K B1 = true) (tB1 : PySem.W.typeIn K (.ref B1) = some (.type "type")) (eB1 : PySem.W.subIn K (.ref B1) (.type "BaseException") = some true) (dB1 : PySem.W.hasDictIn K B1 = true) (rB1 : PySem.W.subIn K (.ref B1) (.ref B1) = some true)
    (aB2 : PySem.W.nsIn K mainGlobals "StateError" = some (some (.ref B2))) (iB2 : PySem.W.isClsIn K B2 = true) (tB2 : PySem.W.typeIn K (.ref B2) = some (.type "type")) (eB2 : PySem.W.subIn K (.ref B2) (.type "BaseException") = some true) (dB2 : PySem.W.hasDictIn K B2 = true) (rB2 : PySem.W.subIn K (.ref B2) (.ref B2) = some true)
    (aB3 : PySem.W.nsIn K mainGlobals "LimitError" = some (some (.ref B3))) (iB3 : PySem.W.isClsIn K B3 = true) (tB3 : PySem.W.typeIn K (.ref B3) = some (.type "type")) (eB3 : PySem.W.subIn K (.ref B3) (.type "BaseException") = some true) (dB3 : PySem.W.hasDictIn K B3 = true) (rB3 : PySem.W.subIn K (.ref B3) (.ref B3) = some true)
    {C_InvalidWidth : Addr} {nm_InvalidWidth q_InvalidWidth : Str} {N_InvalidWidth fI_InvalidWidth cc_InvalidWidth cda_InvalidWidth : Addr} {bs_InvalidWidth : List Value} {sn_InvalidWidth : List Str} {sub_InvalidWidth : List Value} {ab_InvalidWidth : Bool} {col_InvalidWidth : Option Bool} {dd_InvalidWidth od_InvalidWidth an_InvalidWidth cd1_InvalidWidth cd2_InvalidWidth : Option Addr} {m0_InvalidWidth m1_InvalidWidth m2_InvalidWidth m3_InvalidWidth m5_InvalidWidth : Option Value} {oc_InvalidWidth kV_InvalidWidth dc_InvalidWidth pm_InvalidWidth ct_InvalidWidth cl1_InvalidWidth cl2_InvalidWidth : Value} {osl_InvalidWidth sl1_InvalidWidth sl2_InvalidWidth : Array (Option Value)} {vs_InvalidWidth : Array Value} {fi_InvalidWidth : Str} {tf_InvalidWidth : Tok} (aC_InvalidWidth : PySem.W.nsIn K mainGlobals "InvalidWidth" = some (some (.ref C_InvalidWidth))) (xL_InvalidWidth : K.lookup C_InvalidWidth = some (excClassObj nm_InvalidWidth q_InvalidWidth C_InvalidWidth N_InvalidWidth bs_InvalidWidth [.ref B0, .type "ValueError", .type "Exception", .type "BaseException", .type "object"] true sn_InvalidWidth sub_InvalidWidth ab_InvalidWidth col_InvalidWidth dd_InvalidWidth m0_InvalidWidth m1_InvalidWidth m2_InvalidWidth m3_InvalidWidth m5_InvalidWidth "ValueError.__new__")) (sa_InvalidWidth : PySem.W.findIn K (.ref C_InvalidWidth) "__setattr__" = some (some (.builtin "object.__setattr__"))) (eC_InvalidWidth : PySem.W.subIn K (.ref C_InvalidWidth) (.type "BaseException") = some true) (tC_InvalidWidth : PySem.W.typeIn K (.ref C_InvalidWidth) = some (.type "type")) (kC_InvalidWidth : PySem.W.keepIn K (.ref C_InvalidWidth) = true) (iI_InvalidWidth : PySem.W.findIn K (.ref C_InvalidWidth) "__init__" = some (some (.ref fI_InvalidWidth))) (tI_InvalidWidth : PySem.W.typeIn K (.ref fI_InvalidWidth) = some (.type "function")) (lk_InvalidWidth : K.lookup fI_InvalidWidth = some ⟨oc_InvalidWidth, od_InvalidWidth, .func (PySem.W.fnX "__init__" "InvalidWidth.__init__" (defArgs s_InvalidWidth_init) (defBody s_InvalidWidth_init) (defScope s_InvalidWidth_init) [(("__class__" : Str), cc_InvalidWidth)] .none kV_InvalidWidth dc_InvalidWidth pm_InvalidWidth an_InvalidWidth (.ref cda_InvalidWidth) ct_InvalidWidth), osl_InvalidWidth⟩) (ce_InvalidWidth : K.lookup cc_InvalidWidth = some ⟨cl1_InvalidWidth, cd1_InvalidWidth, .cell (some (.ref C_InvalidWidth)), sl1_InvalidWidth⟩) (co_InvalidWidth : K.lookup cda_InvalidWidth = some ⟨cl2_InvalidWidth, cd2_InvalidWidth, .fields vs_InvalidWidth, sl2_InvalidWidth⟩) (vf_InvalidWidth : vs_InvalidWidth[2]? = some (.str fi_InvalidWidth tf_InvalidWidth)) (mf_InvalidWidth : ((l.prog.main.file : Str) == fi_InvalidWidth) = true) (rc_InvalidWidth : PySem.W.codeIn K (.ref cda_InvalidWidth) "InvalidWidth.__init__" = true) (ow_InvalidWidth : PySem.W.ks_superIn K C_InvalidWidth C_InvalidWidth "__init__" = some (some (.builtin "ValueError.__init__"))) (mr_InvalidWidth : PySem.W.mroIn K C_InvalidWidth (.ref C_InvalidWidth) = some true) (no0_InvalidWidth : PySem.W.findIn K (.ref C_InvalidWidth) "value" = some none) (ga_InvalidWidth : PySem.W.findIn K (.ref C_InvalidWidth) "__getattribute__" = some (some (.builtin "BaseException.__getattribute__"))) (gg_InvalidWidth : PySem.W.findIn K (.ref C_InvalidWidth) "__getattr__" = some none) (hd_InvalidWidth : PySem.W.hasDictIn K C_InvalidWidth = true) (fc_InvalidWidth : PySem.W.findIn K (.ref C_InvalidWidth) "__class__" = some (some (.builtin "object.__class__"))) (mo_InvalidWidth : PySem.W.mroIn K C_InvalidWidth (.type "object") = some true) (u0_InvalidWidth : PySem.W.subIn K (.ref C_InvalidWidth) (.ref B0) = some true) (v0_InvalidWidth : PySem.W.subIn K (.ref C_InvalidWidth) (.type "ValueError") = some true) (u1_InvalidWidth : PySem.W.subIn K (.ref C_InvalidWidth) (.ref B1) = some false) (v1_InvalidWidth : PySem.W.subIn K (.ref C_InvalidWidth) (.type "LookupError") = some false) (u2_InvalidWidth : PySem.W.subIn K (.ref C_InvalidWidth) (.ref B2) = some false) (v2_InvalidWidth : PySem.W.subIn K (.ref C_InvalidWidth) (.type "RuntimeError") = some false) (u3_InvalidWidth : PySem.W.subIn K (.ref C_InvalidWidth) (.ref B3) = some false) (v3_InvalidWidth : PySem.W.subIn K (.ref C_InvalidWidth) (.type "ArithmeticError") = some false)
    {C_InvalidStretch : Addr} {nm_InvalidStretch q_InvalidStretch : Str} {N_InvalidStretch fI_InvalidStretch cc_InvalidStretch cda_InvalidStretch : Addr} {bs_InvalidStretch : List Value} {sn_InvalidStretch : List Str} {sub_InvalidStretch : List Value} {ab_InvalidStretch : Bool} {col_InvalidStretch : Option Bool} {dd_InvalidStretch od_InvalidStretch an_InvalidStretch cd1_InvalidStretch cd2_InvalidStretch : Option Addr} {m0_InvalidStretch m1_InvalidStretch m2_InvalidStretch m3_InvalidStretch m5_InvalidStretch : Option Value} {oc_InvalidStretch kV_InvalidStretch dc_InvalidStretch pm_InvalidStretch ct_InvalidStretch cl1_InvalidStretch cl2_InvalidStretch : Value} {osl_InvalidStretch sl1_InvalidStretch sl2_InvalidStretch : Array (Option Value)} {vs_InvalidStretch : Array Value} {fi_InvalidStretch : Str} {tf_InvalidStretch : Tok} (aC_InvalidStretch : PySem.W.nsIn K mainGlobals "InvalidStretch" = some (some (.ref C_InvalidStretch))) (xL_InvalidStretch : K.lookup C_InvalidStretch = some (excClassObj nm_InvalidStretch q_InvalidStretch C_InvalidStretch N_InvalidStretch bs_InvalidStretch [.ref B0, .type "ValueError", .type "Exception", .type "BaseException", .type "object"] true sn_InvalidStretch sub_InvalidStretch ab_InvalidStretch col_InvalidStretch dd_InvalidStretch m0_InvalidStretch m1_InvalidStretch m2_InvalidStretch m3_InvalidStretch m5_InvalidStretch "ValueError.__new__")) (sa_InvalidStretch : PySem.W.findIn K (.ref C_InvalidStretch) "__setattr__" = some (some (.builtin "object.__setattr__"))) (eC_InvalidStretch : PySem.W.subIn K (.ref C_InvalidStretch) (.type "BaseException") = some true) (tC_InvalidStretch : PySem.W.typeIn K (.ref C_InvalidStretch) = some (.type "type")) (kC_InvalidStretch : PySem.W.keepIn K (.ref C_InvalidStretch) = true) (iI_InvalidStretch : PySem.W.findIn K (.ref C_InvalidStretch) "__init__" = some (some (.ref fI_InvalidStretch))) (tI_InvalidStretch : PySem.W.typeIn K (.ref fI_InvalidStretch) = some (.type "function")) (lk_InvalidStretch : K.lookup fI_InvalidStretch = some ⟨oc_InvalidStretch, od_InvalidStretch, .func (PySem.W.fnX "__init__" "InvalidStretch.__init__" (defArgs s_InvalidStretch_init) (defBody s_InvalidStretch_init) (defScope s_InvalidStretch_init) [(("__class__" : Str), cc_InvalidStretch)] .none kV_InvalidStretch dc_InvalidStretch pm_InvalidStretch an_InvalidStretch (.ref cda_InvalidStretch) ct_InvalidStretch), osl_InvalidStretch⟩) (ce_InvalidStretch : K.lookup cc_InvalidStretch = some ⟨cl1_InvalidStretch, cd1_InvalidStretch, .cell (some (.ref C_InvalidStretch)), sl1_InvalidStretch⟩) (co_InvalidStretch : K.lookup cda_InvalidStretch = some ⟨cl2_InvalidStretch, cd2_InvalidStretch, .fields vs_InvalidStretch, sl2_InvalidStretch⟩) (vf_InvalidStretch : vs_InvalidStretch[2]? = some (.str fi_InvalidStretch tf_InvalidStretch)) (mf_InvalidStretch : ((l.prog.main.file : Str) == fi_InvalidStretch) = true) (rc_InvalidStretch : PySem.W.codeIn K (.ref cda_InvalidStretch) "InvalidStretch.__init__" = true) (ow_InvalidStretch : PySem.W.ks_superIn K C_InvalidStretch C_InvalidStretch "__init__" = some (some (.builtin "ValueError.__init__"))) (mr_InvalidStretch : PySem.W.mroIn K C_InvalidStretch (.ref C_InvalidStretch) = some true) (no0_InvalidStretch : PySem.W.findIn K (.ref C_InvalidStretch) "value" = some none) (ga_InvalidStretch : PySem.W.findIn K (.ref C_InvalidStretch) "__getattribute__" = some (some (.builtin "BaseException.__getattribute__"))) (gg_InvalidStretch : PySem.W.findIn K (.ref C_InvalidStretch) "__getattr__" = some none) (hd_InvalidStretch : PySem.W.hasDictIn K C_InvalidStretch = true) (fc_InvalidStretch : PySem.W.findIn K (.ref C_InvalidStretch) "__class__" = some (some (.builtin "object.__class__"))) (mo_InvalidStretch : PySem.W.mroIn K C_InvalidStretch (.type "object") = some true) (u0_InvalidStretch : PySem.W.subIn K (.ref C_InvalidStretch) (.ref B0) = some true) (v0_InvalidStretch : PySem.W.subIn K (.ref C_InvalidStretch) (.type "ValueError") = some true) (u1_InvalidStretch : PySem.W.subIn K (.ref C_InvalidStretch) (.ref B1) = some false) (v1_InvalidStretch : PySem.W.subIn K (.ref C_InvalidStretch) (.type "LookupError") = some false) (u2_InvalidStretch : PySem.W.subIn K (.ref C_InvalidStretch) (.ref B2) = some false) (v2_InvalidStretch : PySem.W.subIn K (.ref C_InvalidStretch) (.type "RuntimeError") = some false) (u3_InvalidStretch : PySem.W.subIn K (.ref C_InvalidStretch) (.ref B3) = some false) (v3_InvalidStretch : PySem.W.subIn K (.ref C_InvalidStretch) (.type "ArithmeticError") = some false)
    {C_InvalidStretches : Addr} {nm_InvalidStretches q_InvalidStretches : Str} {N_InvalidStretches fI_InvalidStretches cc_InvalidStretches cda_InvalidStretches : Addr} {bs_InvalidStretches : List Value} {sn_InvalidStretches : List Str} {sub_InvalidStretches : List Value} {ab_InvalidStretches : Bool} {col_InvalidStretches : Option Bool} {dd_InvalidStretches od_InvalidStretches an_InvalidStretches cd1_InvalidStretches cd2_InvalidStretches : Option Addr} {m0_InvalidStretches m1_InvalidStretches m2_InvalidStretches m3_InvalidStretches m5_InvalidStretches : Option Value} {oc_InvalidStretches kV_InvalidStretches dc_InvalidStretches pm_InvalidStretches ct_InvalidStretches cl1_InvalidStretches cl2_InvalidStretches : Value} {osl_InvalidStretches sl1_InvalidStretches sl2_InvalidStretches : Array (Option Value)} {vs_InvalidStretches : Array Value} {fi_InvalidStretches : Str} {tf_InvalidStretches : Tok} (aC_InvalidStretches : PySem.W.nsIn K mainGlobals "InvalidStretches" = some (some (.ref C_InvalidStretches))) (xL_InvalidStretches : K.lookup C_InvalidStretches = some (excClassObj nm_InvalidStretches q_InvalidStretches C_InvalidStretches N_InvalidStretches bs_InvalidStretches [.ref B0, .type "ValueError", .type "Exception", .type "BaseException", .type "object"] true sn_InvalidStretches sub_InvalidStretches ab_InvalidStretches col_InvalidStretches dd_InvalidStretches m0_InvalidStretches m1_InvalidStretches m2_InvalidStretches m3_InvalidStretches m5_InvalidStretches "ValueError.__new__")) (sa_InvalidStretches : PySem.W.findIn K (.ref C_InvalidStretches) "__setattr__" = some (some (.builtin "object.__setattr__"))) (eC_InvalidStretches : PySem.W.subIn K (.ref C_InvalidStretches) (.type "BaseException") = some true) (tC_InvalidStretches : PySem.W.typeIn K (.ref C_InvalidStretches) = some (.type "type")) (kC_InvalidStretches : PySem.W.keepIn K (.ref C_InvalidStretches) = true) (iI_InvalidStretches : PySem.W.findIn K (.ref C_InvalidStretches) "__init__" = some (some (.ref fI_InvalidStretches))) (tI_InvalidStretches : PySem.W.typeIn K (.ref fI_InvalidStretches) = some (.type "function")) (lk_InvalidStretches : K.lookup fI_InvalidStretches = some ⟨oc_InvalidStretches, od_InvalidStretches, .func (PySem.W.fnX "__init__" "InvalidStretches.__init__" (defArgs s_InvalidStretches_init) (defBody s_InvalidStretches_init) (defScope s_InvalidStretches_init) [(("__class__" : Str), cc_InvalidStretches)] .none kV_InvalidStretches dc_InvalidStretches pm_InvalidStretches an_InvalidStretches (.ref cda_InvalidStretches) ct_InvalidStretches), osl_InvalidStretches⟩) (ce_InvalidStretches : K.lookup cc_InvalidStretches = some ⟨cl1_InvalidStretches, cd1_InvalidStretches, .cell (some (.ref C_InvalidStretches)), sl1_InvalidStretches⟩) (co_InvalidStretches : K.lookup cda_InvalidStretches = some ⟨cl2_InvalidStretches, cd2_InvalidStretches, .fields vs_InvalidStretches, sl2_InvalidStretches⟩) (vf_InvalidStretches : vs_InvalidStretches[2]? = some (.str fi_InvalidStretches tf_InvalidStretches)) (mf_InvalidStretches : ((l.prog.main.file : Str) == fi_InvalidStretches) = true) (rc_InvalidStretches : PySem.W.codeIn K (.ref cda_InvalidStretches) "InvalidStretches.__init__" = true) (ow_InvalidStretches : PySem.W.ks_superIn K C_InvalidStretches C_InvalidStretches "__init__" = some (some (.builtin "ValueError.__init__"))) (mr_InvalidStretches : PySem.W.mroIn K C_InvalidStretches (.ref C_InvalidStretches) = some true) (no0_InvalidStretches : PySem.W.findIn K (.ref C_InvalidStretches) "position" = some none) (ga_InvalidStretches : PySem.W.findIn K (.ref C_InvalidStretches) "__getattribute__" = some (some (.builtin "BaseException.__getattribute__"))) (gg_InvalidStretches : PySem.W.findIn K (.ref C_InvalidStretches) "__getattr__" = some none) (hd_InvalidStretches : PySem.W.hasDictIn K C_InvalidStretches = true) (fc_InvalidStretches : PySem.W.findIn K (.ref C_InvalidStretches) "__class__" = some (some (.builtin "object.__class__"))) (mo_InvalidStretches : PySem.W.mroIn K C_InvalidStretches (.type "object") = some true) (u0_InvalidStretches : PySem.W.subIn K (.ref C_InvalidStretches) (.ref B0) = some true) (v0_InvalidStretches : PySem.W.subIn K (.ref C_InvalidStretches) (.type "ValueError") = some true) (u1_InvalidStretches : PySem.W.subIn K (.ref C_InvalidStretches) (.ref B1) = some false) (v1_InvalidStretches : PySem.W.subIn K (.ref C_InvalidStretches) (.type "LookupError") = some false) (u2_InvalidStretches : PySem.W.subIn K (.ref C_InvalidStretches) (.ref B2) = some false) (v2_InvalidStretches : PySem.W.subIn K (.ref C_InvalidStretches) (.type "RuntimeError") = some false) (u3_InvalidStretches : PySem.W.subIn K (.ref C_InvalidStretches) (.ref B3) = some false) (v3_InvalidStretches : PySem.W.subIn K (.ref C_InvalidStretches) (.type "ArithmeticError") = some false)
    {C_InvalidAddress : Addr} {nm_InvalidAddress q_InvalidAddress : Str} {N_InvalidAddress fI_InvalidAddress cc_InvalidAddress cda_InvalidAddress : Addr} {bs_InvalidAddress : List Value} {sn_InvalidAddress : List Str} {sub_InvalidAddress : List Value} {ab_InvalidAddress : Bool} {col_InvalidAddress : Option Bool} {dd_InvalidAddress od_InvalidAddress an_InvalidAddress cd1_InvalidAddress cd2_InvalidAddress : Option Addr} {m0_InvalidAddress m1_InvalidAddress m2_InvalidAddress m3_InvalidAddress m5_InvalidAddress : Option Value} {oc_InvalidAddress kV_InvalidAddress dc_InvalidAddress pm_InvalidAddress ct_InvalidAddress cl1_InvalidAddress cl2_InvalidAddress : Value} {osl_InvalidAddress sl1_InvalidAddress sl2_InvalidAddress : Array (Option Value)} {vs_InvalidAddress : Array Value} {fi_InvalidAddress : Str} {tf_InvalidAddress : Tok} (aC_InvalidAddress : PySem.W.nsIn K mainGlobals "InvalidAddress" = some (some (.ref C_InvalidAddress))) (xL_InvalidAddress : K.lookup C_InvalidAddress = some (excClassObj nm_InvalidAddress q_InvalidAddress C_InvalidAddress N_InvalidAddress bs_InvalidAddress [.ref B0, .type "ValueError", .type "Exception", .type "BaseException", .type "object"] true sn_InvalidAddress sub_InvalidAddress ab_InvalidAddress col_InvalidAddress dd_InvalidAddress m0_InvalidAddress m1_InvalidAddress m2_InvalidAddress m3_InvalidAddress m5_InvalidAddress "ValueError.__new__")) (sa_InvalidAddress : PySem.W.findIn K (.ref C_InvalidAddress) "__setattr__" = some (some (.builtin "object.__setattr__"))) (eC_InvalidAddress : PySem.W.subIn K (.ref C_InvalidAddress) (.type "BaseException") = some true) (tC_InvalidAddress : PySem.W.typeIn K (.ref C_InvalidAddress) = some (.type "type")) (kC_InvalidAddress : PySem.W.keepIn K (.ref C_InvalidAddress) = true) (iI_InvalidAddress : PySem.W.findIn K (.ref C_InvalidAddress) "__init__" = some (some (.ref fI_InvalidAddress))) (tI_InvalidAddress : PySem.W.typeIn K (.ref fI_InvalidAddress) = some (.type "function")) (lk_InvalidAddress : K.lookup fI_InvalidAddress = some ⟨oc_InvalidAddress, od_InvalidAddress, .func (PySem.W.fnX "__init__" "InvalidAddress.__init__" (defArgs s_InvalidAddress_init) (defBody s_InvalidAddress_init) (defScope s_InvalidAddress_init) [(("__class__" : Str), cc_InvalidAddress)] .none kV_InvalidAddress dc_InvalidAddress pm_InvalidAddress an_InvalidAddress (.ref cda_InvalidAddress) ct_InvalidAddress), osl_InvalidAddress⟩) (ce_InvalidAddress : K.lookup cc_InvalidAddress = some ⟨cl1_InvalidAddress, cd1_InvalidAddress, .cell (some (.ref C_InvalidAddress)), sl1_InvalidAddress⟩) (co_InvalidAddress : K.lookup cda_InvalidAddress = some ⟨cl2_InvalidAddress, cd2_InvalidAddress, .fields vs_InvalidAddress, sl2_InvalidAddress⟩) (vf_InvalidAddress : vs_InvalidAddress[2]? = some (.str fi_InvalidAddress tf_InvalidAddress)) (mf_InvalidAddress : ((l.prog.main.file : Str) == fi_InvalidAddress) = true) (rc_InvalidAddress : PySem.W.codeIn K (.ref cda_InvalidAddress) "InvalidAddress.__init__" = true) (ow_InvalidAddress : PySem.W.ks_superIn K C_InvalidAddress C_InvalidAddress "__init__" = some (some (.builtin "ValueError.__init__"))) (mr_InvalidAddress : PySem.W.mroIn K C_InvalidAddress (.ref C_InvalidAddress) = some true) (no0_InvalidAddress : PySem.W.findIn K (.ref C_InvalidAddress) "value" = some none) (ga_InvalidAddress : PySem.W.findIn K (.ref C_InvalidAddress) "__getattribute__" = some (some (.builtin "BaseException.__getattribute__"))) (gg_InvalidAddress : PySem.W.findIn K (.ref C_InvalidAddress) "__getattr__" = some none) (hd_InvalidAddress : PySem.W.hasDictIn K C_InvalidAddress = true) (fc_InvalidAddress : PySem.W.findIn K (.ref C_InvalidAddress) "__class__" = some (some (.builtin "object.__class__"))) (mo_InvalidAddress : PySem.W.mroIn K C_InvalidAddress (.type "object") = some true) (u0_InvalidAddress : PySem.W.subIn K (.ref C_InvalidAddress) (.ref B0) = some true) (v0_InvalidAddress : PySem.W.subIn K (.ref C_InvalidAddress) (.type "ValueError") = some true) (u1_InvalidAddress : PySem.W.subIn K (.ref C_InvalidAddress) (.ref B1) = some false) (v1_InvalidAddress : PySem.W.subIn K (.ref C_InvalidAddress) (.type "LookupError") = some false) (u2_InvalidAddress : PySem.W.subIn K (.ref C_InvalidAddress) (.ref B2) = some false) (v2_InvalidAddress : PySem.W.subIn K (.ref C_InvalidAddress) (.type "RuntimeError") = some false) (u3_InvalidAddress : PySem.W.subIn K (.ref C_InvalidAddress) (.ref B3) = some false) (v3_InvalidAddress : PySem.W.subIn K (.ref C_InvalidAddress) (.type "ArithmeticError") = some false)
    {C_InvalidGoal : Addr} {nm_InvalidGoal q_InvalidGoal : Str} {N_InvalidGoal fI_InvalidGoal cc_InvalidGoal cda_InvalidGoal : Addr} {bs_InvalidGoal : List Value} {sn_InvalidGoal : List Str} {sub_InvalidGoal : List Value} {ab_InvalidGoal : Bool} {col_InvalidGoal : Option Bool} {dd_InvalidGoal od_InvalidGoal an_InvalidGoal cd1_InvalidGoal cd2_InvalidGoal : Option Addr} {m0_InvalidGoal m1_InvalidGoal m2_InvalidGoal m3_InvalidGoal m5_InvalidGoal : Option Value} {oc_InvalidGoal kV_InvalidGoal dc_InvalidGoal pm_InvalidGoal ct_InvalidGoal cl1_InvalidGoal cl2_InvalidGoal : Value} {osl_InvalidGoal sl1_InvalidGoal sl2_InvalidGoal : Array (Option Value)} {vs_InvalidGoal : Array Value} {fi_InvalidGoal : Str} {tf_InvalidGoal : Tok} (aC_InvalidGoal : PySem.W.nsIn K mainGlobals "InvalidGoal" = some (some (.ref C_InvalidGoal))) (xL_InvalidGoal : K.lookup C_InvalidGoal = some (excClassObj nm_InvalidGoal q_InvalidGoal C_InvalidGoal N_InvalidGoal bs_InvalidGoal [.ref B0, .type "ValueError", .type "Exception", .type "BaseException", .type "object"] true sn_InvalidGoal sub_InvalidGoal ab_InvalidGoal col_InvalidGoal dd_InvalidGoal m0_InvalidGoal m1_InvalidGoal m2_InvalidGoal m3_InvalidGoal m5_InvalidGoal "ValueError.__new__")) (sa_InvalidGoal : PySem.W.findIn K (.ref C_InvalidGoal) "__setattr__" = some (some (.builtin "object.__setattr__"))) (eC_InvalidGoal : PySem.W.subIn K (.ref C_InvalidGoal) (.type "BaseException") = some true) (tC_InvalidGoal : PySem.W.typeIn K (.ref C_InvalidGoal) = some (.type "type")) (kC_InvalidGoal : PySem.W.keepIn K (.ref C_InvalidGoal) = true) (iI_InvalidGoal : PySem.W.findIn K (.ref C_InvalidGoal) "__init__" = some (some (.ref fI_InvalidGoal))) (tI_InvalidGoal : PySem.W.typeIn K (.ref fI_InvalidGoal) = some (.type "function")) (lk_InvalidGoal : K.lookup fI_InvalidGoal = some ⟨oc_InvalidGoal, od_InvalidGoal, .func (PySem.W.fnX "__init__" "InvalidGoal.__init__" (defArgs s_InvalidGoal_init) (defBody s_InvalidGoal_init) (defScope s_InvalidGoal_init) [(("__class__" : Str), cc_InvalidGoal)] .none kV_InvalidGoal dc_InvalidGoal pm_InvalidGoal an_InvalidGoal (.ref cda_InvalidGoal) ct_InvalidGoal), osl_InvalidGoal⟩) (ce_InvalidGoal : K.lookup cc_InvalidGoal = some ⟨cl1_InvalidGoal, cd1_InvalidGoal, .cell (some (.ref C_InvalidGoal)), sl1_InvalidGoal⟩) (co_InvalidGoal : K.lookup cda_InvalidGoal = some ⟨cl2_InvalidGoal, cd2_InvalidGoal, .fields vs_InvalidGoal, sl2_InvalidGoal⟩) (vf_InvalidGoal : vs_InvalidGoal[2]? = some (.str fi_InvalidGoal tf_InvalidGoal)) (mf_InvalidGoal : ((l.prog.main.file : Str) == fi_InvalidGoal) = true) (rc_InvalidGoal : PySem.W.codeIn K (.ref cda_InvalidGoal) "InvalidGoal.__init__" = true) (ow_InvalidGoal : PySem.W.ks_superIn K C_InvalidGoal C_InvalidGoal "__init__" = some (some (.builtin "ValueError.__init__"))) (mr_InvalidGoal : PySem.W.mroIn K C_InvalidGoal (.ref C_InvalidGoal) = some true) (no0_InvalidGoal : PySem.W.findIn K (.ref C_InvalidGoal) "value" = some none) (ga_InvalidGoal : PySem.W.findIn K (.ref C_InvalidGoal) "__getattribute__" = some (some (.builtin "BaseException.__getattribute__"))) (gg_InvalidGoal : PySem.W.findIn K (.ref C_InvalidGoal) "__getattr__" = some none) (hd_InvalidGoal : PySem.W.hasDictIn K C_InvalidGoal = true) (fc_InvalidGoal : PySem.W.findIn K (.ref C_InvalidGoal) "__class__" = some (some (.builtin "object.__class__"))) (mo_InvalidGoal : PySem.W.mroIn K C_InvalidGoal (.type "object") = some true) (u0_InvalidGoal : PySem.W.subIn K (.ref C_InvalidGoal) (.ref B0) = some true) (v0_InvalidGoal : PySem.W.subIn K (.ref C_InvalidGoal) (.type "ValueError") = some true) (u1_InvalidGoal : PySem.W.subIn K (.ref C_InvalidGoal) (.ref B1) = some false) (v1_InvalidGoal : PySem.W.subIn K (.ref C_InvalidGoal) (.type "LookupError") = some false) (u2_InvalidGoal : PySem.W.subIn K (.ref C_InvalidGoal) (.ref B2) = some false) (v2_InvalidGoal : PySem.W.subIn K (.ref C_InvalidGoal) (.type "RuntimeError") = some false) (u3_InvalidGoal : PySem.W.subIn K (.ref C_InvalidGoal) (.ref B3) = some false) (v3_InvalidGoal : PySem.W.subIn K (.ref C_InvalidGoal) (.type "ArithmeticError") = some false)
    {C_InvalidRows : Addr} {nm_InvalidRows q_InvalidRows : Str} {N_InvalidRows fI_InvalidRows cc_InvalidRows cda_InvalidRows : Addr} {bs_InvalidRows : List Value} {sn_InvalidRows : List Str} {sub_InvalidRows : List Value} {ab_InvalidRows : Bool} {col_InvalidRows : Option Bool} {dd_InvalidRows od_InvalidRows an_InvalidRows cd1_InvalidRows cd2_InvalidRows : Option Addr} {m0_InvalidRows m1_InvalidRows m2_InvalidRows m3_InvalidRows m5_InvalidRows : Option Value} {oc_InvalidRows kV_InvalidRows dc_InvalidRows pm_InvalidRows ct_InvalidRows cl1_InvalidRows cl2_InvalidRows : Value} {osl_InvalidRows sl1_InvalidRows sl2_InvalidRows : Array (Option Value)} {vs_InvalidRows : Array Value} {fi_InvalidRows : Str} {tf_InvalidRows : Tok} (aC_InvalidRows : PySem.W.nsIn K mainGlobals "InvalidRows" = some (some (.ref C_InvalidRows))) (xL_InvalidRows : K.lookup C_InvalidRows = some (excClassObj nm_InvalidRows q_InvalidRows C_InvalidRows N_InvalidRows bs_InvalidRows [.ref B0, .type "ValueError", .type "Exception", .type "BaseException", .type "object"] true sn_InvalidRows sub_InvalidRows ab_InvalidRows col_InvalidRows dd_InvalidRows m0_InvalidRows m1_InvalidRows m2_InvalidRows m3_InvalidRows m5_InvalidRows "ValueError.__new__")) (sa_InvalidRows : PySem.W.findIn K (.ref C_InvalidRows) "__setattr__" = some (some (.builtin "object.__setattr__"))) (eC_InvalidRows : PySem.W.subIn K (.ref C_InvalidRows) (.type "BaseException") = some true) (tC_InvalidRows : PySem.W.typeIn K (.ref C_InvalidRows) = some (.type "type")) (kC_InvalidRows : PySem.W.keepIn K (.ref C_InvalidRows) = true) (iI_InvalidRows : PySem.W.findIn K (.ref C_InvalidRows) "__init__" = some (some (.ref fI_InvalidRows))) (tI_InvalidRows : PySem.W.typeIn K (.ref fI_InvalidRows) = some (.type "function")) (lk_InvalidRows : K.lookup fI_InvalidRows = some ⟨oc_InvalidRows, od_InvalidRows, .func (PySem.W.fnX "__init__" "InvalidRows.__init__" (defArgs s_InvalidRows_init) (defBody s_InvalidRows_init) (defScope s_InvalidRows_init) [(("__class__" : Str), cc_InvalidRows)] .none kV_InvalidRows dc_InvalidRows pm_InvalidRows an_InvalidRows (.ref cda_InvalidRows) ct_InvalidRows), osl_InvalidRows⟩) (ce_InvalidRows : K.lookup cc_InvalidRows = some ⟨cl1_InvalidRows, cd1_InvalidRows, .cell (some (.ref C_InvalidRows)), sl1_InvalidRows⟩) (co_InvalidRows : K.lookup cda_InvalidRows = some ⟨cl2_InvalidRows, cd2_InvalidRows, .fields vs_InvalidRows, sl2_InvalidRows⟩) (vf_InvalidRows : vs_InvalidRows[2]? = some (.str fi_InvalidRows tf_InvalidRows)) (mf_InvalidRows : ((l.prog.main.file : Str) == fi_InvalidRows) = true) (rc_InvalidRows : PySem.W.codeIn K (.ref cda_InvalidRows) "InvalidRows.__init__" = true) (ow_InvalidRows : PySem.W.ks_superIn K C_InvalidRows C_InvalidRows "__init__" = some (some (.builtin "ValueError.__init__"))) (mr_InvalidRows : PySem.W.mroIn K C_InvalidRows (.ref C_InvalidRows) = some true) (no0_InvalidRows : PySem.W.findIn K (.ref C_InvalidRows) "value" = some none) (ga_InvalidRows : PySem.W.findIn K (.ref C_InvalidRows) "__getattribute__" = some (some (.builtin "BaseException.__getattribute__"))) (gg_InvalidRows : PySem.W.findIn K (.ref C_InvalidRows) "__getattr__" = some none) (hd_InvalidRows : PySem.W.hasDictIn K C_InvalidRows = true) (fc_InvalidRows : PySem.W.findIn K (.ref C_InvalidRows) "__class__" = some (some (.builtin "object.__class__"))) (mo_InvalidRows : PySem.W.mroIn K C_InvalidRows (.type "object") = some true) (u0_InvalidRows : PySem.W.subIn K (.ref C_InvalidRows) (.ref B0) = some true) (v0_InvalidRows : PySem.W.subIn K (.ref C_InvalidRows) (.type "ValueError") = some true) (u1_InvalidRows : PySem.W.subIn K (.ref C_InvalidRows) (.ref B1) = some false) (v1_InvalidRows : PySem.W.subIn K (.ref C_InvalidRows) (.type "LookupError") = some false) (u2_InvalidRows : PySem.W.subIn K (.ref C_InvalidRows) (.ref B2) = some false) (v2_InvalidRows : PySem.W.subIn K (.ref C_InvalidRows) (.type "RuntimeError") = some false) (u3_InvalidRows : PySem.W.subIn K (.ref C_InvalidRows) (.ref B3) = some false) (v3_InvalidRows : PySem.W.subIn K (.ref C_InvalidRows) (.type "ArithmeticError") = some false)
    {C_InvalidFree : Addr} {nm_InvalidFree q_InvalidFree : Str} {N_InvalidFree fI_InvalidFree cc_InvalidFree cda_InvalidFree : Addr} {bs_InvalidFree : List Value} {sn_InvalidFree : List Str} {sub_InvalidFree : List Value} {ab_InvalidFree : Bool} {col_InvalidFree : Option Bool} {dd_InvalidFree od_InvalidFree an_InvalidFree cd1_InvalidFree cd2_InvalidFree : Option Addr} {m0_InvalidFree m1_InvalidFree m2_InvalidFree m3_InvalidFree m5_InvalidFree : Option Value} {oc_InvalidFree kV_InvalidFree dc_InvalidFree pm_InvalidFree ct_InvalidFree cl1_InvalidFree cl2_InvalidFree : Value} {osl_InvalidFree sl1_InvalidFree sl2_InvalidFree : Array (Option Value)} {vs_InvalidFree : Array Value} {fi_InvalidFree : Str} {tf_InvalidFree : Tok} (aC_InvalidFree : PySem.W.nsIn K mainGlobals "InvalidFree" = some (some (.ref C_InvalidFree))) (xL_InvalidFree : K.lookup C_InvalidFree = some (excClassObj nm_InvalidFree q_InvalidFree C_InvalidFree N_InvalidFree bs_InvalidFree [.ref B0, .type "ValueError", .type "Exception", .type "BaseException", .type "object"] true sn_InvalidFree sub_InvalidFree ab_InvalidFree col_InvalidFree dd_InvalidFree m0_InvalidFree m1_InvalidFree m2_InvalidFree m3_InvalidFree m5_InvalidFree "ValueError.__new__")) (sa_InvalidFree : PySem.W.findIn K (.ref C_InvalidFree) "__setattr__" = some (some (.builtin "object.__setattr__"))) (eC_InvalidFree : PySem.W.subIn K (.ref C_InvalidFree) (.type "BaseException") = some true) (tC_InvalidFree : PySem.W.typeIn K (.ref C_InvalidFree) = some (.type "type")) (kC_InvalidFree : PySem.W.keepIn K (.ref C_InvalidFree) = true) (iI_InvalidFree : PySem.W.findIn K (.ref C_InvalidFree) "__init__" = some (some (.ref fI_InvalidFree))) (tI_InvalidFree : PySem.W.typeIn K (.ref fI_InvalidFree) = some (.type "function")) (lk_InvalidFree : K.lookup fI_InvalidFree = some ⟨oc_InvalidFree, od_InvalidFree, .func (PySem.W.fnX "__init__" "InvalidFree.__init__" (defArgs s_InvalidFree_init) (defBody s_InvalidFree_init) (defScope s_InvalidFree_init) [(("__class__" : Str), cc_InvalidFree)] .none kV_InvalidFree dc_InvalidFree pm_InvalidFree an_InvalidFree (.ref cda_InvalidFree) ct_InvalidFree), osl_InvalidFree⟩) (ce_InvalidFree : K.lookup cc_InvalidFree = some ⟨cl1_InvalidFree, cd1_InvalidFree, .cell (some (.ref C_InvalidFree)), sl1_InvalidFree⟩) (co_InvalidFree : K.lookup cda_InvalidFree = some ⟨cl2_InvalidFree, cd2_InvalidFree, .fields vs_InvalidFree, sl2_InvalidFree⟩) (vf_InvalidFree : vs_InvalidFree[2]? = some (.str fi_InvalidFree tf_InvalidFree)) (mf_InvalidFree : ((l.prog.main.file : Str) == fi_InvalidFree) = true) (rc_InvalidFree : PySem.W.codeIn K (.ref cda_InvalidFree) "InvalidFree.__init__" = true) (ow_InvalidFree : PySem.W.ks_superIn K C_InvalidFree C_InvalidFree "__init__" = some (some (.builtin "ValueError.__init__"))) (mr_InvalidFree : PySem.W.mroIn K C_InvalidFree (.ref C_InvalidFree) = some true) (no0_InvalidFree : PySem.W.findIn K (.ref C_InvalidFree) "position" = some none) (ga_InvalidFree : PySem.W.findIn K (.ref C_InvalidFree) "__getattribute__" = some (some (.builtin "BaseException.__getattribute__"))) (gg_InvalidFree : PySem.W.findIn K (.ref C_InvalidFree) "__getattr__" = some none) (hd_InvalidFree : PySem.W.hasDictIn K C_InvalidFree = true) (fc_InvalidFree : PySem.W.findIn K (.ref C_InvalidFree) "__class__" = some (some (.builtin "object.__class__"))) (mo_InvalidFree : PySem.W.mroIn K C_InvalidFree (.type "object") = some true) (u0_InvalidFree : PySem.W.subIn K (.ref C_InvalidFree) (.ref B0) = some true) (v0_InvalidFree : PySem.W.subIn K (.ref C_InvalidFree) (.type "ValueError") = some true) (u1_InvalidFree : PySem.W.subIn K (.ref C_InvalidFree) (.ref B1) = some false) (v1_InvalidFree : PySem.W.subIn K (.ref C_InvalidFree) (.type "LookupError") = some false) (u2_InvalidFree : PySem.W.subIn K (.ref C_InvalidFree) (.ref B2) = some false) (v2_InvalidFree : PySem.W.subIn K (.ref C_InvalidFree) (.type "RuntimeError") = some false) (u3_InvalidFree : PySem.W.subIn K (.ref C_InvalidFree) (.ref B3) = some false) (v3_InvalidFree : PySem.W.subIn K (.ref C_InvalidFree) (.type "ArithmeticError") = some false)
    {C_InvalidTables : Addr} {nm_InvalidTables q_InvalidTables : Str} {N_InvalidTables fI_InvalidTables cc_InvalidTables cda_InvalidTables : Addr} {bs_InvalidTables : List Value} {sn_InvalidTables : List Str} {sub_InvalidTables : List Value} {ab_InvalidTables : Bool} {col_InvalidTables : Option Bool} {dd_InvalidTables od_InvalidTables an_InvalidTables cd1_InvalidTables cd2_InvalidTables : Option Addr} {m0_InvalidTables m1_InvalidTables m2_InvalidTables m3_InvalidTables m5_InvalidTables : Option Value} {oc_InvalidTables kV_InvalidTables dc_InvalidTables pm_InvalidTables ct_InvalidTables cl1_InvalidTables cl2_InvalidTables : Value} {osl_InvalidTables sl1_InvalidTables sl2_InvalidTables : Array (Option Value)} {vs_InvalidTables : Array Value} {fi_InvalidTables : Str} {tf_InvalidTables : Tok} (aC_InvalidTables : PySem.W.nsIn K mainGlobals "InvalidTables" = some (some (.ref C_InvalidTables))) (xL_InvalidTables : K.lookup C_InvalidTables = some (excClassObj nm_InvalidTables q_InvalidTables C_InvalidTables N_InvalidTables bs_InvalidTables [.ref B0, .type "ValueError", .type "Exception", .type "BaseException", .type "object"] true sn_InvalidTables sub_InvalidTables ab_InvalidTables col_InvalidTables dd_InvalidTables m0_InvalidTables m1_InvalidTables m2_InvalidTables m3_InvalidTables m5_InvalidTables "ValueError.__new__")) (sa_InvalidTables : PySem.W.findIn K (.ref C_InvalidTables) "__setattr__" = some (some (.builtin "object.__setattr__"))) (eC_InvalidTables : PySem.W.subIn K (.ref C_InvalidTables) (.type "BaseException") = some true) (tC_InvalidTables : PySem.W.typeIn K (.ref C_InvalidTables) = some (.type "type")) (kC_InvalidTables : PySem.W.keepIn K (.ref C_InvalidTables) = true) (iI_InvalidTables : PySem.W.findIn K (.ref C_InvalidTables) "__init__" = some (some (.ref fI_InvalidTables))) (tI_InvalidTables : PySem.W.typeIn K (.ref fI_InvalidTables) = some (.type "function")) (lk_InvalidTables : K.lookup fI_InvalidTables = some ⟨oc_InvalidTables, od_InvalidTables, .func (PySem.W.fnX "__init__" "InvalidTables.__init__" (defArgs s_InvalidTables_init) (defBody s_InvalidTables_init) (defScope s_InvalidTables_init) [(("__class__" : Str), cc_InvalidTables)] .none kV_InvalidTables dc_InvalidTables pm_InvalidTables an_InvalidTables (.ref cda_InvalidTables) ct_InvalidTables), osl_InvalidTables⟩) (ce_InvalidTables : K.lookup cc_InvalidTables = some ⟨cl1_InvalidTables, cd1_InvalidTables, .cell (some (.ref C_InvalidTables)), sl1_InvalidTables⟩) (co_InvalidTables : K.lookup cda_InvalidTables = some ⟨cl2_InvalidTables, cd2_InvalidTables, .fields vs_InvalidTables, sl2_InvalidTables⟩) (vf_InvalidTables : vs_InvalidTables[2]? = some (.str fi_InvalidTables tf_InvalidTables)) (mf_InvalidTables : ((l.prog.main.file : Str) == fi_InvalidTables) = true) (rc_InvalidTables : PySem.W.codeIn K (.ref cda_InvalidTables) "InvalidTables.__init__" = true) (ow_InvalidTables : PySem.W.ks_superIn K C_InvalidTables C_InvalidTables "__init__" = some (some (.builtin "ValueError.__init__"))) (mr_InvalidTables : PySem.W.mroIn K C_InvalidTables (.ref C_InvalidTables) = some true) (no0_InvalidTables : PySem.W.findIn K (.ref C_InvalidTables) "value" = some none) (ga_InvalidTables : PySem.W.findIn K (.ref C_InvalidTables) "__getattribute__" = some (some (.builtin "BaseException.__getattribute__"))) (gg_InvalidTables : PySem.W.findIn K (.ref C_InvalidTables) "__getattr__" = some none) (hd_InvalidTables : PySem.W.hasDictIn K C_InvalidTables = true) (fc_InvalidTables : PySem.W.findIn K (.ref C_InvalidTables) "__class__" = some (some (.builtin "object.__class__"))) (mo_InvalidTables : PySem.W.mroIn K C_InvalidTables (.type "object") = some true) (u0_InvalidTables : PySem.W.subIn K (.ref C_InvalidTables) (.ref B0) = some true) (v0_InvalidTables : PySem.W.subIn K (.ref C_InvalidTables) (.type "ValueError") = some true) (u1_InvalidTables : PySem.W.subIn K (.ref C_InvalidTables) (.ref B1) = some false) (v1_InvalidTables : PySem.W.subIn K (.ref C_InvalidTables) (.type "LookupError") = some false) (u2_InvalidTables : PySem.W.subIn K (.ref C_InvalidTables) (.ref B2) = some false) (v2_InvalidTables : PySem.W.subIn K (.ref C_InvalidTables) (.type "RuntimeError") = some false) (u3_InvalidTables : PySem.W.subIn K (.ref C_InvalidTables) (.ref B3) = some false) (v3_InvalidTables : PySem.W.subIn K (.ref C_InvalidTables) (.type "ArithmeticError") = some false)
    {C_InvalidFirm : Addr} {nm_InvalidFirm q_InvalidFirm : Str} {N_InvalidFirm fI_InvalidFirm cc_InvalidFirm cda_InvalidFirm : Addr} {bs_InvalidFirm : List Value} {sn_InvalidFirm : List Str} {sub_InvalidFirm : List Value} {ab_InvalidFirm : Bool} {col_InvalidFirm : Option Bool} {dd_InvalidFirm od_InvalidFirm an_InvalidFirm cd1_InvalidFirm cd2_InvalidFirm : Option Addr} {m0_InvalidFirm m1_InvalidFirm m2_InvalidFirm m3_InvalidFirm m5_InvalidFirm : Option Value} {oc_InvalidFirm kV_InvalidFirm dc_InvalidFirm pm_InvalidFirm ct_InvalidFirm cl1_InvalidFirm cl2_InvalidFirm : Value} {osl_InvalidFirm sl1_InvalidFirm sl2_InvalidFirm : Array (Option Value)} {vs_InvalidFirm : Array Value} {fi_InvalidFirm : Str} {tf_InvalidFirm : Tok} (aC_InvalidFirm : PySem.W.nsIn K mainGlobals "InvalidFirm" = some (some (.ref C_InvalidFirm))) (xL_InvalidFirm : K.lookup C_InvalidFirm = some (excClassObj nm_InvalidFirm q_InvalidFirm C_InvalidFirm N_InvalidFirm bs_InvalidFirm [.ref B0, .type "ValueError", .type "Exception", .type "BaseException", .type "object"] true sn_InvalidFirm sub_InvalidFirm ab_InvalidFirm col_InvalidFirm dd_InvalidFirm m0_InvalidFirm m1_InvalidFirm m2_InvalidFirm m3_InvalidFirm m5_InvalidFirm "ValueError.__new__")) (sa_InvalidFirm : PySem.W.findIn K (.ref C_InvalidFirm) "__setattr__" = some (some (.builtin "object.__setattr__"))) (eC_InvalidFirm : PySem.W.subIn K (.ref C_InvalidFirm) (.type "BaseException") = some true) (tC_InvalidFirm : PySem.W.typeIn K (.ref C_InvalidFirm) = some (.type "type")) (kC_InvalidFirm : PySem.W.keepIn K (.ref C_InvalidFirm) = true) (iI_InvalidFirm : PySem.W.findIn K (.ref C_InvalidFirm) "__init__" = some (some (.ref fI_InvalidFirm))) (tI_InvalidFirm : PySem.W.typeIn K (.ref fI_InvalidFirm) = some (.type "function")) (lk_InvalidFirm : K.lookup fI_InvalidFirm = some ⟨oc_InvalidFirm, od_InvalidFirm, .func (PySem.W.fnX "__init__" "InvalidFirm.__init__" (defArgs s_InvalidFirm_init) (defBody s_InvalidFirm_init) (defScope s_InvalidFirm_init) [(("__class__" : Str), cc_InvalidFirm)] .none kV_InvalidFirm dc_InvalidFirm pm_InvalidFirm an_InvalidFirm (.ref cda_InvalidFirm) ct_InvalidFirm), osl_InvalidFirm⟩) (ce_InvalidFirm : K.lookup cc_InvalidFirm = some ⟨cl1_InvalidFirm, cd1_InvalidFirm, .cell (some (.ref C_InvalidFirm)), sl1_InvalidFirm⟩) (co_InvalidFirm : K.lookup cda_InvalidFirm = some ⟨cl2_InvalidFirm, cd2_InvalidFirm, .fields vs_InvalidFirm, sl2_InvalidFirm⟩) (vf_InvalidFirm : vs_InvalidFirm[2]? = some (.str fi_InvalidFirm tf_InvalidFirm)) (mf_InvalidFirm : ((l.prog.main.file : Str) == fi_InvalidFirm) = true) (rc_InvalidFirm : PySem.W.codeIn K (.ref cda_InvalidFirm) "InvalidFirm.__init__" = true) (ow_InvalidFirm : PySem.W.ks_superIn K C_InvalidFirm C_InvalidFirm "__init__" = some (some (.builtin "ValueError.__init__"))) (mr_InvalidFirm : PySem.W.mroIn K C_InvalidFirm (.ref C_InvalidFirm) = some true) (no0_InvalidFirm : PySem.W.findIn K (.ref C_InvalidFirm) "value" = some none) (ga_InvalidFirm : PySem.W.findIn K (.ref C_InvalidFirm) "__getattribute__" = some (some (.builtin "BaseException.__getattribute__"))) (gg_InvalidFirm : PySem.W.findIn K (.ref C_InvalidFirm) "__getattr__" = some none) (hd_InvalidFirm : PySem.W.hasDictIn K C_InvalidFirm = true) (fc_InvalidFirm : PySem.W.findIn K (.ref C_InvalidFirm) "__class__" = some (some (.builtin "object.__class__"))) (mo_InvalidFirm : PySem.W.mroIn K C_InvalidFirm (.type "object") = some true) (u0_InvalidFirm : PySem.W.subIn K (.ref C_InvalidFirm) (.ref B0) = some true) (v0_InvalidFirm : PySem.W.subIn K (.ref C_InvalidFirm) (.type "ValueError") = some true) (u1_InvalidFirm : PySem.W.subIn K (.ref C_InvalidFirm) (.ref B1) = some false) (v1_InvalidFirm : PySem.W.subIn K (.ref C_InvalidFirm) (.type "LookupError") = some false) (u2_InvalidFirm : PySem.W.subIn K (.ref C_InvalidFirm) (.ref B2) = some false) (v2_InvalidFirm : PySem.W.subIn K (.ref C_InvalidFirm) (.type "RuntimeError") = some false) (u3_InvalidFirm : PySem.W.subIn K (.ref C_InvalidFirm) (.ref B3) = some false) (v3_InvalidFirm : PySem.W.subIn K (.ref C_InvalidFirm) (.type "ArithmeticError") = some false)
    {C_InvalidGone : Addr} {nm_InvalidGone q_InvalidGone : Str} {N_InvalidGone fI_InvalidGone cc_InvalidGone cda_InvalidGone : Addr} {bs_InvalidGone : List Value} {sn_InvalidGone : List Str} {sub_InvalidGone : List Value} {ab_InvalidGone : Bool} {col_InvalidGone : Option Bool} {dd_InvalidGone od_InvalidGone an_InvalidGone cd1_InvalidGone cd2_InvalidGone : Option Addr} {m0_InvalidGone m1_InvalidGone m2_InvalidGone m3_InvalidGone m5_InvalidGone : Option Value} {oc_InvalidGone kV_InvalidGone dc_InvalidGone pm_InvalidGone ct_InvalidGone cl1_InvalidGone cl2_InvalidGone : Value} {osl_InvalidGone sl1_InvalidGone sl2_InvalidGone : Array (Option Value)} {vs_InvalidGone : Array Value} {fi_InvalidGone : Str} {tf_InvalidGone : Tok} (aC_InvalidGone : PySem.W.nsIn K mainGlobals "InvalidGone" = some (some (.ref C_InvalidGone))) (xL_InvalidGone : K.lookup C_InvalidGone = some (excClassObj nm_InvalidGone q_InvalidGone C_InvalidGone N_InvalidGone bs_InvalidGone [.ref B0, .type "ValueError", .type "Exception", .type "BaseException", .type "object"] true sn_InvalidGone sub_InvalidGone ab_InvalidGone col_InvalidGone dd_InvalidGone m0_InvalidGone m1_InvalidGone m2_InvalidGone m3_InvalidGone m5_InvalidGone "ValueError.__new__")) (sa_InvalidGone : PySem.W.findIn K (.ref C_InvalidGone) "__setattr__" = some (some (.builtin "object.__setattr__"))) (eC_InvalidGone : PySem.W.subIn K (.ref C_InvalidGone) (.type "BaseException") = some true) (tC_InvalidGone : PySem.W.typeIn K (.ref C_InvalidGone) = some (.type "type")) (kC_InvalidGone : PySem.W.keepIn K (.ref C_InvalidGone) = true) (iI_InvalidGone : PySem.W.findIn K (.ref C_InvalidGone) "__init__" = some (some (.ref fI_InvalidGone))) (tI_InvalidGone : PySem.W.typeIn K (.ref fI_InvalidGone) = some (.type "function")) (lk_InvalidGone : K.lookup fI_InvalidGone = some ⟨oc_InvalidGone, od_InvalidGone, .func (PySem.W.fnX "__init__" "InvalidGone.__init__" (defArgs s_InvalidGone_init) (defBody s_InvalidGone_init) (defScope s_InvalidGone_init) [(("__class__" : Str), cc_InvalidGone)] .none kV_InvalidGone dc_InvalidGone pm_InvalidGone an_InvalidGone (.ref cda_InvalidGone) ct_InvalidGone), osl_InvalidGone⟩) (ce_InvalidGone : K.lookup cc_InvalidGone = some ⟨cl1_InvalidGone, cd1_InvalidGone, .cell (some (.ref C_InvalidGone)), sl1_InvalidGone⟩) (co_InvalidGone : K.lookup cda_InvalidGone = some ⟨cl2_InvalidGone, cd2_InvalidGone, .fields vs_InvalidGone, sl2_InvalidGone⟩) (vf_InvalidGone : vs_InvalidGone[2]? = some (.str fi_InvalidGone tf_InvalidGone)) (mf_InvalidGone : ((l.prog.main.file : Str) == fi_InvalidGone) = true) (rc_InvalidGone : PySem.W.codeIn K (.ref cda_InvalidGone) "InvalidGone.__init__" = true) (ow_InvalidGone : PySem.W.ks_superIn K C_InvalidGone C_InvalidGone "__init__" = some (some (.builtin "ValueError.__init__"))) (mr_InvalidGone : PySem.W.mroIn K C_InvalidGone (.ref C_InvalidGone) = some true) (no0_InvalidGone : PySem.W.findIn K (.ref C_InvalidGone) "position" = some none) (ga_InvalidGone : PySem.W.findIn K (.ref C_InvalidGone) "__getattribute__" = some (some (.builtin "BaseException.__getattribute__"))) (gg_InvalidGone : PySem.W.findIn K (.ref C_InvalidGone) "__getattr__" = some none) (hd_InvalidGone : PySem.W.hasDictIn K C_InvalidGone = true) (fc_InvalidGone : PySem.W.findIn K (.ref C_InvalidGone) "__class__" = some (some (.builtin "object.__class__"))) (mo_InvalidGone : PySem.W.mroIn K C_InvalidGone (.type "object") = some true) (u0_InvalidGone : PySem.W.subIn K (.ref C_InvalidGone) (.ref B0) = some true) (v0_InvalidGone : PySem.W.subIn K (.ref C_InvalidGone) (.type "ValueError") = some true) (u1_InvalidGone : PySem.W.subIn K (.ref C_InvalidGone) (.ref B1) = some false) (v1_InvalidGone : PySem.W.subIn K (.ref C_InvalidGone) (.type "LookupError") = some false) (u2_InvalidGone : PySem.W.subIn K (.ref C_InvalidGone) (.ref B2) = some false) (v2_InvalidGone : PySem.W.subIn K (.ref C_InvalidGone) (.type "RuntimeError") = some false) (u3_InvalidGone : PySem.W.subIn K (.ref C_InvalidGone) (.ref B3) = some false) (v3_InvalidGone : PySem.W.subIn K (.ref C_InvalidGone) (.type "ArithmeticError") = some false)
    {C_InvalidName : Addr} {nm_InvalidName q_InvalidName : Str} {N_InvalidName fI_InvalidName cc_InvalidName cda_InvalidName : Addr} {bs_InvalidName : List Value} {sn_InvalidName : List Str} {sub_InvalidName : List Value} {ab_InvalidName : Bool} {col_InvalidName : Option Bool} {dd_InvalidName od_InvalidName an_InvalidName cd1_InvalidName cd2_InvalidName : Option Addr} {m0_InvalidName m1_InvalidName m2_InvalidName m3_InvalidName m5_InvalidName : Option Value} {oc_InvalidName kV_InvalidName dc_InvalidName pm_InvalidName ct_InvalidName cl1_InvalidName cl2_InvalidName : Value} {osl_InvalidName sl1_InvalidName sl2_InvalidName : Array (Option Value)} {vs_InvalidName : Array Value} {fi_InvalidName : Str} {tf_InvalidName : Tok} (aC_InvalidName : PySem.W.nsIn K mainGlobals "InvalidName" = some (some (.ref C_InvalidName))) (xL_InvalidName : K.lookup C_InvalidName = some (excClassObj nm_InvalidName q_InvalidName C_InvalidName N_InvalidName bs_InvalidName [.ref B0, .type "ValueError", .type "Exception", .type "BaseException", .type "object"] true sn_InvalidName sub_InvalidName ab_InvalidName col_InvalidName dd_InvalidName m0_InvalidName m1_InvalidName m2_InvalidName m3_InvalidName m5_InvalidName "ValueError.__new__")) (sa_InvalidName : PySem.W.findIn K (.ref C_InvalidName) "__setattr__" = some (some (.builtin "object.__setattr__"))) (eC_InvalidName : PySem.W.subIn K (.ref C_InvalidName) (.type "BaseException") = some true) (tC_InvalidName : PySem.W.typeIn K (.ref C_InvalidName) = some (.type "type")) (kC_InvalidName : PySem.W.keepIn K (.ref C_InvalidName) = true) (iI_InvalidName : PySem.W.findIn K (.ref C_InvalidName) "__init__" = some (some (.ref fI_InvalidName))) (tI_InvalidName : PySem.W.typeIn K (.ref fI_InvalidName) = some (.type "function")) (lk_InvalidName : K.lookup fI_InvalidName = some ⟨oc_InvalidName, od_InvalidName, .func (PySem.W.fnX "__init__" "InvalidName.__init__" (defArgs s_InvalidName_init) (defBody s_InvalidName_init) (defScope s_InvalidName_init) [(("__class__" : Str), cc_InvalidName)] .none kV_InvalidName dc_InvalidName pm_InvalidName an_InvalidName (.ref cda_InvalidName) ct_InvalidName), osl_InvalidName⟩) (ce_InvalidName : K.lookup cc_InvalidName = some ⟨cl1_InvalidName, cd1_InvalidName, .cell (some (.ref C_InvalidName)), sl1_InvalidName⟩) (co_InvalidName : K.lookup cda_InvalidName = some ⟨cl2_InvalidName, cd2_InvalidName, .fields vs_InvalidName, sl2_InvalidName⟩) (vf_InvalidName : vs_InvalidName[2]? = some (.str fi_InvalidName tf_InvalidName)) (mf_InvalidName : ((l.prog.main.file : Str) == fi_InvalidName) = true) (rc_InvalidName : PySem.W.codeIn K (.ref cda_InvalidName) "InvalidName.__init__" = true) (ow_InvalidName : PySem.W.ks_superIn K C_InvalidName C_InvalidName "__init__" = some (some (.builtin "ValueError.__init__"))) (mr_InvalidName : PySem.W.mroIn K C_InvalidName (.ref C_InvalidName) = some true) (no0_InvalidName : PySem.W.findIn K (.ref C_InvalidName) "value" = some none) (ga_InvalidName : PySem.W.findIn K (.ref C_InvalidName) "__getattribute__" = some (some (.builtin "BaseException.__getattribute__"))) (gg_InvalidName : PySem.W.findIn K (.ref C_InvalidName) "__getattr__" = some none) (hd_InvalidName : PySem.W.hasDictIn K C_InvalidName = true) (fc_InvalidName : PySem.W.findIn K (.ref C_InvalidName) "__class__" = some (some (.builtin "object.__class__"))) (mo_InvalidName : PySem.W.mroIn K C_InvalidName (.type "object") = some true) (u0_InvalidName : PySem.W.subIn K (.ref C_InvalidName) (.ref B0) = some true) (v0_InvalidName : PySem.W.subIn K (.ref C_InvalidName) (.type "ValueError") = some true) (u1_InvalidName : PySem.W.subIn K (.ref C_InvalidName) (.ref B1) = some false) (v1_InvalidName : PySem.W.subIn K (.ref C_InvalidName) (.type "LookupError") = some false) (u2_InvalidName : PySem.W.subIn K (.ref C_InvalidName) (.ref B2) = some false) (v2_InvalidName : PySem.W.subIn K (.ref C_InvalidName) (.type "RuntimeError") = some false) (u3_InvalidName : PySem.W.subIn K (.ref C_InvalidName) (.ref B3) = some false) (v3_InvalidName : PySem.W.subIn K (.ref C_InvalidName) (.type "ArithmeticError") = some false)
    {C_InvalidHop : Addr} {nm_InvalidHop q_InvalidHop : Str} {N_InvalidHop fI_InvalidHop cc_InvalidHop cda_InvalidHop : Addr} {bs_InvalidHop : List Value} {sn_InvalidHop : List Str} {sub_InvalidHop : List Value} {ab_InvalidHop : Bool} {col_InvalidHop : Option Bool} {dd_InvalidHop od_InvalidHop an_InvalidHop cd1_InvalidHop cd2_InvalidHop : Option Addr} {m0_InvalidHop m1_InvalidHop m2_InvalidHop m3_InvalidHop m5_InvalidHop : Option Value} {oc_InvalidHop kV_InvalidHop dc_InvalidHop pm_InvalidHop ct_InvalidHop cl1_InvalidHop cl2_InvalidHop : Value} {osl_InvalidHop sl1_InvalidHop sl2_InvalidHop : Array (Option Value)} {vs_InvalidHop : Array Value} {fi_InvalidHop : Str} {tf_InvalidHop : Tok} (aC_InvalidHop : PySem.W.nsIn K mainGlobals "InvalidHop" = some (some (.ref C_InvalidHop))) (xL_InvalidHop : K.lookup C_InvalidHop = some (excClassObj nm_InvalidHop q_InvalidHop C_InvalidHop N_InvalidHop bs_InvalidHop [.ref B0, .type "ValueError", .type "Exception", .type "BaseException", .type "object"] true sn_InvalidHop sub_InvalidHop ab_InvalidHop col_InvalidHop dd_InvalidHop m0_InvalidHop m1_InvalidHop m2_InvalidHop m3_InvalidHop m5_InvalidHop "ValueError.__new__")) (sa_InvalidHop : PySem.W.findIn K (.ref C_InvalidHop) "__setattr__" = some (some (.builtin "object.__setattr__"))) (eC_InvalidHop : PySem.W.subIn K (.ref C_InvalidHop) (.type "BaseException") = some true) (tC_InvalidHop : PySem.W.typeIn K (.ref C_InvalidHop) = some (.type "type")) (kC_InvalidHop : PySem.W.keepIn K (.ref C_InvalidHop) = true) (iI_InvalidHop : PySem.W.findIn K (.ref C_InvalidHop) "__init__" = some (some (.ref fI_InvalidHop))) (tI_InvalidHop : PySem.W.typeIn K (.ref fI_InvalidHop) = some (.type "function")) (lk_InvalidHop : K.lookup fI_InvalidHop = some ⟨oc_InvalidHop, od_InvalidHop, .func (PySem.W.fnX "__init__" "InvalidHop.__init__" (defArgs s_InvalidHop_init) (defBody s_InvalidHop_init) (defScope s_InvalidHop_init) [(("__class__" : Str), cc_InvalidHop)] .none kV_InvalidHop dc_InvalidHop pm_InvalidHop an_InvalidHop (.ref cda_InvalidHop) ct_InvalidHop), osl_InvalidHop⟩) (ce_InvalidHop : K.lookup cc_InvalidHop = some ⟨cl1_InvalidHop, cd1_InvalidHop, .cell (some (.ref C_InvalidHop)), sl1_InvalidHop⟩) (co_InvalidHop : K.lookup cda_InvalidHop = some ⟨cl2_InvalidHop, cd2_InvalidHop, .fields vs_InvalidHop, sl2_InvalidHop⟩) (vf_InvalidHop : vs_InvalidHop[2]? = some (.str fi_InvalidHop tf_InvalidHop)) (mf_InvalidHop : ((l.prog.main.file : Str) == fi_InvalidHop) = true) (rc_InvalidHop : PySem.W.codeIn K (.ref cda_InvalidHop) "InvalidHop.__init__" = true) (ow_InvalidHop : PySem.W.ks_superIn K C_InvalidHop C_InvalidHop "__init__" = some (some (.builtin "ValueError.__init__"))) (mr_InvalidHop : PySem.W.mroIn K C_InvalidHop (.ref C_InvalidHop) = some true) (no0_InvalidHop : PySem.W.findIn K (.ref C_InvalidHop) "value" = some none) (ga_InvalidHop : PySem.W.findIn K (.ref C_InvalidHop) "__getattribute__" = some (some (.builtin "BaseException.__getattribute__"))) (gg_InvalidHop : PySem.W.findIn K (.ref C_InvalidHop) "__getattr__" = some none) (hd_InvalidHop : PySem.W.hasDictIn K C_InvalidHop = true) (fc_InvalidHop : PySem.W.findIn K (.ref C_InvalidHop) "__class__" = some (some (.builtin "object.__class__"))) (mo_InvalidHop : PySem.W.mroIn K C_InvalidHop (.type "object") = some true) (u0_InvalidHop : PySem.W.subIn K (.ref C_InvalidHop) (.ref B0) = some true) (v0_InvalidHop : PySem.W.subIn K (.ref C_InvalidHop) (.type "ValueError") = some true) (u1_InvalidHop : PySem.W.subIn K (.ref C_InvalidHop) (.ref B1) = some false) (v1_InvalidHop : PySem.W.subIn K (.ref C_InvalidHop) (.type "LookupError") = some false) (u2_InvalidHop : PySem.W.subIn K (.ref C_InvalidHop) (.ref B2) = some false) (v2_InvalidHop : PySem.W.subIn K (.ref C_InvalidHop) (.type "RuntimeError") = some false) (u3_InvalidHop : PySem.W.subIn K (.ref C_InvalidHop) (.ref B3) = some false) (v3_InvalidHop : PySem.W.subIn K (.ref C_InvalidHop) (.type "ArithmeticError") = some false)
    {C_InvalidWay : Addr} {nm_InvalidWay q_InvalidWay : Str} {N_InvalidWay fI_InvalidWay cc_InvalidWay cda_InvalidWay : Addr} {bs_InvalidWay : List Value} {sn_InvalidWay : List Str} {sub_InvalidWay : List Value} {ab_InvalidWay : Bool} {col_InvalidWay : Option Bool} {dd_InvalidWay od_InvalidWay an_InvalidWay cd1_InvalidWay cd2_InvalidWay : Option Addr} {m0_InvalidWay m1_InvalidWay m2_InvalidWay m3_InvalidWay m5_InvalidWay : Option Value} {oc_InvalidWay kV_InvalidWay dc_InvalidWay pm_InvalidWay ct_InvalidWay cl1_InvalidWay cl2_InvalidWay : Value} {osl_InvalidWay sl1_InvalidWay sl2_InvalidWay : Array (Option Value)} {vs_InvalidWay : Array Value} {fi_InvalidWay : Str} {tf_InvalidWay : Tok} (aC_InvalidWay : PySem.W.nsIn K mainGlobals "InvalidWay" = some (some (.ref C_InvalidWay))) (xL_InvalidWay : K.lookup C_InvalidWay = some (excClassObj nm_InvalidWay q_InvalidWay C_InvalidWay N_InvalidWay bs_InvalidWay [.ref B0, .type "ValueError", .type "Exception", .type "BaseException", .type "object"] true sn_InvalidWay sub_InvalidWay ab_InvalidWay col_InvalidWay dd_InvalidWay m0_InvalidWay m1_InvalidWay m2_InvalidWay m3_InvalidWay m5_InvalidWay "ValueError.__new__")) (sa_InvalidWay : PySem.W.findIn K (.ref C_InvalidWay) "__setattr__" = some (some (.builtin "object.__setattr__"))) (eC_InvalidWay : PySem.W.subIn K (.ref C_InvalidWay) (.type "BaseException") = some true) (tC_InvalidWay : PySem.W.typeIn K (.ref C_InvalidWay) = some (.type "type")) (kC_InvalidWay : PySem.W.keepIn K (.ref C_InvalidWay) = true) (iI_InvalidWay : PySem.W.findIn K (.ref C_InvalidWay) "__init__" = some (some (.ref fI_InvalidWay))) (tI_InvalidWay : PySem.W.typeIn K (.ref fI_InvalidWay) = some (.type "function")) (lk_InvalidWay : K.lookup fI_InvalidWay = some ⟨oc_InvalidWay, od_InvalidWay, .func (PySem.W.fnX "__init__" "InvalidWay.__init__" (defArgs s_InvalidWay_init) (defBody s_InvalidWay_init) (defScope s_InvalidWay_init) [(("__class__" : Str), cc_InvalidWay)] .none kV_InvalidWay dc_InvalidWay pm_InvalidWay an_InvalidWay (.ref cda_InvalidWay) ct_InvalidWay), osl_InvalidWay⟩) (ce_InvalidWay : K.lookup cc_InvalidWay = some ⟨cl1_InvalidWay, cd1_InvalidWay, .cell (some (.ref C_InvalidWay)), sl1_InvalidWay⟩) (co_InvalidWay : K.lookup cda_InvalidWay = some ⟨cl2_InvalidWay, cd2_InvalidWay, .fields vs_InvalidWay, sl2_InvalidWay⟩) (vf_InvalidWay : vs_InvalidWay[2]? = some (.str fi_InvalidWay tf_InvalidWay)) (mf_InvalidWay : ((l.prog.main.file : Str) == fi_InvalidWay) = true) (rc_InvalidWay : PySem.W.codeIn K (.ref cda_InvalidWay) "InvalidWay.__init__" = true) (ow_InvalidWay : PySem.W.ks_superIn K C_InvalidWay C_InvalidWay "__init__" = some (some (.builtin "ValueError.__init__"))) (mr_InvalidWay : PySem.W.mroIn K C_InvalidWay (.ref C_InvalidWay) = some true) (no0_InvalidWay : PySem.W.findIn K (.ref C_InvalidWay) "value" = some none) (ga_InvalidWay : PySem.W.findIn K (.ref C_InvalidWay) "__getattribute__" = some (some (.builtin "BaseException.__getattribute__"))) (gg_InvalidWay : PySem.W.findIn K (.ref C_InvalidWay) "__getattr__" = some none) (hd_InvalidWay : PySem.W.hasDictIn K C_InvalidWay = true) (fc_InvalidWay : PySem.W.findIn K (.ref C_InvalidWay) "__class__" = some (some (.builtin "object.__class__"))) (mo_InvalidWay : PySem.W.mroIn K C_InvalidWay (.type "object") = some true) (u0_InvalidWay : PySem.W.subIn K (.ref C_InvalidWay) (.ref B0) = some true) (v0_InvalidWay : PySem.W.subIn K (.ref C_InvalidWay) (.type "ValueError") = some true) (u1_InvalidWay : PySem.W.subIn K (.ref C_InvalidWay) (.ref B1) = some false) (v1_InvalidWay : PySem.W.subIn K (.ref C_InvalidWay) (.type "LookupError") = some false) (u2_InvalidWay : PySem.W.subIn K (.ref C_InvalidWay) (.ref B2) = some false) (v2_InvalidWay : PySem.W.subIn K (.ref C_InvalidWay) (.type "RuntimeError") = some false) (u3_InvalidWay : PySem.W.subIn K (.ref C_InvalidWay) (.ref B3) = some false) (v3_InvalidWay : PySem.W.subIn K (.ref C_InvalidWay) (.type "ArithmeticError") = some false)
    {C_InvalidMembers : Addr} {nm_InvalidMembers q_InvalidMembers : Str} {N_InvalidMembers fI_InvalidMembers cc_InvalidMembers cda_InvalidMembers : Addr} {bs_InvalidMembers : List Value} {sn_InvalidMembers : List Str} {sub_InvalidMembers : List Value} {ab_InvalidMembers : Bool} {col_InvalidMembers : Option Bool} {dd_InvalidMembers od_InvalidMembers an_InvalidMembers cd1_InvalidMembers cd2_InvalidMembers : Option Addr} {m0_InvalidMembers m1_InvalidMembers m2_InvalidMembers m3_InvalidMembers m5_InvalidMembers : Option Value} {oc_InvalidMembers kV_InvalidMembers dc_InvalidMembers pm_InvalidMembers ct_InvalidMembers cl1_InvalidMembers cl2_InvalidMembers : Value} {osl_InvalidMembers sl1_InvalidMembers sl2_InvalidMembers : Array (Option Value)} {vs_InvalidMembers : Array Value} {fi_InvalidMembers : Str} {tf_InvalidMembers : Tok} (aC_InvalidMembers : PySem.W.nsIn K mainGlobals "InvalidMembers" = some (some (.ref C_InvalidMembers))) (xL_InvalidMembers : K.lookup C_InvalidMembers = some (excClassObj nm_InvalidMembers q_InvalidMembers C_InvalidMembers N_InvalidMembers bs_InvalidMembers [.ref B0, .type "ValueError", .type "Exception", .type "BaseException", .type "object"] true sn_InvalidMembers sub_InvalidMembers ab_InvalidMembers col_InvalidMembers dd_InvalidMembers m0_InvalidMembers m1_InvalidMembers m2_InvalidMembers m3_InvalidMembers m5_InvalidMembers "ValueError.__new__")) (sa_InvalidMembers : PySem.W.findIn K (.ref C_InvalidMembers) "__setattr__" = some (some (.builtin "object.__setattr__"))) (eC_InvalidMembers : PySem.W.subIn K (.ref C_InvalidMembers) (.type "BaseException") = some true) (tC_InvalidMembers : PySem.W.typeIn K (.ref C_InvalidMembers) = some (.type "type")) (kC_InvalidMembers : PySem.W.keepIn K (.ref C_InvalidMembers) = true) (iI_InvalidMembers : PySem.W.findIn K (.ref C_InvalidMembers) "__init__" = some (some (.ref fI_InvalidMembers))) (tI_InvalidMembers : PySem.W.typeIn K (.ref fI_InvalidMembers) = some (.type "function")) (lk_InvalidMembers : K.lookup fI_InvalidMembers = some ⟨oc_InvalidMembers, od_InvalidMembers, .func (PySem.W.fnX "__init__" "InvalidMembers.__init__" (defArgs s_InvalidMembers_init) (defBody s_InvalidMembers_init) (defScope s_InvalidMembers_init) [(("__class__" : Str), cc_InvalidMembers)] .none kV_InvalidMembers dc_InvalidMembers pm_InvalidMembers an_InvalidMembers (.ref cda_InvalidMembers) ct_InvalidMembers), osl_InvalidMembers⟩) (ce_InvalidMembers : K.lookup cc_InvalidMembers = some ⟨cl1_InvalidMembers, cd1_InvalidMembers, .cell (some (.ref C_InvalidMembers)), sl1_InvalidMembers⟩) (co_InvalidMembers : K.lookup cda_InvalidMembers = some ⟨cl2_InvalidMembers, cd2_InvalidMembers, .fields vs_InvalidMembers, sl2_InvalidMembers⟩) (vf_InvalidMembers : vs_InvalidMembers[2]? = some (.str fi_InvalidMembers tf_InvalidMembers)) (mf_InvalidMembers : ((l.prog.main.file : Str) == fi_InvalidMembers) = true) (rc_InvalidMembers : PySem.W.codeIn K (.ref cda_InvalidMembers) "InvalidMembers.__init__" = true) (ow_InvalidMembers : PySem.W.ks_superIn K C_InvalidMembers C_InvalidMembers "__init__" = some (some (.builtin "ValueError.__init__"))) (mr_InvalidMembers : PySem.W.mroIn K C_InvalidMembers (.ref C_InvalidMembers) = some true) (no0_InvalidMembers : PySem.W.findIn K (.ref C_InvalidMembers) "position" = some none) (ga_InvalidMembers : PySem.W.findIn K (.ref C_InvalidMembers) "__getattribute__" = some (some (.builtin "BaseException.__getattribute__"))) (gg_InvalidMembers : PySem.W.findIn K (.ref C_InvalidMembers) "__getattr__" = some none) (hd_InvalidMembers : PySem.W.hasDictIn K C_InvalidMembers = true) (fc_InvalidMembers : PySem.W.findIn K (.ref C_InvalidMembers) "__class__" = some (some (.builtin "object.__class__"))) (mo_InvalidMembers : PySem.W.mroIn K C_InvalidMembers (.type "object") = some true) (u0_InvalidMembers : PySem.W.subIn K (.ref C_InvalidMembers) (.ref B0) = some true) (v0_InvalidMembers : PySem.W.subIn K (.ref C_InvalidMembers) (.type "ValueError") = some true) (u1_InvalidMembers : PySem.W.subIn K (.ref C_InvalidMembers) (.ref B1) = some false) (v1_InvalidMembers : PySem.W.subIn K (.ref C_InvalidMembers) (.type "LookupError") = some false) (u2_InvalidMembers : PySem.W.subIn K (.ref C_InvalidMembers) (.ref B2) = some false) (v2_InvalidMembers : PySem.W.subIn K (.ref C_InvalidMembers) (.type "RuntimeError") = some false) (u3_InvalidMembers : PySem.W.subIn K (.ref C_InvalidMembers) (.ref B3) = some false) (v3_InvalidMembers : PySem.W.subIn K (.ref C_InvalidMembers) (.type "ArithmeticError") = some false)
    {C_InvalidItems : Addr} {nm_InvalidItems q_InvalidItems : Str} {N_InvalidItems fI_InvalidItems cc_InvalidItems cda_InvalidItems : Addr} {bs_InvalidItems : List Value} {sn_InvalidItems : List Str} {sub_InvalidItems : List Value} {ab_InvalidItems : Bool} {col_InvalidItems : Option Bool} {dd_InvalidItems od_InvalidItems an_InvalidItems cd1_InvalidItems cd2_InvalidItems : Option Addr} {m0_InvalidItems m1_InvalidItems m2_InvalidItems m3_InvalidItems m5_InvalidItems : Option Value} {oc_InvalidItems kV_InvalidItems dc_InvalidItems pm_InvalidItems ct_InvalidItems cl1_InvalidItems cl2_InvalidItems : Value} {osl_InvalidItems sl1_InvalidItems sl2_InvalidItems : Array (Option Value)} {vs_InvalidItems : Array Value} {fi_InvalidItems : Str} {tf_InvalidItems : Tok} (aC_InvalidItems : PySem.W.nsIn K mainGlobals "InvalidItems" = some (some (.ref C_InvalidItems))) (xL_InvalidItems : K.lookup C_InvalidItems = some (excClassObj nm_InvalidItems q_InvalidItems C_InvalidItems N_InvalidItems bs_InvalidItems [.ref B0, .type "ValueError", .type "Exception", .type "BaseException", .type "object"] true sn_InvalidItems sub_InvalidItems ab_InvalidItems col_InvalidItems dd_InvalidItems m0_InvalidItems m1_InvalidItems m2_InvalidItems m3_InvalidItems m5_InvalidItems "ValueError.__new__")) (sa_InvalidItems : PySem.W.findIn K (.ref C_InvalidItems) "__setattr__" = some (some (.builtin "object.__setattr__"))) (eC_InvalidItems : PySem.W.subIn K (.ref C_InvalidItems) (.type "BaseException") = some true) (tC_InvalidItems : PySem.W.typeIn K (.ref C_InvalidItems) = some (.type "type")) (kC_InvalidItems : PySem.W.keepIn K (.ref C_InvalidItems) = true) (iI_InvalidItems : PySem.W.findIn K (.ref C_InvalidItems) "__init__" = some (some (.ref fI_InvalidItems))) (tI_InvalidItems : PySem.W.typeIn K (.ref fI_InvalidItems) = some (.type "function")) (lk_InvalidItems : K.lookup fI_InvalidItems = some ⟨oc_InvalidItems, od_InvalidItems, .func (PySem.W.fnX "__init__" "InvalidItems.__init__" (defArgs s_InvalidItems_init) (defBody s_InvalidItems_init) (defScope s_InvalidItems_init) [(("__class__" : Str), cc_InvalidItems)] .none kV_InvalidItems dc_InvalidItems pm_InvalidItems an_InvalidItems (.ref cda_InvalidItems) ct_InvalidItems), osl_InvalidItems⟩) (ce_InvalidItems : K.lookup cc_InvalidItems = some ⟨cl1_InvalidItems, cd1_InvalidItems, .cell (some (.ref C_InvalidItems)), sl1_InvalidItems⟩) (co_InvalidItems : K.lookup cda_InvalidItems = some ⟨cl2_InvalidItems, cd2_InvalidItems, .fields vs_InvalidItems, sl2_InvalidItems⟩) (vf_InvalidItems : vs_InvalidItems[2]? = some (.str fi_InvalidItems tf_InvalidItems)) (mf_InvalidItems : ((l.prog.main.file : Str) == fi_InvalidItems) = true) (rc_InvalidItems : PySem.W.codeIn K (.ref cda_InvalidItems) "InvalidItems.__init__" = true) (ow_InvalidItems : PySem.W.ks_superIn K C_InvalidItems C_InvalidItems "__init__" = some (some (.builtin "ValueError.__init__"))) (mr_InvalidItems : PySem.W.mroIn K C_InvalidItems (.ref C_InvalidItems) = some true) (no0_InvalidItems : PySem.W.findIn K (.ref C_InvalidItems) "position" = some none) (ga_InvalidItems : PySem.W.findIn K (.ref C_InvalidItems) "__getattribute__" = some (some (.builtin "BaseException.__getattribute__"))) (gg_InvalidItems : PySem.W.findIn K (.ref C_InvalidItems) "__getattr__" = some none) (hd_InvalidItems : PySem.W.hasDictIn K C_InvalidItems = true) (fc_InvalidItems : PySem.W.findIn K (.ref C_InvalidItems) "__class__" = some (some (.builtin "object.__class__"))) (mo_InvalidItems : PySem.W.mroIn K C_InvalidItems (.type "object") = some true) (u0_InvalidItems : PySem.W.subIn K (.ref C_InvalidItems) (.ref B0) = some true) (v0_InvalidItems : PySem.W.subIn K (.ref C_InvalidItems) (.type "ValueError") = some true) (u1_InvalidItems : PySem.W.subIn K (.ref C_InvalidItems) (.ref B1) = some false) (v1_InvalidItems : PySem.W.subIn K (.ref C_InvalidItems) (.type "LookupError") = some false) (u2_InvalidItems : PySem.W.subIn K (.ref C_InvalidItems) (.ref B2) = some false) (v2_InvalidItems : PySem.W.subIn K (.ref C_InvalidItems) (.type "RuntimeError") = some false) (u3_InvalidItems : PySem.W.subIn K (.ref C_InvalidItems) (.ref B3) = some false) (v3_InvalidItems : PySem.W.subIn K (.ref C_InvalidItems) (.type "ArithmeticError") = some false)
    {C_InvalidWithdrawn : Addr} {nm_InvalidWithdrawn q_InvalidWithdrawn : Str} {N_InvalidWithdrawn fI_InvalidWithdrawn cc_InvalidWithdrawn cda_InvalidWithdrawn : Addr} {bs_InvalidWithdrawn : List Value} {sn_InvalidWithdrawn : List Str} {sub_InvalidWithdrawn : List Value} {ab_InvalidWithdrawn : Bool} {col_InvalidWithdrawn : Option Bool} {dd_InvalidWithdrawn od_InvalidWithdrawn an_InvalidWithdrawn cd1_InvalidWithdrawn cd2_InvalidWithdrawn : Option Addr} {m0_InvalidWithdrawn m1_InvalidWithdrawn m2_InvalidWithdrawn m3_InvalidWithdrawn m5_InvalidWithdrawn : Option Value} {oc_InvalidWithdrawn kV_InvalidWithdrawn dc_InvalidWithdrawn pm_InvalidWithdrawn ct_InvalidWithdrawn cl1_InvalidWithdrawn cl2_InvalidWithdrawn : Value} {osl_InvalidWithdrawn sl1_InvalidWithdrawn sl2_InvalidWithdrawn : Array (Option Value)} {vs_InvalidWithdrawn : Array Value} {fi_InvalidWithdrawn : Str} {tf_InvalidWithdrawn : Tok} (aC_InvalidWithdrawn : PySem.W.nsIn K mainGlobals "InvalidWithdrawn" = some (some (.ref C_InvalidWithdrawn))) (xL_InvalidWithdrawn : K.lookup C_InvalidWithdrawn = some (excClassObj nm_InvalidWithdrawn q_InvalidWithdrawn C_InvalidWithdrawn N_InvalidWithdrawn bs_InvalidWithdrawn [.ref B0, .type "ValueError", .type "Exception", .type "BaseException", .type "object"] true sn_InvalidWithdrawn sub_InvalidWithdrawn ab_InvalidWithdrawn col_InvalidWithdrawn dd_InvalidWithdrawn m0_InvalidWithdrawn m1_InvalidWithdrawn m2_InvalidWithdrawn m3_InvalidWithdrawn m5_InvalidWithdrawn "ValueError.__new__")) (sa_InvalidWithdrawn : PySem.W.findIn K (.ref C_InvalidWithdrawn) "__setattr__" = some (some (.builtin "object.__setattr__"))) (eC_InvalidWithdrawn : PySem.W.subIn K (.ref C_InvalidWithdrawn) (.type "BaseException") = some true) (tC_InvalidWithdrawn : PySem.W.typeIn K (.ref C_InvalidWithdrawn) = some (.type "type")) (kC_InvalidWithdrawn : PySem.W.keepIn K (.ref C_InvalidWithdrawn) = true) (iI_InvalidWithdrawn : PySem.W.findIn K (.ref C_InvalidWithdrawn) "__init__" = some (some (.ref fI_InvalidWithdrawn))) (tI_InvalidWithdrawn : PySem.W.typeIn K (.ref fI_InvalidWithdrawn) = some (.type "function")) (lk_InvalidWithdrawn : K.lookup fI_InvalidWithdrawn = some ⟨oc_InvalidWithdrawn, od_InvalidWithdrawn, .func (PySem.W.fnX "__init__" "InvalidWithdrawn.__init__" (defArgs s_InvalidWithdrawn_init) (defBody s_InvalidWithdrawn_init) (defScope s_InvalidWithdrawn_init) [(("__class__" : Str), cc_InvalidWithdrawn)] .none kV_InvalidWithdrawn dc_InvalidWithdrawn pm_InvalidWithdrawn an_InvalidWithdrawn (.ref cda_InvalidWithdrawn) ct_InvalidWithdrawn), osl_InvalidWithdrawn⟩) (ce_InvalidWithdrawn : K.lookup cc_InvalidWithdrawn = some ⟨cl1_InvalidWithdrawn, cd1_InvalidWithdrawn, .cell (some (.ref C_InvalidWithdrawn)), sl1_InvalidWithdrawn⟩) (co_InvalidWithdrawn : K.lookup cda_InvalidWithdrawn = some ⟨cl2_InvalidWithdrawn, cd2_InvalidWithdrawn, .fields vs_InvalidWithdrawn, sl2_InvalidWithdrawn⟩) (vf_InvalidWithdrawn : vs_InvalidWithdrawn[2]? = some (.str fi_InvalidWithdrawn tf_InvalidWithdrawn)) (mf_InvalidWithdrawn : ((l.prog.main.file : Str) == fi_InvalidWithdrawn) = true) (rc_InvalidWithdrawn : PySem.W.codeIn K (.ref cda_InvalidWithdrawn) "InvalidWithdrawn.__init__" = true) (ow_InvalidWithdrawn : PySem.W.ks_superIn K C_InvalidWithdrawn C_InvalidWithdrawn "__init__" = some (some (.builtin "ValueError.__init__"))) (mr_InvalidWithdrawn : PySem.W.mroIn K C_InvalidWithdrawn (.ref C_InvalidWithdrawn) = some true) (no0_InvalidWithdrawn : PySem.W.findIn K (.ref C_InvalidWithdrawn) "position" = some none) (ga_InvalidWithdrawn : PySem.W.findIn K (.ref C_InvalidWithdrawn) "__getattribute__" = some (some (.builtin "BaseException.__getattribute__"))) (gg_InvalidWithdrawn : PySem.W.findIn K (.ref C_InvalidWithdrawn) "__getattr__" = some none) (hd_InvalidWithdrawn : PySem.W.hasDictIn K C_InvalidWithdrawn = true) (fc_InvalidWithdrawn : PySem.W.findIn K (.ref C_InvalidWithdrawn) "__class__" = some (some (.builtin "object.__class__"))) (mo_InvalidWithdrawn : PySem.W.mroIn K C_InvalidWithdrawn (.type "object") = some true) (u0_InvalidWithdrawn : PySem.W.subIn K (.ref C_InvalidWithdrawn) (.ref B0) = some true) (v0_InvalidWithdrawn : PySem.W.subIn K (.ref C_InvalidWithdrawn) (.type "ValueError") = some true) (u1_InvalidWithdrawn : PySem.W.subIn K (.ref C_InvalidWithdrawn) (.ref B1) = some false) (v1_InvalidWithdrawn : PySem.W.subIn K (.ref C_InvalidWithdrawn) (.type "LookupError") = some false) (u2_InvalidWithdrawn : PySem.W.subIn K (.ref C_InvalidWithdrawn) (.ref B2) = some false) (v2_InvalidWithdrawn : PySem.W.subIn K (.ref C_InvalidWithdrawn) (.type "RuntimeError") = some false) (u3_InvalidWithdrawn : PySem.W.subIn K (.ref C_InvalidWithdrawn) (.ref B3) = some false) (v3_InvalidWithdrawn : PySem.W.subIn K (.ref C_InvalidWithdrawn) (.type "ArithmeticError") = some false)
    {C_InvalidRegion : Addr} {nm_InvalidRegion q_InvalidRegion : Str} {N_InvalidRegion fI_InvalidRegion cc_InvalidRegion cda_InvalidRegion : Addr} {bs_InvalidRegion : List Value} {sn_InvalidRegion : List Str} {sub_InvalidRegion : List Value} {ab_InvalidRegion : Bool} {col_InvalidRegion : Option Bool} {dd_InvalidRegion od_InvalidRegion an_InvalidRegion cd1_InvalidRegion cd2_InvalidRegion : Option Addr} {m0_InvalidRegion m1_InvalidRegion m2_InvalidRegion m3_InvalidRegion m5_InvalidRegion : Option Value} {oc_InvalidRegion kV_InvalidRegion dc_InvalidRegion pm_InvalidRegion ct_InvalidRegion cl1_InvalidRegion cl2_InvalidRegion : Value} {osl_InvalidRegion sl1_InvalidRegion sl2_InvalidRegion : Array (Option Value)} {vs_InvalidRegion : Array Value} {fi_InvalidRegion : Str} {tf_InvalidRegion : Tok} (aC_InvalidRegion : PySem.W.nsIn K mainGlobals "InvalidRegion" = some (some (.ref C_InvalidRegion))) (xL_InvalidRegion : K.lookup C_InvalidRegion = some (excClassObj nm_InvalidRegion q_InvalidRegion C_InvalidRegion N_InvalidRegion bs_InvalidRegion [.ref B0, .type "ValueError", .type "Exception", .type "BaseException", .type "object"] true sn_InvalidRegion sub_InvalidRegion ab_InvalidRegion col_InvalidRegion dd_InvalidRegion m0_InvalidRegion m1_InvalidRegion m2_InvalidRegion m3_InvalidRegion m5_InvalidRegion "ValueError.__new__")) (sa_InvalidRegion : PySem.W.findIn K (.ref C_InvalidRegion) "__setattr__" = some (some (.builtin "object.__setattr__"))) (eC_InvalidRegion : PySem.W.subIn K (.ref C_InvalidRegion) (.type "BaseException") = some true) (tC_InvalidRegion : PySem.W.typeIn K (.ref C_InvalidRegion) = some (.type "type")) (kC_InvalidRegion : PySem.W.keepIn K (.ref C_InvalidRegion) = true) (iI_InvalidRegion : PySem.W.findIn K (.ref C_InvalidRegion) "__init__" = some (some (.ref fI_InvalidRegion))) (tI_InvalidRegion : PySem.W.typeIn K (.ref fI_InvalidRegion) = some (.type "function")) (lk_InvalidRegion : K.lookup fI_InvalidRegion = some ⟨oc_InvalidRegion, od_InvalidRegion, .func (PySem.W.fnX "__init__" "InvalidRegion.__init__" (defArgs s_InvalidRegion_init) (defBody s_InvalidRegion_init) (defScope s_InvalidRegion_init) [(("__class__" : Str), cc_InvalidRegion)] .none kV_InvalidRegion dc_InvalidRegion pm_InvalidRegion an_InvalidRegion (.ref cda_InvalidRegion) ct_InvalidRegion), osl_InvalidRegion⟩) (ce_InvalidRegion : K.lookup cc_InvalidRegion = some ⟨cl1_InvalidRegion, cd1_InvalidRegion, .cell (some (.ref C_InvalidRegion)), sl1_InvalidRegion⟩) (co_InvalidRegion : K.lookup cda_InvalidRegion = some ⟨cl2_InvalidRegion, cd2_InvalidRegion, .fields vs_InvalidRegion, sl2_InvalidRegion⟩) (vf_InvalidRegion : vs_InvalidRegion[2]? = some (.str fi_InvalidRegion tf_InvalidRegion)) (mf_InvalidRegion : ((l.prog.main.file : Str) == fi_InvalidRegion) = true) (rc_InvalidRegion : PySem.W.codeIn K (.ref cda_InvalidRegion) "InvalidRegion.__init__" = true) (ow_InvalidRegion : PySem.W.ks_superIn K C_InvalidRegion C_InvalidRegion "__init__" = some (some (.builtin "ValueError.__init__"))) (mr_InvalidRegion : PySem.W.mroIn K C_InvalidRegion (.ref C_InvalidRegion) = some true) (no0_InvalidRegion : PySem.W.findIn K (.ref C_InvalidRegion) "position" = some none) (ga_InvalidRegion : PySem.W.findIn K (.ref C_InvalidRegion) "__getattribute__" = some (some (.builtin "BaseException.__getattribute__"))) (gg_InvalidRegion : PySem.W.findIn K (.ref C_InvalidRegion) "__getattr__" = some none) (hd_InvalidRegion : PySem.W.hasDictIn K C_InvalidRegion = true) (fc_InvalidRegion : PySem.W.findIn K (.ref C_InvalidRegion) "__class__" = some (some (.builtin "object.__class__"))) (mo_InvalidRegion : PySem.W.mroIn K C_InvalidRegion (.type "object") = some true) (u0_InvalidRegion : PySem.W.subIn K (.ref C_InvalidRegion) (.ref B0) = some true) (v0_InvalidRegion : PySem.W.subIn K (.ref C_InvalidRegion) (.type "ValueError") = some true) (u1_InvalidRegion : PySem.W.subIn K (.ref C_InvalidRegion) (.ref B1) = some false) (v1_InvalidRegion : PySem.W.subIn K (.ref C_InvalidRegion) (.type "LookupError") = some false) (u2_InvalidRegion : PySem.W.subIn K (.ref C_InvalidRegion) (.ref B2) = some false) (v2_InvalidRegion : PySem.W.subIn K (.ref C_InvalidRegion) (.type "RuntimeError") = some false) (u3_InvalidRegion : PySem.W.subIn K (.ref C_InvalidRegion) (.ref B3) = some false) (v3_InvalidRegion : PySem.W.subIn K (.ref C_InvalidRegion) (.type "ArithmeticError") = some false)
    {C_InvalidHops : Addr} {nm_InvalidHops q_InvalidHops : Str} {N_InvalidHops fI_InvalidHops cc_InvalidHops cda_InvalidHops : Addr} {bs_InvalidHops : List Value} {sn_InvalidHops : List Str} {sub_InvalidHops : List Value} {ab_InvalidHops : Bool} {col_InvalidHops : Option Bool} {dd_InvalidHops od_InvalidHops an_InvalidHops cd1_InvalidHops cd2_InvalidHops : Option Addr} {m0_InvalidHops m1_InvalidHops m2_InvalidHops m3_InvalidHops m5_InvalidHops : Option Value} {oc_InvalidHops kV_InvalidHops dc_InvalidHops pm_InvalidHops ct_InvalidHops cl1_InvalidHops cl2_InvalidHops : Value} {osl_InvalidHops sl1_InvalidHops sl2_InvalidHops : Array (Option Value)} {vs_InvalidHops : Array Value} {fi_InvalidHops : Str} {tf_InvalidHops : Tok} (aC_InvalidHops : PySem.W.nsIn K mainGlobals "InvalidHops" = some (some (.ref C_InvalidHops))) (xL_InvalidHops : K.lookup C_InvalidHops = some (excClassObj nm_InvalidHops q_InvalidHops C_InvalidHops N_InvalidHops bs_InvalidHops [.ref B0, .type "ValueError", .type "Exception", .type "BaseException", .type "object"] true sn_InvalidHops sub_InvalidHops ab_InvalidHops col_InvalidHops dd_InvalidHops m0_InvalidHops m1_InvalidHops m2_InvalidHops m3_InvalidHops m5_InvalidHops "ValueError.__new__")) (sa_InvalidHops : PySem.W.findIn K (.ref C_InvalidHops) "__setattr__" = some (some (.builtin "object.__setattr__"))) (eC_InvalidHops : PySem.W.subIn K (.ref C_InvalidHops) (.type "BaseException") = some true) (tC_InvalidHops : PySem.W.typeIn K (.ref C_InvalidHops) = some (.type "type")) (kC_InvalidHops : PySem.W.keepIn K (.ref C_InvalidHops) = true) (iI_InvalidHops : PySem.W.findIn K (.ref C_InvalidHops) "__init__" = some (some (.ref fI_InvalidHops))) (tI_InvalidHops : PySem.W.typeIn K (.ref fI_InvalidHops) = some (.type "function")) (lk_InvalidHops : K.lookup fI_InvalidHops = some ⟨oc_InvalidHops, od_InvalidHops, .func (PySem.W.fnX "__init__" "InvalidHops.__init__" (defArgs s_InvalidHops_init) (defBody s_InvalidHops_init) (defScope s_InvalidHops_init) [(("__class__" : Str), cc_InvalidHops)] .none kV_InvalidHops dc_InvalidHops pm_InvalidHops an_InvalidHops (.ref cda_InvalidHops) ct_InvalidHops), osl_InvalidHops⟩) (ce_InvalidHops : K.lookup cc_InvalidHops = some ⟨cl1_InvalidHops, cd1_InvalidHops, .cell (some (.ref C_InvalidHops)), sl1_InvalidHops⟩) (co_InvalidHops : K.lookup cda_InvalidHops = some ⟨cl2_InvalidHops, cd2_InvalidHops, .fields vs_InvalidHops, sl2_InvalidHops⟩) (vf_InvalidHops : vs_InvalidHops[2]? = some (.str fi_InvalidHops tf_InvalidHops)) (mf_InvalidHops : ((l.prog.main.file : Str) == fi_InvalidHops) = true) (rc_InvalidHops : PySem.W.codeIn K (.ref cda_InvalidHops) "InvalidHops.__init__" = true) (ow_InvalidHops : PySem.W.ks_superIn K C_InvalidHops C_InvalidHops "__init__" = some (some (.builtin "ValueError.__init__"))) (mr_InvalidHops : PySem.W.mroIn K C_InvalidHops (.ref C_InvalidHops) = some true) (no0_InvalidHops : PySem.W.findIn K (.ref C_InvalidHops) "position" = some none) (ga_InvalidHops : PySem.W.findIn K (.ref C_InvalidHops) "__getattribute__" = some (some (.builtin "BaseException.__getattribute__"))) (gg_InvalidHops : PySem.W.findIn K (.ref C_InvalidHops) "__getattr__" = some none) (hd_InvalidHops : PySem.W.hasDictIn K C_InvalidHops = true) (fc_InvalidHops : PySem.W.findIn K (.ref C_InvalidHops) "__class__" = some (some (.builtin "object.__class__"))) (mo_InvalidHops : PySem.W.mroIn K C_InvalidHops (.type "object") = some true) (u0_InvalidHops : PySem.W.subIn K (.ref C_InvalidHops) (.ref B0) = some true) (v0_InvalidHops : PySem.W.subIn K (.ref C_InvalidHops) (.type "ValueError") = some true) (u1_InvalidHops : PySem.W.subIn K (.ref C_InvalidHops) (.ref B1) = some false) (v1_InvalidHops : PySem.W.subIn K (.ref C_InvalidHops) (.type "LookupError") = some false) (u2_InvalidHops : PySem.W.subIn K (.ref C_InvalidHops) (.ref B2) = some false) (v2_InvalidHops : PySem.W.subIn K (.ref C_InvalidHops) (.type "RuntimeError") = some false) (u3_InvalidHops : PySem.W.subIn K (.ref C_InvalidHops) (.ref B3) = some false) (v3_InvalidHops : PySem.W.subIn K (.ref C_InvalidHops) (.type "ArithmeticError") = some false)
    {C_InvalidWord : Addr} {nm_InvalidWord q_InvalidWord : Str} {N_InvalidWord fI_InvalidWord cc_InvalidWord cda_InvalidWord : Addr} {bs_InvalidWord : List Value} {sn_InvalidWord : List Str} {sub_InvalidWord : List Value} {ab_InvalidWord : Bool} {col_InvalidWord : Option Bool} {dd_InvalidWord od_InvalidWord an_InvalidWord cd1_InvalidWord cd2_InvalidWord : Option Addr} {m0_InvalidWord m1_InvalidWord m2_InvalidWord m3_InvalidWord m5_InvalidWord : Option Value} {oc_InvalidWord kV_InvalidWord dc_InvalidWord pm_InvalidWord ct_InvalidWord cl1_InvalidWord cl2_InvalidWord : Value} {osl_InvalidWord sl1_InvalidWord sl2_InvalidWord : Array (Option Value)} {vs_InvalidWord : Array Value} {fi_InvalidWord : Str} {tf_InvalidWord : Tok} (aC_InvalidWord : PySem.W.nsIn K mainGlobals "InvalidWord" = some (some (.ref C_InvalidWord))) (xL_InvalidWord : K.lookup C_InvalidWord = some (excClassObj nm_InvalidWord q_InvalidWord C_InvalidWord N_InvalidWord bs_InvalidWord [.ref B0, .type "ValueError", .type "Exception", .type "BaseException", .type "object"] true sn_InvalidWord sub_InvalidWord ab_InvalidWord col_InvalidWord dd_InvalidWord m0_InvalidWord m1_InvalidWord m2_InvalidWord m3_InvalidWord m5_InvalidWord "ValueError.__new__")) (sa_InvalidWord : PySem.W.findIn K (.ref C_InvalidWord) "__setattr__" = some (some (.builtin "object.__setattr__"))) (eC_InvalidWord : PySem.W.subIn K (.ref C_InvalidWord) (.type "BaseException") = some true) (tC_InvalidWord : PySem.W.typeIn K (.ref C_InvalidWord) = some (.type "type")) (kC_InvalidWord : PySem.W.keepIn K (.ref C_InvalidWord) = true) (iI_InvalidWord : PySem.W.findIn K (.ref C_InvalidWord) "__init__" = some (some (.ref fI_InvalidWord))) (tI_InvalidWord : PySem.W.typeIn K (.ref fI_InvalidWord) = some (.type "function")) (lk_InvalidWord : K.lookup fI_InvalidWord = some ⟨oc_InvalidWord, od_InvalidWord, .func (PySem.W.fnX "__init__" "InvalidWord.__init__" (defArgs s_InvalidWord_init) (defBody s_InvalidWord_init) (defScope s_InvalidWord_init) [(("__class__" : Str), cc_InvalidWord)] .none kV_InvalidWord dc_InvalidWord pm_InvalidWord an_InvalidWord (.ref cda_InvalidWord) ct_InvalidWord), osl_InvalidWord⟩) (ce_InvalidWord : K.lookup cc_InvalidWord = some ⟨cl1_InvalidWord, cd1_InvalidWord, .cell (some (.ref C_InvalidWord)), sl1_InvalidWord⟩) (co_InvalidWord : K.lookup cda_InvalidWord = some ⟨cl2_InvalidWord, cd2_InvalidWord, .fields vs_InvalidWord, sl2_InvalidWord⟩) (vf_InvalidWord : vs_InvalidWord[2]? = some (.str fi_InvalidWord tf_InvalidWord)) (mf_InvalidWord : ((l.prog.main.file : Str) == fi_InvalidWord) = true) (rc_InvalidWord : PySem.W.codeIn K (.ref cda_InvalidWord) "InvalidWord.__init__" = true) (ow_InvalidWord : PySem.W.ks_superIn K C_InvalidWord C_InvalidWord "__init__" = some (some (.builtin "ValueError.__init__"))) (mr_InvalidWord : PySem.W.mroIn K C_InvalidWord (.ref C_InvalidWord) = some true) (no0_InvalidWord : PySem.W.findIn K (.ref C_InvalidWord) "value" = some none) (ga_InvalidWord : PySem.W.findIn K (.ref C_InvalidWord) "__getattribute__" = some (some (.builtin "BaseException.__getattribute__"))) (gg_InvalidWord : PySem.W.findIn K (.ref C_InvalidWord) "__getattr__" = some none) (hd_InvalidWord : PySem.W.hasDictIn K C_InvalidWord = true) (fc_InvalidWord : PySem.W.findIn K (.ref C_InvalidWord) "__class__" = some (some (.builtin "object.__class__"))) (mo_InvalidWord : PySem.W.mroIn K C_InvalidWord (.type "object") = some true) (u0_InvalidWord : PySem.W.subIn K (.ref C_InvalidWord) (.ref B0) = some true) (v0_InvalidWord : PySem.W.subIn K (.ref C_InvalidWord) (.type "ValueError") = some true) (u1_InvalidWord : PySem.W.subIn K (.ref C_InvalidWord) (.ref B1) = some false) (v1_InvalidWord : PySem.W.subIn K (.ref C_InvalidWord) (.type "LookupError") = some false) (u2_InvalidWord : PySem.W.subIn K (.ref C_InvalidWord) (.ref B2) = some false) (v2_InvalidWord : PySem.W.subIn K (.ref C_InvalidWord) (.type "RuntimeError") = some false) (u3_InvalidWord : PySem.W.subIn K (.ref C_InvalidWord) (.ref B3) = some false) (v3_InvalidWord : PySem.W.subIn K (.ref C_InvalidWord) (.type "ArithmeticError") = some false)
    {C_InvalidText : Addr} {nm_InvalidText q_InvalidText : Str} {N_InvalidText fI_InvalidText cc_InvalidText cda_InvalidText : Addr} {bs_InvalidText : List Value} {sn_InvalidText : List Str} {sub_InvalidText : List Value} {ab_InvalidText : Bool} {col_InvalidText : Option Bool} {dd_InvalidText od_InvalidText an_InvalidText cd1_InvalidText cd2_InvalidText : Option Addr} {m0_InvalidText m1_InvalidText m2_InvalidText m3_InvalidText m5_InvalidText : Option Value} {oc_InvalidText kV_InvalidText dc_InvalidText pm_InvalidText ct_InvalidText cl1_InvalidText cl2_InvalidText : Value} {osl_InvalidText sl1_InvalidText sl2_InvalidText : Array (Option Value)} {vs_InvalidText : Array Value} {fi_InvalidText : Str} {tf_InvalidText : Tok} (aC_InvalidText : PySem.W.nsIn K mainGlobals "InvalidText" = some (some (.ref C_InvalidText))) (xL_InvalidText : K.lookup C_InvalidText = some (excClassObj nm_InvalidText q_InvalidText C_InvalidText N_InvalidText bs_InvalidText [.ref B0, .type "ValueError", .type "Exception", .type "BaseException", .type "object"] true sn_InvalidText sub_InvalidText ab_InvalidText col_InvalidText dd_InvalidText m0_InvalidText m1_InvalidText m2_InvalidText m3_InvalidText m5_InvalidText "ValueError.__new__")) (sa_InvalidText : PySem.W.findIn K (.ref C_InvalidText) "__setattr__" = some (some (.builtin "object.__setattr__"))) (eC_InvalidText : PySem.W.subIn K (.ref C_InvalidText) (.type "BaseException") = some true) (tC_InvalidText : PySem.W.typeIn K (.ref C_InvalidText) = some (.type "type")) (kC_InvalidText : PySem.W.keepIn K (.ref C_InvalidText) = true) (iI_InvalidText : PySem.W.findIn K (.ref C_InvalidText) "__init__" = some (some (.ref fI_InvalidText))) (tI_InvalidText : PySem.W.typeIn K (.ref fI_InvalidText) = some (.type "function")) (lk_InvalidText : K.lookup fI_InvalidText = some ⟨oc_InvalidText, od_InvalidText, .func (PySem.W.fnX "__init__" "InvalidText.__init__" (defArgs s_InvalidText_init) (defBody s_InvalidText_init) (defScope s_InvalidText_init) [(("__class__" : Str), cc_InvalidText)] .none kV_InvalidText dc_InvalidText pm_InvalidText an_InvalidText (.ref cda_InvalidText) ct_InvalidText), osl_InvalidText⟩) (ce_InvalidText : K.lookup cc_InvalidText = some ⟨cl1_InvalidText, cd1_InvalidText, .cell (some (.ref C_InvalidText)), sl1_InvalidText⟩) (co_InvalidText : K.lookup cda_InvalidText = some ⟨cl2_InvalidText, cd2_InvalidText, .fields vs_InvalidText, sl2_InvalidText⟩) (vf_InvalidText : vs_InvalidText[2]? = some (.str fi_InvalidText tf_InvalidText)) (mf_InvalidText : ((l.prog.main.file : Str) == fi_InvalidText) = true) (rc_InvalidText : PySem.W.codeIn K (.ref cda_InvalidText) "InvalidText.__init__" = true) (ow_InvalidText : PySem.W.ks_superIn K C_InvalidText C_InvalidText "__init__" = some (some (.builtin "ValueError.__init__"))) (mr_InvalidText : PySem.W.mroIn K C_InvalidText (.ref C_InvalidText) = some true) (no0_InvalidText : PySem.W.findIn K (.ref C_InvalidText) "line" = some none) (ga_InvalidText : PySem.W.findIn K (.ref C_InvalidText) "__getattribute__" = some (some (.builtin "BaseException.__getattribute__"))) (gg_InvalidText : PySem.W.findIn K (.ref C_InvalidText) "__getattr__" = some none) (hd_InvalidText : PySem.W.hasDictIn K C_InvalidText = true) (fc_InvalidText : PySem.W.findIn K (.ref C_InvalidText) "__class__" = some (some (.builtin "object.__class__"))) (mo_InvalidText : PySem.W.mroIn K C_InvalidText (.type "object") = some true) (u0_InvalidText : PySem.W.subIn K (.ref C_InvalidText) (.ref B0) = some true) (v0_InvalidText : PySem.W.subIn K (.ref C_InvalidText) (.type "ValueError") = some true) (u1_InvalidText : PySem.W.subIn K (.ref C_InvalidText) (.ref B1) = some false) (v1_InvalidText : PySem.W.subIn K (.ref C_InvalidText) (.type "LookupError") = some false) (u2_InvalidText : PySem.W.subIn K (.ref C_InvalidText) (.ref B2) = some false) (v2_InvalidText : PySem.W.subIn K (.ref C_InvalidText) (.type "RuntimeError") = some false) (u3_InvalidText : PySem.W.subIn K (.ref C_InvalidText) (.ref B3) = some false) (v3_InvalidText : PySem.W.subIn K (.ref C_InvalidText) (.type "ArithmeticError") = some false)
    {C_InvalidClaim : Addr} {nm_InvalidClaim q_InvalidClaim : Str} {N_InvalidClaim fI_InvalidClaim cc_InvalidClaim cda_InvalidClaim : Addr} {bs_InvalidClaim : List Value} {sn_InvalidClaim : List Str} {sub_InvalidClaim : List Value} {ab_InvalidClaim : Bool} {col_InvalidClaim : Option Bool} {dd_InvalidClaim od_InvalidClaim an_InvalidClaim cd1_InvalidClaim cd2_InvalidClaim : Option Addr} {m0_InvalidClaim m1_InvalidClaim m2_InvalidClaim m3_InvalidClaim m5_InvalidClaim : Option Value} {oc_InvalidClaim kV_InvalidClaim dc_InvalidClaim pm_InvalidClaim ct_InvalidClaim cl1_InvalidClaim cl2_InvalidClaim : Value} {osl_InvalidClaim sl1_InvalidClaim sl2_InvalidClaim : Array (Option Value)} {vs_InvalidClaim : Array Value} {fi_InvalidClaim : Str} {tf_InvalidClaim : Tok} (aC_InvalidClaim : PySem.W.nsIn K mainGlobals "InvalidClaim" = some (some (.ref C_InvalidClaim))) (xL_InvalidClaim : K.lookup C_InvalidClaim = some (excClassObj nm_InvalidClaim q_InvalidClaim C_InvalidClaim N_InvalidClaim bs_InvalidClaim [.ref B0, .type "ValueError", .type "Exception", .type "BaseException", .type "object"] true sn_InvalidClaim sub_InvalidClaim ab_InvalidClaim col_InvalidClaim dd_InvalidClaim m0_InvalidClaim m1_InvalidClaim m2_InvalidClaim m3_InvalidClaim m5_InvalidClaim "ValueError.__new__")) (sa_InvalidClaim : PySem.W.findIn K (.ref C_InvalidClaim) "__setattr__" = some (some (.builtin "object.__setattr__"))) (eC_InvalidClaim : PySem.W.subIn K (.ref C_InvalidClaim) (.type "BaseException") = some true) (tC_InvalidClaim : PySem.W.typeIn K (.ref C_InvalidClaim) = some (.type "type")) (kC_InvalidClaim : PySem.W.keepIn K (.ref C_InvalidClaim) = true) (iI_InvalidClaim : PySem.W.findIn K (.ref C_InvalidClaim) "__init__" = some (some (.ref fI_InvalidClaim))) (tI_InvalidClaim : PySem.W.typeIn K (.ref fI_InvalidClaim) = some (.type "function")) (lk_InvalidClaim : K.lookup fI_InvalidClaim = some ⟨oc_InvalidClaim, od_InvalidClaim, .func (PySem.W.fnX "__init__" "InvalidClaim.__init__" (defArgs s_InvalidClaim_init) (defBody s_InvalidClaim_init) (defScope s_InvalidClaim_init) [(("__class__" : Str), cc_InvalidClaim)] .none kV_InvalidClaim dc_InvalidClaim pm_InvalidClaim an_InvalidClaim (.ref cda_InvalidClaim) ct_InvalidClaim), osl_InvalidClaim⟩) (ce_InvalidClaim : K.lookup cc_InvalidClaim = some ⟨cl1_InvalidClaim, cd1_InvalidClaim, .cell (some (.ref C_InvalidClaim)), sl1_InvalidClaim⟩) (co_InvalidClaim : K.lookup cda_InvalidClaim = some ⟨cl2_InvalidClaim, cd2_InvalidClaim, .fields vs_InvalidClaim, sl2_InvalidClaim⟩) (vf_InvalidClaim : vs_InvalidClaim[2]? = some (.str fi_InvalidClaim tf_InvalidClaim)) (mf_InvalidClaim : ((l.prog.main.file : Str) == fi_InvalidClaim) = true) (rc_InvalidClaim : PySem.W.codeIn K (.ref cda_InvalidClaim) "InvalidClaim.__init__" = true) (ow_InvalidClaim : PySem.W.ks_superIn K C_InvalidClaim C_InvalidClaim "__init__" = some (some (.builtin "ValueError.__init__"))) (mr_InvalidClaim : PySem.W.mroIn K C_InvalidClaim (.ref C_InvalidClaim) = some true) (no0_InvalidClaim : PySem.W.findIn K (.ref C_InvalidClaim) "value" = some none) (ga_InvalidClaim : PySem.W.findIn K (.ref C_InvalidClaim) "__getattribute__" = some (some (.builtin "BaseException.__getattribute__"))) (gg_InvalidClaim : PySem.W.findIn K (.ref C_InvalidClaim) "__getattr__" = some none) (hd_InvalidClaim : PySem.W.hasDictIn K C_InvalidClaim = true) (fc_InvalidClaim : PySem.W.findIn K (.ref C_InvalidClaim) "__class__" = some (some (.builtin "object.__class__"))) (mo_InvalidClaim : PySem.W.mroIn K C_InvalidClaim (.type "object") = some true) (u0_InvalidClaim : PySem.W.subIn K (.ref C_InvalidClaim) (.ref B0) = some true) (v0_InvalidClaim : PySem.W.subIn K (.ref C_InvalidClaim) (.type "ValueError") = some true) (u1_InvalidClaim : PySem.W.subIn K (.ref C_InvalidClaim) (.ref B1) = some false) (v1_InvalidClaim : PySem.W.subIn K (.ref C_InvalidClaim) (.type "LookupError") = some false) (u2_InvalidClaim : PySem.W.subIn K (.ref C_InvalidClaim) (.ref B2) = some false) (v2_InvalidClaim : PySem.W.subIn K (.ref C_InvalidClaim) (.type "RuntimeError") = some false) (u3_InvalidClaim : PySem.W.subIn K (.ref C_InvalidClaim) (.ref B3) = some false) (v3_InvalidClaim : PySem.W.subIn K (.ref C_InvalidClaim) (.type "ArithmeticError") = some false)
    {C_InvalidCommand : Addr} {nm_InvalidCommand q_InvalidCommand : Str} {N_InvalidCommand fI_InvalidCommand cc_InvalidCommand cda_InvalidCommand : Addr} {bs_InvalidCommand : List Value} {sn_InvalidCommand : List Str} {sub_InvalidCommand : List Value} {ab_InvalidCommand : Bool} {col_InvalidCommand : Option Bool} {dd_InvalidCommand od_InvalidCommand an_InvalidCommand cd1_InvalidCommand cd2_InvalidCommand : Option Addr} {m0_InvalidCommand m1_InvalidCommand m2_InvalidCommand m3_InvalidCommand m5_InvalidCommand : Option Value} {oc_InvalidCommand kV_InvalidCommand dc_InvalidCommand pm_InvalidCommand ct_InvalidCommand cl1_InvalidCommand cl2_InvalidCommand : Value} {osl_InvalidCommand sl1_InvalidCommand sl2_InvalidCommand : Array (Option Value)} {vs_InvalidCommand : Array Value} {fi_InvalidCommand : Str} {tf_InvalidCommand : Tok} (aC_InvalidCommand : PySem.W.nsIn K mainGlobals "InvalidCommand" = some (some (.ref C_InvalidCommand))) (xL_InvalidCommand : K.lookup C_InvalidCommand = some (excClassObj nm_InvalidCommand q_InvalidCommand C_InvalidCommand N_InvalidCommand bs_InvalidCommand [.ref B0, .type "ValueError", .type "Exception", .type "BaseException", .type "object"] true sn_InvalidCommand sub_InvalidCommand ab_InvalidCommand col_InvalidCommand dd_InvalidCommand m0_InvalidCommand m1_InvalidCommand m2_InvalidCommand m3_InvalidCommand m5_InvalidCommand "ValueError.__new__")) (sa_InvalidCommand : PySem.W.findIn K (.ref C_InvalidCommand) "__setattr__" = some (some (.builtin "object.__setattr__"))) (eC_InvalidCommand : PySem.W.subIn K (.ref C_InvalidCommand) (.type "BaseException") = some true) (tC_InvalidCommand : PySem.W.typeIn K (.ref C_InvalidCommand) = some (.type "type")) (kC_InvalidCommand : PySem.W.keepIn K (.ref C_InvalidCommand) = true) (iI_InvalidCommand : PySem.W.findIn K (.ref C_InvalidCommand) "__init__" = some (some (.ref fI_InvalidCommand))) (tI_InvalidCommand : PySem.W.typeIn K (.ref fI_InvalidCommand) = some (.type "function")) (lk_InvalidCommand : K.lookup fI_InvalidCommand = some ⟨oc_InvalidCommand, od_InvalidCommand, .func (PySem.W.fnX "__init__" "InvalidCommand.__init__" (defArgs s_InvalidCommand_init) (defBody s_InvalidCommand_init) (defScope s_InvalidCommand_init) [(("__class__" : Str), cc_InvalidCommand)] .none kV_InvalidCommand dc_InvalidCommand pm_InvalidCommand an_InvalidCommand (.ref cda_InvalidCommand) ct_InvalidCommand), osl_InvalidCommand⟩) (ce_InvalidCommand : K.lookup cc_InvalidCommand = some ⟨cl1_InvalidCommand, cd1_InvalidCommand, .cell (some (.ref C_InvalidCommand)), sl1_InvalidCommand⟩) (co_InvalidCommand : K.lookup cda_InvalidCommand = some ⟨cl2_InvalidCommand, cd2_InvalidCommand, .fields vs_InvalidCommand, sl2_InvalidCommand⟩) (vf_InvalidCommand : vs_InvalidCommand[2]? = some (.str fi_InvalidCommand tf_InvalidCommand)) (mf_InvalidCommand : ((l.prog.main.file : Str) == fi_InvalidCommand) = true) (rc_InvalidCommand : PySem.W.codeIn K (.ref cda_InvalidCommand) "InvalidCommand.__init__" = true) (ow_InvalidCommand : PySem.W.ks_superIn K C_InvalidCommand C_InvalidCommand "__init__" = some (some (.builtin "ValueError.__init__"))) (mr_InvalidCommand : PySem.W.mroIn K C_InvalidCommand (.ref C_InvalidCommand) = some true) (no0_InvalidCommand : PySem.W.findIn K (.ref C_InvalidCommand) "value" = some none) (ga_InvalidCommand : PySem.W.findIn K (.ref C_InvalidCommand) "__getattribute__" = some (some (.builtin "BaseException.__getattribute__"))) (gg_InvalidCommand : PySem.W.findIn K (.ref C_InvalidCommand) "__getattr__" = some none) (hd_InvalidCommand : PySem.W.hasDictIn K C_InvalidCommand = true) (fc_InvalidCommand : PySem.W.findIn K (.ref C_InvalidCommand) "__class__" = some (some (.builtin "object.__class__"))) (mo_InvalidCommand : PySem.W.mroIn K C_InvalidCommand (.type "object") = some true) (u0_InvalidCommand : PySem.W.subIn K (.ref C_InvalidCommand) (.ref B0) = some true) (v0_InvalidCommand : PySem.W.subIn K (.ref C_InvalidCommand) (.type "ValueError") = some true) (u1_InvalidCommand : PySem.W.subIn K (.ref C_InvalidCommand) (.ref B1) = some false) (v1_InvalidCommand : PySem.W.subIn K (.ref C_InvalidCommand) (.type "LookupError") = some false) (u2_InvalidCommand : PySem.W.subIn K (.ref C_InvalidCommand) (.ref B2) = some false) (v2_InvalidCommand : PySem.W.subIn K (.ref C_InvalidCommand) (.type "RuntimeError") = some false) (u3_InvalidCommand : PySem.W.subIn K (.ref C_InvalidCommand) (.ref B3) = some false) (v3_InvalidCommand : PySem.W.subIn K (.ref C_InvalidCommand) (.type "ArithmeticError") = some false)
    {C_UnknownStretch : Addr} {nm_UnknownStretch q_UnknownStretch : Str} {N_UnknownStretch fI_UnknownStretch cc_UnknownStretch cda_UnknownStretch : Addr} {bs_UnknownStretch : List Value} {sn_UnknownStretch : List Str} {sub_UnknownStretch : List Value} {ab_UnknownStretch : Bool} {col_UnknownStretch : Option Bool} {dd_UnknownStretch od_UnknownStretch an_UnknownStretch cd1_UnknownStretch cd2_UnknownStretch : Option Addr} {m0_UnknownStretch m1_UnknownStretch m2_UnknownStretch m3_UnknownStretch m5_UnknownStretch : Option Value} {oc_UnknownStretch kV_UnknownStretch dc_UnknownStretch pm_UnknownStretch ct_UnknownStretch cl1_UnknownStretch cl2_UnknownStretch : Value} {osl_UnknownStretch sl1_UnknownStretch sl2_UnknownStretch : Array (Option Value)} {vs_UnknownStretch : Array Value} {fi_UnknownStretch : Str} {tf_UnknownStretch : Tok} (aC_UnknownStretch : PySem.W.nsIn K mainGlobals "UnknownStretch" = some (some (.ref C_UnknownStretch))) (xL_UnknownStretch : K.lookup C_UnknownStretch = some (excClassObj nm_UnknownStretch q_UnknownStretch C_UnknownStretch N_UnknownStretch bs_UnknownStretch [.ref B1, .type "LookupError", .type "Exception", .type "BaseException", .type "object"] true sn_UnknownStretch sub_UnknownStretch ab_UnknownStretch col_UnknownStretch dd_UnknownStretch m0_UnknownStretch m1_UnknownStretch m2_UnknownStretch m3_UnknownStretch m5_UnknownStretch "LookupError.__new__")) (sa_UnknownStretch : PySem.W.findIn K (.ref C_UnknownStretch) "__setattr__" = some (some (.builtin "object.__setattr__"))) (eC_UnknownStretch : PySem.W.subIn K (.ref C_UnknownStretch) (.type "BaseException") = some true) (tC_UnknownStretch : PySem.W.typeIn K (.ref C_UnknownStretch) = some (.type "type")) (kC_UnknownStretch : PySem.W.keepIn K (.ref C_UnknownStretch) = true) (iI_UnknownStretch : PySem.W.findIn K (.ref C_UnknownStretch) "__init__" = some (some (.ref fI_UnknownStretch))) (tI_UnknownStretch : PySem.W.typeIn K (.ref fI_UnknownStretch) = some (.type "function")) (lk_UnknownStretch : K.lookup fI_UnknownStretch = some ⟨oc_UnknownStretch, od_UnknownStretch, .func (PySem.W.fnX "__init__" "UnknownStretch.__init__" (defArgs s_UnknownStretch_init) (defBody s_UnknownStretch_init) (defScope s_UnknownStretch_init) [(("__class__" : Str), cc_UnknownStretch)] .none kV_UnknownStretch dc_UnknownStretch pm_UnknownStretch an_UnknownStretch (.ref cda_UnknownStretch) ct_UnknownStretch), osl_UnknownStretch⟩) (ce_UnknownStretch : K.lookup cc_UnknownStretch = some ⟨cl1_UnknownStretch, cd1_UnknownStretch, .cell (some (.ref C_UnknownStretch)), sl1_UnknownStretch⟩) (co_UnknownStretch : K.lookup cda_UnknownStretch = some ⟨cl2_UnknownStretch, cd2_UnknownStretch, .fields vs_UnknownStretch, sl2_UnknownStretch⟩) (vf_UnknownStretch : vs_UnknownStretch[2]? = some (.str fi_UnknownStretch tf_UnknownStretch)) (mf_UnknownStretch : ((l.prog.main.file : Str) == fi_UnknownStretch) = true) (rc_UnknownStretch : PySem.W.codeIn K (.ref cda_UnknownStretch) "UnknownStretch.__init__" = true) (ow_UnknownStretch : PySem.W.ks_superIn K C_UnknownStretch C_UnknownStretch "__init__" = some (some (.builtin "LookupError.__init__"))) (mr_UnknownStretch : PySem.W.mroIn K C_UnknownStretch (.ref C_UnknownStretch) = some true) (no0_UnknownStretch : PySem.W.findIn K (.ref C_UnknownStretch) "value" = some none) (ga_UnknownStretch : PySem.W.findIn K (.ref C_UnknownStretch) "__getattribute__" = some (some (.builtin "BaseException.__getattribute__"))) (gg_UnknownStretch : PySem.W.findIn K (.ref C_UnknownStretch) "__getattr__" = some none) (hd_UnknownStretch : PySem.W.hasDictIn K C_UnknownStretch = true) (fc_UnknownStretch : PySem.W.findIn K (.ref C_UnknownStretch) "__class__" = some (some (.builtin "object.__class__"))) (mo_UnknownStretch : PySem.W.mroIn K C_UnknownStretch (.type "object") = some true) (u0_UnknownStretch : PySem.W.subIn K (.ref C_UnknownStretch) (.ref B0) = some false) (v0_UnknownStretch : PySem.W.subIn K (.ref C_UnknownStretch) (.type "ValueError") = some false) (u1_UnknownStretch : PySem.W.subIn K (.ref C_UnknownStretch) (.ref B1) = some true) (v1_UnknownStretch : PySem.W.subIn K (.ref C_UnknownStretch) (.type "LookupError") = some true) (u2_UnknownStretch : PySem.W.subIn K (.ref C_UnknownStretch) (.ref B2) = some false) (v2_UnknownStretch : PySem.W.subIn K (.ref C_UnknownStretch) (.type "RuntimeError") = some false) (u3_UnknownStretch : PySem.W.subIn K (.ref C_UnknownStretch) (.ref B3) = some false) (v3_UnknownStretch : PySem.W.subIn K (.ref C_UnknownStretch) (.type "ArithmeticError") = some false)
    {C_UnknownHop : Addr} {nm_UnknownHop q_UnknownHop : Str} {N_UnknownHop fI_UnknownHop cc_UnknownHop cda_UnknownHop : Addr} {bs_UnknownHop : List Value} {sn_UnknownHop : List Str} {sub_UnknownHop : List Value} {ab_UnknownHop : Bool} {col_UnknownHop : Option Bool} {dd_UnknownHop od_UnknownHop an_UnknownHop cd1_UnknownHop cd2_UnknownHop : Option Addr} {m0_UnknownHop m1_UnknownHop m2_UnknownHop m3_UnknownHop m5_UnknownHop : Option Value} {oc_UnknownHop kV_UnknownHop dc_UnknownHop pm_UnknownHop ct_UnknownHop cl1_UnknownHop cl2_UnknownHop : Value} {osl_UnknownHop sl1_UnknownHop sl2_UnknownHop : Array (Option Value)} {vs_UnknownHop : Array Value} {fi_UnknownHop : Str} {tf_UnknownHop : Tok} (aC_UnknownHop : PySem.W.nsIn K mainGlobals "UnknownHop" = some (some (.ref C_UnknownHop))) (xL_UnknownHop : K.lookup C_UnknownHop = some (excClassObj nm_UnknownHop q_UnknownHop C_UnknownHop N_UnknownHop bs_UnknownHop [.ref B1, .type "LookupError", .type "Exception", .type "BaseException", .type "object"] true sn_UnknownHop sub_UnknownHop ab_UnknownHop col_UnknownHop dd_UnknownHop m0_UnknownHop m1_UnknownHop m2_UnknownHop m3_UnknownHop m5_UnknownHop "LookupError.__new__")) (sa_UnknownHop : PySem.W.findIn K (.ref C_UnknownHop) "__setattr__" = some (some (.builtin "object.__setattr__"))) (eC_UnknownHop : PySem.W.subIn K (.ref C_UnknownHop) (.type "BaseException") = some true) (tC_UnknownHop : PySem.W.typeIn K (.ref C_UnknownHop) = some (.type "type")) (kC_UnknownHop : PySem.W.keepIn K (.ref C_UnknownHop) = true) (iI_UnknownHop : PySem.W.findIn K (.ref C_UnknownHop) "__init__" = some (some (.ref fI_UnknownHop))) (tI_UnknownHop : PySem.W.typeIn K (.ref fI_UnknownHop) = some (.type "function")) (lk_UnknownHop : K.lookup fI_UnknownHop = some ⟨oc_UnknownHop, od_UnknownHop, .func (PySem.W.fnX "__init__" "UnknownHop.__init__" (defArgs s_UnknownHop_init) (defBody s_UnknownHop_init) (defScope s_UnknownHop_init) [(("__class__" : Str), cc_UnknownHop)] .none kV_UnknownHop dc_UnknownHop pm_UnknownHop an_UnknownHop (.ref cda_UnknownHop) ct_UnknownHop), osl_UnknownHop⟩) (ce_UnknownHop : K.lookup cc_UnknownHop = some ⟨cl1_UnknownHop, cd1_UnknownHop, .cell (some (.ref C_UnknownHop)), sl1_UnknownHop⟩) (co_UnknownHop : K.lookup cda_UnknownHop = some ⟨cl2_UnknownHop, cd2_UnknownHop, .fields vs_UnknownHop, sl2_UnknownHop⟩) (vf_UnknownHop : vs_UnknownHop[2]? = some (.str fi_UnknownHop tf_UnknownHop)) (mf_UnknownHop : ((l.prog.main.file : Str) == fi_UnknownHop) = true) (rc_UnknownHop : PySem.W.codeIn K (.ref cda_UnknownHop) "UnknownHop.__init__" = true) (ow_UnknownHop : PySem.W.ks_superIn K C_UnknownHop C_UnknownHop "__init__" = some (some (.builtin "LookupError.__init__"))) (mr_UnknownHop : PySem.W.mroIn K C_UnknownHop (.ref C_UnknownHop) = some true) (no0_UnknownHop : PySem.W.findIn K (.ref C_UnknownHop) "value" = some none) (ga_UnknownHop : PySem.W.findIn K (.ref C_UnknownHop) "__getattribute__" = some (some (.builtin "BaseException.__getattribute__"))) (gg_UnknownHop : PySem.W.findIn K (.ref C_UnknownHop) "__getattr__" = some none) (hd_UnknownHop : PySem.W.hasDictIn K C_UnknownHop = true) (fc_UnknownHop : PySem.W.findIn K (.ref C_UnknownHop) "__class__" = some (some (.builtin "object.__class__"))) (mo_UnknownHop : PySem.W.mroIn K C_UnknownHop (.type "object") = some true) (u0_UnknownHop : PySem.W.subIn K (.ref C_UnknownHop) (.ref B0) = some false) (v0_UnknownHop : PySem.W.subIn K (.ref C_UnknownHop) (.type "ValueError") = some false) (u1_UnknownHop : PySem.W.subIn K (.ref C_UnknownHop) (.ref B1) = some true) (v1_UnknownHop : PySem.W.subIn K (.ref C_UnknownHop) (.type "LookupError") = some true) (u2_UnknownHop : PySem.W.subIn K (.ref C_UnknownHop) (.ref B2) = some false) (v2_UnknownHop : PySem.W.subIn K (.ref C_UnknownHop) (.type "RuntimeError") = some false) (u3_UnknownHop : PySem.W.subIn K (.ref C_UnknownHop) (.ref B3) = some false) (v3_UnknownHop : PySem.W.subIn K (.ref C_UnknownHop) (.type "ArithmeticError") = some false)
    {C_UnknownGoal : Addr} {nm_UnknownGoal q_UnknownGoal : Str} {N_UnknownGoal fI_UnknownGoal cc_UnknownGoal cda_UnknownGoal : Addr} {bs_UnknownGoal : List Value} {sn_UnknownGoal : List Str} {sub_UnknownGoal : List Value} {ab_UnknownGoal : Bool} {col_UnknownGoal : Option Bool} {dd_UnknownGoal od_UnknownGoal an_UnknownGoal cd1_UnknownGoal cd2_UnknownGoal : Option Addr} {m0_UnknownGoal m1_UnknownGoal m2_UnknownGoal m3_UnknownGoal m5_UnknownGoal : Option Value} {oc_UnknownGoal kV_UnknownGoal dc_UnknownGoal pm_UnknownGoal ct_UnknownGoal cl1_UnknownGoal cl2_UnknownGoal : Value} {osl_UnknownGoal sl1_UnknownGoal sl2_UnknownGoal : Array (Option Value)} {vs_UnknownGoal : Array Value} {fi_UnknownGoal : Str} {tf_UnknownGoal : Tok} (aC_UnknownGoal : PySem.W.nsIn K mainGlobals "UnknownGoal" = some (some (.ref C_UnknownGoal))) (xL_UnknownGoal : K.lookup C_UnknownGoal = some (excClassObj nm_UnknownGoal q_UnknownGoal C_UnknownGoal N_UnknownGoal bs_UnknownGoal [.ref B1, .type "LookupError", .type "Exception", .type "BaseException", .type "object"] true sn_UnknownGoal sub_UnknownGoal ab_UnknownGoal col_UnknownGoal dd_UnknownGoal m0_UnknownGoal m1_UnknownGoal m2_UnknownGoal m3_UnknownGoal m5_UnknownGoal "LookupError.__new__")) (sa_UnknownGoal : PySem.W.findIn K (.ref C_UnknownGoal) "__setattr__" = some (some (.builtin "object.__setattr__"))) (eC_UnknownGoal : PySem.W.subIn K (.ref C_UnknownGoal) (.type "BaseException") = some true) (tC_UnknownGoal : PySem.W.typeIn K (.ref C_UnknownGoal) = some (.type "type")) (kC_UnknownGoal : PySem.W.keepIn K (.ref C_UnknownGoal) = true) (iI_UnknownGoal : PySem.W.findIn K (.ref C_UnknownGoal) "__init__" = some (some (.ref fI_UnknownGoal))) (tI_UnknownGoal : PySem.W.typeIn K (.ref fI_UnknownGoal) = some (.type "function")) (lk_UnknownGoal : K.lookup fI_UnknownGoal = some ⟨oc_UnknownGoal, od_UnknownGoal, .func (PySem.W.fnX "__init__" "UnknownGoal.__init__" (defArgs s_UnknownGoal_init) (defBody s_UnknownGoal_init) (defScope s_UnknownGoal_init) [(("__class__" : Str), cc_UnknownGoal)] .none kV_UnknownGoal dc_UnknownGoal pm_UnknownGoal an_UnknownGoal (.ref cda_UnknownGoal) ct_UnknownGoal), osl_UnknownGoal⟩) (ce_UnknownGoal : K.lookup cc_UnknownGoal = some ⟨cl1_UnknownGoal, cd1_UnknownGoal, .cell (some (.ref C_UnknownGoal)), sl1_UnknownGoal⟩) (co_UnknownGoal : K.lookup cda_UnknownGoal = some ⟨cl2_UnknownGoal, cd2_UnknownGoal, .fields vs_UnknownGoal, sl2_UnknownGoal⟩) (vf_UnknownGoal : vs_UnknownGoal[2]? = some (.str fi_UnknownGoal tf_UnknownGoal)) (mf_UnknownGoal : ((l.prog.main.file : Str) == fi_UnknownGoal) = true) (rc_UnknownGoal : PySem.W.codeIn K (.ref cda_UnknownGoal) "UnknownGoal.__init__" = true) (ow_UnknownGoal : PySem.W.ks_superIn K C_UnknownGoal C_UnknownGoal "__init__" = some (some (.builtin "LookupError.__init__"))) (mr_UnknownGoal : PySem.W.mroIn K C_UnknownGoal (.ref C_UnknownGoal) = some true) (no0_UnknownGoal : PySem.W.findIn K (.ref C_UnknownGoal) "value" = some none) (ga_UnknownGoal : PySem.W.findIn K (.ref C_UnknownGoal) "__getattribute__" = some (some (.builtin "BaseException.__getattribute__"))) (gg_UnknownGoal : PySem.W.findIn K (.ref C_UnknownGoal) "__getattr__" = some none) (hd_UnknownGoal : PySem.W.hasDictIn K C_UnknownGoal = true) (fc_UnknownGoal : PySem.W.findIn K (.ref C_UnknownGoal) "__class__" = some (some (.builtin "object.__class__"))) (mo_UnknownGoal : PySem.W.mroIn K C_UnknownGoal (.type "object") = some true) (u0_UnknownGoal : PySem.W.subIn K (.ref C_UnknownGoal) (.ref B0) = some false) (v0_UnknownGoal : PySem.W.subIn K (.ref C_UnknownGoal) (.type "ValueError") = some false) (u1_UnknownGoal : PySem.W.subIn K (.ref C_UnknownGoal) (.ref B1) = some true) (v1_UnknownGoal : PySem.W.subIn K (.ref C_UnknownGoal) (.type "LookupError") = some true) (u2_UnknownGoal : PySem.W.subIn K (.ref C_UnknownGoal) (.ref B2) = some false) (v2_UnknownGoal : PySem.W.subIn K (.ref C_UnknownGoal) (.type "RuntimeError") = some false) (u3_UnknownGoal : PySem.W.subIn K (.ref C_UnknownGoal) (.ref B3) = some false) (v3_UnknownGoal : PySem.W.subIn K (.ref C_UnknownGoal) (.type "ArithmeticError") = some false)
    {C_UnknownItem : Addr} {nm_UnknownItem q_UnknownItem : Str} {N_UnknownItem fI_UnknownItem cc_UnknownItem cda_UnknownItem : Addr} {bs_UnknownItem : List Value} {sn_UnknownItem : List Str} {sub_UnknownItem : List Value} {ab_UnknownItem : Bool} {col_UnknownItem : Option Bool} {dd_UnknownItem od_UnknownItem an_UnknownItem cd1_UnknownItem cd2_UnknownItem : Option Addr} {m0_UnknownItem m1_UnknownItem m2_UnknownItem m3_UnknownItem m5_UnknownItem : Option Value} {oc_UnknownItem kV_UnknownItem dc_UnknownItem pm_UnknownItem ct_UnknownItem cl1_UnknownItem cl2_UnknownItem : Value} {osl_UnknownItem sl1_UnknownItem sl2_UnknownItem : Array (Option Value)} {vs_UnknownItem : Array Value} {fi_UnknownItem : Str} {tf_UnknownItem : Tok} (aC_UnknownItem : PySem.W.nsIn K mainGlobals "UnknownItem" = some (some (.ref C_UnknownItem))) (xL_UnknownItem : K.lookup C_UnknownItem = some (excClassObj nm_UnknownItem q_UnknownItem C_UnknownItem N_UnknownItem bs_UnknownItem [.ref B1, .type "LookupError", .type "Exception", .type "BaseException", .type "object"] true sn_UnknownItem sub_UnknownItem ab_UnknownItem col_UnknownItem dd_UnknownItem m0_UnknownItem m1_UnknownItem m2_UnknownItem m3_UnknownItem m5_UnknownItem "LookupError.__new__")) (sa_UnknownItem : PySem.W.findIn K (.ref C_UnknownItem) "__setattr__" = some (some (.builtin "object.__setattr__"))) (eC_UnknownItem : PySem.W.subIn K (.ref C_UnknownItem) (.type "BaseException") = some true) (tC_UnknownItem : PySem.W.typeIn K (.ref C_UnknownItem) = some (.type "type")) (kC_UnknownItem : PySem.W.keepIn K (.ref C_UnknownItem) = true) (iI_UnknownItem : PySem.W.findIn K (.ref C_UnknownItem) "__init__" = some (some (.ref fI_UnknownItem))) (tI_UnknownItem : PySem.W.typeIn K (.ref fI_UnknownItem) = some (.type "function")) (lk_UnknownItem : K.lookup fI_UnknownItem = some ⟨oc_UnknownItem, od_UnknownItem, .func (PySem.W.fnX "__init__" "UnknownItem.__init__" (defArgs s_UnknownItem_init) (defBody s_UnknownItem_init) (defScope s_UnknownItem_init) [(("__class__" : Str), cc_UnknownItem)] .none kV_UnknownItem dc_UnknownItem pm_UnknownItem an_UnknownItem (.ref cda_UnknownItem) ct_UnknownItem), osl_UnknownItem⟩) (ce_UnknownItem : K.lookup cc_UnknownItem = some ⟨cl1_UnknownItem, cd1_UnknownItem, .cell (some (.ref C_UnknownItem)), sl1_UnknownItem⟩) (co_UnknownItem : K.lookup cda_UnknownItem = some ⟨cl2_UnknownItem, cd2_UnknownItem, .fields vs_UnknownItem, sl2_UnknownItem⟩) (vf_UnknownItem : vs_UnknownItem[2]? = some (.str fi_UnknownItem tf_UnknownItem)) (mf_UnknownItem : ((l.prog.main.file : Str) == fi_UnknownItem) = true) (rc_UnknownItem : PySem.W.codeIn K (.ref cda_UnknownItem) "UnknownItem.__init__" = true) (ow_UnknownItem : PySem.W.ks_superIn K C_UnknownItem C_UnknownItem "__init__" = some (some (.builtin "LookupError.__init__"))) (mr_UnknownItem : PySem.W.mroIn K C_UnknownItem (.ref C_UnknownItem) = some true) (no0_UnknownItem : PySem.W.findIn K (.ref C_UnknownItem) "value" = some none) (ga_UnknownItem : PySem.W.findIn K (.ref C_UnknownItem) "__getattribute__" = some (some (.builtin "BaseException.__getattribute__"))) (gg_UnknownItem : PySem.W.findIn K (.ref C_UnknownItem) "__getattr__" = some none) (hd_UnknownItem : PySem.W.hasDictIn K C_UnknownItem = true) (fc_UnknownItem : PySem.W.findIn K (.ref C_UnknownItem) "__class__" = some (some (.builtin "object.__class__"))) (mo_UnknownItem : PySem.W.mroIn K C_UnknownItem (.type "object") = some true) (u0_UnknownItem : PySem.W.subIn K (.ref C_UnknownItem) (.ref B0) = some false) (v0_UnknownItem : PySem.W.subIn K (.ref C_UnknownItem) (.type "ValueError") = some false) (u1_UnknownItem : PySem.W.subIn K (.ref C_UnknownItem) (.ref B1) = some true) (v1_UnknownItem : PySem.W.subIn K (.ref C_UnknownItem) (.type "LookupError") = some true) (u2_UnknownItem : PySem.W.subIn K (.ref C_UnknownItem) (.ref B2) = some false) (v2_UnknownItem : PySem.W.subIn K (.ref C_UnknownItem) (.type "RuntimeError") = some false) (u3_UnknownItem : PySem.W.subIn K (.ref C_UnknownItem) (.ref B3) = some false) (v3_UnknownItem : PySem.W.subIn K (.ref C_UnknownItem) (.type "ArithmeticError") = some false)
    {C_OtherWidth : Addr} {nm_OtherWidth q_OtherWidth : Str} {N_OtherWidth fI_OtherWidth cc_OtherWidth cda_OtherWidth : Addr} {bs_OtherWidth : List Value} {sn_OtherWidth : List Str} {sub_OtherWidth : List Value} {ab_OtherWidth : Bool} {col_OtherWidth : Option Bool} {dd_OtherWidth od_OtherWidth an_OtherWidth cd1_OtherWidth cd2_OtherWidth : Option Addr} {m0_OtherWidth m1_OtherWidth m2_OtherWidth m3_OtherWidth m5_OtherWidth : Option Value} {oc_OtherWidth kV_OtherWidth dc_OtherWidth pm_OtherWidth ct_OtherWidth cl1_OtherWidth cl2_OtherWidth : Value} {osl_OtherWidth sl1_OtherWidth sl2_OtherWidth : Array (Option Value)} {vs_OtherWidth : Array Value} {fi_OtherWidth : Str} {tf_OtherWidth : Tok} (aC_OtherWidth : PySem.W.nsIn K mainGlobals "OtherWidth" = some (some (.ref C_OtherWidth))) (xL_OtherWidth : K.lookup C_OtherWidth = some (excClassObj nm_OtherWidth q_OtherWidth C_OtherWidth N_OtherWidth bs_OtherWidth [.ref B2, .type "RuntimeError", .type "Exception", .type "BaseException", .type "object"] true sn_OtherWidth sub_OtherWidth ab_OtherWidth col_OtherWidth dd_OtherWidth m0_OtherWidth m1_OtherWidth m2_OtherWidth m3_OtherWidth m5_OtherWidth "RuntimeError.__new__")) (sa_OtherWidth : PySem.W.findIn K (.ref C_OtherWidth) "__setattr__" = some (some (.builtin "object.__setattr__"))) (eC_OtherWidth : PySem.W.subIn K (.ref C_OtherWidth) (.type "BaseException") = some true) (tC_OtherWidth : PySem.W.typeIn K (.ref C_OtherWidth) = some (.type "type")) (kC_OtherWidth : PySem.W.keepIn K (.ref C_OtherWidth) = true) (iI_OtherWidth : PySem.W.findIn K (.ref C_OtherWidth) "__init__" = some (some (.ref fI_OtherWidth))) (tI_OtherWidth : PySem.W.typeIn K (.ref fI_OtherWidth) = some (.type "function")) (lk_OtherWidth : K.lookup fI_OtherWidth = some ⟨oc_OtherWidth, od_OtherWidth, .func (PySem.W.fnX "__init__" "OtherWidth.__init__" (defArgs s_OtherWidth_init) (defBody s_OtherWidth_init) (defScope s_OtherWidth_init) [(("__class__" : Str), cc_OtherWidth)] .none kV_OtherWidth dc_OtherWidth pm_OtherWidth an_OtherWidth (.ref cda_OtherWidth) ct_OtherWidth), osl_OtherWidth⟩) (ce_OtherWidth : K.lookup cc_OtherWidth = some ⟨cl1_OtherWidth, cd1_OtherWidth, .cell (some (.ref C_OtherWidth)), sl1_OtherWidth⟩) (co_OtherWidth : K.lookup cda_OtherWidth = some ⟨cl2_OtherWidth, cd2_OtherWidth, .fields vs_OtherWidth, sl2_OtherWidth⟩) (vf_OtherWidth : vs_OtherWidth[2]? = some (.str fi_OtherWidth tf_OtherWidth)) (mf_OtherWidth : ((l.prog.main.file : Str) == fi_OtherWidth) = true) (rc_OtherWidth : PySem.W.codeIn K (.ref cda_OtherWidth) "OtherWidth.__init__" = true) (ow_OtherWidth : PySem.W.ks_superIn K C_OtherWidth C_OtherWidth "__init__" = some (some (.builtin "RuntimeError.__init__"))) (mr_OtherWidth : PySem.W.mroIn K C_OtherWidth (.ref C_OtherWidth) = some true) (no0_OtherWidth : PySem.W.findIn K (.ref C_OtherWidth) "one" = some none) (no1_OtherWidth : PySem.W.findIn K (.ref C_OtherWidth) "other" = some none) (ga_OtherWidth : PySem.W.findIn K (.ref C_OtherWidth) "__getattribute__" = some (some (.builtin "BaseException.__getattribute__"))) (gg_OtherWidth : PySem.W.findIn K (.ref C_OtherWidth) "__getattr__" = some none) (hd_OtherWidth : PySem.W.hasDictIn K C_OtherWidth = true) (fc_OtherWidth : PySem.W.findIn K (.ref C_OtherWidth) "__class__" = some (some (.builtin "object.__class__"))) (mo_OtherWidth : PySem.W.mroIn K C_OtherWidth (.type "object") = some true) (u0_OtherWidth : PySem.W.subIn K (.ref C_OtherWidth) (.ref B0) = some false) (v0_OtherWidth : PySem.W.subIn K (.ref C_OtherWidth) (.type "ValueError") = some false) (u1_OtherWidth : PySem.W.subIn K (.ref C_OtherWidth) (.ref B1) = some false) (v1_OtherWidth : PySem.W.subIn K (.ref C_OtherWidth) (.type "LookupError") = some false) (u2_OtherWidth : PySem.W.subIn K (.ref C_OtherWidth) (.ref B2) = some true) (v2_OtherWidth : PySem.W.subIn K (.ref C_OtherWidth) (.type "RuntimeError") = some true) (u3_OtherWidth : PySem.W.subIn K (.ref C_OtherWidth) (.ref B3) = some false) (v3_OtherWidth : PySem.W.subIn K (.ref C_OtherWidth) (.type "ArithmeticError") = some false)
    {C_OtherHops : Addr} {nm_OtherHops q_OtherHops : Str} {N_OtherHops fI_OtherHops cc_OtherHops cda_OtherHops : Addr} {bs_OtherHops : List Value} {sn_OtherHops : List Str} {sub_OtherHops : List Value} {ab_OtherHops : Bool} {col_OtherHops : Option Bool} {dd_OtherHops od_OtherHops an_OtherHops cd1_OtherHops cd2_OtherHops : Option Addr} {m0_OtherHops m1_OtherHops m2_OtherHops m3_OtherHops m5_OtherHops : Option Value} {oc_OtherHops kV_OtherHops dc_OtherHops pm_OtherHops ct_OtherHops cl1_OtherHops cl2_OtherHops : Value} {osl_OtherHops sl1_OtherHops sl2_OtherHops : Array (Option Value)} {vs_OtherHops : Array Value} {fi_OtherHops : Str} {tf_OtherHops : Tok} (aC_OtherHops : PySem.W.nsIn K mainGlobals "OtherHops" = some (some (.ref C_OtherHops))) (xL_OtherHops : K.lookup C_OtherHops = some (excClassObj nm_OtherHops q_OtherHops C_OtherHops N_OtherHops bs_OtherHops [.ref B2, .type "RuntimeError", .type "Exception", .type "BaseException", .type "object"] true sn_OtherHops sub_OtherHops ab_OtherHops col_OtherHops dd_OtherHops m0_OtherHops m1_OtherHops m2_OtherHops m3_OtherHops m5_OtherHops "RuntimeError.__new__")) (sa_OtherHops : PySem.W.findIn K (.ref C_OtherHops) "__setattr__" = some (some (.builtin "object.__setattr__"))) (eC_OtherHops : PySem.W.subIn K (.ref C_OtherHops) (.type "BaseException") = some true) (tC_OtherHops : PySem.W.typeIn K (.ref C_OtherHops) = some (.type "type")) (kC_OtherHops : PySem.W.keepIn K (.ref C_OtherHops) = true) (iI_OtherHops : PySem.W.findIn K (.ref C_OtherHops) "__init__" = some (some (.ref fI_OtherHops))) (tI_OtherHops : PySem.W.typeIn K (.ref fI_OtherHops) = some (.type "function")) (lk_OtherHops : K.lookup fI_OtherHops = some ⟨oc_OtherHops, od_OtherHops, .func (PySem.W.fnX "__init__" "OtherHops.__init__" (defArgs s_OtherHops_init) (defBody s_OtherHops_init) (defScope s_OtherHops_init) [(("__class__" : Str), cc_OtherHops)] .none kV_OtherHops dc_OtherHops pm_OtherHops an_OtherHops (.ref cda_OtherHops) ct_OtherHops), osl_OtherHops⟩) (ce_OtherHops : K.lookup cc_OtherHops = some ⟨cl1_OtherHops, cd1_OtherHops, .cell (some (.ref C_OtherHops)), sl1_OtherHops⟩) (co_OtherHops : K.lookup cda_OtherHops = some ⟨cl2_OtherHops, cd2_OtherHops, .fields vs_OtherHops, sl2_OtherHops⟩) (vf_OtherHops : vs_OtherHops[2]? = some (.str fi_OtherHops tf_OtherHops)) (mf_OtherHops : ((l.prog.main.file : Str) == fi_OtherHops) = true) (rc_OtherHops : PySem.W.codeIn K (.ref cda_OtherHops) "OtherHops.__init__" = true) (ow_OtherHops : PySem.W.ks_superIn K C_OtherHops C_OtherHops "__init__" = some (some (.builtin "RuntimeError.__init__"))) (mr_OtherHops : PySem.W.mroIn K C_OtherHops (.ref C_OtherHops) = some true) (no0_OtherHops : PySem.W.findIn K (.ref C_OtherHops) "one" = some none) (no1_OtherHops : PySem.W.findIn K (.ref C_OtherHops) "other" = some none) (ga_OtherHops : PySem.W.findIn K (.ref C_OtherHops) "__getattribute__" = some (some (.builtin "BaseException.__getattribute__"))) (gg_OtherHops : PySem.W.findIn K (.ref C_OtherHops) "__getattr__" = some none) (hd_OtherHops : PySem.W.hasDictIn K C_OtherHops = true) (fc_OtherHops : PySem.W.findIn K (.ref C_OtherHops) "__class__" = some (some (.builtin "object.__class__"))) (mo_OtherHops : PySem.W.mroIn K C_OtherHops (.type "object") = some true) (u0_OtherHops : PySem.W.subIn K (.ref C_OtherHops) (.ref B0) = some false) (v0_OtherHops : PySem.W.subIn K (.ref C_OtherHops) (.type "ValueError") = some false) (u1_OtherHops : PySem.W.subIn K (.ref C_OtherHops) (.ref B1) = some false) (v1_OtherHops : PySem.W.subIn K (.ref C_OtherHops) (.type "LookupError") = some false) (u2_OtherHops : PySem.W.subIn K (.ref C_OtherHops) (.ref B2) = some true) (v2_OtherHops : PySem.W.subIn K (.ref C_OtherHops) (.type "RuntimeError") = some true) (u3_OtherHops : PySem.W.subIn K (.ref C_OtherHops) (.ref B3) = some false) (v3_OtherHops : PySem.W.subIn K (.ref C_OtherHops) (.type "ArithmeticError") = some false)
    {C_WrongMember : Addr} {nm_WrongMember q_WrongMember : Str} {N_WrongMember fI_WrongMember cc_WrongMember cda_WrongMember : Addr} {bs_WrongMember : List Value} {sn_WrongMember : List Str} {sub_WrongMember : List Value} {ab_WrongMember : Bool} {col_WrongMember : Option Bool} {dd_WrongMember od_WrongMember an_WrongMember cd1_WrongMember cd2_WrongMember : Option Addr} {m0_WrongMember m1_WrongMember m2_WrongMember m3_WrongMember m5_WrongMember : Option Value} {oc_WrongMember kV_WrongMember dc_WrongMember pm_WrongMember ct_WrongMember cl1_WrongMember cl2_WrongMember : Value} {osl_WrongMember sl1_WrongMember sl2_WrongMember : Array (Option Value)} {vs_WrongMember : Array Value} {fi_WrongMember : Str} {tf_WrongMember : Tok} (aC_WrongMember : PySem.W.nsIn K mainGlobals "WrongMember" = some (some (.ref C_WrongMember))) (xL_WrongMember : K.lookup C_WrongMember = some (excClassObj nm_WrongMember q_WrongMember C_WrongMember N_WrongMember bs_WrongMember [.ref B2, .type "RuntimeError", .type "Exception", .type "BaseException", .type "object"] true sn_WrongMember sub_WrongMember ab_WrongMember col_WrongMember dd_WrongMember m0_WrongMember m1_WrongMember m2_WrongMember m3_WrongMember m5_WrongMember "RuntimeError.__new__")) (sa_WrongMember : PySem.W.findIn K (.ref C_WrongMember) "__setattr__" = some (some (.builtin "object.__setattr__"))) (eC_WrongMember : PySem.W.subIn K (.ref C_WrongMember) (.type "BaseException") = some true) (tC_WrongMember : PySem.W.typeIn K (.ref C_WrongMember) = some (.type "type")) (kC_WrongMember : PySem.W.keepIn K (.ref C_WrongMember) = true) (iI_WrongMember : PySem.W.findIn K (.ref C_WrongMember) "__init__" = some (some (.ref fI_WrongMember))) (tI_WrongMember : PySem.W.typeIn K (.ref fI_WrongMember) = some (.type "function")) (lk_WrongMember : K.lookup fI_WrongMember = some ⟨oc_WrongMember, od_WrongMember, .func (PySem.W.fnX "__init__" "WrongMember.__init__" (defArgs s_WrongMember_init) (defBody s_WrongMember_init) (defScope s_WrongMember_init) [(("__class__" : Str), cc_WrongMember)] .none kV_WrongMember dc_WrongMember pm_WrongMember an_WrongMember (.ref cda_WrongMember) ct_WrongMember), osl_WrongMember⟩) (ce_WrongMember : K.lookup cc_WrongMember = some ⟨cl1_WrongMember, cd1_WrongMember, .cell (some (.ref C_WrongMember)), sl1_WrongMember⟩) (co_WrongMember : K.lookup cda_WrongMember = some ⟨cl2_WrongMember, cd2_WrongMember, .fields vs_WrongMember, sl2_WrongMember⟩) (vf_WrongMember : vs_WrongMember[2]? = some (.str fi_WrongMember tf_WrongMember)) (mf_WrongMember : ((l.prog.main.file : Str) == fi_WrongMember) = true) (rc_WrongMember : PySem.W.codeIn K (.ref cda_WrongMember) "WrongMember.__init__" = true) (ow_WrongMember : PySem.W.ks_superIn K C_WrongMember C_WrongMember "__init__" = some (some (.builtin "RuntimeError.__init__"))) (mr_WrongMember : PySem.W.mroIn K C_WrongMember (.ref C_WrongMember) = some true) (no0_WrongMember : PySem.W.findIn K (.ref C_WrongMember) "value" = some none) (ga_WrongMember : PySem.W.findIn K (.ref C_WrongMember) "__getattribute__" = some (some (.builtin "BaseException.__getattribute__"))) (gg_WrongMember : PySem.W.findIn K (.ref C_WrongMember) "__getattr__" = some none) (hd_WrongMember : PySem.W.hasDictIn K C_WrongMember = true) (fc_WrongMember : PySem.W.findIn K (.ref C_WrongMember) "__class__" = some (some (.builtin "object.__class__"))) (mo_WrongMember : PySem.W.mroIn K C_WrongMember (.type "object") = some true) (u0_WrongMember : PySem.W.subIn K (.ref C_WrongMember) (.ref B0) = some false) (v0_WrongMember : PySem.W.subIn K (.ref C_WrongMember) (.type "ValueError") = some false) (u1_WrongMember : PySem.W.subIn K (.ref C_WrongMember) (.ref B1) = some false) (v1_WrongMember : PySem.W.subIn K (.ref C_WrongMember) (.type "LookupError") = some false) (u2_WrongMember : PySem.W.subIn K (.ref C_WrongMember) (.ref B2) = some true) (v2_WrongMember : PySem.W.subIn K (.ref C_WrongMember) (.type "RuntimeError") = some true) (u3_WrongMember : PySem.W.subIn K (.ref C_WrongMember) (.ref B3) = some false) (v3_WrongMember : PySem.W.subIn K (.ref C_WrongMember) (.type "ArithmeticError") = some false)
    {C_Stranger : Addr} {nm_Stranger q_Stranger : Str} {N_Stranger fI_Stranger cc_Stranger cda_Stranger : Addr} {bs_Stranger : List Value} {sn_Stranger : List Str} {sub_Stranger : List Value} {ab_Stranger : Bool} {col_Stranger : Option Bool} {dd_Stranger od_Stranger an_Stranger cd1_Stranger cd2_Stranger : Option Addr} {m0_Stranger m1_Stranger m2_Stranger m3_Stranger m5_Stranger : Option Value} {oc_Stranger kV_Stranger dc_Stranger pm_Stranger ct_Stranger cl1_Stranger cl2_Stranger : Value} {osl_Stranger sl1_Stranger sl2_Stranger : Array (Option Value)} {vs_Stranger : Array Value} {fi_Stranger : Str} {tf_Stranger : Tok} (aC_Stranger : PySem.W.nsIn K mainGlobals "Stranger" = some (some (.ref C_Stranger))) (xL_Stranger : K.lookup C_Stranger = some (excClassObj nm_Stranger q_Stranger C_Stranger N_Stranger bs_Stranger [.ref B2, .type "RuntimeError", .type "Exception", .type "BaseException", .type "object"] true sn_Stranger sub_Stranger ab_Stranger col_Stranger dd_Stranger m0_Stranger m1_Stranger m2_Stranger m3_Stranger m5_Stranger "RuntimeError.__new__")) (sa_Stranger : PySem.W.findIn K (.ref C_Stranger) "__setattr__" = some (some (.builtin "object.__setattr__"))) (eC_Stranger : PySem.W.subIn K (.ref C_Stranger) (.type "BaseException") = some true) (tC_Stranger : PySem.W.typeIn K (.ref C_Stranger) = some (.type "type")) (kC_Stranger : PySem.W.keepIn K (.ref C_Stranger) = true) (iI_Stranger : PySem.W.findIn K (.ref C_Stranger) "__init__" = some (some (.ref fI_Stranger))) (tI_Stranger : PySem.W.typeIn K (.ref fI_Stranger) = some (.type "function")) (lk_Stranger : K.lookup fI_Stranger = some ⟨oc_Stranger, od_Stranger, .func (PySem.W.fnX "__init__" "Stranger.__init__" (defArgs s_Stranger_init) (defBody s_Stranger_init) (defScope s_Stranger_init) [(("__class__" : Str), cc_Stranger)] .none kV_Stranger dc_Stranger pm_Stranger an_Stranger (.ref cda_Stranger) ct_Stranger), osl_Stranger⟩) (ce_Stranger : K.lookup cc_Stranger = some ⟨cl1_Stranger, cd1_Stranger, .cell (some (.ref C_Stranger)), sl1_Stranger⟩) (co_Stranger : K.lookup cda_Stranger = some ⟨cl2_Stranger, cd2_Stranger, .fields vs_Stranger, sl2_Stranger⟩) (vf_Stranger : vs_Stranger[2]? = some (.str fi_Stranger tf_Stranger)) (mf_Stranger : ((l.prog.main.file : Str) == fi_Stranger) = true) (rc_Stranger : PySem.W.codeIn K (.ref cda_Stranger) "Stranger.__init__" = true) (ow_Stranger : PySem.W.ks_superIn K C_Stranger C_Stranger "__init__" = some (some (.builtin "RuntimeError.__init__"))) (mr_Stranger : PySem.W.mroIn K C_Stranger (.ref C_Stranger) = some true) (no0_Stranger : PySem.W.findIn K (.ref C_Stranger) "value" = some none) (ga_Stranger : PySem.W.findIn K (.ref C_Stranger) "__getattribute__" = some (some (.builtin "BaseException.__getattribute__"))) (gg_Stranger : PySem.W.findIn K (.ref C_Stranger) "__getattr__" = some none) (hd_Stranger : PySem.W.hasDictIn K C_Stranger = true) (fc_Stranger : PySem.W.findIn K (.ref C_Stranger) "__class__" = some (some (.builtin "object.__class__"))) (mo_Stranger : PySem.W.mroIn K C_Stranger (.type "object") = some true) (u0_Stranger : PySem.W.subIn K (.ref C_Stranger) (.ref B0) = some false) (v0_Stranger : PySem.W.subIn K (.ref C_Stranger) (.type "ValueError") = some false) (u1_Stranger : PySem.W.subIn K (.ref C_Stranger) (.ref B1) = some false) (v1_Stranger : PySem.W.subIn K (.ref C_Stranger) (.type "LookupError") = some false) (u2_Stranger : PySem.W.subIn K (.ref C_Stranger) (.ref B2) = some true) (v2_Stranger : PySem.W.subIn K (.ref C_Stranger) (.type "RuntimeError") = some true) (u3_Stranger : PySem.W.subIn K (.ref C_Stranger) (.ref B3) = some false) (v3_Stranger : PySem.W.subIn K (.ref C_Stranger) (.type "ArithmeticError") = some false)
    {C_NoOrder : Addr} {nm_NoOrder q_NoOrder : Str} {N_NoOrder fI_NoOrder cc_NoOrder cda_NoOrder : Addr} {bs_NoOrder : List Value} {sn_NoOrder : List Str} {sub_NoOrder : List Value} {ab_NoOrder : Bool} {col_NoOrder : Option Bool} {dd_NoOrder od_NoOrder an_NoOrder cd1_NoOrder cd2_NoOrder : Option Addr} {m0_NoOrder m1_NoOrder m2_NoOrder m3_NoOrder m5_NoOrder : Option Value} {oc_NoOrder kV_NoOrder dc_NoOrder pm_NoOrder ct_NoOrder cl1_NoOrder cl2_NoOrder : Value} {osl_NoOrder sl1_NoOrder sl2_NoOrder : Array (Option Value)} {vs_NoOrder : Array Value} {fi_NoOrder : Str} {tf_NoOrder : Tok} (aC_NoOrder : PySem.W.nsIn K mainGlobals "NoOrder" = some (some (.ref C_NoOrder))) (xL_NoOrder : K.lookup C_NoOrder = some (excClassObj nm_NoOrder q_NoOrder C_NoOrder N_NoOrder bs_NoOrder [.ref B2, .type "RuntimeError", .type "Exception", .type "BaseException", .type "object"] true sn_NoOrder sub_NoOrder ab_NoOrder col_NoOrder dd_NoOrder m0_NoOrder m1_NoOrder m2_NoOrder m3_NoOrder m5_NoOrder "RuntimeError.__new__")) (sa_NoOrder : PySem.W.findIn K (.ref C_NoOrder) "__setattr__" = some (some (.builtin "object.__setattr__"))) (eC_NoOrder : PySem.W.subIn K (.ref C_NoOrder) (.type "BaseException") = some true) (tC_NoOrder : PySem.W.typeIn K (.ref C_NoOrder) = some (.type "type")) (kC_NoOrder : PySem.W.keepIn K (.ref C_NoOrder) = true) (iI_NoOrder : PySem.W.findIn K (.ref C_NoOrder) "__init__" = some (some (.ref fI_NoOrder))) (tI_NoOrder : PySem.W.typeIn K (.ref fI_NoOrder) = some (.type "function")) (lk_NoOrder : K.lookup fI_NoOrder = some ⟨oc_NoOrder, od_NoOrder, .func (PySem.W.fnX "__init__" "NoOrder.__init__" (defArgs s_NoOrder_init) (defBody s_NoOrder_init) (defScope s_NoOrder_init) [(("__class__" : Str), cc_NoOrder)] .none kV_NoOrder dc_NoOrder pm_NoOrder an_NoOrder (.ref cda_NoOrder) ct_NoOrder), osl_NoOrder⟩) (ce_NoOrder : K.lookup cc_NoOrder = some ⟨cl1_NoOrder, cd1_NoOrder, .cell (some (.ref C_NoOrder)), sl1_NoOrder⟩) (co_NoOrder : K.lookup cda_NoOrder = some ⟨cl2_NoOrder, cd2_NoOrder, .fields vs_NoOrder, sl2_NoOrder⟩) (vf_NoOrder : vs_NoOrder[2]? = some (.str fi_NoOrder tf_NoOrder)) (mf_NoOrder : ((l.prog.main.file : Str) == fi_NoOrder) = true) (rc_NoOrder : PySem.W.codeIn K (.ref cda_NoOrder) "NoOrder.__init__" = true) (ow_NoOrder : PySem.W.ks_superIn K C_NoOrder C_NoOrder "__init__" = some (some (.builtin "RuntimeError.__init__"))) (mr_NoOrder : PySem.W.mroIn K C_NoOrder (.ref C_NoOrder) = some true) (ga_NoOrder : PySem.W.findIn K (.ref C_NoOrder) "__getattribute__" = some (some (.builtin "BaseException.__getattribute__"))) (gg_NoOrder : PySem.W.findIn K (.ref C_NoOrder) "__getattr__" = some none) (hd_NoOrder : PySem.W.hasDictIn K C_NoOrder = true) (fc_NoOrder : PySem.W.findIn K (.ref C_NoOrder) "__class__" = some (some (.builtin "object.__class__"))) (mo_NoOrder : PySem.W.mroIn K C_NoOrder (.type "object") = some true) (u0_NoOrder : PySem.W.subIn K (.ref C_NoOrder) (.ref B0) = some false) (v0_NoOrder : PySem.W.subIn K (.ref C_NoOrder) (.type "ValueError") = some false) (u1_NoOrder : PySem.W.subIn K (.ref C_NoOrder) (.ref B1) = some false) (v1_NoOrder : PySem.W.subIn K (.ref C_NoOrder) (.type "LookupError") = some false) (u2_NoOrder : PySem.W.subIn K (.ref C_NoOrder) (.ref B2) = some true) (v2_NoOrder : PySem.W.subIn K (.ref C_NoOrder) (.type "RuntimeError") = some true) (u3_NoOrder : PySem.W.subIn K (.ref C_NoOrder) (.ref B3) = some false) (v3_NoOrder : PySem.W.subIn K (.ref C_NoOrder) (.type "ArithmeticError") = some false)
    {C_AlreadySo : Addr} {nm_AlreadySo q_AlreadySo : Str} {N_AlreadySo fI_AlreadySo cc_AlreadySo cda_AlreadySo : Addr} {bs_AlreadySo : List Value} {sn_AlreadySo : List Str} {sub_AlreadySo : List Value} {ab_AlreadySo : Bool} {col_AlreadySo : Option Bool} {dd_AlreadySo od_AlreadySo an_AlreadySo cd1_AlreadySo cd2_AlreadySo : Option Addr} {m0_AlreadySo m1_AlreadySo m2_AlreadySo m3_AlreadySo m5_AlreadySo : Option Value} {oc_AlreadySo kV_AlreadySo dc_AlreadySo pm_AlreadySo ct_AlreadySo cl1_AlreadySo cl2_AlreadySo : Value} {osl_AlreadySo sl1_AlreadySo sl2_AlreadySo : Array (Option Value)} {vs_AlreadySo : Array Value} {fi_AlreadySo : Str} {tf_AlreadySo : Tok} (aC_AlreadySo : PySem.W.nsIn K mainGlobals "AlreadySo" = some (some (.ref C_AlreadySo))) (xL_AlreadySo : K.lookup C_AlreadySo = some (excClassObj nm_AlreadySo q_AlreadySo C_AlreadySo N_AlreadySo bs_AlreadySo [.ref B2, .type "RuntimeError", .type "Exception", .type "BaseException", .type "object"] true sn_AlreadySo sub_AlreadySo ab_AlreadySo col_AlreadySo dd_AlreadySo m0_AlreadySo m1_AlreadySo m2_AlreadySo m3_AlreadySo m5_AlreadySo "RuntimeError.__new__")) (sa_AlreadySo : PySem.W.findIn K (.ref C_AlreadySo) "__setattr__" = some (some (.builtin "object.__setattr__"))) (eC_AlreadySo : PySem.W.subIn K (.ref C_AlreadySo) (.type "BaseException") = some true) (tC_AlreadySo : PySem.W.typeIn K (.ref C_AlreadySo) = some (.type "type")) (kC_AlreadySo : PySem.W.keepIn K (.ref C_AlreadySo) = true) (iI_AlreadySo : PySem.W.findIn K (.ref C_AlreadySo) "__init__" = some (some (.ref fI_AlreadySo))) (tI_AlreadySo : PySem.W.typeIn K (.ref fI_AlreadySo) = some (.type "function")) (lk_AlreadySo : K.lookup fI_AlreadySo = some ⟨oc_AlreadySo, od_AlreadySo, .func (PySem.W.fnX "__init__" "AlreadySo.__init__" (defArgs s_AlreadySo_init) (defBody s_AlreadySo_init) (defScope s_AlreadySo_init) [(("__class__" : Str), cc_AlreadySo)] .none kV_AlreadySo dc_AlreadySo pm_AlreadySo an_AlreadySo (.ref cda_AlreadySo) ct_AlreadySo), osl_AlreadySo⟩) (ce_AlreadySo : K.lookup cc_AlreadySo = some ⟨cl1_AlreadySo, cd1_AlreadySo, .cell (some (.ref C_AlreadySo)), sl1_AlreadySo⟩) (co_AlreadySo : K.lookup cda_AlreadySo = some ⟨cl2_AlreadySo, cd2_AlreadySo, .fields vs_AlreadySo, sl2_AlreadySo⟩) (vf_AlreadySo : vs_AlreadySo[2]? = some (.str fi_AlreadySo tf_AlreadySo)) (mf_AlreadySo : ((l.prog.main.file : Str) == fi_AlreadySo) = true) (rc_AlreadySo : PySem.W.codeIn K (.ref cda_AlreadySo) "AlreadySo.__init__" = true) (ow_AlreadySo : PySem.W.ks_superIn K C_AlreadySo C_AlreadySo "__init__" = some (some (.builtin "RuntimeError.__init__"))) (mr_AlreadySo : PySem.W.mroIn K C_AlreadySo (.ref C_AlreadySo) = some true) (no0_AlreadySo : PySem.W.findIn K (.ref C_AlreadySo) "value" = some none) (ga_AlreadySo : PySem.W.findIn K (.ref C_AlreadySo) "__getattribute__" = some (some (.builtin "BaseException.__getattribute__"))) (gg_AlreadySo : PySem.W.findIn K (.ref C_AlreadySo) "__getattr__" = some none) (hd_AlreadySo : PySem.W.hasDictIn K C_AlreadySo = true) (fc_AlreadySo : PySem.W.findIn K (.ref C_AlreadySo) "__class__" = some (some (.builtin "object.__class__"))) (mo_AlreadySo : PySem.W.mroIn K C_AlreadySo (.type "object") = some true) (u0_AlreadySo : PySem.W.subIn K (.ref C_AlreadySo) (.ref B0) = some false) (v0_AlreadySo : PySem.W.subIn K (.ref C_AlreadySo) (.type "ValueError") = some false) (u1_AlreadySo : PySem.W.subIn K (.ref C_AlreadySo) (.ref B1) = some false) (v1_AlreadySo : PySem.W.subIn K (.ref C_AlreadySo) (.type "LookupError") = some false) (u2_AlreadySo : PySem.W.subIn K (.ref C_AlreadySo) (.ref B2) = some true) (v2_AlreadySo : PySem.W.subIn K (.ref C_AlreadySo) (.type "RuntimeError") = some true) (u3_AlreadySo : PySem.W.subIn K (.ref C_AlreadySo) (.ref B3) = some false) (v3_AlreadySo : PySem.W.subIn K (.ref C_AlreadySo) (.type "ArithmeticError") = some false)
    {C_NothingToUndo : Addr} {nm_NothingToUndo q_NothingToUndo : Str} {N_NothingToUndo fI_NothingToUndo cc_NothingToUndo cda_NothingToUndo : Addr} {bs_NothingToUndo : List Value} {sn_NothingToUndo : List Str} {sub_NothingToUndo : List Value} {ab_NothingToUndo : Bool} {col_NothingToUndo : Option Bool} {dd_NothingToUndo od_NothingToUndo an_NothingToUndo cd1_NothingToUndo cd2_NothingToUndo : Option Addr} {m0_NothingToUndo m1_NothingToUndo m2_NothingToUndo m3_NothingToUndo m5_NothingToUndo : Option Value} {oc_NothingToUndo kV_NothingToUndo dc_NothingToUndo pm_NothingToUndo ct_NothingToUndo cl1_NothingToUndo cl2_NothingToUndo : Value} {osl_NothingToUndo sl1_NothingToUndo sl2_NothingToUndo : Array (Option Value)} {vs_NothingToUndo : Array Value} {fi_NothingToUndo : Str} {tf_NothingToUndo : Tok} (aC_NothingToUndo : PySem.W.nsIn K mainGlobals "NothingToUndo" = some (some (.ref C_NothingToUndo))) (xL_NothingToUndo : K.lookup C_NothingToUndo = some (excClassObj nm_NothingToUndo q_NothingToUndo C_NothingToUndo N_NothingToUndo bs_NothingToUndo [.ref B2, .type "RuntimeError", .type "Exception", .type "BaseException", .type "object"] true sn_NothingToUndo sub_NothingToUndo ab_NothingToUndo col_NothingToUndo dd_NothingToUndo m0_NothingToUndo m1_NothingToUndo m2_NothingToUndo m3_NothingToUndo m5_NothingToUndo "RuntimeError.__new__")) (sa_NothingToUndo : PySem.W.findIn K (.ref C_NothingToUndo) "__setattr__" = some (some (.builtin "object.__setattr__"))) (eC_NothingToUndo : PySem.W.subIn K (.ref C_NothingToUndo) (.type "BaseException") = some true) (tC_NothingToUndo : PySem.W.typeIn K (.ref C_NothingToUndo) = some (.type "type")) (kC_NothingToUndo : PySem.W.keepIn K (.ref C_NothingToUndo) = true) (iI_NothingToUndo : PySem.W.findIn K (.ref C_NothingToUndo) "__init__" = some (some (.ref fI_NothingToUndo))) (tI_NothingToUndo : PySem.W.typeIn K (.ref fI_NothingToUndo) = some (.type "function")) (lk_NothingToUndo : K.lookup fI_NothingToUndo = some ⟨oc_NothingToUndo, od_NothingToUndo, .func (PySem.W.fnX "__init__" "NothingToUndo.__init__" (defArgs s_NothingToUndo_init) (defBody s_NothingToUndo_init) (defScope s_NothingToUndo_init) [(("__class__" : Str), cc_NothingToUndo)] .none kV_NothingToUndo dc_NothingToUndo pm_NothingToUndo an_NothingToUndo (.ref cda_NothingToUndo) ct_NothingToUndo), osl_NothingToUndo⟩) (ce_NothingToUndo : K.lookup cc_NothingToUndo = some ⟨cl1_NothingToUndo, cd1_NothingToUndo, .cell (some (.ref C_NothingToUndo)), sl1_NothingToUndo⟩) (co_NothingToUndo : K.lookup cda_NothingToUndo = some ⟨cl2_NothingToUndo, cd2_NothingToUndo, .fields vs_NothingToUndo, sl2_NothingToUndo⟩) (vf_NothingToUndo : vs_NothingToUndo[2]? = some (.str fi_NothingToUndo tf_NothingToUndo)) (mf_NothingToUndo : ((l.prog.main.file : Str) == fi_NothingToUndo) = true) (rc_NothingToUndo : PySem.W.codeIn K (.ref cda_NothingToUndo) "NothingToUndo.__init__" = true) (ow_NothingToUndo : PySem.W.ks_superIn K C_NothingToUndo C_NothingToUndo "__init__" = some (some (.builtin "RuntimeError.__init__"))) (mr_NothingToUndo : PySem.W.mroIn K C_NothingToUndo (.ref C_NothingToUndo) = some true) (ga_NothingToUndo : PySem.W.findIn K (.ref C_NothingToUndo) "__getattribute__" = some (some (.builtin "BaseException.__getattribute__"))) (gg_NothingToUndo : PySem.W.findIn K (.ref C_NothingToUndo) "__getattr__" = some none) (hd_NothingToUndo : PySem.W.hasDictIn K C_NothingToUndo = true) (fc_NothingToUndo : PySem.W.findIn K (.ref C_NothingToUndo) "__class__" = some (some (.builtin "object.__class__"))) (mo_NothingToUndo : PySem.W.mroIn K C_NothingToUndo (.type "object") = some true) (u0_NothingToUndo : PySem.W.subIn K (.ref C_NothingToUndo) (.ref B0) = some false) (v0_NothingToUndo : PySem.W.subIn K (.ref C_NothingToUndo) (.type "ValueError") = some false) (u1_NothingToUndo : PySem.W.subIn K (.ref C_NothingToUndo) (.ref B1) = some false) (v1_NothingToUndo : PySem.W.subIn K (.ref C_NothingToUndo) (.type "LookupError") = some false) (u2_NothingToUndo : PySem.W.subIn K (.ref C_NothingToUndo) (.ref B2) = some true) (v2_NothingToUndo : PySem.W.subIn K (.ref C_NothingToUndo) (.type "RuntimeError") = some true) (u3_NothingToUndo : PySem.W.subIn K (.ref C_NothingToUndo) (.ref B3) = some false) (v3_NothingToUndo : PySem.W.subIn K (.ref C_NothingToUndo) (.type "ArithmeticError") = some false)
    {C_CommandFailed : Addr} {nm_CommandFailed q_CommandFailed : Str} {N_CommandFailed fI_CommandFailed cc_CommandFailed cda_CommandFailed : Addr} {bs_CommandFailed : List Value} {sn_CommandFailed : List Str} {sub_CommandFailed : List Value} {ab_CommandFailed : Bool} {col_CommandFailed : Option Bool} {dd_CommandFailed od_CommandFailed an_CommandFailed cd1_CommandFailed cd2_CommandFailed : Option Addr} {m0_CommandFailed m1_CommandFailed m2_CommandFailed m3_CommandFailed m5_CommandFailed : Option Value} {oc_CommandFailed kV_CommandFailed dc_CommandFailed pm_CommandFailed ct_CommandFailed cl1_CommandFailed cl2_CommandFailed : Value} {osl_CommandFailed sl1_CommandFailed sl2_CommandFailed : Array (Option Value)} {vs_CommandFailed : Array Value} {fi_CommandFailed : Str} {tf_CommandFailed : Tok} (aC_CommandFailed : PySem.W.nsIn K mainGlobals "CommandFailed" = some (some (.ref C_CommandFailed))) (xL_CommandFailed : K.lookup C_CommandFailed = some (excClassObj nm_CommandFailed q_CommandFailed C_CommandFailed N_CommandFailed bs_CommandFailed [.ref B2, .type "RuntimeError", .type "Exception", .type "BaseException", .type "object"] true sn_CommandFailed sub_CommandFailed ab_CommandFailed col_CommandFailed dd_CommandFailed m0_CommandFailed m1_CommandFailed m2_CommandFailed m3_CommandFailed m5_CommandFailed "RuntimeError.__new__")) (sa_CommandFailed : PySem.W.findIn K (.ref C_CommandFailed) "__setattr__" = some (some (.builtin "object.__setattr__"))) (eC_CommandFailed : PySem.W.subIn K (.ref C_CommandFailed) (.type "BaseException") = some true) (tC_CommandFailed : PySem.W.typeIn K (.ref C_CommandFailed) = some (.type "type")) (kC_CommandFailed : PySem.W.keepIn K (.ref C_CommandFailed) = true) (iI_CommandFailed : PySem.W.findIn K (.ref C_CommandFailed) "__init__" = some (some (.ref fI_CommandFailed))) (tI_CommandFailed : PySem.W.typeIn K (.ref fI_CommandFailed) = some (.type "function")) (lk_CommandFailed : K.lookup fI_CommandFailed = some ⟨oc_CommandFailed, od_CommandFailed, .func (PySem.W.fnX "__init__" "CommandFailed.__init__" (defArgs s_CommandFailed_init) (defBody s_CommandFailed_init) (defScope s_CommandFailed_init) [(("__class__" : Str), cc_CommandFailed)] .none kV_CommandFailed dc_CommandFailed pm_CommandFailed an_CommandFailed (.ref cda_CommandFailed) ct_CommandFailed), osl_CommandFailed⟩) (ce_CommandFailed : K.lookup cc_CommandFailed = some ⟨cl1_CommandFailed, cd1_CommandFailed, .cell (some (.ref C_CommandFailed)), sl1_CommandFailed⟩) (co_CommandFailed : K.lookup cda_CommandFailed = some ⟨cl2_CommandFailed, cd2_CommandFailed, .fields vs_CommandFailed, sl2_CommandFailed⟩) (vf_CommandFailed : vs_CommandFailed[2]? = some (.str fi_CommandFailed tf_CommandFailed)) (mf_CommandFailed : ((l.prog.main.file : Str) == fi_CommandFailed) = true) (rc_CommandFailed : PySem.W.codeIn K (.ref cda_CommandFailed) "CommandFailed.__init__" = true) (ow_CommandFailed : PySem.W.ks_superIn K C_CommandFailed C_CommandFailed "__init__" = some (some (.builtin "RuntimeError.__init__"))) (mr_CommandFailed : PySem.W.mroIn K C_CommandFailed (.ref C_CommandFailed) = some true) (no0_CommandFailed : PySem.W.findIn K (.ref C_CommandFailed) "position" = some none) (ga_CommandFailed : PySem.W.findIn K (.ref C_CommandFailed) "__getattribute__" = some (some (.builtin "BaseException.__getattribute__"))) (gg_CommandFailed : PySem.W.findIn K (.ref C_CommandFailed) "__getattr__" = some none) (hd_CommandFailed : PySem.W.hasDictIn K C_CommandFailed = true) (fc_CommandFailed : PySem.W.findIn K (.ref C_CommandFailed) "__class__" = some (some (.builtin "object.__class__"))) (mo_CommandFailed : PySem.W.mroIn K C_CommandFailed (.type "object") = some true) (u0_CommandFailed : PySem.W.subIn K (.ref C_CommandFailed) (.ref B0) = some false) (v0_CommandFailed : PySem.W.subIn K (.ref C_CommandFailed) (.type "ValueError") = some false) (u1_CommandFailed : PySem.W.subIn K (.ref C_CommandFailed) (.ref B1) = some false) (v1_CommandFailed : PySem.W.subIn K (.ref C_CommandFailed) (.type "LookupError") = some false) (u2_CommandFailed : PySem.W.subIn K (.ref C_CommandFailed) (.ref B2) = some true) (v2_CommandFailed : PySem.W.subIn K (.ref C_CommandFailed) (.type "RuntimeError") = some true) (u3_CommandFailed : PySem.W.subIn K (.ref C_CommandFailed) (.ref B3) = some false) (v3_CommandFailed : PySem.W.subIn K (.ref C_CommandFailed) (.type "ArithmeticError") = some false)
    {C_TooMany : Addr} {nm_TooMany q_TooMany : Str} {N_TooMany fI_TooMany cc_TooMany cda_TooMany : Addr} {bs_TooMany : List Value} {sn_TooMany : List Str} {sub_TooMany : List Value} {ab_TooMany : Bool} {col_TooMany : Option Bool} {dd_TooMany od_TooMany an_TooMany cd1_TooMany cd2_TooMany : Option Addr} {m0_TooMany m1_TooMany m2_TooMany m3_TooMany m5_TooMany : Option Value} {oc_TooMany kV_TooMany dc_TooMany pm_TooMany ct_TooMany cl1_TooMany cl2_TooMany : Value} {osl_TooMany sl1_TooMany sl2_TooMany : Array (Option Value)} {vs_TooMany : Array Value} {fi_TooMany : Str} {tf_TooMany : Tok} (aC_TooMany : PySem.W.nsIn K mainGlobals "TooMany" = some (some (.ref C_TooMany))) (xL_TooMany : K.lookup C_TooMany = some (excClassObj nm_TooMany q_TooMany C_TooMany N_TooMany bs_TooMany [.ref B3, .type "ArithmeticError", .type "Exception", .type "BaseException", .type "object"] true sn_TooMany sub_TooMany ab_TooMany col_TooMany dd_TooMany m0_TooMany m1_TooMany m2_TooMany m3_TooMany m5_TooMany "ArithmeticError.__new__")) (sa_TooMany : PySem.W.findIn K (.ref C_TooMany) "__setattr__" = some (some (.builtin "object.__setattr__"))) (eC_TooMany : PySem.W.subIn K (.ref C_TooMany) (.type "BaseException") = some true) (tC_TooMany : PySem.W.typeIn K (.ref C_TooMany) = some (.type "type")) (kC_TooMany : PySem.W.keepIn K (.ref C_TooMany) = true) (iI_TooMany : PySem.W.findIn K (.ref C_TooMany) "__init__" = some (some (.ref fI_TooMany))) (tI_TooMany : PySem.W.typeIn K (.ref fI_TooMany) = some (.type "function")) (lk_TooMany : K.lookup fI_TooMany = some ⟨oc_TooMany, od_TooMany, .func (PySem.W.fnX "__init__" "TooMany.__init__" (defArgs s_TooMany_init) (defBody s_TooMany_init) (defScope s_TooMany_init) [(("__class__" : Str), cc_TooMany)] .none kV_TooMany dc_TooMany pm_TooMany an_TooMany (.ref cda_TooMany) ct_TooMany), osl_TooMany⟩) (ce_TooMany : K.lookup cc_TooMany = some ⟨cl1_TooMany, cd1_TooMany, .cell (some (.ref C_TooMany)), sl1_TooMany⟩) (co_TooMany : K.lookup cda_TooMany = some ⟨cl2_TooMany, cd2_TooMany, .fields vs_TooMany, sl2_TooMany⟩) (vf_TooMany : vs_TooMany[2]? = some (.str fi_TooMany tf_TooMany)) (mf_TooMany : ((l.prog.main.file : Str) == fi_TooMany) = true) (rc_TooMany : PySem.W.codeIn K (.ref cda_TooMany) "TooMany.__init__" = true) (ow_TooMany : PySem.W.ks_superIn K C_TooMany C_TooMany "__init__" = some (some (.builtin "ArithmeticError.__init__"))) (mr_TooMany : PySem.W.mroIn K C_TooMany (.ref C_TooMany) = some true) (no0_TooMany : PySem.W.findIn K (.ref C_TooMany) "what" = some none) (no1_TooMany : PySem.W.findIn K (.ref C_TooMany) "limit" = some none) (ga_TooMany : PySem.W.findIn K (.ref C_TooMany) "__getattribute__" = some (some (.builtin "BaseException.__getattribute__"))) (gg_TooMany : PySem.W.findIn K (.ref C_TooMany) "__getattr__" = some none) (hd_TooMany : PySem.W.hasDictIn K C_TooMany = true) (fc_TooMany : PySem.W.findIn K (.ref C_TooMany) "__class__" = some (some (.builtin "object.__class__"))) (mo_TooMany : PySem.W.mroIn K C_TooMany (.type "object") = some true) (u0_TooMany : PySem.W.subIn K (.ref C_TooMany) (.ref B0) = some false) (v0_TooMany : PySem.W.subIn K (.ref C_TooMany) (.type "ValueError") = some false) (u1_TooMany : PySem.W.subIn K (.ref C_TooMany) (.ref B1) = some false) (v1_TooMany : PySem.W.subIn K (.ref C_TooMany) (.type "LookupError") = some false) (u2_TooMany : PySem.W.subIn K (.ref C_TooMany) (.ref B2) = some false) (v2_TooMany : PySem.W.subIn K (.ref C_TooMany) (.type "RuntimeError") = some false) (u3_TooMany : PySem.W.subIn K (.ref C_TooMany) (.ref B3) = some true) (v3_TooMany : PySem.W.subIn K (.ref C_TooMany) (.type "ArithmeticError") = some true)
    (ic_InvalidStretch : PySem.W.isClsIn K C_InvalidStretch = true) (rr_InvalidStretch : PySem.W.subIn K (.ref C_InvalidStretch) (.ref C_InvalidStretch) = some true)
    (ic_NoOrder : PySem.W.isClsIn K C_NoOrder = true) (rr_NoOrder : PySem.W.subIn K (.ref C_NoOrder) (.ref C_NoOrder) = some true)
    (ic_NothingToUndo : PySem.W.isClsIn K C_NothingToUndo = true) (rr_NothingToUndo : PySem.W.subIn K (.ref C_NothingToUndo) (.ref C_NothingToUndo) = some true)
    (ic_OtherHops : PySem.W.isClsIn K C_OtherHops = true) (rr_OtherHops : PySem.W.subIn K (.ref C_OtherHops) (.ref C_OtherHops) = some true)
    (ic_OtherWidth : PySem.W.isClsIn K C_OtherWidth = true) (rr_OtherWidth : PySem.W.subIn K (.ref C_OtherWidth) (.ref C_OtherWidth) = some true)
    (ic_UnknownHop : PySem.W.isClsIn K C_UnknownHop = true) (rr_UnknownHop : PySem.W.subIn K (.ref C_UnknownHop) (.ref C_UnknownHop) = some true)
    (as_OtherWidth : PySem.W.subIn K (.ref C_OtherWidth) (.ref C_OtherHops) = some false)
    (as_OtherHops : PySem.W.subIn K (.ref C_OtherHops) (.ref C_OtherWidth) = some false)
    (as_NoOrder : PySem.W.subIn K (.ref C_NoOrder) (.ref C_NothingToUndo) = some false)
    (as_InvalidWidth : PySem.W.subIn K (.ref C_InvalidWidth) (.ref C_InvalidStretch) = some false)
    (as_UnknownStretch : PySem.W.subIn K (.ref C_UnknownStretch) (.ref C_UnknownHop) = some false)
    (as_CommandFailed : PySem.W.subIn K (.ref C_CommandFailed) (.ref C_NoOrder) = some false)
    (xs_InvalidWidth_InvalidStretch : PySem.W.subIn K (.ref C_InvalidWidth) (.ref C_InvalidStretch) = some false)
    (xs_InvalidWidth_UnknownGoal : PySem.W.subIn K (.ref C_InvalidWidth) (.ref C_UnknownGoal) = some false)
    (xs_InvalidWidth_WrongMember : PySem.W.subIn K (.ref C_InvalidWidth) (.ref C_WrongMember) = some false)
    (xs_UnknownHop_InvalidStretch : PySem.W.subIn K (.ref C_UnknownHop) (.ref C_InvalidStretch) = some false)
    (xs_UnknownHop_UnknownGoal : PySem.W.subIn K (.ref C_UnknownHop) (.ref C_UnknownGoal) = some false)
    (xs_UnknownHop_WrongMember : PySem.W.subIn K (.ref C_UnknownHop) (.ref C_WrongMember) = some false)
    (xs_Stranger_InvalidStretch : PySem.W.subIn K (.ref C_Stranger) (.ref C_InvalidStretch) = some false)
    (xs_Stranger_UnknownGoal : PySem.W.subIn K (.ref C_Stranger) (.ref C_UnknownGoal) = some false)
    (xs_Stranger_WrongMember : PySem.W.subIn K (.ref C_Stranger) (.ref C_WrongMember) = some false)
    (xs_TooMany_InvalidStretch : PySem.W.subIn K (.ref C_TooMany) (.ref C_InvalidStretch) = some false)
    (xs_TooMany_UnknownGoal : PySem.W.subIn K (.ref C_TooMany) (.ref C_UnknownGoal) = some false)
    (xs_TooMany_WrongMember : PySem.W.subIn K (.ref C_TooMany) (.ref C_WrongMember) = some false)
    : ∃ fd : FuncData, (∀ (s : Shared) (v : Value), BindsTo s fd ⟨[v], []⟩ [("_law_script", v)]) ∧ ∀ base : Heap, K.In base → base.Ns mainGlobals mg → FnG l.prog w K mg base CX0 6 fa fd ["_law_script"] (spLaw K) := by
  have e := hfa.symm.trans (PySem.W.mg_of X G a12)
  cases e
  have T : Txt K mg := ⟨PySem.W.mg_none_of X G z0, PySem.W.mg_none_of X G z1, PySem.W.mg_none_of X G z2, PySem.W.mg_none_of X G z3, PySem.W.mg_none_of X G z4, PySem.W.mg_none_of X G z5, PySem.W.mg_none_of X G z6, PySem.W.mg_none_of X G z7, PySem.W.mg_none_of X G z8, PySem.W.mg_none_of X G z9, PySem.W.mg_none_of X G z10, PySem.W.mg_none_of X G z11, PySem.W.mg_none_of X G z12, PySem.W.mg_none_of X G z13, PySem.W.mg_none_of X G z14, PySem.W.mg_none_of X G z15, PySem.W.mg_none_of X G z16, PySem.W.mg_none_of X G z17, PySem.W.mg_none_of X G z18, PySem.W.mg_none_of X G z19, PySem.W.mg_none_of X G z20, PySem.W.mg_none_of X G z21, PySem.W.mg_none_of X G z22, PySem.W.mg_none_of X G z23, PySem.W.mg_none_of X G z24⟩
  refine ⟨PySem.W.fnOf "law" "law" (defArgs s_law) (defBody s_law) (defScope s_law) .none kV12 dc12 pm12 an12 cd12 ct12, fun s v => .of_eq rfl, fun base _ _ => ?_⟩
  have F0 := fun_mk (st := s_law_pot) l0 q0 k0
  have F1 := fun_mk (st := s_law_draw) l1 q1 k1
  have F2 := fun_mk (st := s_law_among) l2 q2 k2
  have F3 := fun_mk (st := s_law_values) l3 q3 k3
  have F4 := fun_mk (st := s_law_of_value) l4 q4 k4
  have F5 := fun_mk (st := s_law_named) l5 q5 k5
  have F6 := fun_mk (st := s_law_of_place) l6 q6 k6
  have F7 := fun_mk (st := s_law_branches) l7 q7 k7
  have F8 := fun_mk (st := s_law_on) l8 q8 k8
  have F9 := fun_mk (st := s_law_pairs_right) l9 q9 k9
  have F10 := fun_mk (st := s_law_caught) l10 q10 k10
  have F11 := fun_mk (st := s_law_right) l11 q11 k11
  have F12 := fun_mk (st := s_law) l12 q12 k12
  have ox_InvalidWidth : ExB.OexG K C_InvalidWidth "ValueError.__new__" (ExB.tailOf "ValueError") := ⟨⟨nm_InvalidWidth, q_InvalidWidth, N_InvalidWidth, bs_InvalidWidth, _, sn_InvalidWidth, sub_InvalidWidth, ab_InvalidWidth, col_InvalidWidth, dd_InvalidWidth, m0_InvalidWidth, m1_InvalidWidth, m2_InvalidWidth, m3_InvalidWidth, m5_InvalidWidth, xL_InvalidWidth, rfl⟩, sa_InvalidWidth, eC_InvalidWidth, tC_InvalidWidth, kC_InvalidWidth⟩
  have S_InvalidWidth : SupG.SupF "ValueError" "ValueError.__new__" "ValueError.__init__" (ExB.tailOf "ValueError") K l.prog C_InvalidWidth cc_InvalidWidth cda_InvalidWidth "InvalidWidth.__init__" := ⟨ox_InvalidWidth, ⟨_, _, _, ce_InvalidWidth⟩, ⟨_, _, _, _, fi_InvalidWidth, _, co_InvalidWidth, vf_InvalidWidth, mf_InvalidWidth⟩, rc_InvalidWidth, tp, ny, ow_InvalidWidth, v0_InvalidWidth, mr_InvalidWidth⟩
  have eh_InvalidWidth : ErrH l.prog w K mg base "InvalidWidth" C_InvalidWidth ["value"] := err_InvalidWidth ExB.base_VE lk_InvalidWidth S_InvalidWidth T.b_super no0_InvalidWidth iI_InvalidWidth tI_InvalidWidth (PySem.W.mg_of X G aC_InvalidWidth)
  have br_InvalidWidth : Br K B0 B1 B2 B3 C_InvalidWidth 0 := ⟨⟨ga_InvalidWidth, gg_InvalidWidth, eC_InvalidWidth, hd_InvalidWidth, fc_InvalidWidth, hn, ht, mo_InvalidWidth⟩, ⟨ga_InvalidWidth, gg_InvalidWidth, eC_InvalidWidth, hd_InvalidWidth⟩, kitOfB iB0 tB0 rB0 u0_InvalidWidth, kitOfB iB1 tB1 rB1 u1_InvalidWidth, kitOfB iB2 tB2 rB2 u2_InvalidWidth, kitOfB iB3 tB3 rB3 u3_InvalidWidth, kitTyB (by decide +kernel) v0_InvalidWidth, kitTyB (by decide +kernel) v1_InvalidWidth, kitTyB (by decide +kernel) v2_InvalidWidth, kitTyB (by decide +kernel) v3_InvalidWidth⟩
  have ox_InvalidStretch : ExB.OexG K C_InvalidStretch "ValueError.__new__" (ExB.tailOf "ValueError") := ⟨⟨nm_InvalidStretch, q_InvalidStretch, N_InvalidStretch, bs_InvalidStretch, _, sn_InvalidStretch, sub_InvalidStretch, ab_InvalidStretch, col_InvalidStretch, dd_InvalidStretch, m0_InvalidStretch, m1_InvalidStretch, m2_InvalidStretch, m3_InvalidStretch, m5_InvalidStretch, xL_InvalidStretch, rfl⟩, sa_InvalidStretch, eC_InvalidStretch, tC_InvalidStretch, kC_InvalidStretch⟩
  have S_InvalidStretch : SupG.SupF "ValueError" "ValueError.__new__" "ValueError.__init__" (ExB.tailOf "ValueError") K l.prog C_InvalidStretch cc_InvalidStretch cda_InvalidStretch "InvalidStretch.__init__" := ⟨ox_InvalidStretch, ⟨_, _, _, ce_InvalidStretch⟩, ⟨_, _, _, _, fi_InvalidStretch, _, co_InvalidStretch, vf_InvalidStretch, mf_InvalidStretch⟩, rc_InvalidStretch, tp, ny, ow_InvalidStretch, v0_InvalidStretch, mr_InvalidStretch⟩
  have eh_InvalidStretch : ErrH l.prog w K mg base "InvalidStretch" C_InvalidStretch ["value"] := err_InvalidStretch ExB.base_VE lk_InvalidStretch S_InvalidStretch T.b_super no0_InvalidStretch iI_InvalidStretch tI_InvalidStretch (PySem.W.mg_of X G aC_InvalidStretch)
  have br_InvalidStretch : Br K B0 B1 B2 B3 C_InvalidStretch 0 := ⟨⟨ga_InvalidStretch, gg_InvalidStretch, eC_InvalidStretch, hd_InvalidStretch, fc_InvalidStretch, hn, ht, mo_InvalidStretch⟩, ⟨ga_InvalidStretch, gg_InvalidStretch, eC_InvalidStretch, hd_InvalidStretch⟩, kitOfB iB0 tB0 rB0 u0_InvalidStretch, kitOfB iB1 tB1 rB1 u1_InvalidStretch, kitOfB iB2 tB2 rB2 u2_InvalidStretch, kitOfB iB3 tB3 rB3 u3_InvalidStretch, kitTyB (by decide +kernel) v0_InvalidStretch, kitTyB (by decide +kernel) v1_InvalidStretch, kitTyB (by decide +kernel) v2_InvalidStretch, kitTyB (by decide +kernel) v3_InvalidStretch⟩
  have ox_InvalidStretches : ExB.OexG K C_InvalidStretches "ValueError.__new__" (ExB.tailOf "ValueError") := ⟨⟨nm_InvalidStretches, q_InvalidStretches, N_InvalidStretches, bs_InvalidStretches, _, sn_InvalidStretches, sub_InvalidStretches, ab_InvalidStretches, col_InvalidStretches, dd_InvalidStretches, m0_InvalidStretches, m1_InvalidStretches, m2_InvalidStretches, m3_InvalidStretches, m5_InvalidStretches, xL_InvalidStretches, rfl⟩, sa_InvalidStretches, eC_InvalidStretches, tC_InvalidStretches, kC_InvalidStretches⟩
  have S_InvalidStretches : SupG.SupF "ValueError" "ValueError.__new__" "ValueError.__init__" (ExB.tailOf "ValueError") K l.prog C_InvalidStretches cc_InvalidStretches cda_InvalidStretches "InvalidStretches.__init__" := ⟨ox_InvalidStretches, ⟨_, _, _, ce_InvalidStretches⟩, ⟨_, _, _, _, fi_InvalidStretches, _, co_InvalidStretches, vf_InvalidStretches, mf_InvalidStretches⟩, rc_InvalidStretches, tp, ny, ow_InvalidStretches, v0_InvalidStretches, mr_InvalidStretches⟩
  have eh_InvalidStretches : ErrH l.prog w K mg base "InvalidStretches" C_InvalidStretches ["position"] := err_InvalidStretches ExB.base_VE lk_InvalidStretches S_InvalidStretches T.b_super no0_InvalidStretches iI_InvalidStretches tI_InvalidStretches (PySem.W.mg_of X G aC_InvalidStretches)
  have br_InvalidStretches : Br K B0 B1 B2 B3 C_InvalidStretches 0 := ⟨⟨ga_InvalidStretches, gg_InvalidStretches, eC_InvalidStretches, hd_InvalidStretches, fc_InvalidStretches, hn, ht, mo_InvalidStretches⟩, ⟨ga_InvalidStretches, gg_InvalidStretches, eC_InvalidStretches, hd_InvalidStretches⟩, kitOfB iB0 tB0 rB0 u0_InvalidStretches, kitOfB iB1 tB1 rB1 u1_InvalidStretches, kitOfB iB2 tB2 rB2 u2_InvalidStretches, kitOfB iB3 tB3 rB3 u3_InvalidStretches, kitTyB (by decide +kernel) v0_InvalidStretches, kitTyB (by decide +kernel) v1_InvalidStretches, kitTyB (by decide +kernel) v2_InvalidStretches, kitTyB (by decide +kernel) v3_InvalidStretches⟩
  have ox_InvalidAddress : ExB.OexG K C_InvalidAddress "ValueError.__new__" (ExB.tailOf "ValueError") := ⟨⟨nm_InvalidAddress, q_InvalidAddress, N_InvalidAddress, bs_InvalidAddress, _, sn_InvalidAddress, sub_InvalidAddress, ab_InvalidAddress, col_InvalidAddress, dd_InvalidAddress, m0_InvalidAddress, m1_InvalidAddress, m2_InvalidAddress, m3_InvalidAddress, m5_InvalidAddress, xL_InvalidAddress, rfl⟩, sa_InvalidAddress, eC_InvalidAddress, tC_InvalidAddress, kC_InvalidAddress⟩
  have S_InvalidAddress : SupG.SupF "ValueError" "ValueError.__new__" "ValueError.__init__" (ExB.tailOf "ValueError") K l.prog C_InvalidAddress cc_InvalidAddress cda_InvalidAddress "InvalidAddress.__init__" := ⟨ox_InvalidAddress, ⟨_, _, _, ce_InvalidAddress⟩, ⟨_, _, _, _, fi_InvalidAddress, _, co_InvalidAddress, vf_InvalidAddress, mf_InvalidAddress⟩, rc_InvalidAddress, tp, ny, ow_InvalidAddress, v0_InvalidAddress, mr_InvalidAddress⟩
  have eh_InvalidAddress : ErrH l.prog w K mg base "InvalidAddress" C_InvalidAddress ["value"] := err_InvalidAddress ExB.base_VE lk_InvalidAddress S_InvalidAddress T.b_super no0_InvalidAddress iI_InvalidAddress tI_InvalidAddress (PySem.W.mg_of X G aC_InvalidAddress)
  have br_InvalidAddress : Br K B0 B1 B2 B3 C_InvalidAddress 0 := ⟨⟨ga_InvalidAddress, gg_InvalidAddress, eC_InvalidAddress, hd_InvalidAddress, fc_InvalidAddress, hn, ht, mo_InvalidAddress⟩, ⟨ga_InvalidAddress, gg_InvalidAddress, eC_InvalidAddress, hd_InvalidAddress⟩, kitOfB iB0 tB0 rB0 u0_InvalidAddress, kitOfB iB1 tB1 rB1 u1_InvalidAddress, kitOfB iB2 tB2 rB2 u2_InvalidAddress, kitOfB iB3 tB3 rB3 u3_InvalidAddress, kitTyB (by decide +kernel) v0_InvalidAddress, kitTyB (by decide +kernel) v1_InvalidAddress, kitTyB (by decide +kernel) v2_InvalidAddress, kitTyB (by decide +kernel) v3_InvalidAddress⟩
  have ox_InvalidGoal : ExB.OexG K C_InvalidGoal "ValueError.__new__" (ExB.tailOf "ValueError") := ⟨⟨nm_InvalidGoal, q_InvalidGoal, N_InvalidGoal, bs_InvalidGoal, _, sn_InvalidGoal, sub_InvalidGoal, ab_InvalidGoal, col_InvalidGoal, dd_InvalidGoal, m0_InvalidGoal, m1_InvalidGoal, m2_InvalidGoal, m3_InvalidGoal, m5_InvalidGoal, xL_InvalidGoal, rfl⟩, sa_InvalidGoal, eC_InvalidGoal, tC_InvalidGoal, kC_InvalidGoal⟩
  have S_InvalidGoal : SupG.SupF "ValueError" "ValueError.__new__" "ValueError.__init__" (ExB.tailOf "ValueError") K l.prog C_InvalidGoal cc_InvalidGoal cda_InvalidGoal "InvalidGoal.__init__" := ⟨ox_InvalidGoal, ⟨_, _, _, ce_InvalidGoal⟩, ⟨_, _, _, _, fi_InvalidGoal, _, co_InvalidGoal, vf_InvalidGoal, mf_InvalidGoal⟩, rc_InvalidGoal, tp, ny, ow_InvalidGoal, v0_InvalidGoal, mr_InvalidGoal⟩
  have eh_InvalidGoal : ErrH l.prog w K mg base "InvalidGoal" C_InvalidGoal ["value"] := err_InvalidGoal ExB.base_VE lk_InvalidGoal S_InvalidGoal T.b_super no0_InvalidGoal iI_InvalidGoal tI_InvalidGoal (PySem.W.mg_of X G aC_InvalidGoal)
  have br_InvalidGoal : Br K B0 B1 B2 B3 C_InvalidGoal 0 := ⟨⟨ga_InvalidGoal, gg_InvalidGoal, eC_InvalidGoal, hd_InvalidGoal, fc_InvalidGoal, hn, ht, mo_InvalidGoal⟩, ⟨ga_InvalidGoal, gg_InvalidGoal, eC_InvalidGoal, hd_InvalidGoal⟩, kitOfB iB0 tB0 rB0 u0_InvalidGoal, kitOfB iB1 tB1 rB1 u1_InvalidGoal, kitOfB iB2 tB2 rB2 u2_InvalidGoal, kitOfB iB3 tB3 rB3 u3_InvalidGoal, kitTyB (by decide +kernel) v0_InvalidGoal, kitTyB (by decide +kernel) v1_InvalidGoal, kitTyB (by decide +kernel) v2_InvalidGoal, kitTyB (by decide +kernel) v3_InvalidGoal⟩
  have ox_InvalidRows : ExB.OexG K C_InvalidRows "ValueError.__new__" (ExB.tailOf "ValueError") := ⟨⟨nm_InvalidRows, q_InvalidRows, N_InvalidRows, bs_InvalidRows, _, sn_InvalidRows, sub_InvalidRows, ab_InvalidRows, col_InvalidRows, dd_InvalidRows, m0_InvalidRows, m1_InvalidRows, m2_InvalidRows, m3_InvalidRows, m5_InvalidRows, xL_InvalidRows, rfl⟩, sa_InvalidRows, eC_InvalidRows, tC_InvalidRows, kC_InvalidRows⟩
  have S_InvalidRows : SupG.SupF "ValueError" "ValueError.__new__" "ValueError.__init__" (ExB.tailOf "ValueError") K l.prog C_InvalidRows cc_InvalidRows cda_InvalidRows "InvalidRows.__init__" := ⟨ox_InvalidRows, ⟨_, _, _, ce_InvalidRows⟩, ⟨_, _, _, _, fi_InvalidRows, _, co_InvalidRows, vf_InvalidRows, mf_InvalidRows⟩, rc_InvalidRows, tp, ny, ow_InvalidRows, v0_InvalidRows, mr_InvalidRows⟩
  have eh_InvalidRows : ErrH l.prog w K mg base "InvalidRows" C_InvalidRows ["value"] := err_InvalidRows ExB.base_VE lk_InvalidRows S_InvalidRows T.b_super no0_InvalidRows iI_InvalidRows tI_InvalidRows (PySem.W.mg_of X G aC_InvalidRows)
  have br_InvalidRows : Br K B0 B1 B2 B3 C_InvalidRows 0 := ⟨⟨ga_InvalidRows, gg_InvalidRows, eC_InvalidRows, hd_InvalidRows, fc_InvalidRows, hn, ht, mo_InvalidRows⟩, ⟨ga_InvalidRows, gg_InvalidRows, eC_InvalidRows, hd_InvalidRows⟩, kitOfB iB0 tB0 rB0 u0_InvalidRows, kitOfB iB1 tB1 rB1 u1_InvalidRows, kitOfB iB2 tB2 rB2 u2_InvalidRows, kitOfB iB3 tB3 rB3 u3_InvalidRows, kitTyB (by decide +kernel) v0_InvalidRows, kitTyB (by decide +kernel) v1_InvalidRows, kitTyB (by decide +kernel) v2_InvalidRows, kitTyB (by decide +kernel) v3_InvalidRows⟩
  have ox_InvalidFree : ExB.OexG K C_InvalidFree "ValueError.__new__" (ExB.tailOf "ValueError") := ⟨⟨nm_InvalidFree, q_InvalidFree, N_InvalidFree, bs_InvalidFree, _, sn_InvalidFree, sub_InvalidFree, ab_InvalidFree, col_InvalidFree, dd_InvalidFree, m0_InvalidFree, m1_InvalidFree, m2_InvalidFree, m3_InvalidFree, m5_InvalidFree, xL_InvalidFree, rfl⟩, sa_InvalidFree, eC_InvalidFree, tC_InvalidFree, kC_InvalidFree⟩
  have S_InvalidFree : SupG.SupF "ValueError" "ValueError.__new__" "ValueError.__init__" (ExB.tailOf "ValueError") K l.prog C_InvalidFree cc_InvalidFree cda_InvalidFree "InvalidFree.__init__" := ⟨ox_InvalidFree, ⟨_, _, _, ce_InvalidFree⟩, ⟨_, _, _, _, fi_InvalidFree, _, co_InvalidFree, vf_InvalidFree, mf_InvalidFree⟩, rc_InvalidFree, tp, ny, ow_InvalidFree, v0_InvalidFree, mr_InvalidFree⟩
  have eh_InvalidFree : ErrH l.prog w K mg base "InvalidFree" C_InvalidFree ["position"] := err_InvalidFree ExB.base_VE lk_InvalidFree S_InvalidFree T.b_super no0_InvalidFree iI_InvalidFree tI_InvalidFree (PySem.W.mg_of X G aC_InvalidFree)
  have br_InvalidFree : Br K B0 B1 B2 B3 C_InvalidFree 0 := ⟨⟨ga_InvalidFree, gg_InvalidFree, eC_InvalidFree, hd_InvalidFree, fc_InvalidFree, hn, ht, mo_InvalidFree⟩, ⟨ga_InvalidFree, gg_InvalidFree, eC_InvalidFree, hd_InvalidFree⟩, kitOfB iB0 tB0 rB0 u0_InvalidFree, kitOfB iB1 tB1 rB1 u1_InvalidFree, kitOfB iB2 tB2 rB2 u2_InvalidFree, kitOfB iB3 tB3 rB3 u3_InvalidFree, kitTyB (by decide +kernel) v0_InvalidFree, kitTyB (by decide +kernel) v1_InvalidFree, kitTyB (by decide +kernel) v2_InvalidFree, kitTyB (by decide +kernel) v3_InvalidFree⟩
  have ox_InvalidTables : ExB.OexG K C_InvalidTables "ValueError.__new__" (ExB.tailOf "ValueError") := ⟨⟨nm_InvalidTables, q_InvalidTables, N_InvalidTables, bs_InvalidTables, _, sn_InvalidTables, sub_InvalidTables, ab_InvalidTables, col_InvalidTables, dd_InvalidTables, m0_InvalidTables, m1_InvalidTables, m2_InvalidTables, m3_InvalidTables, m5_InvalidTables, xL_InvalidTables, rfl⟩, sa_InvalidTables, eC_InvalidTables, tC_InvalidTables, kC_InvalidTables⟩
  have S_InvalidTables : SupG.SupF "ValueError" "ValueError.__new__" "ValueError.__init__" (ExB.tailOf "ValueError") K l.prog C_InvalidTables cc_InvalidTables cda_InvalidTables "InvalidTables.__init__" := ⟨ox_InvalidTables, ⟨_, _, _, ce_InvalidTables⟩, ⟨_, _, _, _, fi_InvalidTables, _, co_InvalidTables, vf_InvalidTables, mf_InvalidTables⟩, rc_InvalidTables, tp, ny, ow_InvalidTables, v0_InvalidTables, mr_InvalidTables⟩
  have eh_InvalidTables : ErrH l.prog w K mg base "InvalidTables" C_InvalidTables ["value"] := err_InvalidTables ExB.base_VE lk_InvalidTables S_InvalidTables T.b_super no0_InvalidTables iI_InvalidTables tI_InvalidTables (PySem.W.mg_of X G aC_InvalidTables)
  have br_InvalidTables : Br K B0 B1 B2 B3 C_InvalidTables 0 := ⟨⟨ga_InvalidTables, gg_InvalidTables, eC_InvalidTables, hd_InvalidTables, fc_InvalidTables, hn, ht, mo_InvalidTables⟩, ⟨ga_InvalidTables, gg_InvalidTables, eC_InvalidTables, hd_InvalidTables⟩, kitOfB iB0 tB0 rB0 u0_InvalidTables, kitOfB iB1 tB1 rB1 u1_InvalidTables, kitOfB iB2 tB2 rB2 u2_InvalidTables, kitOfB iB3 tB3 rB3 u3_InvalidTables, kitTyB (by decide +kernel) v0_InvalidTables, kitTyB (by decide +kernel) v1_InvalidTables, kitTyB (by decide +kernel) v2_InvalidTables, kitTyB (by decide +kernel) v3_InvalidTables⟩
  have ox_InvalidFirm : ExB.OexG K C_InvalidFirm "ValueError.__new__" (ExB.tailOf "ValueError") := ⟨⟨nm_InvalidFirm, q_InvalidFirm, N_InvalidFirm, bs_InvalidFirm, _, sn_InvalidFirm, sub_InvalidFirm, ab_InvalidFirm, col_InvalidFirm, dd_InvalidFirm, m0_InvalidFirm, m1_InvalidFirm, m2_InvalidFirm, m3_InvalidFirm, m5_InvalidFirm, xL_InvalidFirm, rfl⟩, sa_InvalidFirm, eC_InvalidFirm, tC_InvalidFirm, kC_InvalidFirm⟩
  have S_InvalidFirm : SupG.SupF "ValueError" "ValueError.__new__" "ValueError.__init__" (ExB.tailOf "ValueError") K l.prog C_InvalidFirm cc_InvalidFirm cda_InvalidFirm "InvalidFirm.__init__" := ⟨ox_InvalidFirm, ⟨_, _, _, ce_InvalidFirm⟩, ⟨_, _, _, _, fi_InvalidFirm, _, co_InvalidFirm, vf_InvalidFirm, mf_InvalidFirm⟩, rc_InvalidFirm, tp, ny, ow_InvalidFirm, v0_InvalidFirm, mr_InvalidFirm⟩
  have eh_InvalidFirm : ErrH l.prog w K mg base "InvalidFirm" C_InvalidFirm ["value"] := err_InvalidFirm ExB.base_VE lk_InvalidFirm S_InvalidFirm T.b_super no0_InvalidFirm iI_InvalidFirm tI_InvalidFirm (PySem.W.mg_of X G aC_InvalidFirm)
  have br_InvalidFirm : Br K B0 B1 B2 B3 C_InvalidFirm 0 := ⟨⟨ga_InvalidFirm, gg_InvalidFirm, eC_InvalidFirm, hd_InvalidFirm, fc_InvalidFirm, hn, ht, mo_InvalidFirm⟩, ⟨ga_InvalidFirm, gg_InvalidFirm, eC_InvalidFirm, hd_InvalidFirm⟩, kitOfB iB0 tB0 rB0 u0_InvalidFirm, kitOfB iB1 tB1 rB1 u1_InvalidFirm, kitOfB iB2 tB2 rB2 u2_InvalidFirm, kitOfB iB3 tB3 rB3 u3_InvalidFirm, kitTyB (by decide +kernel) v0_InvalidFirm, kitTyB (by decide +kernel) v1_InvalidFirm, kitTyB (by decide +kernel) v2_InvalidFirm, kitTyB (by decide +kernel) v3_InvalidFirm⟩
  have ox_InvalidGone : ExB.OexG K C_InvalidGone "ValueError.__new__" (ExB.tailOf "ValueError") := ⟨⟨nm_InvalidGone, q_InvalidGone, N_InvalidGone, bs_InvalidGone, _, sn_InvalidGone, sub_InvalidGone, ab_InvalidGone, col_InvalidGone, dd_InvalidGone, m0_InvalidGone, m1_InvalidGone, m2_InvalidGone, m3_InvalidGone, m5_InvalidGone, xL_InvalidGone, rfl⟩, sa_InvalidGone, eC_InvalidGone, tC_InvalidGone, kC_InvalidGone⟩
  have S_InvalidGone : SupG.SupF "ValueError" "ValueError.__new__" "ValueError.__init__" (ExB.tailOf "ValueError") K l.prog C_InvalidGone cc_InvalidGone cda_InvalidGone "InvalidGone.__init__" := ⟨ox_InvalidGone, ⟨_, _, _, ce_InvalidGone⟩, ⟨_, _, _, _, fi_InvalidGone, _, co_InvalidGone, vf_InvalidGone, mf_InvalidGone⟩, rc_InvalidGone, tp, ny, ow_InvalidGone, v0_InvalidGone, mr_InvalidGone⟩
  have eh_InvalidGone : ErrH l.prog w K mg base "InvalidGone" C_InvalidGone ["position"] := err_InvalidGone ExB.base_VE lk_InvalidGone S_InvalidGone T.b_super no0_InvalidGone iI_InvalidGone tI_InvalidGone (PySem.W.mg_of X G aC_InvalidGone)
  have br_InvalidGone : Br K B0 B1 B2 B3 C_InvalidGone 0 := ⟨⟨ga_InvalidGone, gg_InvalidGone, eC_InvalidGone, hd_InvalidGone, fc_InvalidGone, hn, ht, mo_InvalidGone⟩, ⟨ga_InvalidGone, gg_InvalidGone, eC_InvalidGone, hd_InvalidGone⟩, kitOfB iB0 tB0 rB0 u0_InvalidGone, kitOfB iB1 tB1 rB1 u1_InvalidGone, kitOfB iB2 tB2 rB2 u2_InvalidGone, kitOfB iB3 tB3 rB3 u3_InvalidGone, kitTyB (by decide +kernel) v0_InvalidGone, kitTyB (by decide +kernel) v1_InvalidGone, kitTyB (by decide +kernel) v2_InvalidGone, kitTyB (by decide +kernel) v3_InvalidGone⟩
  have ox_InvalidName : ExB.OexG K C_InvalidName "ValueError.__new__" (ExB.tailOf "ValueError") := ⟨⟨nm_InvalidName, q_InvalidName, N_InvalidName, bs_InvalidName, _, sn_InvalidName, sub_InvalidName, ab_InvalidName, col_InvalidName, dd_InvalidName, m0_InvalidName, m1_InvalidName, m2_InvalidName, m3_InvalidName, m5_InvalidName, xL_InvalidName, rfl⟩, sa_InvalidName, eC_InvalidName, tC_InvalidName, kC_InvalidName⟩
  have S_InvalidName : SupG.SupF "ValueError" "ValueError.__new__" "ValueError.__init__" (ExB.tailOf "ValueError") K l.prog C_InvalidName cc_InvalidName cda_InvalidName "InvalidName.__init__" := ⟨ox_InvalidName, ⟨_, _, _, ce_InvalidName⟩, ⟨_, _, _, _, fi_InvalidName, _, co_InvalidName, vf_InvalidName, mf_InvalidName⟩, rc_InvalidName, tp, ny, ow_InvalidName, v0_InvalidName, mr_InvalidName⟩
  have eh_InvalidName : ErrH l.prog w K mg base "InvalidName" C_InvalidName ["value"] := err_InvalidName ExB.base_VE lk_InvalidName S_InvalidName T.b_super no0_InvalidName iI_InvalidName tI_InvalidName (PySem.W.mg_of X G aC_InvalidName)
  have br_InvalidName : Br K B0 B1 B2 B3 C_InvalidName 0 := ⟨⟨ga_InvalidName, gg_InvalidName, eC_InvalidName, hd_InvalidName, fc_InvalidName, hn, ht, mo_InvalidName⟩, ⟨ga_InvalidName, gg_InvalidName, eC_InvalidName, hd_InvalidName⟩, kitOfB iB0 tB0 rB0 u0_InvalidName, kitOfB iB1 tB1 rB1 u1_InvalidName, kitOfB iB2 tB2 rB2 u2_InvalidName, kitOfB iB3 tB3 rB3 u3_InvalidName, kitTyB (by decide +kernel) v0_InvalidName, kitTyB (by decide +kernel) v1_InvalidName, kitTyB (by decide +kernel) v2_InvalidName, kitTyB (by decide +kernel) v3_InvalidName⟩
  have ox_InvalidHop : ExB.OexG K C_InvalidHop "ValueError.__new__" (ExB.tailOf "ValueError") := ⟨⟨nm_InvalidHop, q_InvalidHop, N_InvalidHop, bs_InvalidHop, _, sn_InvalidHop, sub_InvalidHop, ab_InvalidHop, col_InvalidHop, dd_InvalidHop, m0_InvalidHop, m1_InvalidHop, m2_InvalidHop, m3_InvalidHop, m5_InvalidHop, xL_InvalidHop, rfl⟩, sa_InvalidHop, eC_InvalidHop, tC_InvalidHop, kC_InvalidHop⟩
  have S_InvalidHop : SupG.SupF "ValueError" "ValueError.__new__" "ValueError.__init__" (ExB.tailOf "ValueError") K l.prog C_InvalidHop cc_InvalidHop cda_InvalidHop "InvalidHop.__init__" := ⟨ox_InvalidHop, ⟨_, _, _, ce_InvalidHop⟩, ⟨_, _, _, _, fi_InvalidHop, _, co_InvalidHop, vf_InvalidHop, mf_InvalidHop⟩, rc_InvalidHop, tp, ny, ow_InvalidHop, v0_InvalidHop, mr_InvalidHop⟩
  have eh_InvalidHop : ErrH l.prog w K mg base "InvalidHop" C_InvalidHop ["value"] := err_InvalidHop ExB.base_VE lk_InvalidHop S_InvalidHop T.b_super no0_InvalidHop iI_InvalidHop tI_InvalidHop (PySem.W.mg_of X G aC_InvalidHop)
  have br_InvalidHop : Br K B0 B1 B2 B3 C_InvalidHop 0 := ⟨⟨ga_InvalidHop, gg_InvalidHop, eC_InvalidHop, hd_InvalidHop, fc_InvalidHop, hn, ht, mo_InvalidHop⟩, ⟨ga_InvalidHop, gg_InvalidHop, eC_InvalidHop, hd_InvalidHop⟩, kitOfB iB0 tB0 rB0 u0_InvalidHop, kitOfB iB1 tB1 rB1 u1_InvalidHop, kitOfB iB2 tB2 rB2 u2_InvalidHop, kitOfB iB3 tB3 rB3 u3_InvalidHop, kitTyB (by decide +kernel) v0_InvalidHop, kitTyB (by decide +kernel) v1_InvalidHop, kitTyB (by decide +kernel) v2_InvalidHop, kitTyB (by decide +kernel) v3_InvalidHop⟩
  have ox_InvalidWay : ExB.OexG K C_InvalidWay "ValueError.__new__" (ExB.tailOf "ValueError") := ⟨⟨nm_InvalidWay, q_InvalidWay, N_InvalidWay, bs_InvalidWay, _, sn_InvalidWay, sub_InvalidWay, ab_InvalidWay, col_InvalidWay, dd_InvalidWay, m0_InvalidWay, m1_InvalidWay, m2_InvalidWay, m3_InvalidWay, m5_InvalidWay, xL_InvalidWay, rfl⟩, sa_InvalidWay, eC_InvalidWay, tC_InvalidWay, kC_InvalidWay⟩
  have S_InvalidWay : SupG.SupF "ValueError" "ValueError.__new__" "ValueError.__init__" (ExB.tailOf "ValueError") K l.prog C_InvalidWay cc_InvalidWay cda_InvalidWay "InvalidWay.__init__" := ⟨ox_InvalidWay, ⟨_, _, _, ce_InvalidWay⟩, ⟨_, _, _, _, fi_InvalidWay, _, co_InvalidWay, vf_InvalidWay, mf_InvalidWay⟩, rc_InvalidWay, tp, ny, ow_InvalidWay, v0_InvalidWay, mr_InvalidWay⟩
  have eh_InvalidWay : ErrH l.prog w K mg base "InvalidWay" C_InvalidWay ["value"] := err_InvalidWay ExB.base_VE lk_InvalidWay S_InvalidWay T.b_super no0_InvalidWay iI_InvalidWay tI_InvalidWay (PySem.W.mg_of X G aC_InvalidWay)
  have br_InvalidWay : Br K B0 B1 B2 B3 C_InvalidWay 0 := ⟨⟨ga_InvalidWay, gg_InvalidWay, eC_InvalidWay, hd_InvalidWay, fc_InvalidWay, hn, ht, mo_InvalidWay⟩, ⟨ga_InvalidWay, gg_InvalidWay, eC_InvalidWay, hd_InvalidWay⟩, kitOfB iB0 tB0 rB0 u0_InvalidWay, kitOfB iB1 tB1 rB1 u1_InvalidWay, kitOfB iB2 tB2 rB2 u2_InvalidWay, kitOfB iB3 tB3 rB3 u3_InvalidWay, kitTyB (by decide +kernel) v0_InvalidWay, kitTyB (by decide +kernel) v1_InvalidWay, kitTyB (by decide +kernel) v2_InvalidWay, kitTyB (by decide +kernel) v3_InvalidWay⟩
  have ox_InvalidMembers : ExB.OexG K C_InvalidMembers "ValueError.__new__" (ExB.tailOf "ValueError") := ⟨⟨nm_InvalidMembers, q_InvalidMembers, N_InvalidMembers, bs_InvalidMembers, _, sn_InvalidMembers, sub_InvalidMembers, ab_InvalidMembers, col_InvalidMembers, dd_InvalidMembers, m0_InvalidMembers, m1_InvalidMembers, m2_InvalidMembers, m3_InvalidMembers, m5_InvalidMembers, xL_InvalidMembers, rfl⟩, sa_InvalidMembers, eC_InvalidMembers, tC_InvalidMembers, kC_InvalidMembers⟩
  have S_InvalidMembers : SupG.SupF "ValueError" "ValueError.__new__" "ValueError.__init__" (ExB.tailOf "ValueError") K l.prog C_InvalidMembers cc_InvalidMembers cda_InvalidMembers "InvalidMembers.__init__" := ⟨ox_InvalidMembers, ⟨_, _, _, ce_InvalidMembers⟩, ⟨_, _, _, _, fi_InvalidMembers, _, co_InvalidMembers, vf_InvalidMembers, mf_InvalidMembers⟩, rc_InvalidMembers, tp, ny, ow_InvalidMembers, v0_InvalidMembers, mr_InvalidMembers⟩
  have eh_InvalidMembers : ErrH l.prog w K mg base "InvalidMembers" C_InvalidMembers ["position"] := err_InvalidMembers ExB.base_VE lk_InvalidMembers S_InvalidMembers T.b_super no0_InvalidMembers iI_InvalidMembers tI_InvalidMembers (PySem.W.mg_of X G aC_InvalidMembers)
  have br_InvalidMembers : Br K B0 B1 B2 B3 C_InvalidMembers 0 := ⟨⟨ga_InvalidMembers, gg_InvalidMembers, eC_InvalidMembers, hd_InvalidMembers, fc_InvalidMembers, hn, ht, mo_InvalidMembers⟩, ⟨ga_InvalidMembers, gg_InvalidMembers, eC_InvalidMembers, hd_InvalidMembers⟩, kitOfB iB0 tB0 rB0 u0_InvalidMembers, kitOfB iB1 tB1 rB1 u1_InvalidMembers, kitOfB iB2 tB2 rB2 u2_InvalidMembers, kitOfB iB3 tB3 rB3 u3_InvalidMembers, kitTyB (by decide +kernel) v0_InvalidMembers, kitTyB (by decide +kernel) v1_InvalidMembers, kitTyB (by decide +kernel) v2_InvalidMembers, kitTyB (by decide +kernel) v3_InvalidMembers⟩
  have ox_InvalidItems : ExB.OexG K C_InvalidItems "ValueError.__new__" (ExB.tailOf "ValueError") := ⟨⟨nm_InvalidItems, q_InvalidItems, N_InvalidItems, bs_InvalidItems, _, sn_InvalidItems, sub_InvalidItems, ab_InvalidItems, col_InvalidItems, dd_InvalidItems, m0_InvalidItems, m1_InvalidItems, m2_InvalidItems, m3_InvalidItems, m5_InvalidItems, xL_InvalidItems, rfl⟩, sa_InvalidItems, eC_InvalidItems, tC_InvalidItems, kC_InvalidItems⟩
  have S_InvalidItems : SupG.SupF "ValueError" "ValueError.__new__" "ValueError.__init__" (ExB.tailOf "ValueError") K l.prog C_InvalidItems cc_InvalidItems cda_InvalidItems "InvalidItems.__init__" := ⟨ox_InvalidItems, ⟨_, _, _, ce_InvalidItems⟩, ⟨_, _, _, _, fi_InvalidItems, _, co_InvalidItems, vf_InvalidItems, mf_InvalidItems⟩, rc_InvalidItems, tp, ny, ow_InvalidItems, v0_InvalidItems, mr_InvalidItems⟩
  have eh_InvalidItems : ErrH l.prog w K mg base "InvalidItems" C_InvalidItems ["position"] := err_InvalidItems ExB.base_VE lk_InvalidItems S_InvalidItems T.b_super no0_InvalidItems iI_InvalidItems tI_InvalidItems (PySem.W.mg_of X G aC_InvalidItems)
  have br_InvalidItems : Br K B0 B1 B2 B3 C_InvalidItems 0 := ⟨⟨ga_InvalidItems, gg_InvalidItems, eC_InvalidItems, hd_InvalidItems, fc_InvalidItems, hn, ht, mo_InvalidItems⟩, ⟨ga_InvalidItems, gg_InvalidItems, eC_InvalidItems, hd_InvalidItems⟩, kitOfB iB0 tB0 rB0 u0_InvalidItems, kitOfB iB1 tB1 rB1 u1_InvalidItems, kitOfB iB2 tB2 rB2 u2_InvalidItems, kitOfB iB3 tB3 rB3 u3_InvalidItems, kitTyB (by decide +kernel) v0_InvalidItems, kitTyB (by decide +kernel) v1_InvalidItems, kitTyB (by decide +kernel) v2_InvalidItems, kitTyB (by decide +kernel) v3_InvalidItems⟩
  have ox_InvalidWithdrawn : ExB.OexG K C_InvalidWithdrawn "ValueError.__new__" (ExB.tailOf "ValueError") := ⟨⟨nm_InvalidWithdrawn, q_InvalidWithdrawn, N_InvalidWithdrawn, bs_InvalidWithdrawn, _, sn_InvalidWithdrawn, sub_InvalidWithdrawn, ab_InvalidWithdrawn, col_InvalidWithdrawn, dd_InvalidWithdrawn, m0_InvalidWithdrawn, m1_InvalidWithdrawn, m2_InvalidWithdrawn, m3_InvalidWithdrawn, m5_InvalidWithdrawn, xL_InvalidWithdrawn, rfl⟩, sa_InvalidWithdrawn, eC_InvalidWithdrawn, tC_InvalidWithdrawn, kC_InvalidWithdrawn⟩
  have S_InvalidWithdrawn : SupG.SupF "ValueError" "ValueError.__new__" "ValueError.__init__" (ExB.tailOf "ValueError") K l.prog C_InvalidWithdrawn cc_InvalidWithdrawn cda_InvalidWithdrawn "InvalidWithdrawn.__init__" := ⟨ox_InvalidWithdrawn, ⟨_, _, _, ce_InvalidWithdrawn⟩, ⟨_, _, _, _, fi_InvalidWithdrawn, _, co_InvalidWithdrawn, vf_InvalidWithdrawn, mf_InvalidWithdrawn⟩, rc_InvalidWithdrawn, tp, ny, ow_InvalidWithdrawn, v0_InvalidWithdrawn, mr_InvalidWithdrawn⟩
  have eh_InvalidWithdrawn : ErrH l.prog w K mg base "InvalidWithdrawn" C_InvalidWithdrawn ["position"] := err_InvalidWithdrawn ExB.base_VE lk_InvalidWithdrawn S_InvalidWithdrawn T.b_super no0_InvalidWithdrawn iI_InvalidWithdrawn tI_InvalidWithdrawn (PySem.W.mg_of X G aC_InvalidWithdrawn)
  have br_InvalidWithdrawn : Br K B0 B1 B2 B3 C_InvalidWithdrawn 0 := ⟨⟨ga_InvalidWithdrawn, gg_InvalidWithdrawn, eC_InvalidWithdrawn, hd_InvalidWithdrawn, fc_InvalidWithdrawn, hn, ht, mo_InvalidWithdrawn⟩, ⟨ga_InvalidWithdrawn, gg_InvalidWithdrawn, eC_InvalidWithdrawn, hd_InvalidWithdrawn⟩, kitOfB iB0 tB0 rB0 u0_InvalidWithdrawn, kitOfB iB1 tB1 rB1 u1_InvalidWithdrawn, kitOfB iB2 tB2 rB2 u2_InvalidWithdrawn, kitOfB iB3 tB3 rB3 u3_InvalidWithdrawn, kitTyB (by decide +kernel) v0_InvalidWithdrawn, kitTyB (by decide +kernel) v1_InvalidWithdrawn, kitTyB (by decide +kernel) v2_InvalidWithdrawn, kitTyB (by decide +kernel) v3_InvalidWithdrawn⟩
  have ox_InvalidRegion : ExB.OexG K C_InvalidRegion "ValueError.__new__" (ExB.tailOf "ValueError") := ⟨⟨nm_InvalidRegion, q_InvalidRegion, N_InvalidRegion, bs_InvalidRegion, _, sn_InvalidRegion, sub_InvalidRegion, ab_InvalidRegion, col_InvalidRegion, dd_InvalidRegion, m0_InvalidRegion, m1_InvalidRegion, m2_InvalidRegion, m3_InvalidRegion, m5_InvalidRegion, xL_InvalidRegion, rfl⟩, sa_InvalidRegion, eC_InvalidRegion, tC_InvalidRegion, kC_InvalidRegion⟩
  have S_InvalidRegion : SupG.SupF "ValueError" "ValueError.__new__" "ValueError.__init__" (ExB.tailOf "ValueError") K l.prog C_InvalidRegion cc_InvalidRegion cda_InvalidRegion "InvalidRegion.__init__" := ⟨ox_InvalidRegion, ⟨_, _, _, ce_InvalidRegion⟩, ⟨_, _, _, _, fi_InvalidRegion, _, co_InvalidRegion, vf_InvalidRegion, mf_InvalidRegion⟩, rc_InvalidRegion, tp, ny, ow_InvalidRegion, v0_InvalidRegion, mr_InvalidRegion⟩
  have eh_InvalidRegion : ErrH l.prog w K mg base "InvalidRegion" C_InvalidRegion ["position"] := err_InvalidRegion ExB.base_VE lk_InvalidRegion S_InvalidRegion T.b_super no0_InvalidRegion iI_InvalidRegion tI_InvalidRegion (PySem.W.mg_of X G aC_InvalidRegion)
  have br_InvalidRegion : Br K B0 B1 B2 B3 C_InvalidRegion 0 := ⟨⟨ga_InvalidRegion, gg_InvalidRegion, eC_InvalidRegion, hd_InvalidRegion, fc_InvalidRegion, hn, ht, mo_InvalidRegion⟩, ⟨ga_InvalidRegion, gg_InvalidRegion, eC_InvalidRegion, hd_InvalidRegion⟩, kitOfB iB0 tB0 rB0 u0_InvalidRegion, kitOfB iB1 tB1 rB1 u1_InvalidRegion, kitOfB iB2 tB2 rB2 u2_InvalidRegion, kitOfB iB3 tB3 rB3 u3_InvalidRegion, kitTyB (by decide +kernel) v0_InvalidRegion, kitTyB (by decide +kernel) v1_InvalidRegion, kitTyB (by decide +kernel) v2_InvalidRegion, kitTyB (by decide +kernel) v3_InvalidRegion⟩
  have ox_InvalidHops : ExB.OexG K C_InvalidHops "ValueError.__new__" (ExB.tailOf "ValueError") := ⟨⟨nm_InvalidHops, q_InvalidHops, N_InvalidHops, bs_InvalidHops, _, sn_InvalidHops, sub_InvalidHops, ab_InvalidHops, col_InvalidHops, dd_InvalidHops, m0_InvalidHops, m1_InvalidHops, m2_InvalidHops, m3_InvalidHops, m5_InvalidHops, xL_InvalidHops, rfl⟩, sa_InvalidHops, eC_InvalidHops, tC_InvalidHops, kC_InvalidHops⟩
  have S_InvalidHops : SupG.SupF "ValueError" "ValueError.__new__" "ValueError.__init__" (ExB.tailOf "ValueError") K l.prog C_InvalidHops cc_InvalidHops cda_InvalidHops "InvalidHops.__init__" := ⟨ox_InvalidHops, ⟨_, _, _, ce_InvalidHops⟩, ⟨_, _, _, _, fi_InvalidHops, _, co_InvalidHops, vf_InvalidHops, mf_InvalidHops⟩, rc_InvalidHops, tp, ny, ow_InvalidHops, v0_InvalidHops, mr_InvalidHops⟩
  have eh_InvalidHops : ErrH l.prog w K mg base "InvalidHops" C_InvalidHops ["position"] := err_InvalidHops ExB.base_VE lk_InvalidHops S_InvalidHops T.b_super no0_InvalidHops iI_InvalidHops tI_InvalidHops (PySem.W.mg_of X G aC_InvalidHops)
  have br_InvalidHops : Br K B0 B1 B2 B3 C_InvalidHops 0 := ⟨⟨ga_InvalidHops, gg_InvalidHops, eC_InvalidHops, hd_InvalidHops, fc_InvalidHops, hn, ht, mo_InvalidHops⟩, ⟨ga_InvalidHops, gg_InvalidHops, eC_InvalidHops, hd_InvalidHops⟩, kitOfB iB0 tB0 rB0 u0_InvalidHops, kitOfB iB1 tB1 rB1 u1_InvalidHops, kitOfB iB2 tB2 rB2 u2_InvalidHops, kitOfB iB3 tB3 rB3 u3_InvalidHops, kitTyB (by decide +kernel) v0_InvalidHops, kitTyB (by decide +kernel) v1_InvalidHops, kitTyB (by decide +kernel) v2_InvalidHops, kitTyB (by decide +kernel) v3_InvalidHops⟩
  have ox_InvalidWord : ExB.OexG K C_InvalidWord "ValueError.__new__" (ExB.tailOf "ValueError") := ⟨⟨nm_InvalidWord, q_InvalidWord, N_InvalidWord, bs_InvalidWord, _, sn_InvalidWord, sub_InvalidWord, ab_InvalidWord, col_InvalidWord, dd_InvalidWord, m0_InvalidWord, m1_InvalidWord, m2_InvalidWord, m3_InvalidWord, m5_InvalidWord, xL_InvalidWord, rfl⟩, sa_InvalidWord, eC_InvalidWord, tC_InvalidWord, kC_InvalidWord⟩
  have S_InvalidWord : SupG.SupF "ValueError" "ValueError.__new__" "ValueError.__init__" (ExB.tailOf "ValueError") K l.prog C_InvalidWord cc_InvalidWord cda_InvalidWord "InvalidWord.__init__" := ⟨ox_InvalidWord, ⟨_, _, _, ce_InvalidWord⟩, ⟨_, _, _, _, fi_InvalidWord, _, co_InvalidWord, vf_InvalidWord, mf_InvalidWord⟩, rc_InvalidWord, tp, ny, ow_InvalidWord, v0_InvalidWord, mr_InvalidWord⟩
  have eh_InvalidWord : ErrH l.prog w K mg base "InvalidWord" C_InvalidWord ["value"] := err_InvalidWord ExB.base_VE lk_InvalidWord S_InvalidWord T.b_super no0_InvalidWord iI_InvalidWord tI_InvalidWord (PySem.W.mg_of X G aC_InvalidWord)
  have br_InvalidWord : Br K B0 B1 B2 B3 C_InvalidWord 0 := ⟨⟨ga_InvalidWord, gg_InvalidWord, eC_InvalidWord, hd_InvalidWord, fc_InvalidWord, hn, ht, mo_InvalidWord⟩, ⟨ga_InvalidWord, gg_InvalidWord, eC_InvalidWord, hd_InvalidWord⟩, kitOfB iB0 tB0 rB0 u0_InvalidWord, kitOfB iB1 tB1 rB1 u1_InvalidWord, kitOfB iB2 tB2 rB2 u2_InvalidWord, kitOfB iB3 tB3 rB3 u3_InvalidWord, kitTyB (by decide +kernel) v0_InvalidWord, kitTyB (by decide +kernel) v1_InvalidWord, kitTyB (by decide +kernel) v2_InvalidWord, kitTyB (by decide +kernel) v3_InvalidWord⟩
  have ox_InvalidText : ExB.OexG K C_InvalidText "ValueError.__new__" (ExB.tailOf "ValueError") := ⟨⟨nm_InvalidText, q_InvalidText, N_InvalidText, bs_InvalidText, _, sn_InvalidText, sub_InvalidText, ab_InvalidText, col_InvalidText, dd_InvalidText, m0_InvalidText, m1_InvalidText, m2_InvalidText, m3_InvalidText, m5_InvalidText, xL_InvalidText, rfl⟩, sa_InvalidText, eC_InvalidText, tC_InvalidText, kC_InvalidText⟩
  have S_InvalidText : SupG.SupF "ValueError" "ValueError.__new__" "ValueError.__init__" (ExB.tailOf "ValueError") K l.prog C_InvalidText cc_InvalidText cda_InvalidText "InvalidText.__init__" := ⟨ox_InvalidText, ⟨_, _, _, ce_InvalidText⟩, ⟨_, _, _, _, fi_InvalidText, _, co_InvalidText, vf_InvalidText, mf_InvalidText⟩, rc_InvalidText, tp, ny, ow_InvalidText, v0_InvalidText, mr_InvalidText⟩
  have eh_InvalidText : ErrH l.prog w K mg base "InvalidText" C_InvalidText ["line"] := err_InvalidText ExB.base_VE lk_InvalidText S_InvalidText T.b_super no0_InvalidText iI_InvalidText tI_InvalidText (PySem.W.mg_of X G aC_InvalidText)
  have br_InvalidText : Br K B0 B1 B2 B3 C_InvalidText 0 := ⟨⟨ga_InvalidText, gg_InvalidText, eC_InvalidText, hd_InvalidText, fc_InvalidText, hn, ht, mo_InvalidText⟩, ⟨ga_InvalidText, gg_InvalidText, eC_InvalidText, hd_InvalidText⟩, kitOfB iB0 tB0 rB0 u0_InvalidText, kitOfB iB1 tB1 rB1 u1_InvalidText, kitOfB iB2 tB2 rB2 u2_InvalidText, kitOfB iB3 tB3 rB3 u3_InvalidText, kitTyB (by decide +kernel) v0_InvalidText, kitTyB (by decide +kernel) v1_InvalidText, kitTyB (by decide +kernel) v2_InvalidText, kitTyB (by decide +kernel) v3_InvalidText⟩
  have ox_InvalidClaim : ExB.OexG K C_InvalidClaim "ValueError.__new__" (ExB.tailOf "ValueError") := ⟨⟨nm_InvalidClaim, q_InvalidClaim, N_InvalidClaim, bs_InvalidClaim, _, sn_InvalidClaim, sub_InvalidClaim, ab_InvalidClaim, col_InvalidClaim, dd_InvalidClaim, m0_InvalidClaim, m1_InvalidClaim, m2_InvalidClaim, m3_InvalidClaim, m5_InvalidClaim, xL_InvalidClaim, rfl⟩, sa_InvalidClaim, eC_InvalidClaim, tC_InvalidClaim, kC_InvalidClaim⟩
  have S_InvalidClaim : SupG.SupF "ValueError" "ValueError.__new__" "ValueError.__init__" (ExB.tailOf "ValueError") K l.prog C_InvalidClaim cc_InvalidClaim cda_InvalidClaim "InvalidClaim.__init__" := ⟨ox_InvalidClaim, ⟨_, _, _, ce_InvalidClaim⟩, ⟨_, _, _, _, fi_InvalidClaim, _, co_InvalidClaim, vf_InvalidClaim, mf_InvalidClaim⟩, rc_InvalidClaim, tp, ny, ow_InvalidClaim, v0_InvalidClaim, mr_InvalidClaim⟩
  have eh_InvalidClaim : ErrH l.prog w K mg base "InvalidClaim" C_InvalidClaim ["value"] := err_InvalidClaim ExB.base_VE lk_InvalidClaim S_InvalidClaim T.b_super no0_InvalidClaim iI_InvalidClaim tI_InvalidClaim (PySem.W.mg_of X G aC_InvalidClaim)
  have br_InvalidClaim : Br K B0 B1 B2 B3 C_InvalidClaim 0 := ⟨⟨ga_InvalidClaim, gg_InvalidClaim, eC_InvalidClaim, hd_InvalidClaim, fc_InvalidClaim, hn, ht, mo_InvalidClaim⟩, ⟨ga_InvalidClaim, gg_InvalidClaim, eC_InvalidClaim, hd_InvalidClaim⟩, kitOfB iB0 tB0 rB0 u0_InvalidClaim, kitOfB iB1 tB1 rB1 u1_InvalidClaim, kitOfB iB2 tB2 rB2 u2_InvalidClaim, kitOfB iB3 tB3 rB3 u3_InvalidClaim, kitTyB (by decide +kernel) v0_InvalidClaim, kitTyB (by decide +kernel) v1_InvalidClaim, kitTyB (by decide +kernel) v2_InvalidClaim, kitTyB (by decide +kernel) v3_InvalidClaim⟩
  have ox_InvalidCommand : ExB.OexG K C_InvalidCommand "ValueError.__new__" (ExB.tailOf "ValueError") := ⟨⟨nm_InvalidCommand, q_InvalidCommand, N_InvalidCommand, bs_InvalidCommand, _, sn_InvalidCommand, sub_InvalidCommand, ab_InvalidCommand, col_InvalidCommand, dd_InvalidCommand, m0_InvalidCommand, m1_InvalidCommand, m2_InvalidCommand, m3_InvalidCommand, m5_InvalidCommand, xL_InvalidCommand, rfl⟩, sa_InvalidCommand, eC_InvalidCommand, tC_InvalidCommand, kC_InvalidCommand⟩
  have S_InvalidCommand : SupG.SupF "ValueError" "ValueError.__new__" "ValueError.__init__" (ExB.tailOf "ValueError") K l.prog C_InvalidCommand cc_InvalidCommand cda_InvalidCommand "InvalidCommand.__init__" := ⟨ox_InvalidCommand, ⟨_, _, _, ce_InvalidCommand⟩, ⟨_, _, _, _, fi_InvalidCommand, _, co_InvalidCommand, vf_InvalidCommand, mf_InvalidCommand⟩, rc_InvalidCommand, tp, ny, ow_InvalidCommand, v0_InvalidCommand, mr_InvalidCommand⟩
  have eh_InvalidCommand : ErrH l.prog w K mg base "InvalidCommand" C_InvalidCommand ["value"] := err_InvalidCommand ExB.base_VE lk_InvalidCommand S_InvalidCommand T.b_super no0_InvalidCommand iI_InvalidCommand tI_InvalidCommand (PySem.W.mg_of X G aC_InvalidCommand)
  have br_InvalidCommand : Br K B0 B1 B2 B3 C_InvalidCommand 0 := ⟨⟨ga_InvalidCommand, gg_InvalidCommand, eC_InvalidCommand, hd_InvalidCommand, fc_InvalidCommand, hn, ht, mo_InvalidCommand⟩, ⟨ga_InvalidCommand, gg_InvalidCommand, eC_InvalidCommand, hd_InvalidCommand⟩, kitOfB iB0 tB0 rB0 u0_InvalidCommand, kitOfB iB1 tB1 rB1 u1_InvalidCommand, kitOfB iB2 tB2 rB2 u2_InvalidCommand, kitOfB iB3 tB3 rB3 u3_InvalidCommand, kitTyB (by decide +kernel) v0_InvalidCommand, kitTyB (by decide +kernel) v1_InvalidCommand, kitTyB (by decide +kernel) v2_InvalidCommand, kitTyB (by decide +kernel) v3_InvalidCommand⟩
  have ox_UnknownStretch : ExB.OexG K C_UnknownStretch "LookupError.__new__" (ExB.tailOf "LookupError") := ⟨⟨nm_UnknownStretch, q_UnknownStretch, N_UnknownStretch, bs_UnknownStretch, _, sn_UnknownStretch, sub_UnknownStretch, ab_UnknownStretch, col_UnknownStretch, dd_UnknownStretch, m0_UnknownStretch, m1_UnknownStretch, m2_UnknownStretch, m3_UnknownStretch, m5_UnknownStretch, xL_UnknownStretch, rfl⟩, sa_UnknownStretch, eC_UnknownStretch, tC_UnknownStretch, kC_UnknownStretch⟩
  have S_UnknownStretch : SupG.SupF "LookupError" "LookupError.__new__" "LookupError.__init__" (ExB.tailOf "LookupError") K l.prog C_UnknownStretch cc_UnknownStretch cda_UnknownStretch "UnknownStretch.__init__" := ⟨ox_UnknownStretch, ⟨_, _, _, ce_UnknownStretch⟩, ⟨_, _, _, _, fi_UnknownStretch, _, co_UnknownStretch, vf_UnknownStretch, mf_UnknownStretch⟩, rc_UnknownStretch, tp, ny, ow_UnknownStretch, v1_UnknownStretch, mr_UnknownStretch⟩
  have eh_UnknownStretch : ErrH l.prog w K mg base "UnknownStretch" C_UnknownStretch ["value"] := err_UnknownStretch ExB.base_LE lk_UnknownStretch S_UnknownStretch T.b_super no0_UnknownStretch iI_UnknownStretch tI_UnknownStretch (PySem.W.mg_of X G aC_UnknownStretch)
  have br_UnknownStretch : Br K B0 B1 B2 B3 C_UnknownStretch 1 := ⟨⟨ga_UnknownStretch, gg_UnknownStretch, eC_UnknownStretch, hd_UnknownStretch, fc_UnknownStretch, hn, ht, mo_UnknownStretch⟩, ⟨ga_UnknownStretch, gg_UnknownStretch, eC_UnknownStretch, hd_UnknownStretch⟩, kitOfB iB0 tB0 rB0 u0_UnknownStretch, kitOfB iB1 tB1 rB1 u1_UnknownStretch, kitOfB iB2 tB2 rB2 u2_UnknownStretch, kitOfB iB3 tB3 rB3 u3_UnknownStretch, kitTyB (by decide +kernel) v0_UnknownStretch, kitTyB (by decide +kernel) v1_UnknownStretch, kitTyB (by decide +kernel) v2_UnknownStretch, kitTyB (by decide +kernel) v3_UnknownStretch⟩
  have ox_UnknownHop : ExB.OexG K C_UnknownHop "LookupError.__new__" (ExB.tailOf "LookupError") := ⟨⟨nm_UnknownHop, q_UnknownHop, N_UnknownHop, bs_UnknownHop, _, sn_UnknownHop, sub_UnknownHop, ab_UnknownHop, col_UnknownHop, dd_UnknownHop, m0_UnknownHop, m1_UnknownHop, m2_UnknownHop, m3_UnknownHop, m5_UnknownHop, xL_UnknownHop, rfl⟩, sa_UnknownHop, eC_UnknownHop, tC_UnknownHop, kC_UnknownHop⟩
  have S_UnknownHop : SupG.SupF "LookupError" "LookupError.__new__" "LookupError.__init__" (ExB.tailOf "LookupError") K l.prog C_UnknownHop cc_UnknownHop cda_UnknownHop "UnknownHop.__init__" := ⟨ox_UnknownHop, ⟨_, _, _, ce_UnknownHop⟩, ⟨_, _, _, _, fi_UnknownHop, _, co_UnknownHop, vf_UnknownHop, mf_UnknownHop⟩, rc_UnknownHop, tp, ny, ow_UnknownHop, v1_UnknownHop, mr_UnknownHop⟩
  have eh_UnknownHop : ErrH l.prog w K mg base "UnknownHop" C_UnknownHop ["value"] := err_UnknownHop ExB.base_LE lk_UnknownHop S_UnknownHop T.b_super no0_UnknownHop iI_UnknownHop tI_UnknownHop (PySem.W.mg_of X G aC_UnknownHop)
  have br_UnknownHop : Br K B0 B1 B2 B3 C_UnknownHop 1 := ⟨⟨ga_UnknownHop, gg_UnknownHop, eC_UnknownHop, hd_UnknownHop, fc_UnknownHop, hn, ht, mo_UnknownHop⟩, ⟨ga_UnknownHop, gg_UnknownHop, eC_UnknownHop, hd_UnknownHop⟩, kitOfB iB0 tB0 rB0 u0_UnknownHop, kitOfB iB1 tB1 rB1 u1_UnknownHop, kitOfB iB2 tB2 rB2 u2_UnknownHop, kitOfB iB3 tB3 rB3 u3_UnknownHop, kitTyB (by decide +kernel) v0_UnknownHop, kitTyB (by decide +kernel) v1_UnknownHop, kitTyB (by decide +kernel) v2_UnknownHop, kitTyB (by decide +kernel) v3_UnknownHop⟩
  have ox_UnknownGoal : ExB.OexG K C_UnknownGoal "LookupError.__new__" (ExB.tailOf "LookupError") := ⟨⟨nm_UnknownGoal, q_UnknownGoal, N_UnknownGoal, bs_UnknownGoal, _, sn_UnknownGoal, sub_UnknownGoal, ab_UnknownGoal, col_UnknownGoal, dd_UnknownGoal, m0_UnknownGoal, m1_UnknownGoal, m2_UnknownGoal, m3_UnknownGoal, m5_UnknownGoal, xL_UnknownGoal, rfl⟩, sa_UnknownGoal, eC_UnknownGoal, tC_UnknownGoal, kC_UnknownGoal⟩
  have S_UnknownGoal : SupG.SupF "LookupError" "LookupError.__new__" "LookupError.__init__" (ExB.tailOf "LookupError") K l.prog C_UnknownGoal cc_UnknownGoal cda_UnknownGoal "UnknownGoal.__init__" := ⟨ox_UnknownGoal, ⟨_, _, _, ce_UnknownGoal⟩, ⟨_, _, _, _, fi_UnknownGoal, _, co_UnknownGoal, vf_UnknownGoal, mf_UnknownGoal⟩, rc_UnknownGoal, tp, ny, ow_UnknownGoal, v1_UnknownGoal, mr_UnknownGoal⟩
  have eh_UnknownGoal : ErrH l.prog w K mg base "UnknownGoal" C_UnknownGoal ["value"] := err_UnknownGoal ExB.base_LE lk_UnknownGoal S_UnknownGoal T.b_super no0_UnknownGoal iI_UnknownGoal tI_UnknownGoal (PySem.W.mg_of X G aC_UnknownGoal)
  have br_UnknownGoal : Br K B0 B1 B2 B3 C_UnknownGoal 1 := ⟨⟨ga_UnknownGoal, gg_UnknownGoal, eC_UnknownGoal, hd_UnknownGoal, fc_UnknownGoal, hn, ht, mo_UnknownGoal⟩, ⟨ga_UnknownGoal, gg_UnknownGoal, eC_UnknownGoal, hd_UnknownGoal⟩, kitOfB iB0 tB0 rB0 u0_UnknownGoal, kitOfB iB1 tB1 rB1 u1_UnknownGoal, kitOfB iB2 tB2 rB2 u2_UnknownGoal, kitOfB iB3 tB3 rB3 u3_UnknownGoal, kitTyB (by decide +kernel) v0_UnknownGoal, kitTyB (by decide +kernel) v1_UnknownGoal, kitTyB (by decide +kernel) v2_UnknownGoal, kitTyB (by decide +kernel) v3_UnknownGoal⟩
  have ox_UnknownItem : ExB.OexG K C_UnknownItem "LookupError.__new__" (ExB.tailOf "LookupError") := ⟨⟨nm_UnknownItem, q_UnknownItem, N_UnknownItem, bs_UnknownItem, _, sn_UnknownItem, sub_UnknownItem, ab_UnknownItem, col_UnknownItem, dd_UnknownItem, m0_UnknownItem, m1_UnknownItem, m2_UnknownItem, m3_UnknownItem, m5_UnknownItem, xL_UnknownItem, rfl⟩, sa_UnknownItem, eC_UnknownItem, tC_UnknownItem, kC_UnknownItem⟩
  have S_UnknownItem : SupG.SupF "LookupError" "LookupError.__new__" "LookupError.__init__" (ExB.tailOf "LookupError") K l.prog C_UnknownItem cc_UnknownItem cda_UnknownItem "UnknownItem.__init__" := ⟨ox_UnknownItem, ⟨_, _, _, ce_UnknownItem⟩, ⟨_, _, _, _, fi_UnknownItem, _, co_UnknownItem, vf_UnknownItem, mf_UnknownItem⟩, rc_UnknownItem, tp, ny, ow_UnknownItem, v1_UnknownItem, mr_UnknownItem⟩
  have eh_UnknownItem : ErrH l.prog w K mg base "UnknownItem" C_UnknownItem ["value"] := err_UnknownItem ExB.base_LE lk_UnknownItem S_UnknownItem T.b_super no0_UnknownItem iI_UnknownItem tI_UnknownItem (PySem.W.mg_of X G aC_UnknownItem)
  have br_UnknownItem : Br K B0 B1 B2 B3 C_UnknownItem 1 := ⟨⟨ga_UnknownItem, gg_UnknownItem, eC_UnknownItem, hd_UnknownItem, fc_UnknownItem, hn, ht, mo_UnknownItem⟩, ⟨ga_UnknownItem, gg_UnknownItem, eC_UnknownItem, hd_UnknownItem⟩, kitOfB iB0 tB0 rB0 u0_UnknownItem, kitOfB iB1 tB1 rB1 u1_UnknownItem, kitOfB iB2 tB2 rB2 u2_UnknownItem, kitOfB iB3 tB3 rB3 u3_UnknownItem, kitTyB (by decide +kernel) v0_UnknownItem, kitTyB (by decide +kernel) v1_UnknownItem, kitTyB (by decide +kernel) v2_UnknownItem, kitTyB (by decide +kernel) v3_UnknownItem⟩
  have ox_OtherWidth : ExB.OexG K C_OtherWidth "RuntimeError.__new__" (ExB.tailOf "RuntimeError") := ⟨⟨nm_OtherWidth, q_OtherWidth, N_OtherWidth, bs_OtherWidth, _, sn_OtherWidth, sub_OtherWidth, ab_OtherWidth, col_OtherWidth, dd_OtherWidth, m0_OtherWidth, m1_OtherWidth, m2_OtherWidth, m3_OtherWidth, m5_OtherWidth, xL_OtherWidth, rfl⟩, sa_OtherWidth, eC_OtherWidth, tC_OtherWidth, kC_OtherWidth⟩
  have S_OtherWidth : SupG.SupF "RuntimeError" "RuntimeError.__new__" "RuntimeError.__init__" (ExB.tailOf "RuntimeError") K l.prog C_OtherWidth cc_OtherWidth cda_OtherWidth "OtherWidth.__init__" := ⟨ox_OtherWidth, ⟨_, _, _, ce_OtherWidth⟩, ⟨_, _, _, _, fi_OtherWidth, _, co_OtherWidth, vf_OtherWidth, mf_OtherWidth⟩, rc_OtherWidth, tp, ny, ow_OtherWidth, v2_OtherWidth, mr_OtherWidth⟩
  have eh_OtherWidth : ErrH l.prog w K mg base "OtherWidth" C_OtherWidth ["one", "other"] := err_OtherWidth ExB.base_RE lk_OtherWidth S_OtherWidth T.b_super no0_OtherWidth no1_OtherWidth iI_OtherWidth tI_OtherWidth (PySem.W.mg_of X G aC_OtherWidth)
  have br_OtherWidth : Br K B0 B1 B2 B3 C_OtherWidth 2 := ⟨⟨ga_OtherWidth, gg_OtherWidth, eC_OtherWidth, hd_OtherWidth, fc_OtherWidth, hn, ht, mo_OtherWidth⟩, ⟨ga_OtherWidth, gg_OtherWidth, eC_OtherWidth, hd_OtherWidth⟩, kitOfB iB0 tB0 rB0 u0_OtherWidth, kitOfB iB1 tB1 rB1 u1_OtherWidth, kitOfB iB2 tB2 rB2 u2_OtherWidth, kitOfB iB3 tB3 rB3 u3_OtherWidth, kitTyB (by decide +kernel) v0_OtherWidth, kitTyB (by decide +kernel) v1_OtherWidth, kitTyB (by decide +kernel) v2_OtherWidth, kitTyB (by decide +kernel) v3_OtherWidth⟩
  have ox_OtherHops : ExB.OexG K C_OtherHops "RuntimeError.__new__" (ExB.tailOf "RuntimeError") := ⟨⟨nm_OtherHops, q_OtherHops, N_OtherHops, bs_OtherHops, _, sn_OtherHops, sub_OtherHops, ab_OtherHops, col_OtherHops, dd_OtherHops, m0_OtherHops, m1_OtherHops, m2_OtherHops, m3_OtherHops, m5_OtherHops, xL_OtherHops, rfl⟩, sa_OtherHops, eC_OtherHops, tC_OtherHops, kC_OtherHops⟩
  have S_OtherHops : SupG.SupF "RuntimeError" "RuntimeError.__new__" "RuntimeError.__init__" (ExB.tailOf "RuntimeError") K l.prog C_OtherHops cc_OtherHops cda_OtherHops "OtherHops.__init__" := ⟨ox_OtherHops, ⟨_, _, _, ce_OtherHops⟩, ⟨_, _, _, _, fi_OtherHops, _, co_OtherHops, vf_OtherHops, mf_OtherHops⟩, rc_OtherHops, tp, ny, ow_OtherHops, v2_OtherHops, mr_OtherHops⟩
  have eh_OtherHops : ErrH l.prog w K mg base "OtherHops" C_OtherHops ["one", "other"] := err_OtherHops ExB.base_RE lk_OtherHops S_OtherHops T.b_super no0_OtherHops no1_OtherHops iI_OtherHops tI_OtherHops (PySem.W.mg_of X G aC_OtherHops)
  have br_OtherHops : Br K B0 B1 B2 B3 C_OtherHops 2 := ⟨⟨ga_OtherHops, gg_OtherHops, eC_OtherHops, hd_OtherHops, fc_OtherHops, hn, ht, mo_OtherHops⟩, ⟨ga_OtherHops, gg_OtherHops, eC_OtherHops, hd_OtherHops⟩, kitOfB iB0 tB0 rB0 u0_OtherHops, kitOfB iB1 tB1 rB1 u1_OtherHops, kitOfB iB2 tB2 rB2 u2_OtherHops, kitOfB iB3 tB3 rB3 u3_OtherHops, kitTyB (by decide +kernel) v0_OtherHops, kitTyB (by decide +kernel) v1_OtherHops, kitTyB (by decide +kernel) v2_OtherHops, kitTyB (by decide +kernel) v3_OtherHops⟩
  have ox_WrongMember : ExB.OexG K C_WrongMember "RuntimeError.__new__" (ExB.tailOf "RuntimeError") := ⟨⟨nm_WrongMember, q_WrongMember, N_WrongMember, bs_WrongMember, _, sn_WrongMember, sub_WrongMember, ab_WrongMember, col_WrongMember, dd_WrongMember, m0_WrongMember, m1_WrongMember, m2_WrongMember, m3_WrongMember, m5_WrongMember, xL_WrongMember, rfl⟩, sa_WrongMember, eC_WrongMember, tC_WrongMember, kC_WrongMember⟩
  have S_WrongMember : SupG.SupF "RuntimeError" "RuntimeError.__new__" "RuntimeError.__init__" (ExB.tailOf "RuntimeError") K l.prog C_WrongMember cc_WrongMember cda_WrongMember "WrongMember.__init__" := ⟨ox_WrongMember, ⟨_, _, _, ce_WrongMember⟩, ⟨_, _, _, _, fi_WrongMember, _, co_WrongMember, vf_WrongMember, mf_WrongMember⟩, rc_WrongMember, tp, ny, ow_WrongMember, v2_WrongMember, mr_WrongMember⟩
  have eh_WrongMember : ErrH l.prog w K mg base "WrongMember" C_WrongMember ["value"] := err_WrongMember ExB.base_RE lk_WrongMember S_WrongMember T.b_super no0_WrongMember iI_WrongMember tI_WrongMember (PySem.W.mg_of X G aC_WrongMember)
  have br_WrongMember : Br K B0 B1 B2 B3 C_WrongMember 2 := ⟨⟨ga_WrongMember, gg_WrongMember, eC_WrongMember, hd_WrongMember, fc_WrongMember, hn, ht, mo_WrongMember⟩, ⟨ga_WrongMember, gg_WrongMember, eC_WrongMember, hd_WrongMember⟩, kitOfB iB0 tB0 rB0 u0_WrongMember, kitOfB iB1 tB1 rB1 u1_WrongMember, kitOfB iB2 tB2 rB2 u2_WrongMember, kitOfB iB3 tB3 rB3 u3_WrongMember, kitTyB (by decide +kernel) v0_WrongMember, kitTyB (by decide +kernel) v1_WrongMember, kitTyB (by decide +kernel) v2_WrongMember, kitTyB (by decide +kernel) v3_WrongMember⟩
  have ox_Stranger : ExB.OexG K C_Stranger "RuntimeError.__new__" (ExB.tailOf "RuntimeError") := ⟨⟨nm_Stranger, q_Stranger, N_Stranger, bs_Stranger, _, sn_Stranger, sub_Stranger, ab_Stranger, col_Stranger, dd_Stranger, m0_Stranger, m1_Stranger, m2_Stranger, m3_Stranger, m5_Stranger, xL_Stranger, rfl⟩, sa_Stranger, eC_Stranger, tC_Stranger, kC_Stranger⟩
  have S_Stranger : SupG.SupF "RuntimeError" "RuntimeError.__new__" "RuntimeError.__init__" (ExB.tailOf "RuntimeError") K l.prog C_Stranger cc_Stranger cda_Stranger "Stranger.__init__" := ⟨ox_Stranger, ⟨_, _, _, ce_Stranger⟩, ⟨_, _, _, _, fi_Stranger, _, co_Stranger, vf_Stranger, mf_Stranger⟩, rc_Stranger, tp, ny, ow_Stranger, v2_Stranger, mr_Stranger⟩
  have eh_Stranger : ErrH l.prog w K mg base "Stranger" C_Stranger ["value"] := err_Stranger ExB.base_RE lk_Stranger S_Stranger T.b_super no0_Stranger iI_Stranger tI_Stranger (PySem.W.mg_of X G aC_Stranger)
  have br_Stranger : Br K B0 B1 B2 B3 C_Stranger 2 := ⟨⟨ga_Stranger, gg_Stranger, eC_Stranger, hd_Stranger, fc_Stranger, hn, ht, mo_Stranger⟩, ⟨ga_Stranger, gg_Stranger, eC_Stranger, hd_Stranger⟩, kitOfB iB0 tB0 rB0 u0_Stranger, kitOfB iB1 tB1 rB1 u1_Stranger, kitOfB iB2 tB2 rB2 u2_Stranger, kitOfB iB3 tB3 rB3 u3_Stranger, kitTyB (by decide +kernel) v0_Stranger, kitTyB (by decide +kernel) v1_Stranger, kitTyB (by decide +kernel) v2_Stranger, kitTyB (by decide +kernel) v3_Stranger⟩
  have ox_NoOrder : ExB.OexG K C_NoOrder "RuntimeError.__new__" (ExB.tailOf "RuntimeError") := ⟨⟨nm_NoOrder, q_NoOrder, N_NoOrder, bs_NoOrder, _, sn_NoOrder, sub_NoOrder, ab_NoOrder, col_NoOrder, dd_NoOrder, m0_NoOrder, m1_NoOrder, m2_NoOrder, m3_NoOrder, m5_NoOrder, xL_NoOrder, rfl⟩, sa_NoOrder, eC_NoOrder, tC_NoOrder, kC_NoOrder⟩
  have S_NoOrder : SupG.SupF "RuntimeError" "RuntimeError.__new__" "RuntimeError.__init__" (ExB.tailOf "RuntimeError") K l.prog C_NoOrder cc_NoOrder cda_NoOrder "NoOrder.__init__" := ⟨ox_NoOrder, ⟨_, _, _, ce_NoOrder⟩, ⟨_, _, _, _, fi_NoOrder, _, co_NoOrder, vf_NoOrder, mf_NoOrder⟩, rc_NoOrder, tp, ny, ow_NoOrder, v2_NoOrder, mr_NoOrder⟩
  have eh_NoOrder : ErrH l.prog w K mg base "NoOrder" C_NoOrder [] := err_NoOrder ExB.base_RE lk_NoOrder S_NoOrder T.b_super  iI_NoOrder tI_NoOrder (PySem.W.mg_of X G aC_NoOrder)
  have br_NoOrder : Br K B0 B1 B2 B3 C_NoOrder 2 := ⟨⟨ga_NoOrder, gg_NoOrder, eC_NoOrder, hd_NoOrder, fc_NoOrder, hn, ht, mo_NoOrder⟩, ⟨ga_NoOrder, gg_NoOrder, eC_NoOrder, hd_NoOrder⟩, kitOfB iB0 tB0 rB0 u0_NoOrder, kitOfB iB1 tB1 rB1 u1_NoOrder, kitOfB iB2 tB2 rB2 u2_NoOrder, kitOfB iB3 tB3 rB3 u3_NoOrder, kitTyB (by decide +kernel) v0_NoOrder, kitTyB (by decide +kernel) v1_NoOrder, kitTyB (by decide +kernel) v2_NoOrder, kitTyB (by decide +kernel) v3_NoOrder⟩
  have ox_AlreadySo : ExB.OexG K C_AlreadySo "RuntimeError.__new__" (ExB.tailOf "RuntimeError") := ⟨⟨nm_AlreadySo, q_AlreadySo, N_AlreadySo, bs_AlreadySo, _, sn_AlreadySo, sub_AlreadySo, ab_AlreadySo, col_AlreadySo, dd_AlreadySo, m0_AlreadySo, m1_AlreadySo, m2_AlreadySo, m3_AlreadySo, m5_AlreadySo, xL_AlreadySo, rfl⟩, sa_AlreadySo, eC_AlreadySo, tC_AlreadySo, kC_AlreadySo⟩
  have S_AlreadySo : SupG.SupF "RuntimeError" "RuntimeError.__new__" "RuntimeError.__init__" (ExB.tailOf "RuntimeError") K l.prog C_AlreadySo cc_AlreadySo cda_AlreadySo "AlreadySo.__init__" := ⟨ox_AlreadySo, ⟨_, _, _, ce_AlreadySo⟩, ⟨_, _, _, _, fi_AlreadySo, _, co_AlreadySo, vf_AlreadySo, mf_AlreadySo⟩, rc_AlreadySo, tp, ny, ow_AlreadySo, v2_AlreadySo, mr_AlreadySo⟩
  have eh_AlreadySo : ErrH l.prog w K mg base "AlreadySo" C_AlreadySo ["value"] := err_AlreadySo ExB.base_RE lk_AlreadySo S_AlreadySo T.b_super no0_AlreadySo iI_AlreadySo tI_AlreadySo (PySem.W.mg_of X G aC_AlreadySo)
  have br_AlreadySo : Br K B0 B1 B2 B3 C_AlreadySo 2 := ⟨⟨ga_AlreadySo, gg_AlreadySo, eC_AlreadySo, hd_AlreadySo, fc_AlreadySo, hn, ht, mo_AlreadySo⟩, ⟨ga_AlreadySo, gg_AlreadySo, eC_AlreadySo, hd_AlreadySo⟩, kitOfB iB0 tB0 rB0 u0_AlreadySo, kitOfB iB1 tB1 rB1 u1_AlreadySo, kitOfB iB2 tB2 rB2 u2_AlreadySo, kitOfB iB3 tB3 rB3 u3_AlreadySo, kitTyB (by decide +kernel) v0_AlreadySo, kitTyB (by decide +kernel) v1_AlreadySo, kitTyB (by decide +kernel) v2_AlreadySo, kitTyB (by decide +kernel) v3_AlreadySo⟩
  have ox_NothingToUndo : ExB.OexG K C_NothingToUndo "RuntimeError.__new__" (ExB.tailOf "RuntimeError") := ⟨⟨nm_NothingToUndo, q_NothingToUndo, N_NothingToUndo, bs_NothingToUndo, _, sn_NothingToUndo, sub_NothingToUndo, ab_NothingToUndo, col_NothingToUndo, dd_NothingToUndo, m0_NothingToUndo, m1_NothingToUndo, m2_NothingToUndo, m3_NothingToUndo, m5_NothingToUndo, xL_NothingToUndo, rfl⟩, sa_NothingToUndo, eC_NothingToUndo, tC_NothingToUndo, kC_NothingToUndo⟩
  have S_NothingToUndo : SupG.SupF "RuntimeError" "RuntimeError.__new__" "RuntimeError.__init__" (ExB.tailOf "RuntimeError") K l.prog C_NothingToUndo cc_NothingToUndo cda_NothingToUndo "NothingToUndo.__init__" := ⟨ox_NothingToUndo, ⟨_, _, _, ce_NothingToUndo⟩, ⟨_, _, _, _, fi_NothingToUndo, _, co_NothingToUndo, vf_NothingToUndo, mf_NothingToUndo⟩, rc_NothingToUndo, tp, ny, ow_NothingToUndo, v2_NothingToUndo, mr_NothingToUndo⟩
  have eh_NothingToUndo : ErrH l.prog w K mg base "NothingToUndo" C_NothingToUndo [] := err_NothingToUndo ExB.base_RE lk_NothingToUndo S_NothingToUndo T.b_super  iI_NothingToUndo tI_NothingToUndo (PySem.W.mg_of X G aC_NothingToUndo)
  have br_NothingToUndo : Br K B0 B1 B2 B3 C_NothingToUndo 2 := ⟨⟨ga_NothingToUndo, gg_NothingToUndo, eC_NothingToUndo, hd_NothingToUndo, fc_NothingToUndo, hn, ht, mo_NothingToUndo⟩, ⟨ga_NothingToUndo, gg_NothingToUndo, eC_NothingToUndo, hd_NothingToUndo⟩, kitOfB iB0 tB0 rB0 u0_NothingToUndo, kitOfB iB1 tB1 rB1 u1_NothingToUndo, kitOfB iB2 tB2 rB2 u2_NothingToUndo, kitOfB iB3 tB3 rB3 u3_NothingToUndo, kitTyB (by decide +kernel) v0_NothingToUndo, kitTyB (by decide +kernel) v1_NothingToUndo, kitTyB (by decide +kernel) v2_NothingToUndo, kitTyB (by decide +kernel) v3_NothingToUndo⟩
  have ox_CommandFailed : ExB.OexG K C_CommandFailed "RuntimeError.__new__" (ExB.tailOf "RuntimeError") := ⟨⟨nm_CommandFailed, q_CommandFailed, N_CommandFailed, bs_CommandFailed, _, sn_CommandFailed, sub_CommandFailed, ab_CommandFailed, col_CommandFailed, dd_CommandFailed, m0_CommandFailed, m1_CommandFailed, m2_CommandFailed, m3_CommandFailed, m5_CommandFailed, xL_CommandFailed, rfl⟩, sa_CommandFailed, eC_CommandFailed, tC_CommandFailed, kC_CommandFailed⟩
  have S_CommandFailed : SupG.SupF "RuntimeError" "RuntimeError.__new__" "RuntimeError.__init__" (ExB.tailOf "RuntimeError") K l.prog C_CommandFailed cc_CommandFailed cda_CommandFailed "CommandFailed.__init__" := ⟨ox_CommandFailed, ⟨_, _, _, ce_CommandFailed⟩, ⟨_, _, _, _, fi_CommandFailed, _, co_CommandFailed, vf_CommandFailed, mf_CommandFailed⟩, rc_CommandFailed, tp, ny, ow_CommandFailed, v2_CommandFailed, mr_CommandFailed⟩
  have eh_CommandFailed : ErrH l.prog w K mg base "CommandFailed" C_CommandFailed ["position"] := err_CommandFailed ExB.base_RE lk_CommandFailed S_CommandFailed T.b_super no0_CommandFailed iI_CommandFailed tI_CommandFailed (PySem.W.mg_of X G aC_CommandFailed)
  have br_CommandFailed : Br K B0 B1 B2 B3 C_CommandFailed 2 := ⟨⟨ga_CommandFailed, gg_CommandFailed, eC_CommandFailed, hd_CommandFailed, fc_CommandFailed, hn, ht, mo_CommandFailed⟩, ⟨ga_CommandFailed, gg_CommandFailed, eC_CommandFailed, hd_CommandFailed⟩, kitOfB iB0 tB0 rB0 u0_CommandFailed, kitOfB iB1 tB1 rB1 u1_CommandFailed, kitOfB iB2 tB2 rB2 u2_CommandFailed, kitOfB iB3 tB3 rB3 u3_CommandFailed, kitTyB (by decide +kernel) v0_CommandFailed, kitTyB (by decide +kernel) v1_CommandFailed, kitTyB (by decide +kernel) v2_CommandFailed, kitTyB (by decide +kernel) v3_CommandFailed⟩
  have ox_TooMany : ExB.OexG K C_TooMany "ArithmeticError.__new__" (ExB.tailOf "ArithmeticError") := ⟨⟨nm_TooMany, q_TooMany, N_TooMany, bs_TooMany, _, sn_TooMany, sub_TooMany, ab_TooMany, col_TooMany, dd_TooMany, m0_TooMany, m1_TooMany, m2_TooMany, m3_TooMany, m5_TooMany, xL_TooMany, rfl⟩, sa_TooMany, eC_TooMany, tC_TooMany, kC_TooMany⟩
  have S_TooMany : SupG.SupF "ArithmeticError" "ArithmeticError.__new__" "ArithmeticError.__init__" (ExB.tailOf "ArithmeticError") K l.prog C_TooMany cc_TooMany cda_TooMany "TooMany.__init__" := ⟨ox_TooMany, ⟨_, _, _, ce_TooMany⟩, ⟨_, _, _, _, fi_TooMany, _, co_TooMany, vf_TooMany, mf_TooMany⟩, rc_TooMany, tp, ny, ow_TooMany, v3_TooMany, mr_TooMany⟩
  have eh_TooMany : ErrH l.prog w K mg base "TooMany" C_TooMany ["what", "limit"] := err_TooMany ExB.base_AE lk_TooMany S_TooMany T.b_super no0_TooMany no1_TooMany iI_TooMany tI_TooMany (PySem.W.mg_of X G aC_TooMany)
  have br_TooMany : Br K B0 B1 B2 B3 C_TooMany 3 := ⟨⟨ga_TooMany, gg_TooMany, eC_TooMany, hd_TooMany, fc_TooMany, hn, ht, mo_TooMany⟩, ⟨ga_TooMany, gg_TooMany, eC_TooMany, hd_TooMany⟩, kitOfB iB0 tB0 rB0 u0_TooMany, kitOfB iB1 tB1 rB1 u1_TooMany, kitOfB iB2 tB2 rB2 u2_TooMany, kitOfB iB3 tB3 rB3 u3_TooMany, kitTyB (by decide +kernel) v0_TooMany, kitTyB (by decide +kernel) v1_TooMany, kitTyB (by decide +kernel) v2_TooMany, kitTyB (by decide +kernel) v3_TooMany⟩
  let c : Cls := ⟨C_InvalidWidth, C_InvalidStretch, C_InvalidStretches, C_InvalidAddress, C_InvalidGoal, C_InvalidRows, C_InvalidFree, C_InvalidTables, C_InvalidFirm, C_InvalidGone, C_InvalidName, C_InvalidHop, C_InvalidWay, C_InvalidMembers, C_InvalidItems, C_InvalidWithdrawn, C_InvalidRegion, C_InvalidHops, C_InvalidWord, C_InvalidText, C_InvalidClaim, C_InvalidCommand, C_UnknownStretch, C_UnknownHop, C_UnknownGoal, C_UnknownItem, C_OtherWidth, C_OtherHops, C_WrongMember, C_Stranger, C_NoOrder, C_AlreadySo, C_NothingToUndo, C_CommandFailed, C_TooMany⟩
  have ee : EE l.prog w K mg base c := ⟨eh_InvalidWidth, eh_InvalidStretch, eh_InvalidStretches, eh_InvalidAddress, eh_InvalidGoal, eh_InvalidRows, eh_InvalidFree, eh_InvalidTables, eh_InvalidFirm, eh_InvalidGone, eh_InvalidName, eh_InvalidHop, eh_InvalidWay, eh_InvalidMembers, eh_InvalidItems, eh_InvalidWithdrawn, eh_InvalidRegion, eh_InvalidHops, eh_InvalidWord, eh_InvalidText, eh_InvalidClaim, eh_InvalidCommand, eh_UnknownStretch, eh_UnknownHop, eh_UnknownGoal, eh_UnknownItem, eh_OtherWidth, eh_OtherHops, eh_WrongMember, eh_Stranger, eh_NoOrder, eh_AlreadySo, eh_NothingToUndo, eh_CommandFailed, eh_TooMany⟩
  have bf : BF K B0 B1 B2 B3 c := ⟨br_InvalidWidth, no0_InvalidWidth, br_InvalidStretch, no0_InvalidStretch, br_InvalidStretches, no0_InvalidStretches, br_InvalidAddress, no0_InvalidAddress, br_InvalidGoal, no0_InvalidGoal, br_InvalidRows, no0_InvalidRows, br_InvalidFree, no0_InvalidFree, br_InvalidTables, no0_InvalidTables, br_InvalidFirm, no0_InvalidFirm, br_InvalidGone, no0_InvalidGone, br_InvalidName, no0_InvalidName, br_InvalidHop, no0_InvalidHop, br_InvalidWay, no0_InvalidWay, br_InvalidMembers, no0_InvalidMembers, br_InvalidItems, no0_InvalidItems, br_InvalidWithdrawn, no0_InvalidWithdrawn, br_InvalidRegion, no0_InvalidRegion, br_InvalidHops, no0_InvalidHops, br_InvalidWord, no0_InvalidWord, br_InvalidText, no0_InvalidText, br_InvalidClaim, no0_InvalidClaim, br_InvalidCommand, no0_InvalidCommand, br_UnknownStretch, no0_UnknownStretch, br_UnknownHop, no0_UnknownHop, br_UnknownGoal, no0_UnknownGoal, br_UnknownItem, no0_UnknownItem, br_OtherWidth, no0_OtherWidth, no1_OtherWidth, br_OtherHops, no0_OtherHops, no1_OtherHops, br_WrongMember, no0_WrongMember, br_Stranger, no0_Stranger, br_NoOrder, br_AlreadySo, no0_AlreadySo, br_NothingToUndo, br_CommandFailed, no0_CommandFailed, br_TooMany, no0_TooMany, no1_TooMany⟩
  have BB : Bs K mg B0 B1 B2 B3 := ⟨⟨_, PySem.W.mg_of X G aB0, rfl⟩, ⟨_, PySem.W.mg_of X G aB1, rfl⟩, ⟨_, PySem.W.mg_of X G aB2, rfl⟩, ⟨_, PySem.W.mg_of X G aB3, rfl⟩⟩
  have cn : Cn K mg c := ⟨⟨_, PySem.W.mg_of X G aC_OtherHops, rfl⟩, ⟨_, PySem.W.mg_of X G aC_OtherWidth, rfl⟩, ⟨_, PySem.W.mg_of X G aC_NothingToUndo, rfl⟩, ⟨_, PySem.W.mg_of X G aC_InvalidStretch, rfl⟩, ⟨_, PySem.W.mg_of X G aC_UnknownHop, rfl⟩, ⟨_, PySem.W.mg_of X G aC_NoOrder, rfl⟩, kitOfB ic_OtherHops tC_OtherHops rr_OtherHops as_OtherWidth, kitOfB ic_OtherWidth tC_OtherWidth rr_OtherWidth as_OtherHops, kitOfB ic_NothingToUndo tC_NothingToUndo rr_NothingToUndo as_NoOrder, kitOfB ic_InvalidStretch tC_InvalidStretch rr_InvalidStretch as_InvalidWidth, kitOfB ic_UnknownHop tC_UnknownHop rr_UnknownHop as_UnknownStretch, kitOfB ic_NoOrder tC_NoOrder rr_NoOrder as_CommandFailed⟩
  have ex : Ex K B0 B1 B2 B3 c := ⟨any3 (PySem.W.exm_ref eC_InvalidStretch hd_InvalidStretch tC_InvalidStretch xs_InvalidWidth_InvalidStretch) (PySem.W.exm_ref eC_UnknownGoal hd_UnknownGoal tC_UnknownGoal xs_InvalidWidth_UnknownGoal) (PySem.W.exm_ref eC_WrongMember hd_WrongMember tC_WrongMember xs_InvalidWidth_WrongMember), any3 (PySem.W.exm_ref eC_InvalidStretch hd_InvalidStretch tC_InvalidStretch xs_UnknownHop_InvalidStretch) (PySem.W.exm_ref eC_UnknownGoal hd_UnknownGoal tC_UnknownGoal xs_UnknownHop_UnknownGoal) (PySem.W.exm_ref eC_WrongMember hd_WrongMember tC_WrongMember xs_UnknownHop_WrongMember), any3 (PySem.W.exm_ref eC_InvalidStretch hd_InvalidStretch tC_InvalidStretch xs_Stranger_InvalidStretch) (PySem.W.exm_ref eC_UnknownGoal hd_UnknownGoal tC_UnknownGoal xs_Stranger_UnknownGoal) (PySem.W.exm_ref eC_WrongMember hd_WrongMember tC_WrongMember xs_Stranger_WrongMember), any3 (PySem.W.exm_ref eC_InvalidStretch hd_InvalidStretch tC_InvalidStretch xs_TooMany_InvalidStretch) (PySem.W.exm_ref eC_UnknownGoal hd_UnknownGoal tC_UnknownGoal xs_TooMany_UnknownGoal) (PySem.W.exm_ref eC_WrongMember hd_WrongMember tC_WrongMember xs_TooMany_WrongMember), any4 (PySem.W.exm_ref eB0 dB0 tB0 u0_InvalidWidth) (PySem.W.exm_ref eB1 dB1 tB1 u1_InvalidWidth) (PySem.W.exm_ref eB2 dB2 tB2 u2_InvalidWidth) (PySem.W.exm_ref eB3 dB3 tB3 u3_InvalidWidth), any4 (PySem.W.exm_ref eB0 dB0 tB0 u0_UnknownHop) (PySem.W.exm_ref eB1 dB1 tB1 u1_UnknownHop) (PySem.W.exm_ref eB2 dB2 tB2 u2_UnknownHop) (PySem.W.exm_ref eB3 dB3 tB3 u3_UnknownHop), any4 (PySem.W.exm_ref eB0 dB0 tB0 u0_Stranger) (PySem.W.exm_ref eB1 dB1 tB1 u1_Stranger) (PySem.W.exm_ref eB2 dB2 tB2 u2_Stranger) (PySem.W.exm_ref eB3 dB3 tB3 u3_Stranger), any4 (PySem.W.exm_ref eB0 dB0 tB0 u0_TooMany) (PySem.W.exm_ref eB1 dB1 tB1 u1_TooMany) (PySem.W.exm_ref eB2 dB2 tB2 u2_TooMany) (PySem.W.exm_ref eB3 dB3 tB3 u3_TooMany), trivial⟩
  have n0_ok_pot := ok_pot (P := l.prog) (w := w) (base := base) F0 (PySem.W.mg_of X G a0) T
  have n1_ok_draw := ok_draw (P := l.prog) (w := w) (base := base) F1 (PySem.W.mg_of X G a1) T
  have n2_ok_among := ok_among (P := l.prog) (w := w) (base := base) F2 (PySem.W.mg_of X G a2) T n1_ok_draw
  have n3_ok_values := ok_values (P := l.prog) (w := w) (base := base) F3 (PySem.W.mg_of X G a3) T n1_ok_draw n2_ok_among
  have n4_ok_of_value := ok_of_value (P := l.prog) (w := w) (base := base) ee bf F4 (PySem.W.mg_of X G a4) T
  have n5_ok_named := ok_named (P := l.prog) (w := w) (base := base) ee bf F5 (PySem.W.mg_of X G a5) T
  have n6_ok_of_place := ok_of_place (P := l.prog) (w := w) (base := base) ee bf F6 (PySem.W.mg_of X G a6) T
  have n7_ok_branches := ok_branches (P := l.prog) (w := w) (base := base) BB F7 (PySem.W.mg_of X G a7) T
  have n8_ok_on := ok_on (P := l.prog) (w := w) (base := base) F8 (PySem.W.mg_of X G a8) T
  have n9_ok_pairs_right := ok_pairs_right (P := l.prog) (w := w) (base := base) ee bf cn F9 (PySem.W.mg_of X G a9) T n7_ok_branches n8_ok_on
  have n10_ok_caught := ok_caught (P := l.prog) (w := w) (base := base) l7 q7 k7 (PySem.W.mg_of X G a7) l8 q8 k8 (PySem.W.mg_of X G a8) ee bf BB ex F10 (PySem.W.mg_of X G a10) T
  have n11_ok_right := ok_right (P := l.prog) (w := w) (base := base) ee bf cn F11 (PySem.W.mg_of X G a11) T n3_ok_values n4_ok_of_value n5_ok_named n6_ok_of_place n7_ok_branches n8_ok_on n9_ok_pairs_right n10_ok_caught
  have n12_ok_law := ok_law (P := l.prog) (w := w) (base := base) F12 (PySem.W.mg_of X G a12) T n0_ok_pot n11_ok_right
  exact n12_ok_law.fn F12 (PySem.W.mg_of X G a12)
theorem walk {l : PySem.W.OpenLaw} {q : Program} {loose : List Str} {XP : (Str → Option Value) → Heap → Prop} {YP : World → Heap → Prop} {d : DefRec} {K : Params → PySem.W.Frag} (hn : l.most = some 63) (hdf : d.params.defaults = [])
    (hY : ∀ (w : World) (h : Heap), YP w h → (K w.params).In h)
    (F : ∀ (w : World) (mg : Str → Option Value) (fa : Addr) (h : Heap), (K w.params).In h → h.Ns mainGlobals mg → mg d.name = some (.ref fa) →
      ∃ fd : FuncData, (∀ (s : Shared) (u : Value), BindsTo s fd ⟨[u], []⟩ [("_law_script", u)]) ∧ ∀ base : Heap, (K w.params).In base → base.Ns mainGlobals mg → FnG l.prog w (K w.params) mg base CX0 6 fa fd ["_law_script"] (spLaw (K w.params))) :
    PySem.W.WalkO q loose XP YP l.row.toRowW d [] (fun f vs => PySem.call f vs) :=
  walk_g (n := 63) (k := 6) (x := "_law_script") (CX := fun _ => CX0) (sp := fun w => spLaw (K w.params)) hn (by decide) hdf roomTop hY F (fun _ _ a ns h1 h2 h3 => ⟨a, ns, rfl, h2, h1, fun _ => rfl⟩) fun _ _ _ _ _ z => z
end Cov
open PySem PySem.W PyProof.Rows
set_option maxRecDepth 100000 in
set_option maxHeartbeats 0 in
theorem PySem.Challenge.cw_coverways_k10_errors_holds : PySem.Challenge.rw_coverways_k10_errors.Holds := by
  refine Cov.top0 ?_
  k_fill
  refine Cov.walk (l := PySem.Challenge.rw_coverways_k10_errors) rfl rfl (fun w h Y => PySem.W.kIn_of Y) ?F
  case F =>
    intro w mg fa h KX G hmg
    refine' Cov.all_mk KX G hmg ?a0 ?l0 ?q0 ?k0 ?a1 ?l1 ?q1 ?k1 ?a2 ?l2 ?q2 ?k2 ?a3 ?l3 ?q3 ?k3 ?a4 ?l4 ?q4 ?k4 ?a5 ?l5 ?q5 ?k5 ?a6 ?l6 ?q6 ?k6 ?a7 ?l7 ?q7 ?k7 ?a8 ?l8 ?q8 ?k8 ?a9 ?l9 ?q9 ?k9 ?a10 ?l10 ?q10 ?k10 ?a11 ?l11 ?q11 ?k11 ?a12 ?l12 ?q12 ?k12 ?z0 ?z1 ?z2 ?z3 ?z4 ?z5 ?z6 ?z7 ?z8 ?z9 ?z10 ?z11 ?z12 ?z13 ?z14 ?z15 ?z16 ?z17 ?z18 ?z19 ?z20 ?z21 ?z22 ?z23 ?z24 ?hn ?ht ?tp ?ny ?aB0 ?iB0 ?tB0 ?eB0 ?dB0 ?rB0 ?aB1 ?iB1 ?tB1 ?eB1 ?dB1 ?rB1 ?aB2 ?iB2 ?tB2 ?eB2 ?dB2 ?rB2 ?aB3 ?iB3 ?tB3 ?eB3 ?dB3 ?rB3 ?aC_InvalidWidth ?xL_InvalidWidth ?sa_InvalidWidth ?eC_InvalidWidth ?tC_InvalidWidth ?kC_InvalidWidth ?iI_InvalidWidth ?tI_InvalidWidth ?lk_InvalidWidth ?ce_InvalidWidth ?co_InvalidWidth ?vf_InvalidWidth ?mf_InvalidWidth ?rc_InvalidWidth ?ow_InvalidWidth ?mr_InvalidWidth ?no0_InvalidWidth ?ga_InvalidWidth ?gg_InvalidWidth ?hd_InvalidWidth ?fc_InvalidWidth ?mo_InvalidWidth ?u0_InvalidWidth ?v0_InvalidWidth ?u1_InvalidWidth ?v1_InvalidWidth ?u2_InvalidWidth ?v2_InvalidWidth ?u3_InvalidWidth ?v3_InvalidWidth ?aC_InvalidStretch ?xL_InvalidStretch ?sa_InvalidStretch ?eC_InvalidStretch ?tC_InvalidStretch ?kC_InvalidStretch ?iI_InvalidStretch ?tI_InvalidStretch ?lk_InvalidStretch ?ce_InvalidStretch ?co_InvalidStretch ?vf_InvalidStretch ?mf_InvalidStretch ?rc_InvalidStretch ?ow_InvalidStretch ?mr_InvalidStretch ?no0_InvalidStretch ?ga_InvalidStretch ?gg_InvalidStretch ?hd_InvalidStretch ?fc_InvalidStretch ?mo_InvalidStretch ?u0_InvalidStretch ?v0_InvalidStretch ?u1_InvalidStretch ?v1_InvalidStretch ?u2_InvalidStretch ?v2_InvalidStretch ?u3_InvalidStretch ?v3_InvalidStretch ?aC_InvalidStretches ?xL_InvalidStretches ?sa_InvalidStretches ?eC_InvalidStretches ?tC_InvalidStretches ?kC_InvalidStretches ?iI_InvalidStretches ?tI_InvalidStretches ?lk_InvalidStretches ?ce_InvalidStretches ?co_InvalidStretches ?vf_InvalidStretches ?mf_InvalidStretches ?rc_InvalidStretches ?ow_InvalidStretches ?mr_InvalidStretches ?no0_InvalidStretches ?ga_InvalidStretches ?gg_InvalidStretches ?hd_InvalidStretches ?fc_InvalidStretches ?mo_InvalidStretches ?u0_InvalidStretches ?v0_InvalidStretches ?u1_InvalidStretches ?v1_InvalidStretches ?u2_InvalidStretches ?v2_InvalidStretches ?u3_InvalidStretches ?v3_InvalidStretches ?aC_InvalidAddress ?xL_InvalidAddress ?sa_InvalidAddress ?eC_InvalidAddress ?tC_InvalidAddress ?kC_InvalidAddress ?iI_InvalidAddress ?tI_InvalidAddress ?lk_InvalidAddress ?ce_InvalidAddress ?co_InvalidAddress ?vf_InvalidAddress ?mf_InvalidAddress ?rc_InvalidAddress ?ow_InvalidAddress ?mr_InvalidAddress ?no0_InvalidAddress ?ga_InvalidAddress ?gg_InvalidAddress ?hd_InvalidAddress ?fc_InvalidAddress ?mo_InvalidAddress ?u0_InvalidAddress ?v0_InvalidAddress ?u1_InvalidAddress ?v1_InvalidAddress ?u2_InvalidAddress ?v2_InvalidAddress ?u3_InvalidAddress ?v3_InvalidAddress ?aC_InvalidGoal ?xL_InvalidGoal ?sa_InvalidGoal ?eC_InvalidGoal ?tC_InvalidGoal ?kC_InvalidGoal ?iI_InvalidGoal ?tI_InvalidGoal ?lk_InvalidGoal ?ce_InvalidGoal ?co_InvalidGoal ?vf_InvalidGoal ?mf_InvalidGoal ?rc_InvalidGoal ?ow_InvalidGoal ?mr_InvalidGoal ?no0_InvalidGoal ?ga_InvalidGoal ?gg_InvalidGoal ?hd_InvalidGoal ?fc_InvalidGoal ?mo_InvalidGoal ?u0_InvalidGoal ?v0_InvalidGoal ?u1_InvalidGoal ?v1_InvalidGoal ?u2_InvalidGoal ?v2_InvalidGoal ?u3_InvalidGoal ?v3_InvalidGoal ?aC_InvalidRows ?xL_InvalidRows ?sa_InvalidRows ?eC_InvalidRows ?tC_InvalidRows ?kC_InvalidRows ?iI_InvalidRows ?tI_InvalidRows ?lk_InvalidRows ?ce_InvalidRows ?co_InvalidRows ?vf_InvalidRows ?mf_InvalidRows ?rc_InvalidRows ?ow_InvalidRows ?mr_InvalidRows ?no0_InvalidRows ?ga_InvalidRows ?gg_InvalidRows ?hd_InvalidRows ?fc_InvalidRows ?mo_InvalidRows ?u0_InvalidRows ?v0_InvalidRows ?u1_InvalidRows ?v1_InvalidRows ?u2_InvalidRows ?v2_InvalidRows ?u3_InvalidRows ?v3_InvalidRows ?aC_InvalidFree ?xL_InvalidFree ?sa_InvalidFree ?eC_InvalidFree ?tC_InvalidFree ?kC_InvalidFree ?iI_InvalidFree ?tI_InvalidFree ?lk_InvalidFree ?ce_InvalidFree ?co_InvalidFree ?vf_InvalidFree ?mf_InvalidFree ?rc_InvalidFree ?ow_InvalidFree ?mr_InvalidFree ?no0_InvalidFree ?ga_InvalidFree ?gg_InvalidFree ?hd_InvalidFree ?fc_InvalidFree ?mo_InvalidFree ?u0_InvalidFree ?v0_InvalidFree ?u1_InvalidFree ?v1_InvalidFree ?u2_InvalidFree ?v2_InvalidFree ?u3_InvalidFree ?v3_InvalidFree ?aC_InvalidTables ?xL_InvalidTables ?sa_InvalidTables ?eC_InvalidTables ?tC_InvalidTables ?kC_InvalidTables ?iI_InvalidTables ?tI_InvalidTables ?lk_InvalidTables ?ce_InvalidTables ?co_InvalidTables ?vf_InvalidTables ?mf_InvalidTables ?rc_InvalidTables ?ow_InvalidTables ?mr_InvalidTables ?no0_InvalidTables ?ga_InvalidTables ?gg_InvalidTables ?hd_InvalidTables ?fc_InvalidTables ?mo_InvalidTables ?u0_InvalidTables ?v0_InvalidTables ?u1_InvalidTables ?v1_InvalidTables ?u2_InvalidTables ?v2_InvalidTables ?u3_InvalidTables ?v3_InvalidTables ?aC_InvalidFirm ?xL_InvalidFirm ?sa_InvalidFirm ?eC_InvalidFirm ?tC_InvalidFirm ?kC_InvalidFirm ?iI_InvalidFirm ?tI_InvalidFirm ?lk_InvalidFirm ?ce_InvalidFirm ?co_InvalidFirm ?vf_InvalidFirm ?mf_InvalidFirm ?rc_InvalidFirm ?ow_InvalidFirm ?mr_InvalidFirm ?no0_InvalidFirm ?ga_InvalidFirm ?gg_InvalidFirm ?hd_InvalidFirm ?fc_InvalidFirm ?mo_InvalidFirm ?u0_InvalidFirm ?v0_InvalidFirm ?u1_InvalidFirm ?v1_InvalidFirm ?u2_InvalidFirm ?v2_InvalidFirm ?u3_InvalidFirm ?v3_InvalidFirm ?aC_InvalidGone ?xL_InvalidGone ?sa_InvalidGone ?eC_InvalidGone ?tC_InvalidGone ?kC_InvalidGone ?iI_InvalidGone ?tI_InvalidGone ?lk_InvalidGone ?ce_InvalidGone ?co_InvalidGone ?vf_InvalidGone ?mf_InvalidGone ?rc_InvalidGone ?ow_InvalidGone ?mr_InvalidGone ?no0_InvalidGone ?ga_InvalidGone ?gg_InvalidGone ?hd_InvalidGone ?fc_InvalidGone ?mo_InvalidGone ?u0_InvalidGone ?v0_InvalidGone ?u1_InvalidGone ?v1_InvalidGone ?u2_InvalidGone ?v2_InvalidGone ?u3_InvalidGone ?v3_InvalidGone ?aC_InvalidName ?xL_InvalidName ?sa_InvalidName ?eC_InvalidName ?tC_InvalidName ?kC_InvalidName ?iI_InvalidName ?tI_InvalidName ?lk_InvalidName ?ce_InvalidName ?co_InvalidName ?vf_InvalidName ?mf_InvalidName ?rc_InvalidName ?ow_InvalidName ?mr_InvalidName ?no0_InvalidName ?ga_InvalidName ?gg_InvalidName ?hd_InvalidName ?fc_InvalidName ?mo_InvalidName ?u0_InvalidName ?v0_InvalidName ?u1_InvalidName ?v1_InvalidName ?u2_InvalidName ?v2_InvalidName ?u3_InvalidName ?v3_InvalidName ?aC_InvalidHop ?xL_InvalidHop ?sa_InvalidHop ?eC_InvalidHop ?tC_InvalidHop ?kC_InvalidHop ?iI_InvalidHop ?tI_InvalidHop ?lk_InvalidHop ?ce_InvalidHop ?co_InvalidHop ?vf_InvalidHop ?mf_InvalidHop ?rc_InvalidHop ?ow_InvalidHop ?mr_InvalidHop ?no0_InvalidHop ?ga_InvalidHop ?gg_InvalidHop ?hd_InvalidHop ?fc_InvalidHop ?mo_InvalidHop ?u0_InvalidHop ?v0_InvalidHop ?u1_InvalidHop ?v1_InvalidHop ?u2_InvalidHop ?v2_InvalidHop ?u3_InvalidHop ?v3_InvalidHop ?aC_InvalidWay ?xL_InvalidWay ?sa_InvalidWay ?eC_InvalidWay ?tC_InvalidWay ?kC_InvalidWay ?iI_InvalidWay ?tI_InvalidWay ?lk_InvalidWay ?ce_InvalidWay ?co_InvalidWay ?vf_InvalidWay ?mf_InvalidWay ?rc_InvalidWay ?ow_InvalidWay ?mr_InvalidWay ?no0_InvalidWay ?ga_InvalidWay ?gg_InvalidWay ?hd_InvalidWay ?fc_InvalidWay ?mo_InvalidWay ?u0_InvalidWay ?v0_InvalidWay ?u1_InvalidWay ?v1_InvalidWay ?u2_InvalidWay ?v2_InvalidWay ?u3_InvalidWay ?v3_InvalidWay ?aC_InvalidMembers ?xL_InvalidMembers ?sa_InvalidMembers ?eC_InvalidMembers ?tC_InvalidMembers ?kC_InvalidMembers ?iI_InvalidMembers ?tI_InvalidMembers ?lk_InvalidMembers ?ce_InvalidMembers ?co_InvalidMembers ?vf_InvalidMembers ?mf_InvalidMembers ?rc_InvalidMembers ?ow_InvalidMembers ?mr_InvalidMembers ?no0_InvalidMembers ?ga_InvalidMembers ?gg_InvalidMembers ?hd_InvalidMembers ?fc_InvalidMembers ?mo_InvalidMembers ?u0_InvalidMembers ?v0_InvalidMembers ?u1_InvalidMembers ?v1_InvalidMembers ?u2_InvalidMembers ?v2_InvalidMembers ?u3_InvalidMembers ?v3_InvalidMembers ?aC_InvalidItems ?xL_InvalidItems ?sa_InvalidItems ?eC_InvalidItems ?tC_InvalidItems ?kC_InvalidItems ?iI_InvalidItems ?tI_InvalidItems ?lk_InvalidItems ?ce_InvalidItems ?co_InvalidItems ?vf_InvalidItems ?mf_InvalidItems ?rc_InvalidItems ?ow_InvalidItems ?mr_InvalidItems ?no0_InvalidItems ?ga_InvalidItems ?gg_InvalidItems ?hd_InvalidItems ?fc_InvalidItems ?mo_InvalidItems ?u0_InvalidItems ?v0_InvalidItems ?u1_InvalidItems ?v1_InvalidItems ?u2_InvalidItems ?v2_InvalidItems ?u3_InvalidItems ?v3_InvalidItems ?aC_InvalidWithdrawn ?xL_InvalidWithdrawn ?sa_InvalidWithdrawn ?eC_InvalidWithdrawn ?tC_InvalidWithdrawn ?kC_InvalidWithdrawn ?iI_InvalidWithdrawn ?tI_InvalidWithdrawn ?lk_InvalidWithdrawn ?ce_InvalidWithdrawn ?co_InvalidWithdrawn ?vf_InvalidWithdrawn ?mf_InvalidWithdrawn ?rc_InvalidWithdrawn ?ow_InvalidWithdrawn ?mr_InvalidWithdrawn ?no0_InvalidWithdrawn ?ga_InvalidWithdrawn ?gg_InvalidWithdrawn ?hd_InvalidWithdrawn ?fc_InvalidWithdrawn ?mo_InvalidWithdrawn ?u0_InvalidWithdrawn ?v0_InvalidWithdrawn ?u1_InvalidWithdrawn ?v1_InvalidWithdrawn ?u2_InvalidWithdrawn ?v2_InvalidWithdrawn ?u3_InvalidWithdrawn ?v3_InvalidWithdrawn ?aC_InvalidRegion ?xL_InvalidRegion ?sa_InvalidRegion ?eC_InvalidRegion ?tC_InvalidRegion ?kC_InvalidRegion ?iI_InvalidRegion ?tI_InvalidRegion ?lk_InvalidRegion ?ce_InvalidRegion ?co_InvalidRegion ?vf_InvalidRegion ?mf_InvalidRegion ?rc_InvalidRegion ?ow_InvalidRegion ?mr_InvalidRegion ?no0_InvalidRegion ?ga_InvalidRegion ?gg_InvalidRegion ?hd_InvalidRegion ?fc_InvalidRegion ?mo_InvalidRegion ?u0_InvalidRegion ?v0_InvalidRegion ?u1_InvalidRegion ?v1_InvalidRegion ?u2_InvalidRegion ?v2_InvalidRegion ?u3_InvalidRegion ?v3_InvalidRegion ?aC_InvalidHops ?xL_InvalidHops ?sa_InvalidHops ?eC_InvalidHops ?tC_InvalidHops ?kC_InvalidHops ?iI_InvalidHops ?tI_InvalidHops ?lk_InvalidHops ?ce_InvalidHops ?co_InvalidHops ?vf_InvalidHops ?mf_InvalidHops ?rc_InvalidHops ?ow_InvalidHops ?mr_InvalidHops ?no0_InvalidHops ?ga_InvalidHops ?gg_InvalidHops ?hd_InvalidHops ?fc_InvalidHops ?mo_InvalidHops ?u0_InvalidHops ?v0_InvalidHops ?u1_InvalidHops ?v1_InvalidHops ?u2_InvalidHops ?v2_InvalidHops ?u3_InvalidHops ?v3_InvalidHops ?aC_InvalidWord ?xL_InvalidWord ?sa_InvalidWord ?eC_InvalidWord ?tC_InvalidWord ?kC_InvalidWord ?iI_InvalidWord ?tI_InvalidWord ?lk_InvalidWord ?ce_InvalidWord ?co_InvalidWord ?vf_InvalidWord ?mf_InvalidWord ?rc_InvalidWord ?ow_InvalidWord ?mr_InvalidWord ?no0_InvalidWord ?ga_InvalidWord ?gg_InvalidWord ?hd_InvalidWord ?fc_InvalidWord ?mo_InvalidWord ?u0_InvalidWord ?v0_InvalidWord ?u1_InvalidWord ?v1_InvalidWord ?u2_InvalidWord ?v2_InvalidWord ?u3_InvalidWord ?v3_InvalidWord ?aC_InvalidText ?xL_InvalidText ?sa_InvalidText ?eC_InvalidText ?tC_InvalidText ?kC_InvalidText ?iI_InvalidText ?tI_InvalidText ?lk_InvalidText ?ce_InvalidText ?co_InvalidText ?vf_InvalidText ?mf_InvalidText ?rc_InvalidText ?ow_InvalidText ?mr_InvalidText ?no0_InvalidText ?ga_InvalidText ?gg_InvalidText ?hd_InvalidText ?fc_InvalidText ?mo_InvalidText ?u0_InvalidText ?v0_InvalidText ?u1_InvalidText ?v1_InvalidText ?u2_InvalidText ?v2_InvalidText ?u3_InvalidText ?v3_InvalidText ?aC_InvalidClaim ?xL_InvalidClaim ?sa_InvalidClaim ?eC_InvalidClaim ?tC_InvalidClaim ?kC_InvalidClaim ?iI_InvalidClaim ?tI_InvalidClaim ?lk_InvalidClaim ?ce_InvalidClaim ?co_InvalidClaim ?vf_InvalidClaim ?mf_InvalidClaim ?rc_InvalidClaim ?ow_InvalidClaim ?mr_InvalidClaim ?no0_InvalidClaim ?ga_InvalidClaim ?gg_InvalidClaim ?hd_InvalidClaim ?fc_InvalidClaim ?mo_InvalidClaim ?u0_InvalidClaim ?v0_InvalidClaim ?u1_InvalidClaim ?v1_InvalidClaim ?u2_InvalidClaim ?v2_InvalidClaim ?u3_InvalidClaim ?v3_InvalidClaim ?aC_InvalidCommand ?xL_InvalidCommand ?sa_InvalidCommand ?eC_InvalidCommand ?tC_InvalidCommand ?kC_InvalidCommand ?iI_InvalidCommand ?tI_InvalidCommand ?lk_InvalidCommand ?ce_InvalidCommand ?co_InvalidCommand ?vf_InvalidCommand ?mf_InvalidCommand ?rc_InvalidCommand ?ow_InvalidCommand ?mr_InvalidCommand ?no0_InvalidCommand ?ga_InvalidCommand ?gg_InvalidCommand ?hd_InvalidCommand ?fc_InvalidCommand ?mo_InvalidCommand ?u0_InvalidCommand ?v0_InvalidCommand ?u1_InvalidCommand ?v1_InvalidCommand ?u2_InvalidCommand ?v2_InvalidCommand ?u3_InvalidCommand ?v3_InvalidCommand ?aC_UnknownStretch ?xL_UnknownStretch ?sa_UnknownStretch ?eC_UnknownStretch ?tC_UnknownStretch ?kC_UnknownStretch ?iI_UnknownStretch ?tI_UnknownStretch ?lk_UnknownStretch ?ce_UnknownStretch ?co_UnknownStretch ?vf_UnknownStretch ?mf_UnknownStretch ?rc_UnknownStretch ?ow_UnknownStretch ?mr_UnknownStretch ?no0_UnknownStretch ?ga_UnknownStretch ?gg_UnknownStretch ?hd_UnknownStretch ?fc_UnknownStretch ?mo_UnknownStretch ?u0_UnknownStretch ?v0_UnknownStretch ?u1_UnknownStretch ?v1_UnknownStretch ?u2_UnknownStretch ?v2_UnknownStretch ?u3_UnknownStretch ?v3_UnknownStretch ?aC_UnknownHop ?xL_UnknownHop ?sa_UnknownHop ?eC_UnknownHop ?tC_UnknownHop ?kC_UnknownHop ?iI_UnknownHop ?tI_UnknownHop ?lk_UnknownHop ?ce_UnknownHop ?co_UnknownHop ?vf_UnknownHop ?mf_UnknownHop ?rc_UnknownHop ?ow_UnknownHop ?mr_UnknownHop ?no0_UnknownHop ?ga_UnknownHop ?gg_UnknownHop ?hd_UnknownHop ?fc_UnknownHop ?mo_UnknownHop ?u0_UnknownHop ?v0_UnknownHop ?u1_UnknownHop ?v1_UnknownHop ?u2_UnknownHop ?v2_UnknownHop ?u3_UnknownHop ?v3_UnknownHop ?aC_UnknownGoal ?xL_UnknownGoal ?sa_UnknownGoal ?eC_UnknownGoal ?tC_UnknownGoal ?kC_UnknownGoal ?iI_UnknownGoal ?tI_UnknownGoal ?lk_UnknownGoal ?ce_UnknownGoal ?co_UnknownGoal ?vf_UnknownGoal ?mf_UnknownGoal ?rc_UnknownGoal ?ow_UnknownGoal ?mr_UnknownGoal ?no0_UnknownGoal ?ga_UnknownGoal ?gg_UnknownGoal ?hd_UnknownGoal ?fc_UnknownGoal ?mo_UnknownGoal ?u0_UnknownGoal ?v0_UnknownGoal ?u1_UnknownGoal ?v1_UnknownGoal ?u2_UnknownGoal ?v2_UnknownGoal ?u3_UnknownGoal ?v3_UnknownGoal ?aC_UnknownItem ?xL_UnknownItem ?sa_UnknownItem ?eC_UnknownItem ?tC_UnknownItem ?kC_UnknownItem ?iI_UnknownItem ?tI_UnknownItem ?lk_UnknownItem ?ce_UnknownItem ?co_UnknownItem ?vf_UnknownItem ?mf_UnknownItem ?rc_UnknownItem ?ow_UnknownItem ?mr_UnknownItem ?no0_UnknownItem ?ga_UnknownItem ?gg_UnknownItem ?hd_UnknownItem ?fc_UnknownItem ?mo_UnknownItem ?u0_UnknownItem ?v0_UnknownItem ?u1_UnknownItem ?v1_UnknownItem ?u2_UnknownItem ?v2_UnknownItem ?u3_UnknownItem ?v3_UnknownItem ?aC_OtherWidth ?xL_OtherWidth ?sa_OtherWidth ?eC_OtherWidth ?tC_OtherWidth ?kC_OtherWidth ?iI_OtherWidth ?tI_OtherWidth ?lk_OtherWidth ?ce_OtherWidth ?co_OtherWidth ?vf_OtherWidth ?mf_OtherWidth ?rc_OtherWidth ?ow_OtherWidth ?mr_OtherWidth ?no0_OtherWidth ?no1_OtherWidth ?ga_OtherWidth ?gg_OtherWidth ?hd_OtherWidth ?fc_OtherWidth ?mo_OtherWidth ?u0_OtherWidth ?v0_OtherWidth ?u1_OtherWidth ?v1_OtherWidth ?u2_OtherWidth ?v2_OtherWidth ?u3_OtherWidth ?v3_OtherWidth ?aC_OtherHops ?xL_OtherHops ?sa_OtherHops ?eC_OtherHops ?tC_OtherHops ?kC_OtherHops ?iI_OtherHops ?tI_OtherHops ?lk_OtherHops ?ce_OtherHops ?co_OtherHops ?vf_OtherHops ?mf_OtherHops ?rc_OtherHops ?ow_OtherHops ?mr_OtherHops ?no0_OtherHops ?no1_OtherHops ?ga_OtherHops ?gg_OtherHops ?hd_OtherHops ?fc_OtherHops ?mo_OtherHops ?u0_OtherHops ?v0_OtherHops ?u1_OtherHops ?v1_OtherHops ?u2_OtherHops ?v2_OtherHops ?u3_OtherHops ?v3_OtherHops ?aC_WrongMember ?xL_WrongMember ?sa_WrongMember ?eC_WrongMember ?tC_WrongMember ?kC_WrongMember ?iI_WrongMember ?tI_WrongMember ?lk_WrongMember ?ce_WrongMember ?co_WrongMember ?vf_WrongMember ?mf_WrongMember ?rc_WrongMember ?ow_WrongMember ?mr_WrongMember ?no0_WrongMember ?ga_WrongMember ?gg_WrongMember ?hd_WrongMember ?fc_WrongMember ?mo_WrongMember ?u0_WrongMember ?v0_WrongMember ?u1_WrongMember ?v1_WrongMember ?u2_WrongMember ?v2_WrongMember ?u3_WrongMember ?v3_WrongMember ?aC_Stranger ?xL_Stranger ?sa_Stranger ?eC_Stranger ?tC_Stranger ?kC_Stranger ?iI_Stranger ?tI_Stranger ?lk_Stranger ?ce_Stranger ?co_Stranger ?vf_Stranger ?mf_Stranger ?rc_Stranger ?ow_Stranger ?mr_Stranger ?no0_Stranger ?ga_Stranger ?gg_Stranger ?hd_Stranger ?fc_Stranger ?mo_Stranger ?u0_Stranger ?v0_Stranger ?u1_Stranger ?v1_Stranger ?u2_Stranger ?v2_Stranger ?u3_Stranger ?v3_Stranger ?aC_NoOrder ?xL_NoOrder ?sa_NoOrder ?eC_NoOrder ?tC_NoOrder ?kC_NoOrder ?iI_NoOrder ?tI_NoOrder ?lk_NoOrder ?ce_NoOrder ?co_NoOrder ?vf_NoOrder ?mf_NoOrder ?rc_NoOrder ?ow_NoOrder ?mr_NoOrder ?ga_NoOrder ?gg_NoOrder ?hd_NoOrder ?fc_NoOrder ?mo_NoOrder ?u0_NoOrder ?v0_NoOrder ?u1_NoOrder ?v1_NoOrder ?u2_NoOrder ?v2_NoOrder ?u3_NoOrder ?v3_NoOrder ?aC_AlreadySo ?xL_AlreadySo ?sa_AlreadySo ?eC_AlreadySo ?tC_AlreadySo ?kC_AlreadySo ?iI_AlreadySo ?tI_AlreadySo ?lk_AlreadySo ?ce_AlreadySo ?co_AlreadySo ?vf_AlreadySo ?mf_AlreadySo ?rc_AlreadySo ?ow_AlreadySo ?mr_AlreadySo ?no0_AlreadySo ?ga_AlreadySo ?gg_AlreadySo ?hd_AlreadySo ?fc_AlreadySo ?mo_AlreadySo ?u0_AlreadySo ?v0_AlreadySo ?u1_AlreadySo ?v1_AlreadySo ?u2_AlreadySo ?v2_AlreadySo ?u3_AlreadySo ?v3_AlreadySo ?aC_NothingToUndo ?xL_NothingToUndo ?sa_NothingToUndo ?eC_NothingToUndo ?tC_NothingToUndo ?kC_NothingToUndo ?iI_NothingToUndo ?tI_NothingToUndo ?lk_NothingToUndo ?ce_NothingToUndo ?co_NothingToUndo ?vf_NothingToUndo ?mf_NothingToUndo ?rc_NothingToUndo ?ow_NothingToUndo ?mr_NothingToUndo ?ga_NothingToUndo ?gg_NothingToUndo ?hd_NothingToUndo ?fc_NothingToUndo ?mo_NothingToUndo ?u0_NothingToUndo ?v0_NothingToUndo ?u1_NothingToUndo ?v1_NothingToUndo ?u2_NothingToUndo ?v2_NothingToUndo ?u3_NothingToUndo ?v3_NothingToUndo ?aC_CommandFailed ?xL_CommandFailed ?sa_CommandFailed ?eC_CommandFailed ?tC_CommandFailed ?kC_CommandFailed ?iI_CommandFailed ?tI_CommandFailed ?lk_CommandFailed ?ce_CommandFailed ?co_CommandFailed ?vf_CommandFailed ?mf_CommandFailed ?rc_CommandFailed ?ow_CommandFailed ?mr_CommandFailed ?no0_CommandFailed ?ga_CommandFailed ?gg_CommandFailed ?hd_CommandFailed ?fc_CommandFailed ?mo_CommandFailed ?u0_CommandFailed ?v0_CommandFailed ?u1_CommandFailed ?v1_CommandFailed ?u2_CommandFailed ?v2_CommandFailed ?u3_CommandFailed ?v3_CommandFailed ?aC_TooMany ?xL_TooMany ?sa_TooMany ?eC_TooMany ?tC_TooMany ?kC_TooMany ?iI_TooMany ?tI_TooMany ?lk_TooMany ?ce_TooMany ?co_TooMany ?vf_TooMany ?mf_TooMany ?rc_TooMany ?ow_TooMany ?mr_TooMany ?no0_TooMany ?no1_TooMany ?ga_TooMany ?gg_TooMany ?hd_TooMany ?fc_TooMany ?mo_TooMany ?u0_TooMany ?v0_TooMany ?u1_TooMany ?v1_TooMany ?u2_TooMany ?v2_TooMany ?u3_TooMany ?v3_TooMany ?ic_InvalidStretch ?rr_InvalidStretch ?ic_NoOrder ?rr_NoOrder ?ic_NothingToUndo ?rr_NothingToUndo ?ic_OtherHops ?rr_OtherHops ?ic_OtherWidth ?rr_OtherWidth ?ic_UnknownHop ?rr_UnknownHop ?as_OtherWidth ?as_OtherHops ?as_NoOrder ?as_InvalidWidth ?as_UnknownStretch ?as_CommandFailed ?xs_InvalidWidth_InvalidStretch ?xs_InvalidWidth_UnknownGoal ?xs_InvalidWidth_WrongMember ?xs_UnknownHop_InvalidStretch ?xs_UnknownHop_UnknownGoal ?xs_UnknownHop_WrongMember ?xs_Stranger_InvalidStretch ?xs_Stranger_UnknownGoal ?xs_Stranger_WrongMember ?xs_TooMany_InvalidStretch ?xs_TooMany_UnknownGoal ?xs_TooMany_WrongMember
    (case a0 => first | k_is | kernel_rfl)
    (case l0 => first | k_is | kernel_rfl)
    (case q0 => first | k_is | kernel_rfl)
    (case k0 => first | k_is | kernel_rfl)
    (case a1 => first | k_is | kernel_rfl)
    (case l1 => first | k_is | kernel_rfl)
    (case q1 => first | k_is | kernel_rfl)
    (case k1 => first | k_is | kernel_rfl)
    (case a2 => first | k_is | kernel_rfl)
    (case l2 => first | k_is | kernel_rfl)
    (case q2 => first | k_is | kernel_rfl)
    (case k2 => first | k_is | kernel_rfl)
    (case a3 => first | k_is | kernel_rfl)
    (case l3 => first | k_is | kernel_rfl)
    (case q3 => first | k_is | kernel_rfl)
    (case k3 => first | k_is | kernel_rfl)
    (case a4 => first | k_is | kernel_rfl)
    (case l4 => first | k_is | kernel_rfl)
    (case q4 => first | k_is | kernel_rfl)
    (case k4 => first | k_is | kernel_rfl)
    (case a5 => first | k_is | kernel_rfl)
    (case l5 => first | k_is | kernel_rfl)
    (case q5 => first | k_is | kernel_rfl)
    (case k5 => first | k_is | kernel_rfl)
    (case a6 => first | k_is | kernel_rfl)
    (case l6 => first | k_is | kernel_rfl)
    (case q6 => first | k_is | kernel_rfl)
    (case k6 => first | k_is | kernel_rfl)
    (case a7 => first | k_is | kernel_rfl)
    (case l7 => first | k_is | kernel_rfl)
    (case q7 => first | k_is | kernel_rfl)
    (case k7 => first | k_is | kernel_rfl)
    (case a8 => first | k_is | kernel_rfl)
    (case l8 => first | k_is | kernel_rfl)
    (case q8 => first | k_is | kernel_rfl)
    (case k8 => first | k_is | kernel_rfl)
    (case a9 => first | k_is | kernel_rfl)
    (case l9 => first | k_is | kernel_rfl)
    (case q9 => first | k_is | kernel_rfl)
    (case k9 => first | k_is | kernel_rfl)
    (case a10 => first | k_is | kernel_rfl)
    (case l10 => first | k_is | kernel_rfl)
    (case q10 => first | k_is | kernel_rfl)
    (case k10 => first | k_is | kernel_rfl)
    (case a11 => first | k_is | kernel_rfl)
    (case l11 => first | k_is | kernel_rfl)
    (case q11 => first | k_is | kernel_rfl)
    (case k11 => first | k_is | kernel_rfl)
    (case a12 => first | k_is | kernel_rfl)
    (case l12 => first | k_is | kernel_rfl)
    (case q12 => first | k_is | kernel_rfl)
    (case k12 => first | k_is | kernel_rfl)
    (case z0 => first | k_is | kernel_rfl)
    (case z1 => first | k_is | kernel_rfl)
    (case z2 => first | k_is | kernel_rfl)
    (case z3 => first | k_is | kernel_rfl)
    (case z4 => first | k_is | kernel_rfl)
    (case z5 => first | k_is | kernel_rfl)
    (case z6 => first | k_is | kernel_rfl)
    (case z7 => first | k_is | kernel_rfl)
    (case z8 => first | k_is | kernel_rfl)
    (case z9 => first | k_is | kernel_rfl)
    (case z10 => first | k_is | kernel_rfl)
    (case z11 => first | k_is | kernel_rfl)
    (case z12 => first | k_is | kernel_rfl)
    (case z13 => first | k_is | kernel_rfl)
    (case z14 => first | k_is | kernel_rfl)
    (case z15 => first | k_is | kernel_rfl)
    (case z16 => first | k_is | kernel_rfl)
    (case z17 => first | k_is | kernel_rfl)
    (case z18 => first | k_is | kernel_rfl)
    (case z19 => first | k_is | kernel_rfl)
    (case z20 => first | k_is | kernel_rfl)
    (case z21 => first | k_is | kernel_rfl)
    (case z22 => first | k_is | kernel_rfl)
    (case z23 => first | k_is | kernel_rfl)
    (case z24 => first | k_is | kernel_rfl)
    (case hn => first | k_is | kernel_rfl)
    (case ht => first | k_is | kernel_rfl)
    (case tp => first | kernel_rfl | kernel_rfl)
    (case ny => first | k_is | kernel_rfl)
    (case aB0 => first | k_is | kernel_rfl)
    (case iB0 => first | k_is | kernel_rfl)
    (case tB0 => first | k_is | kernel_rfl)
    (case eB0 => first | k_is | kernel_rfl)
    (case dB0 => first | k_is | kernel_rfl)
    (case rB0 => first | k_is | kernel_rfl)
    (case aB1 => first | k_is | kernel_rfl)
    (case iB1 => first | k_is | kernel_rfl)
    (case tB1 => first | k_is | kernel_rfl)
    (case eB1 => first | k_is | kernel_rfl)
    (case dB1 => first | k_is | kernel_rfl)
    (case rB1 => first | k_is | kernel_rfl)
    (case aB2 => first | k_is | kernel_rfl)
    (case iB2 => first | k_is | kernel_rfl)
    (case tB2 => first | k_is | kernel_rfl)
    (case eB2 => first | k_is | kernel_rfl)
    (case dB2 => first | k_is | kernel_rfl)
    (case rB2 => first | k_is | kernel_rfl)
    (case aB3 => first | k_is | kernel_rfl)
    (case iB3 => first | k_is | kernel_rfl)
    (case tB3 => first | k_is | kernel_rfl)
    (case eB3 => first | k_is | kernel_rfl)
    (case dB3 => first | k_is | kernel_rfl)
    (case rB3 => first | k_is | kernel_rfl)
    (case aC_InvalidWidth => first | k_is | kernel_rfl)
    (case xL_InvalidWidth => first | k_is | kernel_rfl)
    (case sa_InvalidWidth => first | k_is | kernel_rfl)
    (case eC_InvalidWidth => first | k_is | kernel_rfl)
    (case tC_InvalidWidth => first | k_is | kernel_rfl)
    (case kC_InvalidWidth => first | k_is | kernel_rfl)
    (case iI_InvalidWidth => first | k_is | kernel_rfl)
    (case tI_InvalidWidth => first | k_is | kernel_rfl)
    (case lk_InvalidWidth => first | k_is | kernel_rfl)
    (case ce_InvalidWidth => first | k_is | kernel_rfl)
    (case co_InvalidWidth => first | k_is | kernel_rfl)
    (case vf_InvalidWidth => first | rfl | kernel_rfl)
    (case mf_InvalidWidth => first | kernel_rfl | kernel_rfl)
    (case rc_InvalidWidth => first | k_is | kernel_rfl)
    (case ow_InvalidWidth => first | ks_is | kernel_rfl)
    (case mr_InvalidWidth => first | k_is | kernel_rfl)
    (case no0_InvalidWidth => first | k_is | kernel_rfl)
    (case ga_InvalidWidth => first | k_is | kernel_rfl)
    (case gg_InvalidWidth => first | k_is | kernel_rfl)
    (case hd_InvalidWidth => first | k_is | kernel_rfl)
    (case fc_InvalidWidth => first | k_is | kernel_rfl)
    (case mo_InvalidWidth => first | k_is | kernel_rfl)
    (case u0_InvalidWidth => first | k_is | kernel_rfl)
    (case v0_InvalidWidth => first | k_is | kernel_rfl)
    (case u1_InvalidWidth => first | k_is | kernel_rfl)
    (case v1_InvalidWidth => first | k_is | kernel_rfl)
    (case u2_InvalidWidth => first | k_is | kernel_rfl)
    (case v2_InvalidWidth => first | k_is | kernel_rfl)
    (case u3_InvalidWidth => first | k_is | kernel_rfl)
    (case v3_InvalidWidth => first | k_is | kernel_rfl)
    (case aC_InvalidStretch => first | k_is | kernel_rfl)
    (case xL_InvalidStretch => first | k_is | kernel_rfl)
    (case sa_InvalidStretch => first | k_is | kernel_rfl)
    (case eC_InvalidStretch => first | k_is | kernel_rfl)
    (case tC_InvalidStretch => first | k_is | kernel_rfl)
    (case kC_InvalidStretch => first | k_is | kernel_rfl)
    (case iI_InvalidStretch => first | k_is | kernel_rfl)
    (case tI_InvalidStretch => first | k_is | kernel_rfl)
    (case lk_InvalidStretch => first | k_is | kernel_rfl)
    (case ce_InvalidStretch => first | k_is | kernel_rfl)
    (case co_InvalidStretch => first | k_is | kernel_rfl)
    (case vf_InvalidStretch => first | rfl | kernel_rfl)
    (case mf_InvalidStretch => first | kernel_rfl | kernel_rfl)
    (case rc_InvalidStretch => first | k_is | kernel_rfl)
    (case ow_InvalidStretch => first | ks_is | kernel_rfl)
    (case mr_InvalidStretch => first | k_is | kernel_rfl)
    (case no0_InvalidStretch => first | k_is | kernel_rfl)
    (case ga_InvalidStretch => first | k_is | kernel_rfl)
    (case gg_InvalidStretch => first | k_is | kernel_rfl)
    (case hd_InvalidStretch => first | k_is | kernel_rfl)
    (case fc_InvalidStretch => first | k_is | kernel_rfl)
    (case mo_InvalidStretch => first | k_is | kernel_rfl)
    (case u0_InvalidStretch => first | k_is | kernel_rfl)
    (case v0_InvalidStretch => first | k_is | kernel_rfl)
    (case u1_InvalidStretch => first | k_is | kernel_rfl)
    (case v1_InvalidStretch => first | k_is | kernel_rfl)
    (case u2_InvalidStretch => first | k_is | kernel_rfl)
    (case v2_InvalidStretch => first | k_is | kernel_rfl)
    (case u3_InvalidStretch => first | k_is | kernel_rfl)
    (case v3_InvalidStretch => first | k_is | kernel_rfl)
    (case aC_InvalidStretches => first | k_is | kernel_rfl)
    (case xL_InvalidStretches => first | k_is | kernel_rfl)
    (case sa_InvalidStretches => first | k_is | kernel_rfl)
    (case eC_InvalidStretches => first | k_is | kernel_rfl)
    (case tC_InvalidStretches => first | k_is | kernel_rfl)
    (case kC_InvalidStretches => first | k_is | kernel_rfl)
    (case iI_InvalidStretches => first | k_is | kernel_rfl)
    (case tI_InvalidStretches => first | k_is | kernel_rfl)
    (case lk_InvalidStretches => first | k_is | kernel_rfl)
    (case ce_InvalidStretches => first | k_is | kernel_rfl)
    (case co_InvalidStretches => first | k_is | kernel_rfl)
    (case vf_InvalidStretches => first | rfl | kernel_rfl)
    (case mf_InvalidStretches => first | kernel_rfl | kernel_rfl)
    (case rc_InvalidStretches => first | k_is | kernel_rfl)
    (case ow_InvalidStretches => first | ks_is | kernel_rfl)
    (case mr_InvalidStretches => first | k_is | kernel_rfl)
    (case no0_InvalidStretches => first | k_is | kernel_rfl)
    (case ga_InvalidStretches => first | k_is | kernel_rfl)
    (case gg_InvalidStretches => first | k_is | kernel_rfl)
    (case hd_InvalidStretches => first | k_is | kernel_rfl)
    (case fc_InvalidStretches => first | k_is | kernel_rfl)
    (case mo_InvalidStretches => first | k_is | kernel_rfl)
    (case u0_InvalidStretches => first | k_is | kernel_rfl)
    (case v0_InvalidStretches => first | k_is | kernel_rfl)
    (case u1_InvalidStretches => first | k_is | kernel_rfl)
    (case v1_InvalidStretches => first | k_is | kernel_rfl)
    (case u2_InvalidStretches => first | k_is | kernel_rfl)
    (case v2_InvalidStretches => first | k_is | kernel_rfl)
    (case u3_InvalidStretches => first | k_is | kernel_rfl)
    (case v3_InvalidStretches => first | k_is | kernel_rfl)
    (case aC_InvalidAddress => first | k_is | kernel_rfl)
    (case xL_InvalidAddress => first | k_is | kernel_rfl)
    (case sa_InvalidAddress => first | k_is | kernel_rfl)
    (case eC_InvalidAddress => first | k_is | kernel_rfl)
    (case tC_InvalidAddress => first | k_is | kernel_rfl)
    (case kC_InvalidAddress => first | k_is | kernel_rfl)
    (case iI_InvalidAddress => first | k_is | kernel_rfl)
    (case tI_InvalidAddress => first | k_is | kernel_rfl)
    (case lk_InvalidAddress => first | k_is | kernel_rfl)
    (case ce_InvalidAddress => first | k_is | kernel_rfl)
    (case co_InvalidAddress => first | k_is | kernel_rfl)
    (case vf_InvalidAddress => first | rfl | kernel_rfl)
    (case mf_InvalidAddress => first | kernel_rfl | kernel_rfl)
    (case rc_InvalidAddress => first | k_is | kernel_rfl)
    (case ow_InvalidAddress => first | ks_is | kernel_rfl)
    (case mr_InvalidAddress => first | k_is | kernel_rfl)
    (case no0_InvalidAddress => first | k_is | kernel_rfl)
    (case ga_InvalidAddress => first | k_is | kernel_rfl)
    (case gg_InvalidAddress => first | k_is | kernel_rfl)
    (case hd_InvalidAddress => first | k_is | kernel_rfl)
    (case fc_InvalidAddress => first | k_is | kernel_rfl)
    (case mo_InvalidAddress => first | k_is | kernel_rfl)
    (case u0_InvalidAddress => first | k_is | kernel_rfl)
    (case v0_InvalidAddress => first | k_is | kernel_rfl)
    (case u1_InvalidAddress => first | k_is | kernel_rfl)
    (case v1_InvalidAddress => first | k_is | kernel_rfl)
    (case u2_InvalidAddress => first | k_is | kernel_rfl)
    (case v2_InvalidAddress => first | k_is | kernel_rfl)
    (case u3_InvalidAddress => first | k_is | kernel_rfl)
    (case v3_InvalidAddress => first | k_is | kernel_rfl)
    (case aC_InvalidGoal => first | k_is | kernel_rfl)
    (case xL_InvalidGoal => first | k_is | kernel_rfl)
    (case sa_InvalidGoal => first | k_is | kernel_rfl)
    (case eC_InvalidGoal => first | k_is | kernel_rfl)
    (case tC_InvalidGoal => first | k_is | kernel_rfl)
    (case kC_InvalidGoal => first | k_is | kernel_rfl)
    (case iI_InvalidGoal => first | k_is | kernel_rfl)
    (case tI_InvalidGoal => first | k_is | kernel_rfl)
    (case lk_InvalidGoal => first | k_is | kernel_rfl)
    (case ce_InvalidGoal => first | k_is | kernel_rfl)
    (case co_InvalidGoal => first | k_is | kernel_rfl)
    (case vf_InvalidGoal => first | rfl | kernel_rfl)
    (case mf_InvalidGoal => first | kernel_rfl | kernel_rfl)
    (case rc_InvalidGoal => first | k_is | kernel_rfl)
    (case ow_InvalidGoal => first | ks_is | kernel_rfl)
    (case mr_InvalidGoal => first | k_is | kernel_rfl)
    (case no0_InvalidGoal => first | k_is | kernel_rfl)
    (case ga_InvalidGoal => first | k_is | kernel_rfl)
    (case gg_InvalidGoal => first | k_is | kernel_rfl)
    (case hd_InvalidGoal => first | k_is | kernel_rfl)
    (case fc_InvalidGoal => first | k_is | kernel_rfl)
    (case mo_InvalidGoal => first | k_is | kernel_rfl)
    (case u0_InvalidGoal => first | k_is | kernel_rfl)
    (case v0_InvalidGoal => first | k_is | kernel_rfl)
    (case u1_InvalidGoal => first | k_is | kernel_rfl)
    (case v1_InvalidGoal => first | k_is | kernel_rfl)
    (case u2_InvalidGoal => first | k_is | kernel_rfl)
    (case v2_InvalidGoal => first | k_is | kernel_rfl)
    (case u3_InvalidGoal => first | k_is | kernel_rfl)
    (case v3_InvalidGoal => first | k_is | kernel_rfl)
    (case aC_InvalidRows => first | k_is | kernel_rfl)
    (case xL_InvalidRows => first | k_is | kernel_rfl)
    (case sa_InvalidRows => first | k_is | kernel_rfl)
    (case eC_InvalidRows => first | k_is | kernel_rfl)
    (case tC_InvalidRows => first | k_is | kernel_rfl)
    (case kC_InvalidRows => first | k_is | kernel_rfl)
    (case iI_InvalidRows => first | k_is | kernel_rfl)
    (case tI_InvalidRows => first | k_is | kernel_rfl)
    (case lk_InvalidRows => first | k_is | kernel_rfl)
    (case ce_InvalidRows => first | k_is | kernel_rfl)
    (case co_InvalidRows => first | k_is | kernel_rfl)
    (case vf_InvalidRows => first | rfl | kernel_rfl)
    (case mf_InvalidRows => first | kernel_rfl | kernel_rfl)
    (case rc_InvalidRows => first | k_is | kernel_rfl)
    (case ow_InvalidRows => first | ks_is | kernel_rfl)
    (case mr_InvalidRows => first | k_is | kernel_rfl)
    (case no0_InvalidRows => first | k_is | kernel_rfl)
    (case ga_InvalidRows => first | k_is | kernel_rfl)
    (case gg_InvalidRows => first | k_is | kernel_rfl)
    (case hd_InvalidRows => first | k_is | kernel_rfl)
    (case fc_InvalidRows => first | k_is | kernel_rfl)
    (case mo_InvalidRows => first | k_is | kernel_rfl)
    (case u0_InvalidRows => first | k_is | kernel_rfl)
    (case v0_InvalidRows => first | k_is | kernel_rfl)
    (case u1_InvalidRows => first | k_is | kernel_rfl)
    (case v1_InvalidRows => first | k_is | kernel_rfl)
    (case u2_InvalidRows => first | k_is | kernel_rfl)
    (case v2_InvalidRows => first | k_is | kernel_rfl)
    (case u3_InvalidRows => first | k_is | kernel_rfl)
    (case v3_InvalidRows => first | k_is | kernel_rfl)
    (case aC_InvalidFree => first | k_is | kernel_rfl)
    (case xL_InvalidFree => first | k_is | kernel_rfl)
    (case sa_InvalidFree => first | k_is | kernel_rfl)
    (case eC_InvalidFree => first | k_is | kernel_rfl)
    (case tC_InvalidFree => first | k_is | kernel_rfl)
    (case kC_InvalidFree => first | k_is | kernel_rfl)
    (case iI_InvalidFree => first | k_is | kernel_rfl)
    (case tI_InvalidFree => first | k_is | kernel_rfl)
    (case lk_InvalidFree => first | k_is | kernel_rfl)
    (case ce_InvalidFree => first | k_is | kernel_rfl)
    (case co_InvalidFree => first | k_is | kernel_rfl)
    (case vf_InvalidFree => first | rfl | kernel_rfl)
    (case mf_InvalidFree => first | kernel_rfl | kernel_rfl)
    (case rc_InvalidFree => first | k_is | kernel_rfl)
    (case ow_InvalidFree => first | ks_is | kernel_rfl)
    (case mr_InvalidFree => first | k_is | kernel_rfl)
    (case no0_InvalidFree => first | k_is | kernel_rfl)
    (case ga_InvalidFree => first | k_is | kernel_rfl)
    (case gg_InvalidFree => first | k_is | kernel_rfl)
    (case hd_InvalidFree => first | k_is | kernel_rfl)
    (case fc_InvalidFree => first | k_is | kernel_rfl)
    (case mo_InvalidFree => first | k_is | kernel_rfl)
    (case u0_InvalidFree => first | k_is | kernel_rfl)
    (case v0_InvalidFree => first | k_is | kernel_rfl)
    (case u1_InvalidFree => first | k_is | kernel_rfl)
    (case v1_InvalidFree => first | k_is | kernel_rfl)
    (case u2_InvalidFree => first | k_is | kernel_rfl)
    (case v2_InvalidFree => first | k_is | kernel_rfl)
    (case u3_InvalidFree => first | k_is | kernel_rfl)
    (case v3_InvalidFree => first | k_is | kernel_rfl)
    (case aC_InvalidTables => first | k_is | kernel_rfl)
    (case xL_InvalidTables => first | k_is | kernel_rfl)
    (case sa_InvalidTables => first | k_is | kernel_rfl)
    (case eC_InvalidTables => first | k_is | kernel_rfl)
    (case tC_InvalidTables => first | k_is | kernel_rfl)
    (case kC_InvalidTables => first | k_is | kernel_rfl)
    (case iI_InvalidTables => first | k_is | kernel_rfl)
    (case tI_InvalidTables => first | k_is | kernel_rfl)
    (case lk_InvalidTables => first | k_is | kernel_rfl)
    (case ce_InvalidTables => first | k_is | kernel_rfl)
    (case co_InvalidTables => first | k_is | kernel_rfl)
    (case vf_InvalidTables => first | rfl | kernel_rfl)
    (case mf_InvalidTables => first | kernel_rfl | kernel_rfl)
    (case rc_InvalidTables => first | k_is | kernel_rfl)
    (case ow_InvalidTables => first | ks_is | kernel_rfl)
    (case mr_InvalidTables => first | k_is | kernel_rfl)
    (case no0_InvalidTables => first | k_is | kernel_rfl)
    (case ga_InvalidTables => first | k_is | kernel_rfl)
    (case gg_InvalidTables => first | k_is | kernel_rfl)
    (case hd_InvalidTables => first | k_is | kernel_rfl)
    (case fc_InvalidTables => first | k_is | kernel_rfl)
    (case mo_InvalidTables => first | k_is | kernel_rfl)
    (case u0_InvalidTables => first | k_is | kernel_rfl)
    (case v0_InvalidTables => first | k_is | kernel_rfl)
    (case u1_InvalidTables => first | k_is | kernel_rfl)
    (case v1_InvalidTables => first | k_is | kernel_rfl)
    (case u2_InvalidTables => first | k_is | kernel_rfl)
    (case v2_InvalidTables => first | k_is | kernel_rfl)
    (case u3_InvalidTables => first | k_is | kernel_rfl)
    (case v3_InvalidTables => first | k_is | kernel_rfl)
    (case aC_InvalidFirm => first | k_is | kernel_rfl)
    (case xL_InvalidFirm => first | k_is | kernel_rfl)
    (case sa_InvalidFirm => first | k_is | kernel_rfl)
    (case eC_InvalidFirm => first | k_is | kernel_rfl)
    (case tC_InvalidFirm => first | k_is | kernel_rfl)
    (case kC_InvalidFirm => first | k_is | kernel_rfl)
    (case iI_InvalidFirm => first | k_is | kernel_rfl)
    (case tI_InvalidFirm => first | k_is | kernel_rfl)
    (case lk_InvalidFirm => first | k_is | kernel_rfl)
    (case ce_InvalidFirm => first | k_is | kernel_rfl)
    (case co_InvalidFirm => first | k_is | kernel_rfl)
    (case vf_InvalidFirm => first | rfl | kernel_rfl)
    (case mf_InvalidFirm => first | kernel_rfl | kernel_rfl)
    (case rc_InvalidFirm => first | k_is | kernel_rfl)
    (case ow_InvalidFirm => first | ks_is | kernel_rfl)
    (case mr_InvalidFirm => first | k_is | kernel_rfl)
    (case no0_InvalidFirm => first | k_is | kernel_rfl)
    (case ga_InvalidFirm => first | k_is | kernel_rfl)
    (case gg_InvalidFirm => first | k_is | kernel_rfl)
    (case hd_InvalidFirm => first | k_is | kernel_rfl)
    (case fc_InvalidFirm => first | k_is | kernel_rfl)
    (case mo_InvalidFirm => first | k_is | kernel_rfl)
    (case u0_InvalidFirm => first | k_is | kernel_rfl)
    (case v0_InvalidFirm => first | k_is | kernel_rfl)
    (case u1_InvalidFirm => first | k_is | kernel_rfl)
    (case v1_InvalidFirm => first | k_is | kernel_rfl)
    (case u2_InvalidFirm => first | k_is | kernel_rfl)
    (case v2_InvalidFirm => first | k_is | kernel_rfl)
    (case u3_InvalidFirm => first | k_is | kernel_rfl)
    (case v3_InvalidFirm => first | k_is | kernel_rfl)
    (case aC_InvalidGone => first | k_is | kernel_rfl)
    (case xL_InvalidGone => first | k_is | kernel_rfl)
    (case sa_InvalidGone => first | k_is | kernel_rfl)
    (case eC_InvalidGone => first | k_is | kernel_rfl)
    (case tC_InvalidGone => first | k_is | kernel_rfl)
    (case kC_InvalidGone => first | k_is | kernel_rfl)
    (case iI_InvalidGone => first | k_is | kernel_rfl)
    (case tI_InvalidGone => first | k_is | kernel_rfl)
    (case lk_InvalidGone => first | k_is | kernel_rfl)
    (case ce_InvalidGone => first | k_is | kernel_rfl)
    (case co_InvalidGone => first | k_is | kernel_rfl)
    (case vf_InvalidGone => first | rfl | kernel_rfl)
    (case mf_InvalidGone => first | kernel_rfl | kernel_rfl)
    (case rc_InvalidGone => first | k_is | kernel_rfl)
    (case ow_InvalidGone => first | ks_is | kernel_rfl)
    (case mr_InvalidGone => first | k_is | kernel_rfl)
    (case no0_InvalidGone => first | k_is | kernel_rfl)
    (case ga_InvalidGone => first | k_is | kernel_rfl)
    (case gg_InvalidGone => first | k_is | kernel_rfl)
    (case hd_InvalidGone => first | k_is | kernel_rfl)
    (case fc_InvalidGone => first | k_is | kernel_rfl)
    (case mo_InvalidGone => first | k_is | kernel_rfl)
    (case u0_InvalidGone => first | k_is | kernel_rfl)
    (case v0_InvalidGone => first | k_is | kernel_rfl)
    (case u1_InvalidGone => first | k_is | kernel_rfl)
    (case v1_InvalidGone => first | k_is | kernel_rfl)
    (case u2_InvalidGone => first | k_is | kernel_rfl)
    (case v2_InvalidGone => first | k_is | kernel_rfl)
    (case u3_InvalidGone => first | k_is | kernel_rfl)
    (case v3_InvalidGone => first | k_is | kernel_rfl)
    (case aC_InvalidName => first | k_is | kernel_rfl)
    (case xL_InvalidName => first | k_is | kernel_rfl)
    (case sa_InvalidName => first | k_is | kernel_rfl)
    (case eC_InvalidName => first | k_is | kernel_rfl)
    (case tC_InvalidName => first | k_is | kernel_rfl)
    (case kC_InvalidName => first | k_is | kernel_rfl)
    (case iI_InvalidName => first | k_is | kernel_rfl)
    (case tI_InvalidName => first | k_is | kernel_rfl)
    (case lk_InvalidName => first | k_is | kernel_rfl)
    (case ce_InvalidName => first | k_is | kernel_rfl)
    (case co_InvalidName => first | k_is | kernel_rfl)
    (case vf_InvalidName => first | rfl | kernel_rfl)
    (case mf_InvalidName => first | kernel_rfl | kernel_rfl)
    (case rc_InvalidName => first | k_is | kernel_rfl)
    (case ow_InvalidName => first | ks_is | kernel_rfl)
    (case mr_InvalidName => first | k_is | kernel_rfl)
    (case no0_InvalidName => first | k_is | kernel_rfl)
    (case ga_InvalidName => first | k_is | kernel_rfl)
    (case gg_InvalidName => first | k_is | kernel_rfl)
    (case hd_InvalidName => first | k_is | kernel_rfl)
    (case fc_InvalidName => first | k_is | kernel_rfl)
    (case mo_InvalidName => first | k_is | kernel_rfl)
    (case u0_InvalidName => first | k_is | kernel_rfl)
    (case v0_InvalidName => first | k_is | kernel_rfl)
    (case u1_InvalidName => first | k_is | kernel_rfl)
    (case v1_InvalidName => first | k_is | kernel_rfl)
    (case u2_InvalidName => first | k_is | kernel_rfl)
    (case v2_InvalidName => first | k_is | kernel_rfl)
    (case u3_InvalidName => first | k_is | kernel_rfl)
    (case v3_InvalidName => first | k_is | kernel_rfl)
    (case aC_InvalidHop => first | k_is | kernel_rfl)
    (case xL_InvalidHop => first | k_is | kernel_rfl)
    (case sa_InvalidHop => first | k_is | kernel_rfl)
    (case eC_InvalidHop => first | k_is | kernel_rfl)
    (case tC_InvalidHop => first | k_is | kernel_rfl)
    (case kC_InvalidHop => first | k_is | kernel_rfl)
    (case iI_InvalidHop => first | k_is | kernel_rfl)
    (case tI_InvalidHop => first | k_is | kernel_rfl)
    (case lk_InvalidHop => first | k_is | kernel_rfl)
    (case ce_InvalidHop => first | k_is | kernel_rfl)
    (case co_InvalidHop => first | k_is | kernel_rfl)
    (case vf_InvalidHop => first | rfl | kernel_rfl)
    (case mf_InvalidHop => first | kernel_rfl | kernel_rfl)
    (case rc_InvalidHop => first | k_is | kernel_rfl)
    (case ow_InvalidHop => first | ks_is | kernel_rfl)
    (case mr_InvalidHop => first | k_is | kernel_rfl)
    (case no0_InvalidHop => first | k_is | kernel_rfl)
    (case ga_InvalidHop => first | k_is | kernel_rfl)
    (case gg_InvalidHop => first | k_is | kernel_rfl)
    (case hd_InvalidHop => first | k_is | kernel_rfl)
    (case fc_InvalidHop => first | k_is | kernel_rfl)
    (case mo_InvalidHop => first | k_is | kernel_rfl)
    (case u0_InvalidHop => first | k_is | kernel_rfl)
    (case v0_InvalidHop => first | k_is | kernel_rfl)
    (case u1_InvalidHop => first | k_is | kernel_rfl)
    (case v1_InvalidHop => first | k_is | kernel_rfl)
    (case u2_InvalidHop => first | k_is | kernel_rfl)
    (case v2_InvalidHop => first | k_is | kernel_rfl)
    (case u3_InvalidHop => first | k_is | kernel_rfl)
    (case v3_InvalidHop => first | k_is | kernel_rfl)
    (case aC_InvalidWay => first | k_is | kernel_rfl)
    (case xL_InvalidWay => first | k_is | kernel_rfl)
    (case sa_InvalidWay => first | k_is | kernel_rfl)
    (case eC_InvalidWay => first | k_is | kernel_rfl)
    (case tC_InvalidWay => first | k_is | kernel_rfl)
    (case kC_InvalidWay => first | k_is | kernel_rfl)
    (case iI_InvalidWay => first | k_is | kernel_rfl)
    (case tI_InvalidWay => first | k_is | kernel_rfl)
    (case lk_InvalidWay => first | k_is | kernel_rfl)
    (case ce_InvalidWay => first | k_is | kernel_rfl)
    (case co_InvalidWay => first | k_is | kernel_rfl)
    (case vf_InvalidWay => first | rfl | kernel_rfl)
    (case mf_InvalidWay => first | kernel_rfl | kernel_rfl)
    (case rc_InvalidWay => first | k_is | kernel_rfl)
    (case ow_InvalidWay => first | ks_is | kernel_rfl)
    (case mr_InvalidWay => first | k_is | kernel_rfl)
    (case no0_InvalidWay => first | k_is | kernel_rfl)
    (case ga_InvalidWay => first | k_is | kernel_rfl)
    (case gg_InvalidWay => first | k_is | kernel_rfl)
    (case hd_InvalidWay => first | k_is | kernel_rfl)
    (case fc_InvalidWay => first | k_is | kernel_rfl)
    (case mo_InvalidWay => first | k_is | kernel_rfl)
    (case u0_InvalidWay => first | k_is | kernel_rfl)
    (case v0_InvalidWay => first | k_is | kernel_rfl)
    (case u1_InvalidWay => first | k_is | kernel_rfl)
    (case v1_InvalidWay => first | k_is | kernel_rfl)
    (case u2_InvalidWay => first | k_is | kernel_rfl)
    (case v2_InvalidWay => first | k_is | kernel_rfl)
    (case u3_InvalidWay => first | k_is | kernel_rfl)
    (case v3_InvalidWay => first | k_is | kernel_rfl)
    (case aC_InvalidMembers => first | k_is | kernel_rfl)
    (case xL_InvalidMembers => first | k_is | kernel_rfl)
    (case sa_InvalidMembers => first | k_is | kernel_rfl)
    (case eC_InvalidMembers => first | k_is | kernel_rfl)
    (case tC_InvalidMembers => first | k_is | kernel_rfl)
    (case kC_InvalidMembers => first | k_is | kernel_rfl)
    (case iI_InvalidMembers => first | k_is | kernel_rfl)
    (case tI_InvalidMembers => first | k_is | kernel_rfl)
    (case lk_InvalidMembers => first | k_is | kernel_rfl)
    (case ce_InvalidMembers => first | k_is | kernel_rfl)
    (case co_InvalidMembers => first | k_is | kernel_rfl)
    (case vf_InvalidMembers => first | rfl | kernel_rfl)
    (case mf_InvalidMembers => first | kernel_rfl | kernel_rfl)
    (case rc_InvalidMembers => first | k_is | kernel_rfl)
    (case ow_InvalidMembers => first | ks_is | kernel_rfl)
    (case mr_InvalidMembers => first | k_is | kernel_rfl)
    (case no0_InvalidMembers => first | k_is | kernel_rfl)
    (case ga_InvalidMembers => first | k_is | kernel_rfl)
    (case gg_InvalidMembers => first | k_is | kernel_rfl)
    (case hd_InvalidMembers => first | k_is | kernel_rfl)
    (case fc_InvalidMembers => first | k_is | kernel_rfl)
    (case mo_InvalidMembers => first | k_is | kernel_rfl)
    (case u0_InvalidMembers => first | k_is | kernel_rfl)
    (case v0_InvalidMembers => first | k_is | kernel_rfl)
    (case u1_InvalidMembers => first | k_is | kernel_rfl)
    (case v1_InvalidMembers => first | k_is | kernel_rfl)
    (case u2_InvalidMembers => first | k_is | kernel_rfl)
    (case v2_InvalidMembers => first | k_is | kernel_rfl)
    (case u3_InvalidMembers => first | k_is | kernel_rfl)
    (case v3_InvalidMembers => first | k_is | kernel_rfl)
    (case aC_InvalidItems => first | k_is | kernel_rfl)
    (case xL_InvalidItems => first | k_is | kernel_rfl)
    (case sa_InvalidItems => first | k_is | kernel_rfl)
    (case eC_InvalidItems => first | k_is | kernel_rfl)
    (case tC_InvalidItems => first | k_is | kernel_rfl)
    (case kC_InvalidItems => first | k_is | kernel_rfl)
    (case iI_InvalidItems => first | k_is | kernel_rfl)
    (case tI_InvalidItems => first | k_is | kernel_rfl)
    (case lk_InvalidItems => first | k_is | kernel_rfl)
    (case ce_InvalidItems => first | k_is | kernel_rfl)
    (case co_InvalidItems => first | k_is | kernel_rfl)
    (case vf_InvalidItems => first | rfl | kernel_rfl)
    (case mf_InvalidItems => first | kernel_rfl | kernel_rfl)
    (case rc_InvalidItems => first | k_is | kernel_rfl)
    (case ow_InvalidItems => first | ks_is | kernel_rfl)
    (case mr_InvalidItems => first | k_is | kernel_rfl)
    (case no0_InvalidItems => first | k_is | kernel_rfl)
    (case ga_InvalidItems => first | k_is | kernel_rfl)
    (case gg_InvalidItems => first | k_is | kernel_rfl)
    (case hd_InvalidItems => first | k_is | kernel_rfl)
    (case fc_InvalidItems => first | k_is | kernel_rfl)
    (case mo_InvalidItems => first | k_is | kernel_rfl)
    (case u0_InvalidItems => first | k_is | kernel_rfl)
    (case v0_InvalidItems => first | k_is | kernel_rfl)
    (case u1_InvalidItems => first | k_is | kernel_rfl)
    (case v1_InvalidItems => first | k_is | kernel_rfl)
    (case u2_InvalidItems => first | k_is | kernel_rfl)
    (case v2_InvalidItems => first | k_is | kernel_rfl)
    (case u3_InvalidItems => first | k_is | kernel_rfl)
    (case v3_InvalidItems => first | k_is | kernel_rfl)
    (case aC_InvalidWithdrawn => first | k_is | kernel_rfl)
    (case xL_InvalidWithdrawn => first | k_is | kernel_rfl)
    (case sa_InvalidWithdrawn => first | k_is | kernel_rfl)
    (case eC_InvalidWithdrawn => first | k_is | kernel_rfl)
    (case tC_InvalidWithdrawn => first | k_is | kernel_rfl)
    (case kC_InvalidWithdrawn => first | k_is | kernel_rfl)
    (case iI_InvalidWithdrawn => first | k_is | kernel_rfl)
    (case tI_InvalidWithdrawn => first | k_is | kernel_rfl)
    (case lk_InvalidWithdrawn => first | k_is | kernel_rfl)
    (case ce_InvalidWithdrawn => first | k_is | kernel_rfl)
    (case co_InvalidWithdrawn => first | k_is | kernel_rfl)
    (case vf_InvalidWithdrawn => first | rfl | kernel_rfl)
    (case mf_InvalidWithdrawn => first | kernel_rfl | kernel_rfl)
    (case rc_InvalidWithdrawn => first | k_is | kernel_rfl)
    (case ow_InvalidWithdrawn => first | ks_is | kernel_rfl)
    (case mr_InvalidWithdrawn => first | k_is | kernel_rfl)
    (case no0_InvalidWithdrawn => first | k_is | kernel_rfl)
    (case ga_InvalidWithdrawn => first | k_is | kernel_rfl)
    (case gg_InvalidWithdrawn => first | k_is | kernel_rfl)
    (case hd_InvalidWithdrawn => first | k_is | kernel_rfl)
    (case fc_InvalidWithdrawn => first | k_is | kernel_rfl)
    (case mo_InvalidWithdrawn => first | k_is | kernel_rfl)
    (case u0_InvalidWithdrawn => first | k_is | kernel_rfl)
    (case v0_InvalidWithdrawn => first | k_is | kernel_rfl)
    (case u1_InvalidWithdrawn => first | k_is | kernel_rfl)
    (case v1_InvalidWithdrawn => first | k_is | kernel_rfl)
    (case u2_InvalidWithdrawn => first | k_is | kernel_rfl)
    (case v2_InvalidWithdrawn => first | k_is | kernel_rfl)
    (case u3_InvalidWithdrawn => first | k_is | kernel_rfl)
    (case v3_InvalidWithdrawn => first | k_is | kernel_rfl)
    (case aC_InvalidRegion => first | k_is | kernel_rfl)
    (case xL_InvalidRegion => first | k_is | kernel_rfl)
    (case sa_InvalidRegion => first | k_is | kernel_rfl)
    (case eC_InvalidRegion => first | k_is | kernel_rfl)
    (case tC_InvalidRegion => first | k_is | kernel_rfl)
    (case kC_InvalidRegion => first | k_is | kernel_rfl)
    (case iI_InvalidRegion => first | k_is | kernel_rfl)
    (case tI_InvalidRegion => first | k_is | kernel_rfl)
    (case lk_InvalidRegion => first | k_is | kernel_rfl)
    (case ce_InvalidRegion => first | k_is | kernel_rfl)
    (case co_InvalidRegion => first | k_is | kernel_rfl)
    (case vf_InvalidRegion => first | rfl | kernel_rfl)
    (case mf_InvalidRegion => first | kernel_rfl | kernel_rfl)
    (case rc_InvalidRegion => first | k_is | kernel_rfl)
    (case ow_InvalidRegion => first | ks_is | kernel_rfl)
    (case mr_InvalidRegion => first | k_is | kernel_rfl)
    (case no0_InvalidRegion => first | k_is | kernel_rfl)
    (case ga_InvalidRegion => first | k_is | kernel_rfl)
    (case gg_InvalidRegion => first | k_is | kernel_rfl)
    (case hd_InvalidRegion => first | k_is | kernel_rfl)
    (case fc_InvalidRegion => first | k_is | kernel_rfl)
    (case mo_InvalidRegion => first | k_is | kernel_rfl)
    (case u0_InvalidRegion => first | k_is | kernel_rfl)
    (case v0_InvalidRegion => first | k_is | kernel_rfl)
    (case u1_InvalidRegion => first | k_is | kernel_rfl)
    (case v1_InvalidRegion => first | k_is | kernel_rfl)
    (case u2_InvalidRegion => first | k_is | kernel_rfl)
    (case v2_InvalidRegion => first | k_is | kernel_rfl)
    (case u3_InvalidRegion => first | k_is | kernel_rfl)
    (case v3_InvalidRegion => first | k_is | kernel_rfl)
    (case aC_InvalidHops => first | k_is | kernel_rfl)
    (case xL_InvalidHops => first | k_is | kernel_rfl)
    (case sa_InvalidHops => first | k_is | kernel_rfl)
    (case eC_InvalidHops => first | k_is | kernel_rfl)
    (case tC_InvalidHops => first | k_is | kernel_rfl)
    (case kC_InvalidHops => first | k_is | kernel_rfl)
    (case iI_InvalidHops => first | k_is | kernel_rfl)
    (case tI_InvalidHops => first | k_is | kernel_rfl)
    (case lk_InvalidHops => first | k_is | kernel_rfl)
    (case ce_InvalidHops => first | k_is | kernel_rfl)
    (case co_InvalidHops => first | k_is | kernel_rfl)
    (case vf_InvalidHops => first | rfl | kernel_rfl)
    (case mf_InvalidHops => first | kernel_rfl | kernel_rfl)
    (case rc_InvalidHops => first | k_is | kernel_rfl)
    (case ow_InvalidHops => first | ks_is | kernel_rfl)
    (case mr_InvalidHops => first | k_is | kernel_rfl)
    (case no0_InvalidHops => first | k_is | kernel_rfl)
    (case ga_InvalidHops => first | k_is | kernel_rfl)
    (case gg_InvalidHops => first | k_is | kernel_rfl)
    (case hd_InvalidHops => first | k_is | kernel_rfl)
    (case fc_InvalidHops => first | k_is | kernel_rfl)
    (case mo_InvalidHops => first | k_is | kernel_rfl)
    (case u0_InvalidHops => first | k_is | kernel_rfl)
    (case v0_InvalidHops => first | k_is | kernel_rfl)
    (case u1_InvalidHops => first | k_is | kernel_rfl)
    (case v1_InvalidHops => first | k_is | kernel_rfl)
    (case u2_InvalidHops => first | k_is | kernel_rfl)
    (case v2_InvalidHops => first | k_is | kernel_rfl)
    (case u3_InvalidHops => first | k_is | kernel_rfl)
    (case v3_InvalidHops => first | k_is | kernel_rfl)
    (case aC_InvalidWord => first | k_is | kernel_rfl)
    (case xL_InvalidWord => first | k_is | kernel_rfl)
    (case sa_InvalidWord => first | k_is | kernel_rfl)
    (case eC_InvalidWord => first | k_is | kernel_rfl)
    (case tC_InvalidWord => first | k_is | kernel_rfl)
    (case kC_InvalidWord => first | k_is | kernel_rfl)
    (case iI_InvalidWord => first | k_is | kernel_rfl)
    (case tI_InvalidWord => first | k_is | kernel_rfl)
    (case lk_InvalidWord => first | k_is | kernel_rfl)
    (case ce_InvalidWord => first | k_is | kernel_rfl)
    (case co_InvalidWord => first | k_is | kernel_rfl)
    (case vf_InvalidWord => first | rfl | kernel_rfl)
    (case mf_InvalidWord => first | kernel_rfl | kernel_rfl)
    (case rc_InvalidWord => first | k_is | kernel_rfl)
    (case ow_InvalidWord => first | ks_is | kernel_rfl)
    (case mr_InvalidWord => first | k_is | kernel_rfl)
    (case no0_InvalidWord => first | k_is | kernel_rfl)
    (case ga_InvalidWord => first | k_is | kernel_rfl)
    (case gg_InvalidWord => first | k_is | kernel_rfl)
    (case hd_InvalidWord => first | k_is | kernel_rfl)
    (case fc_InvalidWord => first | k_is | kernel_rfl)
    (case mo_InvalidWord => first | k_is | kernel_rfl)
    (case u0_InvalidWord => first | k_is | kernel_rfl)
    (case v0_InvalidWord => first | k_is | kernel_rfl)
    (case u1_InvalidWord => first | k_is | kernel_rfl)
    (case v1_InvalidWord => first | k_is | kernel_rfl)
    (case u2_InvalidWord => first | k_is | kernel_rfl)
    (case v2_InvalidWord => first | k_is | kernel_rfl)
    (case u3_InvalidWord => first | k_is | kernel_rfl)
    (case v3_InvalidWord => first | k_is | kernel_rfl)
    (case aC_InvalidText => first | k_is | kernel_rfl)
    (case xL_InvalidText => first | k_is | kernel_rfl)
    (case sa_InvalidText => first | k_is | kernel_rfl)
    (case eC_InvalidText => first | k_is | kernel_rfl)
    (case tC_InvalidText => first | k_is | kernel_rfl)
    (case kC_InvalidText => first | k_is | kernel_rfl)
    (case iI_InvalidText => first | k_is | kernel_rfl)
    (case tI_InvalidText => first | k_is | kernel_rfl)
    (case lk_InvalidText => first | k_is | kernel_rfl)
    (case ce_InvalidText => first | k_is | kernel_rfl)
    (case co_InvalidText => first | k_is | kernel_rfl)
    (case vf_InvalidText => first | rfl | kernel_rfl)
    (case mf_InvalidText => first | kernel_rfl | kernel_rfl)
    (case rc_InvalidText => first | k_is | kernel_rfl)
    (case ow_InvalidText => first | ks_is | kernel_rfl)
    (case mr_InvalidText => first | k_is | kernel_rfl)
    (case no0_InvalidText => first | k_is | kernel_rfl)
    (case ga_InvalidText => first | k_is | kernel_rfl)
    (case gg_InvalidText => first | k_is | kernel_rfl)
    (case hd_InvalidText => first | k_is | kernel_rfl)
    (case fc_InvalidText => first | k_is | kernel_rfl)
    (case mo_InvalidText => first | k_is | kernel_rfl)
    (case u0_InvalidText => first | k_is | kernel_rfl)
    (case v0_InvalidText => first | k_is | kernel_rfl)
    (case u1_InvalidText => first | k_is | kernel_rfl)
    (case v1_InvalidText => first | k_is | kernel_rfl)
    (case u2_InvalidText => first | k_is | kernel_rfl)
    (case v2_InvalidText => first | k_is | kernel_rfl)
    (case u3_InvalidText => first | k_is | kernel_rfl)
    (case v3_InvalidText => first | k_is | kernel_rfl)
    (case aC_InvalidClaim => first | k_is | kernel_rfl)
    (case xL_InvalidClaim => first | k_is | kernel_rfl)
    (case sa_InvalidClaim => first | k_is | kernel_rfl)
    (case eC_InvalidClaim => first | k_is | kernel_rfl)
    (case tC_InvalidClaim => first | k_is | kernel_rfl)
    (case kC_InvalidClaim => first | k_is | kernel_rfl)
    (case iI_InvalidClaim => first | k_is | kernel_rfl)
    (case tI_InvalidClaim => first | k_is | kernel_rfl)
    (case lk_InvalidClaim => first | k_is | kernel_rfl)
    (case ce_InvalidClaim => first | k_is | kernel_rfl)
    (case co_InvalidClaim => first | k_is | kernel_rfl)
    (case vf_InvalidClaim => first | rfl | kernel_rfl)
    (case mf_InvalidClaim => first | kernel_rfl | kernel_rfl)
    (case rc_InvalidClaim => first | k_is | kernel_rfl)
    (case ow_InvalidClaim => first | ks_is | kernel_rfl)
    (case mr_InvalidClaim => first | k_is | kernel_rfl)
    (case no0_InvalidClaim => first | k_is | kernel_rfl)
    (case ga_InvalidClaim => first | k_is | kernel_rfl)
    (case gg_InvalidClaim => first | k_is | kernel_rfl)
    (case hd_InvalidClaim => first | k_is | kernel_rfl)
    (case fc_InvalidClaim => first | k_is | kernel_rfl)
    (case mo_InvalidClaim => first | k_is | kernel_rfl)
    (case u0_InvalidClaim => first | k_is | kernel_rfl)
    (case v0_InvalidClaim => first | k_is | kernel_rfl)
    (case u1_InvalidClaim => first | k_is | kernel_rfl)
    (case v1_InvalidClaim => first | k_is | kernel_rfl)
    (case u2_InvalidClaim => first | k_is | kernel_rfl)
    (case v2_InvalidClaim => first | k_is | kernel_rfl)
    (case u3_InvalidClaim => first | k_is | kernel_rfl)
    (case v3_InvalidClaim => first | k_is | kernel_rfl)
    (case aC_InvalidCommand => first | k_is | kernel_rfl)
    (case xL_InvalidCommand => first | k_is | kernel_rfl)
    (case sa_InvalidCommand => first | k_is | kernel_rfl)
    (case eC_InvalidCommand => first | k_is | kernel_rfl)
    (case tC_InvalidCommand => first | k_is | kernel_rfl)
    (case kC_InvalidCommand => first | k_is | kernel_rfl)
    (case iI_InvalidCommand => first | k_is | kernel_rfl)
    (case tI_InvalidCommand => first | k_is | kernel_rfl)
    (case lk_InvalidCommand => first | k_is | kernel_rfl)
    (case ce_InvalidCommand => first | k_is | kernel_rfl)
    (case co_InvalidCommand => first | k_is | kernel_rfl)
    (case vf_InvalidCommand => first | rfl | kernel_rfl)
    (case mf_InvalidCommand => first | kernel_rfl | kernel_rfl)
    (case rc_InvalidCommand => first | k_is | kernel_rfl)
    (case ow_InvalidCommand => first | ks_is | kernel_rfl)
    (case mr_InvalidCommand => first | k_is | kernel_rfl)
    (case no0_InvalidCommand => first | k_is | kernel_rfl)
    (case ga_InvalidCommand => first | k_is | kernel_rfl)
    (case gg_InvalidCommand => first | k_is | kernel_rfl)
    (case hd_InvalidCommand => first | k_is | kernel_rfl)
    (case fc_InvalidCommand => first | k_is | kernel_rfl)
    (case mo_InvalidCommand => first | k_is | kernel_rfl)
    (case u0_InvalidCommand => first | k_is | kernel_rfl)
    (case v0_InvalidCommand => first | k_is | kernel_rfl)
    (case u1_InvalidCommand => first | k_is | kernel_rfl)
    (case v1_InvalidCommand => first | k_is | kernel_rfl)
    (case u2_InvalidCommand => first | k_is | kernel_rfl)
    (case v2_InvalidCommand => first | k_is | kernel_rfl)
    (case u3_InvalidCommand => first | k_is | kernel_rfl)
    (case v3_InvalidCommand => first | k_is | kernel_rfl)
    (case aC_UnknownStretch => first | k_is | kernel_rfl)
    (case xL_UnknownStretch => first | k_is | kernel_rfl)
    (case sa_UnknownStretch => first | k_is | kernel_rfl)
    (case eC_UnknownStretch => first | k_is | kernel_rfl)
    (case tC_UnknownStretch => first | k_is | kernel_rfl)
    (case kC_UnknownStretch => first | k_is | kernel_rfl)
    (case iI_UnknownStretch => first | k_is | kernel_rfl)
    (case tI_UnknownStretch => first | k_is | kernel_rfl)
    (case lk_UnknownStretch => first | k_is | kernel_rfl)
    (case ce_UnknownStretch => first | k_is | kernel_rfl)
    (case co_UnknownStretch => first | k_is | kernel_rfl)
    (case vf_UnknownStretch => first | rfl | kernel_rfl)
    (case mf_UnknownStretch => first | kernel_rfl | kernel_rfl)
    (case rc_UnknownStretch => first | k_is | kernel_rfl)
    (case ow_UnknownStretch => first | ks_is | kernel_rfl)
    (case mr_UnknownStretch => first | k_is | kernel_rfl)
    (case no0_UnknownStretch => first | k_is | kernel_rfl)
    (case ga_UnknownStretch => first | k_is | kernel_rfl)
    (case gg_UnknownStretch => first | k_is | kernel_rfl)
    (case hd_UnknownStretch => first | k_is | kernel_rfl)
    (case fc_UnknownStretch => first | k_is | kernel_rfl)
    (case mo_UnknownStretch => first | k_is | kernel_rfl)
    (case u0_UnknownStretch => first | k_is | kernel_rfl)
    (case v0_UnknownStretch => first | k_is | kernel_rfl)
    (case u1_UnknownStretch => first | k_is | kernel_rfl)
    (case v1_UnknownStretch => first | k_is | kernel_rfl)
    (case u2_UnknownStretch => first | k_is | kernel_rfl)
    (case v2_UnknownStretch => first | k_is | kernel_rfl)
    (case u3_UnknownStretch => first | k_is | kernel_rfl)
    (case v3_UnknownStretch => first | k_is | kernel_rfl)
    (case aC_UnknownHop => first | k_is | kernel_rfl)
    (case xL_UnknownHop => first | k_is | kernel_rfl)
    (case sa_UnknownHop => first | k_is | kernel_rfl)
    (case eC_UnknownHop => first | k_is | kernel_rfl)
    (case tC_UnknownHop => first | k_is | kernel_rfl)
    (case kC_UnknownHop => first | k_is | kernel_rfl)
    (case iI_UnknownHop => first | k_is | kernel_rfl)
    (case tI_UnknownHop => first | k_is | kernel_rfl)
    (case lk_UnknownHop => first | k_is | kernel_rfl)
    (case ce_UnknownHop => first | k_is | kernel_rfl)
    (case co_UnknownHop => first | k_is | kernel_rfl)
    (case vf_UnknownHop => first | rfl | kernel_rfl)
    (case mf_UnknownHop => first | kernel_rfl | kernel_rfl)
    (case rc_UnknownHop => first | k_is | kernel_rfl)
    (case ow_UnknownHop => first | ks_is | kernel_rfl)
    (case mr_UnknownHop => first | k_is | kernel_rfl)
    (case no0_UnknownHop => first | k_is | kernel_rfl)
    (case ga_UnknownHop => first | k_is | kernel_rfl)
    (case gg_UnknownHop => first | k_is | kernel_rfl)
    (case hd_UnknownHop => first | k_is | kernel_rfl)
    (case fc_UnknownHop => first | k_is | kernel_rfl)
    (case mo_UnknownHop => first | k_is | kernel_rfl)
    (case u0_UnknownHop => first | k_is | kernel_rfl)
    (case v0_UnknownHop => first | k_is | kernel_rfl)
    (case u1_UnknownHop => first | k_is | kernel_rfl)
    (case v1_UnknownHop => first | k_is | kernel_rfl)
    (case u2_UnknownHop => first | k_is | kernel_rfl)
    (case v2_UnknownHop => first | k_is | kernel_rfl)
    (case u3_UnknownHop => first | k_is | kernel_rfl)
    (case v3_UnknownHop => first | k_is | kernel_rfl)
    (case aC_UnknownGoal => first | k_is | kernel_rfl)
    (case xL_UnknownGoal => first | k_is | kernel_rfl)
    (case sa_UnknownGoal => first | k_is | kernel_rfl)
    (case eC_UnknownGoal => first | k_is | kernel_rfl)
    (case tC_UnknownGoal => first | k_is | kernel_rfl)
    (case kC_UnknownGoal => first | k_is | kernel_rfl)
    (case iI_UnknownGoal => first | k_is | kernel_rfl)
    (case tI_UnknownGoal => first | k_is | kernel_rfl)
    (case lk_UnknownGoal => first | k_is | kernel_rfl)
    (case ce_UnknownGoal => first | k_is | kernel_rfl)
    (case co_UnknownGoal => first | k_is | kernel_rfl)
    (case vf_UnknownGoal => first | rfl | kernel_rfl)
    (case mf_UnknownGoal => first | kernel_rfl | kernel_rfl)
    (case rc_UnknownGoal => first | k_is | kernel_rfl)
    (case ow_UnknownGoal => first | ks_is | kernel_rfl)
    (case mr_UnknownGoal => first | k_is | kernel_rfl)
    (case no0_UnknownGoal => first | k_is | kernel_rfl)
    (case ga_UnknownGoal => first | k_is | kernel_rfl)
    (case gg_UnknownGoal => first | k_is | kernel_rfl)
    (case hd_UnknownGoal => first | k_is | kernel_rfl)
    (case fc_UnknownGoal => first | k_is | kernel_rfl)
    (case mo_UnknownGoal => first | k_is | kernel_rfl)
    (case u0_UnknownGoal => first | k_is | kernel_rfl)
    (case v0_UnknownGoal => first | k_is | kernel_rfl)
    (case u1_UnknownGoal => first | k_is | kernel_rfl)
    (case v1_UnknownGoal => first | k_is | kernel_rfl)
    (case u2_UnknownGoal => first | k_is | kernel_rfl)
    (case v2_UnknownGoal => first | k_is | kernel_rfl)
    (case u3_UnknownGoal => first | k_is | kernel_rfl)
    (case v3_UnknownGoal => first | k_is | kernel_rfl)
    (case aC_UnknownItem => first | k_is | kernel_rfl)
    (case xL_UnknownItem => first | k_is | kernel_rfl)
    (case sa_UnknownItem => first | k_is | kernel_rfl)
    (case eC_UnknownItem => first | k_is | kernel_rfl)
    (case tC_UnknownItem => first | k_is | kernel_rfl)
    (case kC_UnknownItem => first | k_is | kernel_rfl)
    (case iI_UnknownItem => first | k_is | kernel_rfl)
    (case tI_UnknownItem => first | k_is | kernel_rfl)
    (case lk_UnknownItem => first | k_is | kernel_rfl)
    (case ce_UnknownItem => first | k_is | kernel_rfl)
    (case co_UnknownItem => first | k_is | kernel_rfl)
    (case vf_UnknownItem => first | rfl | kernel_rfl)
    (case mf_UnknownItem => first | kernel_rfl | kernel_rfl)
    (case rc_UnknownItem => first | k_is | kernel_rfl)
    (case ow_UnknownItem => first | ks_is | kernel_rfl)
    (case mr_UnknownItem => first | k_is | kernel_rfl)
    (case no0_UnknownItem => first | k_is | kernel_rfl)
    (case ga_UnknownItem => first | k_is | kernel_rfl)
    (case gg_UnknownItem => first | k_is | kernel_rfl)
    (case hd_UnknownItem => first | k_is | kernel_rfl)
    (case fc_UnknownItem => first | k_is | kernel_rfl)
    (case mo_UnknownItem => first | k_is | kernel_rfl)
    (case u0_UnknownItem => first | k_is | kernel_rfl)
    (case v0_UnknownItem => first | k_is | kernel_rfl)
    (case u1_UnknownItem => first | k_is | kernel_rfl)
    (case v1_UnknownItem => first | k_is | kernel_rfl)
    (case u2_UnknownItem => first | k_is | kernel_rfl)
    (case v2_UnknownItem => first | k_is | kernel_rfl)
    (case u3_UnknownItem => first | k_is | kernel_rfl)
    (case v3_UnknownItem => first | k_is | kernel_rfl)
    (case aC_OtherWidth => first | k_is | kernel_rfl)
    (case xL_OtherWidth => first | k_is | kernel_rfl)
    (case sa_OtherWidth => first | k_is | kernel_rfl)
    (case eC_OtherWidth => first | k_is | kernel_rfl)
    (case tC_OtherWidth => first | k_is | kernel_rfl)
    (case kC_OtherWidth => first | k_is | kernel_rfl)
    (case iI_OtherWidth => first | k_is | kernel_rfl)
    (case tI_OtherWidth => first | k_is | kernel_rfl)
    (case lk_OtherWidth => first | k_is | kernel_rfl)
    (case ce_OtherWidth => first | k_is | kernel_rfl)
    (case co_OtherWidth => first | k_is | kernel_rfl)
    (case vf_OtherWidth => first | rfl | kernel_rfl)
    (case mf_OtherWidth => first | kernel_rfl | kernel_rfl)
    (case rc_OtherWidth => first | k_is | kernel_rfl)
    (case ow_OtherWidth => first | ks_is | kernel_rfl)
    (case mr_OtherWidth => first | k_is | kernel_rfl)
    (case no0_OtherWidth => first | k_is | kernel_rfl)
    (case no1_OtherWidth => first | k_is | kernel_rfl)
    (case ga_OtherWidth => first | k_is | kernel_rfl)
    (case gg_OtherWidth => first | k_is | kernel_rfl)
    (case hd_OtherWidth => first | k_is | kernel_rfl)
    (case fc_OtherWidth => first | k_is | kernel_rfl)
    (case mo_OtherWidth => first | k_is | kernel_rfl)
    (case u0_OtherWidth => first | k_is | kernel_rfl)
    (case v0_OtherWidth => first | k_is | kernel_rfl)
    (case u1_OtherWidth => first | k_is | kernel_rfl)
    (case v1_OtherWidth => first | k_is | kernel_rfl)
    (case u2_OtherWidth => first | k_is | kernel_rfl)
    (case v2_OtherWidth => first | k_is | kernel_rfl)
    (case u3_OtherWidth => first | k_is | kernel_rfl)
    (case v3_OtherWidth => first | k_is | kernel_rfl)
    (case aC_OtherHops => first | k_is | kernel_rfl)
    (case xL_OtherHops => first | k_is | kernel_rfl)
    (case sa_OtherHops => first | k_is | kernel_rfl)
    (case eC_OtherHops => first | k_is | kernel_rfl)
    (case tC_OtherHops => first | k_is | kernel_rfl)
    (case kC_OtherHops => first | k_is | kernel_rfl)
    (case iI_OtherHops => first | k_is | kernel_rfl)
    (case tI_OtherHops => first | k_is | kernel_rfl)
    (case lk_OtherHops => first | k_is | kernel_rfl)
    (case ce_OtherHops => first | k_is | kernel_rfl)
    (case co_OtherHops => first | k_is | kernel_rfl)
    (case vf_OtherHops => first | rfl | kernel_rfl)
    (case mf_OtherHops => first | kernel_rfl | kernel_rfl)
    (case rc_OtherHops => first | k_is | kernel_rfl)
    (case ow_OtherHops => first | ks_is | kernel_rfl)
    (case mr_OtherHops => first | k_is | kernel_rfl)
    (case no0_OtherHops => first | k_is | kernel_rfl)
    (case no1_OtherHops => first | k_is | kernel_rfl)
    (case ga_OtherHops => first | k_is | kernel_rfl)
    (case gg_OtherHops => first | k_is | kernel_rfl)
    (case hd_OtherHops => first | k_is | kernel_rfl)
    (case fc_OtherHops => first | k_is | kernel_rfl)
    (case mo_OtherHops => first | k_is | kernel_rfl)
    (case u0_OtherHops => first | k_is | kernel_rfl)
    (case v0_OtherHops => first | k_is | kernel_rfl)
    (case u1_OtherHops => first | k_is | kernel_rfl)
    (case v1_OtherHops => first | k_is | kernel_rfl)
    (case u2_OtherHops => first | k_is | kernel_rfl)
    (case v2_OtherHops => first | k_is | kernel_rfl)
    (case u3_OtherHops => first | k_is | kernel_rfl)
    (case v3_OtherHops => first | k_is | kernel_rfl)
    (case aC_WrongMember => first | k_is | kernel_rfl)
    (case xL_WrongMember => first | k_is | kernel_rfl)
    (case sa_WrongMember => first | k_is | kernel_rfl)
    (case eC_WrongMember => first | k_is | kernel_rfl)
    (case tC_WrongMember => first | k_is | kernel_rfl)
    (case kC_WrongMember => first | k_is | kernel_rfl)
    (case iI_WrongMember => first | k_is | kernel_rfl)
    (case tI_WrongMember => first | k_is | kernel_rfl)
    (case lk_WrongMember => first | k_is | kernel_rfl)
    (case ce_WrongMember => first | k_is | kernel_rfl)
    (case co_WrongMember => first | k_is | kernel_rfl)
    (case vf_WrongMember => first | rfl | kernel_rfl)
    (case mf_WrongMember => first | kernel_rfl | kernel_rfl)
    (case rc_WrongMember => first | k_is | kernel_rfl)
    (case ow_WrongMember => first | ks_is | kernel_rfl)
    (case mr_WrongMember => first | k_is | kernel_rfl)
    (case no0_WrongMember => first | k_is | kernel_rfl)
    (case ga_WrongMember => first | k_is | kernel_rfl)
    (case gg_WrongMember => first | k_is | kernel_rfl)
    (case hd_WrongMember => first | k_is | kernel_rfl)
    (case fc_WrongMember => first | k_is | kernel_rfl)
    (case mo_WrongMember => first | k_is | kernel_rfl)
    (case u0_WrongMember => first | k_is | kernel_rfl)
    (case v0_WrongMember => first | k_is | kernel_rfl)
    (case u1_WrongMember => first | k_is | kernel_rfl)
    (case v1_WrongMember => first | k_is | kernel_rfl)
    (case u2_WrongMember => first | k_is | kernel_rfl)
    (case v2_WrongMember => first | k_is | kernel_rfl)
    (case u3_WrongMember => first | k_is | kernel_rfl)
    (case v3_WrongMember => first | k_is | kernel_rfl)
    (case aC_Stranger => first | k_is | kernel_rfl)
    (case xL_Stranger => first | k_is | kernel_rfl)
    (case sa_Stranger => first | k_is | kernel_rfl)
    (case eC_Stranger => first | k_is | kernel_rfl)
    (case tC_Stranger => first | k_is | kernel_rfl)
    (case kC_Stranger => first | k_is | kernel_rfl)
    (case iI_Stranger => first | k_is | kernel_rfl)
    (case tI_Stranger => first | k_is | kernel_rfl)
    (case lk_Stranger => first | k_is | kernel_rfl)
    (case ce_Stranger => first | k_is | kernel_rfl)
    (case co_Stranger => first | k_is | kernel_rfl)
    (case vf_Stranger => first | rfl | kernel_rfl)
    (case mf_Stranger => first | kernel_rfl | kernel_rfl)
    (case rc_Stranger => first | k_is | kernel_rfl)
    (case ow_Stranger => first | ks_is | kernel_rfl)
    (case mr_Stranger => first | k_is | kernel_rfl)
    (case no0_Stranger => first | k_is | kernel_rfl)
    (case ga_Stranger => first | k_is | kernel_rfl)
    (case gg_Stranger => first | k_is | kernel_rfl)
    (case hd_Stranger => first | k_is | kernel_rfl)
    (case fc_Stranger => first | k_is | kernel_rfl)
    (case mo_Stranger => first | k_is | kernel_rfl)
    (case u0_Stranger => first | k_is | kernel_rfl)
    (case v0_Stranger => first | k_is | kernel_rfl)
    (case u1_Stranger => first | k_is | kernel_rfl)
    (case v1_Stranger => first | k_is | kernel_rfl)
    (case u2_Stranger => first | k_is | kernel_rfl)
    (case v2_Stranger => first | k_is | kernel_rfl)
    (case u3_Stranger => first | k_is | kernel_rfl)
    (case v3_Stranger => first | k_is | kernel_rfl)
    (case aC_NoOrder => first | k_is | kernel_rfl)
    (case xL_NoOrder => first | k_is | kernel_rfl)
    (case sa_NoOrder => first | k_is | kernel_rfl)
    (case eC_NoOrder => first | k_is | kernel_rfl)
    (case tC_NoOrder => first | k_is | kernel_rfl)
    (case kC_NoOrder => first | k_is | kernel_rfl)
    (case iI_NoOrder => first | k_is | kernel_rfl)
    (case tI_NoOrder => first | k_is | kernel_rfl)
    (case lk_NoOrder => first | k_is | kernel_rfl)
    (case ce_NoOrder => first | k_is | kernel_rfl)
    (case co_NoOrder => first | k_is | kernel_rfl)
    (case vf_NoOrder => first | rfl | kernel_rfl)
    (case mf_NoOrder => first | kernel_rfl | kernel_rfl)
    (case rc_NoOrder => first | k_is | kernel_rfl)
    (case ow_NoOrder => first | ks_is | kernel_rfl)
    (case mr_NoOrder => first | k_is | kernel_rfl)
    (case ga_NoOrder => first | k_is | kernel_rfl)
    (case gg_NoOrder => first | k_is | kernel_rfl)
    (case hd_NoOrder => first | k_is | kernel_rfl)
    (case fc_NoOrder => first | k_is | kernel_rfl)
    (case mo_NoOrder => first | k_is | kernel_rfl)
    (case u0_NoOrder => first | k_is | kernel_rfl)
    (case v0_NoOrder => first | k_is | kernel_rfl)
    (case u1_NoOrder => first | k_is | kernel_rfl)
    (case v1_NoOrder => first | k_is | kernel_rfl)
    (case u2_NoOrder => first | k_is | kernel_rfl)
    (case v2_NoOrder => first | k_is | kernel_rfl)
    (case u3_NoOrder => first | k_is | kernel_rfl)
    (case v3_NoOrder => first | k_is | kernel_rfl)
    (case aC_AlreadySo => first | k_is | kernel_rfl)
    (case xL_AlreadySo => first | k_is | kernel_rfl)
    (case sa_AlreadySo => first | k_is | kernel_rfl)
    (case eC_AlreadySo => first | k_is | kernel_rfl)
    (case tC_AlreadySo => first | k_is | kernel_rfl)
    (case kC_AlreadySo => first | k_is | kernel_rfl)
    (case iI_AlreadySo => first | k_is | kernel_rfl)
    (case tI_AlreadySo => first | k_is | kernel_rfl)
    (case lk_AlreadySo => first | k_is | kernel_rfl)
    (case ce_AlreadySo => first | k_is | kernel_rfl)
    (case co_AlreadySo => first | k_is | kernel_rfl)
    (case vf_AlreadySo => first | rfl | kernel_rfl)
    (case mf_AlreadySo => first | kernel_rfl | kernel_rfl)
    (case rc_AlreadySo => first | k_is | kernel_rfl)
    (case ow_AlreadySo => first | ks_is | kernel_rfl)
    (case mr_AlreadySo => first | k_is | kernel_rfl)
    (case no0_AlreadySo => first | k_is | kernel_rfl)
    (case ga_AlreadySo => first | k_is | kernel_rfl)
    (case gg_AlreadySo => first | k_is | kernel_rfl)
    (case hd_AlreadySo => first | k_is | kernel_rfl)
    (case fc_AlreadySo => first | k_is | kernel_rfl)
    (case mo_AlreadySo => first | k_is | kernel_rfl)
    (case u0_AlreadySo => first | k_is | kernel_rfl)
    (case v0_AlreadySo => first | k_is | kernel_rfl)
    (case u1_AlreadySo => first | k_is | kernel_rfl)
    (case v1_AlreadySo => first | k_is | kernel_rfl)
    (case u2_AlreadySo => first | k_is | kernel_rfl)
    (case v2_AlreadySo => first | k_is | kernel_rfl)
    (case u3_AlreadySo => first | k_is | kernel_rfl)
    (case v3_AlreadySo => first | k_is | kernel_rfl)
    (case aC_NothingToUndo => first | k_is | kernel_rfl)
    (case xL_NothingToUndo => first | k_is | kernel_rfl)
    (case sa_NothingToUndo => first | k_is | kernel_rfl)
    (case eC_NothingToUndo => first | k_is | kernel_rfl)
    (case tC_NothingToUndo => first | k_is | kernel_rfl)
    (case kC_NothingToUndo => first | k_is | kernel_rfl)
    (case iI_NothingToUndo => first | k_is | kernel_rfl)
    (case tI_NothingToUndo => first | k_is | kernel_rfl)
    (case lk_NothingToUndo => first | k_is | kernel_rfl)
    (case ce_NothingToUndo => first | k_is | kernel_rfl)
    (case co_NothingToUndo => first | k_is | kernel_rfl)
    (case vf_NothingToUndo => first | rfl | kernel_rfl)
    (case mf_NothingToUndo => first | kernel_rfl | kernel_rfl)
    (case rc_NothingToUndo => first | k_is | kernel_rfl)
    (case ow_NothingToUndo => first | ks_is | kernel_rfl)
    (case mr_NothingToUndo => first | k_is | kernel_rfl)
    (case ga_NothingToUndo => first | k_is | kernel_rfl)
    (case gg_NothingToUndo => first | k_is | kernel_rfl)
    (case hd_NothingToUndo => first | k_is | kernel_rfl)
    (case fc_NothingToUndo => first | k_is | kernel_rfl)
    (case mo_NothingToUndo => first | k_is | kernel_rfl)
    (case u0_NothingToUndo => first | k_is | kernel_rfl)
    (case v0_NothingToUndo => first | k_is | kernel_rfl)
    (case u1_NothingToUndo => first | k_is | kernel_rfl)
    (case v1_NothingToUndo => first | k_is | kernel_rfl)
    (case u2_NothingToUndo => first | k_is | kernel_rfl)
    (case v2_NothingToUndo => first | k_is | kernel_rfl)
    (case u3_NothingToUndo => first | k_is | kernel_rfl)
    (case v3_NothingToUndo => first | k_is | kernel_rfl)
    (case aC_CommandFailed => first | k_is | kernel_rfl)
    (case xL_CommandFailed => first | k_is | kernel_rfl)
    (case sa_CommandFailed => first | k_is | kernel_rfl)
    (case eC_CommandFailed => first | k_is | kernel_rfl)
    (case tC_CommandFailed => first | k_is | kernel_rfl)
    (case kC_CommandFailed => first | k_is | kernel_rfl)
    (case iI_CommandFailed => first | k_is | kernel_rfl)
    (case tI_CommandFailed => first | k_is | kernel_rfl)
    (case lk_CommandFailed => first | k_is | kernel_rfl)
    (case ce_CommandFailed => first | k_is | kernel_rfl)
    (case co_CommandFailed => first | k_is | kernel_rfl)
    (case vf_CommandFailed => first | rfl | kernel_rfl)
    (case mf_CommandFailed => first | kernel_rfl | kernel_rfl)
    (case rc_CommandFailed => first | k_is | kernel_rfl)
    (case ow_CommandFailed => first | ks_is | kernel_rfl)
    (case mr_CommandFailed => first | k_is | kernel_rfl)
    (case no0_CommandFailed => first | k_is | kernel_rfl)
    (case ga_CommandFailed => first | k_is | kernel_rfl)
    (case gg_CommandFailed => first | k_is | kernel_rfl)
    (case hd_CommandFailed => first | k_is | kernel_rfl)
    (case fc_CommandFailed => first | k_is | kernel_rfl)
    (case mo_CommandFailed => first | k_is | kernel_rfl)
    (case u0_CommandFailed => first | k_is | kernel_rfl)
    (case v0_CommandFailed => first | k_is | kernel_rfl)
    (case u1_CommandFailed => first | k_is | kernel_rfl)
    (case v1_CommandFailed => first | k_is | kernel_rfl)
    (case u2_CommandFailed => first | k_is | kernel_rfl)
    (case v2_CommandFailed => first | k_is | kernel_rfl)
    (case u3_CommandFailed => first | k_is | kernel_rfl)
    (case v3_CommandFailed => first | k_is | kernel_rfl)
    (case aC_TooMany => first | k_is | kernel_rfl)
    (case xL_TooMany => first | k_is | kernel_rfl)
    (case sa_TooMany => first | k_is | kernel_rfl)
    (case eC_TooMany => first | k_is | kernel_rfl)
    (case tC_TooMany => first | k_is | kernel_rfl)
    (case kC_TooMany => first | k_is | kernel_rfl)
    (case iI_TooMany => first | k_is | kernel_rfl)
    (case tI_TooMany => first | k_is | kernel_rfl)
    (case lk_TooMany => first | k_is | kernel_rfl)
    (case ce_TooMany => first | k_is | kernel_rfl)
    (case co_TooMany => first | k_is | kernel_rfl)
    (case vf_TooMany => first | rfl | kernel_rfl)
    (case mf_TooMany => first | kernel_rfl | kernel_rfl)
    (case rc_TooMany => first | k_is | kernel_rfl)
    (case ow_TooMany => first | ks_is | kernel_rfl)
    (case mr_TooMany => first | k_is | kernel_rfl)
    (case no0_TooMany => first | k_is | kernel_rfl)
    (case no1_TooMany => first | k_is | kernel_rfl)
    (case ga_TooMany => first | k_is | kernel_rfl)
    (case gg_TooMany => first | k_is | kernel_rfl)
    (case hd_TooMany => first | k_is | kernel_rfl)
    (case fc_TooMany => first | k_is | kernel_rfl)
    (case mo_TooMany => first | k_is | kernel_rfl)
    (case u0_TooMany => first | k_is | kernel_rfl)
    (case v0_TooMany => first | k_is | kernel_rfl)
    (case u1_TooMany => first | k_is | kernel_rfl)
    (case v1_TooMany => first | k_is | kernel_rfl)
    (case u2_TooMany => first | k_is | kernel_rfl)
    (case v2_TooMany => first | k_is | kernel_rfl)
    (case u3_TooMany => first | k_is | kernel_rfl)
    (case v3_TooMany => first | k_is | kernel_rfl)
    (case ic_InvalidStretch => first | k_is | kernel_rfl)
    (case rr_InvalidStretch => first | k_is | kernel_rfl)
    (case ic_NoOrder => first | k_is | kernel_rfl)
    (case rr_NoOrder => first | k_is | kernel_rfl)
    (case ic_NothingToUndo => first | k_is | kernel_rfl)
    (case rr_NothingToUndo => first | k_is | kernel_rfl)
    (case ic_OtherHops => first | k_is | kernel_rfl)
    (case rr_OtherHops => first | k_is | kernel_rfl)
    (case ic_OtherWidth => first | k_is | kernel_rfl)
    (case rr_OtherWidth => first | k_is | kernel_rfl)
    (case ic_UnknownHop => first | k_is | kernel_rfl)
    (case rr_UnknownHop => first | k_is | kernel_rfl)
    (case as_OtherWidth => first | k_is | kernel_rfl)
    (case as_OtherHops => first | k_is | kernel_rfl)
    (case as_NoOrder => first | k_is | kernel_rfl)
    (case as_InvalidWidth => first | k_is | kernel_rfl)
    (case as_UnknownStretch => first | k_is | kernel_rfl)
    (case as_CommandFailed => first | k_is | kernel_rfl)
    (case xs_InvalidWidth_InvalidStretch => first | k_is | kernel_rfl)
    (case xs_InvalidWidth_UnknownGoal => first | k_is | kernel_rfl)
    (case xs_InvalidWidth_WrongMember => first | k_is | kernel_rfl)
    (case xs_UnknownHop_InvalidStretch => first | k_is | kernel_rfl)
    (case xs_UnknownHop_UnknownGoal => first | k_is | kernel_rfl)
    (case xs_UnknownHop_WrongMember => first | k_is | kernel_rfl)
    (case xs_Stranger_InvalidStretch => first | k_is | kernel_rfl)
    (case xs_Stranger_UnknownGoal => first | k_is | kernel_rfl)
    (case xs_Stranger_WrongMember => first | k_is | kernel_rfl)
    (case xs_TooMany_InvalidStretch => first | k_is | kernel_rfl)
    (case xs_TooMany_UnknownGoal => first | k_is | kernel_rfl)
    (case xs_TooMany_WrongMember => first | k_is | kernel_rfl)

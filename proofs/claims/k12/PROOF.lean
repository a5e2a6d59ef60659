import PyProof.Rows.All
import Wide.All
import OpenK.AllK
import Wide.FinOn
import HandS.Base
import HandS.Call
import HandS.Exc
import HandS.ExcSuper
import KE.KExcPX
import KE.KExcSuper
import HandS.Nested
import HandS.ExcInit
import HandS.IntHex
import HandS.FStr
import HandS.StrMore
import KE.KxField
import PyProof.Rows.StrPadFill
import HandS.Iter
import HandS.Walk
import PyProof.Draws
import PyProof.EnumMake
import PyProof.TupleIter
import HandS.Comp
import HandS.DictComp
import HandS.ForMost
import HandS.IsInst
import HandS.WideBits
import HandS.Codes
import KE.SortKeyHeap
import HandS.SortKw
import HandS.More
import HandS.Star
import HandS.Property
import HandS.MakeKw
import PyProof.DictUpdate
import PyProof.DictDisplay
import PyProof.ZipIter
import HandS.Zip0
import HandS.Lambda
import HandS.ExcField
import HandS.ExcIs
import KE.KExcIs
import KE.KEqDict
import PyProof.InstNe
import HandS.DictTup
import KE.SortData
import HandS.ListItems
import PyProof.P3Eq
import PyProof.ReprBulk
import HandS.DeepEq
import PyProof.NeKinds
import HandS.EndTab
import KE.KNestM
import KE.RegKSuper
import PySem.Challenge.RW_coverways_k12_stretches
set_option Elab.async false
set_option linter.all false
set_option maxRecDepth 100000
set_option maxHeartbeats 2000000
/-! ## ValueError.__init__ bound to an instance, by super() -/
namespace PySem
namespace VSX
/-- what is asked of the name of a built-in class' __init__ -/
structure InitW (T I : String) : Prop where
  ty : typeOf (.builtin I) = pure (.type "wrapper_descriptor")
  nac : (kfb_private% "nameAndClass") (Value.builtin I) = (pure (("__init__" : Str), Value.type T) : Sem (Str × Value))
theorem initW_VE : InitW "ValueError" "ValueError.__init__" := ⟨by show builtinType _ = _; rw [builtinType_eq_fast]; kernel_rfl, by kernel_rfl⟩
theorem initW_LE : InitW "LookupError" "LookupError.__init__" := ⟨by show builtinType _ = _; rw [builtinType_eq_fast]; kernel_rfl, by kernel_rfl⟩
theorem initW_RE : InitW "RuntimeError" "RuntimeError.__init__" := ⟨by show builtinType _ = _; rw [builtinType_eq_fast]; kernel_rfl, by kernel_rfl⟩
theorem initW_AE : InitW "ArithmeticError" "ArithmeticError.__init__" := ⟨by show builtinType _ = _; rw [builtinType_eq_fast]; kernel_rfl, by kernel_rfl⟩
abbrev bwI (I : String) (x : Addr) : Obj := { cls := .type "method-wrapper", dict := none, data := .fields #[.builtin I, .ref x], slots := #[] }
section
open PySem.W
variable {prog : Program} {w : World} {M : Model} {A : Around} {E : Value → Shared → Prop} {h : Heap} {g : Array GenState} {d : Drawn} {t : Nat} {os : OsState}
theorem run_wdI {T I : String} (F : InitW T I) {x C : Addr} {P : Fin → Shared → Prop} (hin : W.Looks M h (isInstance (.ref x) (.type T)) true) (hq : P (.done (.ret (.ref h.objs.size))) ⟨h.push (bwI I x), g, d, t, os⟩) :
    wpAny M A (Builtin.«wrapper_descriptor.__get__» ⟨[.builtin I, .ref x, .ref C], []⟩) P E ⟨h, g, d, t, os⟩ := by
  unfold Builtin.«wrapper_descriptor.__get__»
  refine wpAny_bind (wpAny_of_eq (a := (.builtin I, some (.ref x), some (.ref C))) (by first | rfl | kernel_rfl) ?_)
  show wpAny M A ((kfb_private% "checkInstance") (.builtin I) (.ref x) >>= fun _ => newFields "method-wrapper" [.builtin I, .ref x] >>= fun r => ret r) P E _
  refine wpAny_bind ?_
  show wpAny M A ((kfb_private% "nameAndClass") (.builtin I) >>= _) _ E _
  refine wpAny_bind (wpAny_of_eq F.nac ?_)
  show wpAny M A (isInstance (.ref x) (.type T) >>= _) _ E _
  refine wpAny_bind (hin.at ?_)
  refine KFB.if_not rfl ?_
  refine wpAny_pure ?_
  exact wpAny_bind (wpAny_newObj_type (wpAny_pure hq))
theorem super_gaI {T I : String} (F : InitW T I) {so D x C : Addr} {l₀ l : List Value} {K : Frag} {name : Str} {tk : Tok} {Q : Fin → Shared → Prop}
    (hso : h.get? so = some { cls := .type "super", dict := none, data := .fields #[.ref D, .ref x, .ref C], slots := #[] }) (hno : W.Looks (model prog w) h (opaqueClassAbove (.ref C)) none)
    (hC : W.Looks (model prog w) h (mroOf (.ref C)) l₀) (hl : (l₀.dropWhile (· != .ref D)).drop 1 = l) (X : K.In h)
    (hf : alongIn K name l = some (some (.builtin I))) (hxC : x ≠ C) (hn : (name == ("__class__" : Str)) = false) (hin : W.Looks (model prog w) h (isInstance (.ref x) (.type T)) true)
    (hq : Q (.done (.ret (.ref h.objs.size))) ⟨h.push (bwI I x), g, d, t, os⟩) :
    wpAny (model prog w) A (Builtin.«super.__getattribute__» ⟨[.ref so, .str name tk], []⟩) Q E ⟨h, g, d, t, os⟩ := by
  have hlk := ESX.slot_wd.lookup
  have hne : (Value.ref x == Value.ref C) = false := by simp [hxC]
  have hTf := F.ty
  have hTi : Shared.TypeIs ⟨h, g, d, t, os⟩ (.builtin I) "wrapper_descriptor" := F.ty
  have hdt : ({ cls := .type "super", dict := none, data := .fields #[.ref D, .ref x, .ref C], slots := #[] } : Obj).data = .fields #[.ref D, .ref x, .ref C] := rfl
  have f0 : (#[.ref D, .ref x, .ref C] : Array Value)[0]? = some (.ref D) := rfl
  have f1 : (#[.ref D, .ref x, .ref C] : Array Value)[1]? = some (.ref x) := rfl
  have f2 : (#[.ref D, .ref x, .ref C] : Array Value)[2]? = some (.ref C) := rfl
  unfold Builtin.«super.__getattribute__»
  repeat (first
    | (with_reducible refine wpAny_field hso hdt f0 ?_) | (with_reducible refine wpAny_field hso hdt f1 ?_) | (with_reducible refine wpAny_field hso hdt f2 ?_)
    | (with_reducible refine ks_wpAny_notOpaque hno ?_)
    | (with_reducible refine Looks.at hC ?_; rw [hl])
    | (refine ks_forIn_along X (fun _ _ => rfl) rfl ?_ hf)
    | (with_reducible refine wpAny_call_entry ESX.slot_wd hTi ESX.entry_wd ?_ (ESX.args_wd _ _ _))
    | (with_reducible refine run_wdI F hin ?_)
    | (with_reducible refine ⟨_, rfl, ?_⟩)
    | (simp only [hn, hne, Bool.or_false, Bool.false_eq_true, if_false])
    | wp_step
    | dsimp only)
  all_goals exact hq
theorem getMethod_superI {T I : String} (F : InitW T I) {so D x C : Addr} {l₀ l : List Value} {K : Frag} {name : Str} {pl : Sem Bool} {Q : Value × List Value → Shared → Prop}
    (hso : h.get? so = some { cls := .type "super", dict := none, data := .fields #[.ref D, .ref x, .ref C], slots := #[] }) (hno : W.Looks (model prog w) h (opaqueClassAbove (.ref C)) none)
    (hC : W.Looks (model prog w) h (mroOf (.ref C)) l₀) (hl : (l₀.dropWhile (· != .ref D)).drop 1 = l) (X : K.In h)
    (hf : alongIn K name l = some (some (.builtin I))) (hxC : x ≠ C) (hn : (name == ("__class__" : Str)) = false) (hin : W.Looks (model prog w) h (isInstance (.ref x) (.type T)) true)
    (hq : Q (.ref h.objs.size, []) ⟨h.push (bwI I x), g, d, t + 1, os⟩) :
    wpAny (model prog w) A (getMethod (.ref so) name pl) Q E ⟨h, g, d, t, os⟩ := by
  have hlk := PySem.F.ks_slot_super_ga.lookup
  have hcan := PySem.F.ks_canon_super_ga
  have hT : ∀ t', (⟨h, g, d, t', os⟩ : Shared).TypeIs (.ref so) "super" := fun _ => ⟨_, hso, rfl⟩
  unfold getMethod
  refine wpAny_bind (wpAny_specialOf (hT _) hlk ?_)
  show wpAny _ _ (if (Manifest.canonical "super.__getattribute__" != "object.__getattribute__") = true then _ else _) _ _ _
  rw [if_pos hcan]
  unfold getAttr getAttrBy
  refine wpAny_bind (wpAny_bind (wpAny_mkText (wpAny_holding (wpAny_bind (wpAny_typeOf (hT _) (wpAny_bind (wpAny_of_eq hlk ?_)))))))
  show wpAny _ _ (getAttrByItsOwn (.ref so) (.str name t) (.type "super") (.builtin "super.__getattribute__") true false) _ _ _
  unfold getAttrByItsOwn hookBefore callGetattribute boundAndCalled
  refine wpAny_bind (wpAny_of_eq (show (if onTheHeap (.type "super") then typeLookup (.type "super") "__getattr__" else pure none) = pure none from rfl) ?_)
  refine wpAny_bind (wpAny_attempt (wpAny_holding ?_))
  show wpAny _ _ (bindSpecial (.builtin "super.__getattribute__") (.ref so) >>= _) _ _ _
  refine wpAny_bind (wpAny_of_eq (PySem.F.ks_slot_super_ga.bind _) ?_)
  refine wpAny_mono (Q := fun v s' => v = .ref h.objs.size ∧ s' = ⟨h.push (bwI I x), g, d, t + 1, os⟩) (E := fun _ _ => False)
    (wpAny_call_entry PySem.F.ks_slot_super_ga (hT _) PySem.F.ks_entry_super_ga (super_gaI F hso hno hC hl X hf hxC hn hin ⟨_, rfl, rfl, rfl⟩) (PySem.F.ks_gaArgs_super _ _)) (fun v s' hv => ?_) fun _ _ z => z.elim
  obtain ⟨rfl, rfl⟩ := hv
  exact wpAny_pure (wpAny_pure hq)
end
/-! ### the bound wrapper, called -/
section
open PySem.W PySem.Calls
variable {prog : Program} {w : World} {A : Around} {E : Value → Shared → Prop} {h : Heap} {g : Array GenState} {d : Drawn} {t : Nat} {os : OsState}
variable {nm q : Str} {C N : Addr} {bs bm bmB : List Value} {hdct : Bool} {sn : List Str} {sub : List Value} {ab : Bool} {col : Option Bool} {dd : Option Addr} {k0 k1 k2 k3 k5 : Option Value} {B newId initId : String}
theorem check_boundI {M : Model} (F : ExcBaseFacts B newId initId bmB) {e : Addr} {oe : Obj} {rest : List Value} {Q : Unit → Shared → Prop}
    (hC : h.get? C = some (excClassObj nm q C N bs bm hdct sn sub ab col dd k0 k1 k2 k3 k5 newId)) (he : h.get? e = some oe) (hcls : oe.cls = .ref C) (hq : Q () ⟨h, g, d, t, os⟩) :
    wpAny M A (checkBoundCall initId ⟨.ref e :: rest, []⟩) Q E ⟨h, g, d, t, os⟩ := ESX.check_bound F hC he hcls hq
theorem call_bwI (F : ExcBaseFacts B newId initId bmB) {u e t0 : Addr} {rest : List Value} {Q : Value → Shared → Prop}
    (hC : h.get? C = some (excClassObj nm q C N bs bm hdct sn sub ab col dd k0 k1 k2 k3 k5 newId)) (he : h.get? e = some (HandSPX.excO C t0)) (hu : h.get? u = some (bwI initId e)) (hrest : rest.length ≤ sizeLine) (hql : initId.startsWith "lifetime." = false)
    (hq : ∀ h' t1, (∀ b o, b ≠ e → h.get? b = some o → h'.get? b = some o) → h'.get? e = some (HandSPX.excO C t1) → Q .none ⟨h', g, d, t, os⟩) :
    wpAny (model prog w) A (call (.ref u) rest) Q E ⟨h, g, d, t, os⟩ := by
  refine wpAny_call (codeAny_of_tree ?_)
  show wpAny _ A.in1 (callAny (.ref u) ⟨rest, []⟩) _ _ _
  simp only [callAny]
  refine wpAny_bind (wpAny_load hu ?_)
  simp only [bwI, show (Value.type "method-wrapper" == Value.type "method" || Value.type "method-wrapper" == Value.type "builtin_function_or_method" || Value.type "method-wrapper" == Value.type "method-wrapper") = true by decide, if_true]
  refine W.KFB.if_so (by decide) ?_
  refine wpAny_bind (check_boundI F hC he rfl ?_)
  refine wpAny_bind (wpAny_pure (wpAny_pure ?_))
  refine ⟨Code.quiet_builtin _ hql, codeAny_builtin F.initEntry ?_⟩
  rw [Around.under_plainId F.init.plain _]
  wp_walk
  refine hq _ h.objs.size (fun b o hb ho => ?_) ?_
  · rw [Heap.get?_update_other _ _ (Ne.symm hb)]
    exact Heap.get?_push_of_some _ ho
  · rw [Heap.get?_update_self _ (Heap.get?_push_of_some _ he) rfl]
    rfl
end
end VSX
end PySem
/-! ## a def of a class whose first statement is super().__init__(text), self being an exception that is made -/
namespace SupX
open PySem PySem.Spec PyProof.Rows L2 NdefX
/-- what the written part says of the def f (its cell cc, its code cda) of the exception class C -/
structure SupF (K : PySem.W.Frag) (P : Program) (C cc cda : Addr) (q : Str) : Prop where
  ox : OexC K C
  cell : ∃ ccl cdd csl, K.lookup cc = some ⟨ccl, cdd, .cell (some (.ref C)), csl⟩
  code : ∃ ccl cdd vs csl file tf, K.lookup cda = some ⟨ccl, cdd, .fields vs, csl⟩ ∧ vs[2]? = some (.str file tf) ∧ ((P.main.file : Str) == file) = true
  rec_ : PySem.W.codeIn K (.ref cda) q = true
  top : (P.main.scope.names.lookup ("super" : Str)).isSome = false
  any : PySem.W.nsIn K cStatics "thirdparty.any" = some none
  own : PySem.W.ks_superIn K C C "__init__" = some (some (.builtin "ValueError.__init__"))
  sub : PySem.W.subIn K (.ref C) (.type "ValueError") = some true
  mro : PySem.W.mroIn K C (.ref C) = some true
abbrev nf (name qual : Str) (params : Arguments) (body : List Stmt) (scope : Scope) (cc cda : Addr) : NF := ⟨name, qual, params, body, scope, [(("__class__" : Str), cc)], cda⟩
section
variable {CX : CXT} {P : Program} {w : World} {K : PySem.W.Frag} {mg : Str → Option Value} {base : Heap} {N ps : List Str} {F : NF} {f : Addr} {A : Around} {outer : List Env} {s0 : Shared} {H0 : Hp} {E : XK}
theorem super_init {pins : List (Addr × Obj)} {σ : L2.St} {H : Hp} {s : Shared} {a C cc : Addr} {text : Str} {j : Nat} {p0 p1 p2 p3 p4 : Pos} {body : List Stmt} {ar : Arg} {Q : Value → Shared → Prop} {Er : Value → Shared → Prop} {fo : Obj} {fd : FuncData}
    (S : SupF K P C cc F.c F.qual) (hcl : F.cl = [(("__class__" : Str), cc)]) (I : Inv (ncx CX P w K mg base N F f A outer s0 H0 E) pins σ H s) (e : H a = some (exo a C none))
    (ho : s.heap.get? f = some fo) (hfd : fo.data = .func fd) (hp : (fd.params.posonlyargs ++ fd.params.args).head? = some ar) (hN : N[0]? = some ar.arg) (hs : σ[0]? = some (some (.ref a))) (hl : F.scope.names.lookup ar.arg = some .local)
    (hmg : mg "super" = none) (hks : F.scope.names.lookup ("super" : Str) = some .globalImplicit) (hkc : F.scope.names.lookup ("__class__" : Str) = some .free) (hk : F.scope.kind = .function) (hd1 : (ar.arg == ("__debug__" : Str)) = false)
    (h : ∀ s', Inv (ncx CX P w K mg base N F f A outer s0 H0 E) pins σ H s' → Q .none s') {pl : Sem Bool}
    (he : eval (.Call (.Attribute (.Call (.Name "super" p0) [] [] p1) "__init__" p2) [.Constant (.str text) j p3] [] p4) (envF F f s0.heap.objs.size) = (do
      let ov ← attributeBase (.Call (.Name "super" p0) [] [] p1) "__init__" (envF F f s0.heap.objs.size) (eval (.Call (.Name "super" p0) [] [] p1) (envF F f s0.heap.objs.size))
      standAt p2.atName
      let (g, first) ← holding [ov] (getMethod ov "__init__" pl)
      callWith p4 g first (backTo p4 (starEach [.Constant (.str text) j p3] (envF F f s0.heap.objs.size))) [])) :
    _root_.PySem.wpAt (model P w) (A.deeper (envF F f s0.heap.objs.size)) (.func body (envF F f s0.heap.objs.size)) (eval (.Call (.Attribute (.Call (.Name "super" p0) [] [] p1) "__init__" p2) [.Constant (.str text) j p3] [] p4) (envF F f s0.heap.objs.size)) Q Er s := by
  obtain ⟨t1, hoe⟩ := exo_at I.hok e
  obtain ⟨nm, q, Nn, bs, bm, sn, sub, ab, col, dd, k0, k1, k2, k3, k5, hC, hbm⟩ := S.ox.cls
  obtain ⟨ccl, cdd, csl, hcell⟩ := S.cell
  obtain ⟨dcl, ddd, vs, dsl, file, tf, hcode, hvs, hfile⟩ := S.code
  have X : K.In s.heap := I.kIn
  have hCo := X _ _ hC
  refine PySem.ks_wpAt_MethodCall (pl := pl) ?_ he
  refine PySem.ks_wpAt_super_base (env := envF F f s0.heap.objs.size) hks hkc (by decide) rfl ho hfd hp rfl (X _ _ hcode) rfl hvs hfile S.top ?_
  obtain ⟨mb, b1, b2⟩ := I.mod.blt
  refine PySem.W.ks_loadName_global hk hks (Calls.loadGlobal_builtin (env := envF F f s0.heap.objs.size) (I.mod.glob.keeps I.bk) hmg (b1.keeps I.bk) ((b2 _ (by decide)).trans (by first | boot_by_name | rfl | kernel_rfl)) ⟨rfl, ?_⟩)
  refine wpAny_loadName_free hk hkc (show (envF F f s0.heap.objs.size).cells.lookup ("__class__" : Str) = some cc by show F.cl.lookup _ = _; rw [hcl]; rfl) ⟨_, X _ _ hcell, rfl⟩ ?_
  obtain ⟨m, hns, hlo⟩ := I.loc
  obtain ⟨u, ru, look⟩ := hlo 0 ar.arg (.ref a) hN hs (.inl hl)
  obtain rfl : u = Value.ref a := ru
  have hm : m ar.arg = some (.ref a) := by
    rcases look with ⟨_, z⟩ | ⟨z, _⟩
    · exact z
    · have z' : F.scope.names.lookup ar.arg = some .cell ∨ F.scope.names.lookup ar.arg = some .free := z
      rw [hl] at z'
      rcases z' with z' | z' <;> cases z'
  refine wpAny_loadName_local hk hl hns hm ?_
  refine PySem.ks_wpAny_isType_cls hCo rfl ⟨rfl, ?_⟩
  obtain ⟨hp0, g, d, t, os⟩ := s
  refine PySem.ks_wpAny_call_super hCo rfl hoe rfl (fun c z => by cases z) (PySem.W.looks_mroIn X S.mro) (fun h1 e1 k1 => ?_)
  have I1 : Inv (ncx CX P w K mg base N F f A outer s0 H0 E) pins σ H ⟨h1, g, d, t, os⟩ := I.kept (t' := t) k1
  have X1 : K.In h1 := I1.kIn
  have hcl1 : PySem.W.clsIn K C = some { name := nm, bases := bs, mro := .ref C :: bm, ns := Nn, qualname := q, hasDict := true, slotNames := sn, subclasses := sub, abstract := ab, collection := col, hasDel := false } := by unfold PySem.W.clsIn; rw [hC] <;> rfl
  have own := S.own
  unfold PySem.W.ks_superIn at own
  rw [hcl1] at own
  have hoe1 := k1 _ _ hoe
  have IA : PySem.W.InstAt h1 a _ C none := ⟨hoe1, rfl, rfl, trivial⟩
  refine PySem.W.kxs_getMethod PySem.W.kxs_ValueError e1 (PySem.W.looks_opaque X1 S.any) (l₀ := .ref C :: bm) (fun A Q E s k q => wpAny_bind ((PySem.W.looks_clsIn X1 hcl1) A _ E s k (wpAny_pure q))) rfl X1 own (IA.type.andThen (PySem.W.looks_subIn X1 S.sub)) (PySem.W.ks_ne X1 IA hcl1) (by decide) ?_
  have k2 : ∀ b o, h1.get? b = some o → (h1.push (PySem.W.kxs_mw "ValueError.__init__" a)).get? b = some o := fun b o z => Heap.get?_push_of_some _ z
  have I2 : Inv (ncx CX P w K mg base N F f A outer s0 H0 E) pins σ H ⟨h1.push (PySem.W.kxs_mw "ValueError.__init__" a), g, d, t + 1, os⟩ := I1.kept (t' := t + 1) k2
  have hu : (h1.push (PySem.W.kxs_mw "ValueError.__init__" a)).get? h1.objs.size = some (PySem.W.kxs_mw "ValueError.__init__" a) := Heap.get?_push_at rfl rfl
  refine PySem.W.kxs_callWith (i := "ValueError.__init__") (x := a) (by rfl) ?_
  refine Calls.evalArgs_plain ?_
  refine Calls.spliced_cons ?_
  rw [if_neg (show ¬ (false = true) from Bool.false_ne_true)]
  refine wpAny_Constant_str ?_
  refine Calls.spliced_nil ⟨hu, ?_⟩
  obtain ⟨t2, hoe2⟩ := exo_at I2.hok e
  refine PySem.VSX.call_bwI PySem.F.excBase_ValueError (I2.kIn _ _ hC) hoe2 hu (by show 1 ≤ sizeLine; rw [sizeLine_eq]; decide) (by decide +kernel) fun h' t3 kk hx => ?_
  have J := (I2.tok (t + 1 + 1)).write (t' := t + 1 + 1) (x := a) (e := a) (o := exo a C none) (by rw [e]; exact True.intro) (.inl rfl) kk ⟨_, hx⟩ (exo_ok hx)
  have eu : upd H a (exo a C none) = H := by
    funext b
    by_cases hb : b = a
    · rw [hb, upd_same, e]
    · rw [upd_ne hb]
  rw [eu] at J
  exact h _ J
end
section
variable {CX : CXT} {P : Program} {w : World} {K : PySem.W.Frag} {mg : Str → Option Value} {base : Heap} {N ps : List Str}
theorem fnok_super {C f cc cda : Addr} {name qual text : Str} {params : Arguments} {rest : List Stmt} {scope : Scope} {dV kV doc pm ct oc : Value} {an od : Option Addr} {osl : Array (Option Value)} {p0 p1 p2 p3 p4 p5 : Pos} {j k : Nat} {ar : Arg} {sp : Sp} {pl : Addr → Sem Bool}
    (lk : K.lookup f = some ⟨oc, od, .func (PySem.W.fnX name qual params (.Expr (.Call (.Attribute (.Call (.Name "super" p0) [] [] p1) "__init__" p2) [.Constant (.str text) j p3] [] p4) p5 :: rest) scope [(("__class__" : Str), cc)] dV kV doc pm an (.ref cda) ct), osl⟩)
    (S : SupF K P C cc cda qual) (hmg : mg "super" = none) (NS : NScope N ps ["__class__"] scope) (hp : (params.posonlyargs ++ params.args).head? = some ar) (hN : N[0]? = some ar.arg) (hl : scope.names.lookup ar.arg = some .local) (hks : scope.names.lookup ("super" : Str) = some .globalImplicit)
    (hd1 : (ar.arg == ("__debug__" : Str)) = false) (len : ∀ vs H Q E, sp vs H Q E → vs.length = ps.length)
    (he : ∀ L : Addr, eval (.Call (.Attribute (.Call (.Name "super" p0) [] [] p1) "__init__" p2) [.Constant (.str text) j p3] [] p4) (envF (nf name qual params (.Expr (.Call (.Attribute (.Call (.Name "super" p0) [] [] p1) "__init__" p2) [.Constant (.str text) j p3] [] p4) p5 :: rest) scope cc cda) f L) = (do
      let ov ← attributeBase (.Call (.Name "super" p0) [] [] p1) "__init__" (envF (nf name qual params (.Expr (.Call (.Attribute (.Call (.Name "super" p0) [] [] p1) "__init__" p2) [.Constant (.str text) j p3] [] p4) p5 :: rest) scope cc cda) f L) (eval (.Call (.Name "super" p0) [] [] p1) (envF (nf name qual params (.Expr (.Call (.Attribute (.Call (.Name "super" p0) [] [] p1) "__init__" p2) [.Constant (.str text) j p3] [] p4) p5 :: rest) scope cc cda) f L))
      standAt p2.atName
      let (g, first) ← holding [ov] (getMethod ov "__init__" (pl L))
      callWith p4 g first (backTo p4 (starEach [.Constant (.str text) j p3] (envF (nf name qual params (.Expr (.Call (.Attribute (.Call (.Name "super" p0) [] [] p1) "__init__" p2) [.Constant (.str text) j p3] [] p4) p5 :: rest) scope cc cda) f L))) []))
    (hi : ∀ L : Addr, interactive (envF (nf name qual params (.Expr (.Call (.Attribute (.Call (.Name "super" p0) [] [] p1) "__init__" p2) [.Constant (.str text) j p3] [] p4) p5 :: rest) scope cc cda) f L) = false)
    (hsw : ∀ L : Addr, swapsWith (.Call (.Attribute (.Call (.Name "super" p0) [] [] p1) "__init__" p2) [.Constant (.str text) j p3] [] p4) none p5.line (envF (nf name qual params (.Expr (.Call (.Attribute (.Call (.Name "super" p0) [] [] p1) "__init__" p2) [.Constant (.str text) j p3] [] p4) p5 :: rest) scope cc cda) f L) = pure false)
    (hbody : ∀ (A : Around) (outer : List Env) (s : Shared) (H : Hp) (vs : List V) (Q : VK) (E : XK), sp vs H Q E → ∃ a ys, vs = .ref a :: ys ∧ H a = some (exo a C none) ∧
      ∃ t, PSs (ncx CX P w K mg base N (nf name qual params (.Expr (.Call (.Attribute (.Call (.Name "super" p0) [] [] p1) "__init__" p2) [.Constant (.str text) j p3] [] p4) p5 :: rest) scope cc cda) f A outer s H E) rest t ∧ t { nx := fun _ H' => Q .non H', rt := Q } (startF N vs [some (.ref C)]) H) :
    FnOk P w K mg base CX (k + 1) f (PySem.W.fnX name qual params (.Expr (.Call (.Attribute (.Call (.Name "super" p0) [] [] p1) "__init__" p2) [.Constant (.str text) j p3] [] p4) p5 :: rest) scope [(("__class__" : Str), cc)] dV kV doc pm an (.ref cda) ct) ps sp := by
  refine ⟨len, fun A outer s H args us vs Q E hr e0 bt r hsp => ?_⟩
  have hlen := len _ _ _ _ hsp
  have kin : K.In s.heap := e0.mod.kin.keeps fun b o e => (e0.bs b o e).1
  have lim : s.heap.NoLimit := e0.mod.nolimit.keeps fun b o e => (e0.bs b o e).1
  obtain ⟨a, ys, rfl, ha, t, ht, hq⟩ := hbody A outer s H vs Q E hsp
  obtain ⟨ccl, cdd, csl, hcell⟩ := S.cell
  have atb : ∀ b o, K.lookup b = some o → H b = none := fun b o e => (e0.bs b o (e0.mod.kin _ _ e)).2
  have C0 : CellsAt (nf name qual params (.Expr (.Call (.Attribute (.Call (.Name "super" p0) [] [] p1) "__init__" p2) [.Constant (.str text) j p3] [] p4) p5 :: rest) scope cc cda).cl ["__class__"] [some (V.ref C)] s.heap H := by
    have one : ∀ {y : Str} {c : Addr}, ([(("__class__" : Str), cc)] : List (Str × Addr)).lookup y = some c → y = ("__class__" : Str) ∧ c = cc := fun {y c} e => by
      by_cases hy : y = ("__class__" : Str)
      · subst hy
        simp [List.lookup] at e
        exact ⟨rfl, e.symm⟩
      · exfalso
        have q : (y == ("__class__" : Str)) = false := by simpa using hy
        simp [List.lookup, q] at e
    refine ⟨rfl, fun y c e => ?_, fun x y c e1 e2 => (one e1).1.trans (one e2).1.symm, fun i y e => ?_⟩
    · obtain ⟨rfl, rfl⟩ := one e
      exact ⟨atb _ _ hcell, _, ⟨_, kin _ _ hcell, rfl⟩⟩
    · have hi0 : i = 0 := by
        rcases i with _ | i
        · rfl
        · simp at e
      subst hi0
      have hy : y = ("__class__" : Str) := by simpa using e.symm
      subst hy
      refine ⟨cc, by simp [List.lookup], fun v ev => ⟨.ref C, ?_, ⟨_, kin _ _ hcell, rfl⟩⟩⟩
      have : v = V.ref C := by simpa using ev.symm
      subst this
      rfl
  refine PySem.ks_codeAny_call_defAt (binds := ps.zip us) hr.depth (kin _ _ lk) rfl lim (PySem.W.codeRec_of kin S.rec_) rfl bt NS.nocell (fun x hx => NS.par x.1 (List.of_mem_zip hx).1) (fun h₁ hns kp => ?_) NS.co NS.gen NS.kind
  have I : Inv (ncx CX P w K mg base N (nf name qual params (.Expr (.Call (.Attribute (.Call (.Name "super" p0) [] [] p1) "__init__" p2) [.Constant (.str text) j p3] [] p4) p5 :: rest) scope cc cda) f A outer s H E) [] (startF N (.ref a :: ys) [some (.ref C)]) H { s with heap := h₁, toks := s.toks + (ps.zip us).length } := inv_startN NS hr.hd e0 hlen r C0 hns kp
  refine PySem.ks_wpAt_execs_cons (PySem.ks_wpAt_Expr_any ?_ (hi _) (hsw _))
  refine super_init (F := nf name qual params (.Expr (.Call (.Attribute (.Call (.Name "super" p0) [] [] p1) "__init__" p2) [.Constant (.str text) j p3] [] p4) p5 :: rest) scope cc cda) (pins := []) (σ := startF N (.ref a :: ys) [some (.ref C)]) (H := H) (ar := ar) S rfl I ha (kp _ _ (kin _ _ lk)) rfl hp hN rfl hl hmg hks (NS.frk _ (by simp)) NS.kind hd1 (fun s' I' => ?_) (he _)
  refine PySem.wpAt_of_wpAny (wpAny_mono (ht.run [] s' _ H _ I' hq) (fun fl s2 z => ?_) fun e s2 z => z)
  cases fl with
  | ret u => obtain ⟨v, σ', H', J, r2, q⟩ := z; exact ⟨v, H', J.os, J.bare, J.base, J.hok, r2, q⟩
  | next => obtain ⟨σ', H', J, q⟩ := z; exact ⟨.non, H', J.os, J.bare, J.base, J.hok, rfl, q⟩
  | brk => obtain ⟨_, _, _, q⟩ := z; exact q.elim
  | cont => obtain ⟨_, _, _, q⟩ := z; exact q.elim
end
end SupX
/-! ## try with several clauses, each with a name -/
namespace L2
open PySem PySem.Spec PyProof.Rows
/-- what the clauses `except c as n`, one behind the other, want of an error of the body -/
def wAll (K : PySem.W.Frag) (Wout : WX) (D : Ends) : List (Value × Nat × (Addr → Value → Option Addr → TS)) → WX
  | [] => Wout
  | (c, i, ts) :: r => wAs K c i ts (wAll K Wout D r) D
inductive HdAs (X : Cx) : List ExceptHandler → List (Value × Nat × (Addr → Value → Option Addr → TS)) → Prop
  | nil : HdAs X [] []
  | cons {x n : Str} {c : Value} {i : Nat} {ts : Addr → Value → Option Addr → TS} {b₀ : Stmt} {suite : List Stmt} {np q : Pos} {hds : List ExceptHandler} {l : List (Value × Nat × (Addr → Value → Option Addr → TS))}
      (hi : X.N[i]? = some n) (hln : X.env.kindOf n = some .local) (hc : Names X x c)
      (hsu : ∀ (a : Addr) (oe : Obj) (cls : Value) (d : Option Addr) (pn : List (Addr × Obj)), Zc cls d oe → (∃ vs, oe.data = .fields vs) → PSs (X.suite a ((a, oe) :: pn)) (b₀ :: suite) (ts a cls d))
      (r : HdAs X hds l) : HdAs X (.ExceptHandler (some (.Name x np)) (some n) (b₀ :: suite) q :: hds) ((c, i, ts) :: l)
section
variable {X : Cx} {body : List Stmt} {h₀ : ExceptHandler} {hds : List ExceptHandler} {l : List (Value × Nat × (Addr → Value → Option Addr → TS))} {pos : Pos} {tb : WX → TS} {Wout : WX}
theorem ps_try_all (hs : X.stack = X.env :: X.outer) (hf : X.env.frame = some X.env.locals) (hN : X.N.Nodup) (tk : Takes X Wout)
    (hb : ∀ (W : WX) (pn : List (Addr × Obj)) (xe : Value → Shared → Prop), Takes (X.tr pn xe) W → PassesOwn (model X.prog X.w) X.A X.env xe → PSs (X.tr pn xe) body (tb W))
    (hh : HdAs X (h₀ :: hds) l) : PS X (.Try body (h₀ :: hds) [] [] pos) (fun D σ H => tb (wAll X.K Wout D l) D σ H) := by
  refine ⟨fun pins s σ H D I h => ?_⟩
  have ok := I.ok
  have hfr : X.A.frames = some (X.env :: X.outer) := by rw [ok.frames, hs]
  refine wpAny_Try_except ?_
  refine wpAny_mono ((hb (wAll X.K Wout D l) (X.pn ++ pins) (fun e s₁ => wpAny (model X.prog X.w) X.A (noteFrame e X.env) (fun _ s₂ => wpAny (model X.prog X.w) X.A (setFlight e none) (fun _ s₃ =>
    wpAny (model X.prog X.w) X.A (handleBy e X.env (h₀ :: hds)) (SP X pins D) X.xe s₃) X.xe s₂) X.xe s₁) (fun u s' xx => ?_) PassesOwn.looking).run [] s σ H D (I.toTry _) h) (fun f s1 hsp => ?_) (fun e s1 he => he)
  · obtain ⟨a, B, sI, pins', σ', H', cls, d, rfl, J', nb, up, sky, na, os, ag, w⟩ := xx
    have J : Inv X pins σ' H' sI := J'.ofTry ok
    have sky' : Sky B (X.env :: X.outer) a (Zc cls d) X.env.locals s'.heap := by rw [← hs]; exact sky
    show wpAny (model X.prog X.w) X.A (noteFrame (.ref a) X.env) _ _ _
    refine Sky.land Zc.steady hfr hf sky' fun h3 fl3 up3 => ?_
    have J3 : Inv X pins σ' H' { s' with heap := h3 } := J.landed nb fl3.1 (up.trans up3) os ag
    obtain ⟨oe3, vs3, he3, hz3, hd3⟩ := fl3.there
    have nfr : a ∉ frs (X.env :: X.outer) := fun hm => by
      obtain ⟨_, o', e', hnf⟩ := fl3.2.2.1.mem hm
      rw [he3] at e'; cases e'
      exact hnf _ hd3
    have nL : a ≠ X.env.locals := fun z => nfr (List.mem_filterMap.mpr ⟨X.env, List.mem_cons_self, by rw [hf, z]⟩)
    have nF : a ∉ X.fs := fun hm => by
      obtain ⟨e, he, q⟩ := List.mem_filterMap.mp hm
      exact nfr (List.mem_filterMap.mpr ⟨e, List.mem_cons_of_mem _ he, q⟩)
    have S3 := J3.suite he3 hd3 na nL nF
    have go : ∀ {hds' : List ExceptHandler} {l' : List (Value × Nat × (Addr → Value → Option Addr → TS))}, HdAs X hds' l' → wAll X.K Wout D l' cls d σ' H' →
        wpAny (model X.prog X.w) X.A (handleBy (.ref a) X.env hds') (SP X pins D) X.xe { s' with heap := h3 } := by
      intro hds' l' hk
      induction hk with
      | nil =>
        intro w
        refine wpAny_handleBy_nil ?_
        obtain ⟨k1, k2, k3, oe, vs, T, oT, ts', he, hz, hd, h1, hr⟩ := id fl3
        unfold PySem.passOn
        refine wpAny_bind (wpAny_field he hd h1 ?_)
        rw [if_neg (show ¬ ((Value.ref T == Value.none) = true) from by simp)]
        have fin : wpAny (model X.prog X.w) X.A (setFlight (.ref a) X.env.frame) (fun _ s4 => wpAny (model X.prog X.w) X.A (throw (.ref a) : Sem Flow) (SP X pins D) X.xe s4) X.xe { s' with heap := h3 } := by
          rw [hf]
          refine HandSPX.setFlight_upZ fl3 fun h4 hh4 up4 => wpAny_throw (tk _ _ ?_)
          exact ⟨a, B, sI, pins, σ', H', cls, d, rfl, J, nb, (up.trans up3).trans up4, .inr (.inr (by rw [hs]; exact hh4)), na, os, ag, w⟩
        first
          | exact wpAny_bind (wpAny_pure (wpAny_bind fin))
          | exact wpAny_bind fin
      | @cons x n c i ts b₀ suite np q hds2 l2 hi hln hc hsu r ih =>
        intro w
        obtain ⟨b, hb1, hyes, hno⟩ := w
        have hloc : Loc X.env.scope n := .inl hln
        refine wpAny_handleBy_cons (codeAny_handlers_test ?_) (by intro q; cases q)
        have LT : PySem.W.Looks (model X.prog X.w) h3 (typeOf (.ref a)) cls := fun A Q E s k q => wpAny_typeOf_ref (k _ _ he3) (by rw [hz3.1]; exact q)
        have LM := PySem.W.exm_one (M := model X.prog X.w) (J3.kIn) LT hb1
        have test : ∀ {Q : Value → Shared → Prop} {E : Value → Shared → Prop}, Q c { s' with heap := h3 } → wpAny (model X.prog X.w) (X.A.mark (some (.ref a))) (eval (.Name x np) X.env) Q E { s' with heap := h3 } := fun {Q E} q => by
          obtain ⟨hg, hdbg, hm | ⟨hm, hv, hnn⟩⟩ := hc
          · exact ld_glob (X := X.suite a ((a, oe3) :: (X.pn ++ pins))) S3 hg hm q hdbg
          · exact ld_blt (X := X.suite a ((a, oe3) :: (X.pn ++ pins))) S3 hg hm hv q hnn hdbg
        refine test (LM.here ?_)
        cases b with
        | true =>
          refine codeAny_handlers_suite_as ?_
          refine HandSPX.lands_againZ fl3 fun h4 fl4 up4 => ?_
          have J4 : Inv X pins σ' H' { s' with heap := h4 } := J.landed nb fl4.1 ((up.trans up3).trans up4) os ag
          obtain ⟨oe4, vs4, he4, hz4, hd4⟩ := fl4.there
          have S4 := J4.suite he4 hd4 na nL nF
          refine store_ok (X := X.suite a ((a, oe4) :: (X.pn ++ pins))) (v := .ref a) S4 hN hi hloc rfl (fun s5 S5 => ?_) (.inr hln)
          refine wpAny_mono ((hsu a oe4 cls d (X.pn ++ pins) hz4 ⟨_, hd4⟩).run [] s5 _ H' _ S5 (hyes rfl a na)) (fun f s6 hsp => ?_) (fun _ _ z => False.elim z)
          have end_ : ∀ {σ6 : St} {H6 : Hp} {Q : Shared → Prop}, Inv (X.suite a ((a, oe4) :: (X.pn ++ pins))) [] σ6 H6 s6 → (∀ s7, Inv X pins (σ6.set i none) H6 s7 → Q s7) →
              wpAny (model X.prog X.w) X.A (do bindName X.env n .none; unbindBehindTheSuite X.env n q) (fun _ s7 => Q s7) X.xe s6 := fun {σ6 H6 Q} S6 hq => gone_ok (S6.unsuite ok) hN hi hln hq
          cases f with
          | next =>
            obtain ⟨σ6, H6, S6, q6⟩ := hsp
            exact end_ S6 fun s7 J7 => ⟨_, _, J7, q6⟩
          | brk =>
            obtain ⟨σ6, H6, S6, q6⟩ := hsp
            exact end_ S6 fun s7 J7 => ⟨_, _, J7, q6⟩
          | cont =>
            obtain ⟨σ6, H6, S6, q6⟩ := hsp
            exact end_ S6 fun s7 J7 => ⟨_, _, J7, q6⟩
          | ret u =>
            obtain ⟨v6, σ6, H6, S6, r6, q6⟩ := hsp
            exact end_ S6 fun s7 J7 => ⟨_, _, _, J7, r6, q6⟩
        | false =>
          show wpAny _ X.A (handleBy (.ref a) X.env hds2) _ _ _
          exact ih (hno rfl)
    exact go hh w
  · cases f with
    | next =>
      obtain ⟨σ', H', J', q⟩ := hsp
      exact wpAny_execs_nil ⟨σ', H', J'.ofTry ok, q⟩
    | brk =>
      obtain ⟨σ', H', J', q⟩ := hsp
      exact ⟨σ', H', J'.ofTry ok, q⟩
    | cont =>
      obtain ⟨σ', H', J', q⟩ := hsp
      exact ⟨σ', H', J'.ofTry ok, q⟩
    | ret u =>
      obtain ⟨v, σ', H', J', r, q⟩ := hsp
      exact ⟨v, σ', H', J'.ofTry ok, r, q⟩
end
end L2
namespace L2
open PySem PySem.Spec PyProof.Rows
/-! ## texts of 0 and 1 as numbers: int(t, 2), f"{n:b}", ljust with a sign -/
namespace B2
open PySem.NumText PySem.Calls L2.Hx
abbrev IsB (c : Nat) : Prop := c = 48 ∨ c = 49
theorem IsB.hex {c : Nat} (h : IsB c) : IsHex c := by
  unfold IsHex
  rcases h with h | h <;> omega
def num (l : List Nat) : Nat := l.foldl (fun a c => a * 2 + (c - 48)) 0
theorem dig_b {c : Nat} (h : IsB c) : digit? c = some (c - 48) := by
  rcases h with h | h <;> (subst h; rfl)
theorem go_b {ds : Array Nat} {b : Bool} {c : Nat} (h : IsB c) : PySem.NumText.step 2 (ds, b) c = some (ds.push (c - 48), true) := by
  unfold PySem.NumText.step
  have hn : ¬ (c == 95) = true := by rw [beq_iff_eq]; rcases h with h | h <;> omega
  rw [if_neg hn, dig_b h]
  exact if_pos (show c - 48 < 2 by rcases h with h | h <;> omega)
theorem all_b : ∀ (l : List Nat) (ds : Array Nat), (∀ c ∈ l, IsB c) → l.foldlM (PySem.NumText.step 2) (ds, true) = some (l.foldl (fun t c => t.push (c - 48)) ds, true)
  | [], _, _ => rfl
  | c :: l, ds, h => by
    rw [List.foldlM_cons, go_b (h c (List.mem_cons_self ..))]
    exact all_b l (ds.push (c - 48)) fun d hd => h d (List.mem_cons_of_mem _ hd)
theorem digs_b {l : List Nat} (h : ∀ c ∈ l, IsB c) (hne : l ≠ []) : digits? 2 l = some (l.foldl (fun t c => t.push (c - 48)) #[]) := by
  match l, hne with
  | c :: l, _ =>
    unfold digits?
    rw [List.foldlM_cons, go_b (h c (List.mem_cons_self ..))]
    show (l.foldlM (PySem.NumText.step 2) ((#[] : Array Nat).push (c - 48), true)).bind _ = _
    rw [all_b l _ fun d hd => h d (List.mem_cons_of_mem _ hd)]
    rfl
theorem push_b : ∀ (l : List Nat) (ds : Array Nat), (l.foldl (fun t c => t.push (c - 48)) ds).foldl (fun a d => a * 2 + d) 0 = l.foldl (fun a c => a * 2 + (c - 48)) (ds.foldl (fun a d => a * 2 + d) 0)
  | [], _ => rfl
  | c :: l, ds => by
    rw [List.foldl_cons, push_b l (ds.push (c - 48)), List.foldl_cons]
    congr 1
    simp
theorem base_b {l : List Nat} (h : ∀ c ∈ l, IsB c) : based 2 l = (2, false, l) := by
  match l, h with
  | [], _ => rfl
  | [a], h => rcases h a (List.mem_cons_self ..) with q | q <;> (subst q; rfl)
  | a :: c :: r, h => rcases h a (List.mem_cons_self ..) with q | q <;> rcases h c (List.mem_cons_of_mem _ (List.mem_cons_self ..)) with z | z <;> (subst q; subst z; rfl)
theorem read_b {l : List Nat} (h : ∀ c ∈ l, IsB c) (hne : l ≠ []) : (int_private% "readNumeral") 0 2 l = (int_private% "Numeral.value") ((num l : Nat) : Int) := by
  have hx : ∀ c ∈ l, IsHex c := fun c hc => (h c hc).hex
  have hr : ∀ c ∈ l.reverse, IsHex c := fun c hc => hx c (List.mem_reverse.mp hc)
  refine (readNumeral_eq 0 2 l).trans ?_
  rw [dropB hx, signH hx]
  show judge 0 false (based 2 l).1 (based 2 l).2.1 (digits? (based 2 l).1 (((based 2 l).2.2.reverse.dropWhile blank).reverse)) = _
  rw [base_b h]
  show judge 0 false 2 false (digits? 2 ((l.reverse.dropWhile blank).reverse)) = _
  rw [dropB hr, List.reverse_reverse, digs_b h hne]
  show (int_private% "Numeral.value") (((l.foldl (fun t c => t.push (c - 48)) (#[] : Array Nat)).foldl (fun a d => a * 2 + d) 0 : Nat) : Int) = _
  rw [push_b]
  have z : (#[] : Array Nat).foldl (fun a d => a * 2 + d) 0 = 0 := by first | rfl | simp
  rw [z]
  rfl
theorem gives_b {x : PySem.Str} {u t : Tok} (hl : x.length ≤ 640) (h : ∀ c ∈ x.cps.toList, IsB c) (hne : x.cps.toList ≠ []) :
    Gives (Builtin.«int.__new__» ⟨[.type "int", .str x u, .int 2 t], []⟩) (.int ((num x.cps.toList : Nat) : Int)) :=
  .of_wp fun M A E s Q hQ => by
    obtain ⟨hp, g, d, tk, os⟩ := s
    have f1 := F.conv_sub_int
    have f2 := F.madeHere_int
    have f6 : typeOf (.str x u) = pure (.type "str") := rfl
    obtain ⟨e1, e2⟩ := seen_hex fun c hc => (h c hc).hex
    have hk : Hid ((numSeenOf x).length ≤ 640 ∧ (int_private% "readNumeral") 0 2 (numSeenOf x) = (int_private% "Numeral.value") ((num x.cps.toList : Nat) : Int) ∧ ((numSeenOf x).length == (numTextOf x).length) = true) :=
      ⟨by rw [e2, Array.length_toList]; exact hl, by rw [e2]; exact read_b h hne, by rw [e1, e2]; exact beq_self_eq_true _⟩
    clear e1 e2 hl hne h
    repeat (any_goals (first
      | assumption
      | ((with_reducible show wpAny _ _ ((int_private% "intFromText") _ _ _) _ _ _); refine wp_textB hk.out.1 hk.out.2.1 hk.out.2.2 ?_)
      | wp_step))
    all_goals first | exact ⟨_, rfl, hQ⟩ | skip
theorem call_b {prog : Program} {w : World} {A : Around} {E : Value → Shared → Prop} {s : Shared} {Q : Value → Shared → Prop} {x : PySem.Str} {u t : Tok} (hl : x.length ≤ 640) (h : ∀ c ∈ x.cps.toList, IsB c) (hne : x.cps.toList ≠ [])
    (hQ : Q (.int ((num x.cps.toList : Nat) : Int) s.toks) { s with toks := s.toks + 1 }) : wpAny (model prog w) A (call (.type "int") [.str x u, .int 2 t]) Q E s :=
  callType_new F.called_int F.newNe_int (typeCall_int_2 _ _) (newCall_int_2 _ _)
    (fun obj => F.initArgs_range_2 obj _ _) F.entry_int_new (gives_b hl h hne).meets
    (show (Made.int ((num x.cps.toList : Nat) : Int)).post _ s from ⟨rfl, hQ⟩)
end B2
/-- int(t, 2) -/
def rIntB : List V → Hp → VK → Prop := fun xs H Q => ∃ z : Str, xs = [.str z, .int 2] ∧ z.cps.toList ≠ [] ∧ z.length ≤ 640 ∧ (∀ c ∈ z.cps.toList, c = 48 ∨ c = 49) ∧ Q (.int ((B2.num z.cps.toList : Nat) : Int)) H
theorem call_intB {X : Cx} : CallR X (.type "int") rIntB := by
  intro pins s σ H xs us Q I r h
  obtain ⟨z, rfl, hne, hl, hx, q⟩ := h
  obtain ⟨u, w', rfl, r1, r2⟩ := vals2 r
  obtain ⟨t1, rfl⟩ := r1
  obtain ⟨t2, rfl⟩ := r2
  exact B2.call_b hl hx hne ⟨.int ((B2.num z.cps.toList : Nat) : Int), H, I.tok _, ⟨_, rfl⟩, q⟩
/-- s.ljust(n, c), a sign c -/
def rLj2 : V → List V → Hp → VK → Prop := fun x xs H Q => ∃ (a : Str) (i : Int) (f : Str), x = .str a ∧ xs = [.int i, .str f] ∧ PadOk i = true ∧ f.length = 1 ∧ Q (.str (Txt.ljustF a i (f.cps.getD 0 0))) H
theorem mt_ljust2 {X : Cx} : MtR X "str.ljust" rLj2 := by
  intro pins s σ H x xs v us Q I rx rs h
  obtain ⟨a, i, f, rfl, rfl, hp, hf, h⟩ := h
  obtain ⟨t, rfl⟩ := rx
  obtain ⟨u1, u2, rfl, r1, r2⟩ := vals2 rs
  obtain ⟨t1, rfl⟩ := r1
  obtain ⟨t2, rfl⟩ := r2
  exact ljust_fill hp hf fun t' k => ⟨.str (Txt.ljustF a i (f.cps.getD 0 0)), H, I.tok k, ⟨t', rfl⟩, h⟩
end L2
namespace PySem
open Sem (wp)
open AutoSeq1 (wpAny_loadPart')
namespace E1
theorem made_t (l : Addr) (xs : Array Value) (n : Nat) (dd : Option Addr) (sl : Array (Option Value)) :
    Meets (Builtin.«enumerate.__new__» ⟨[.type "enumerate", .ref l], []⟩) (fun _ R s => s.heap.get? l = some { cls := .type "tuple", dict := dd, data := .seq xs n, slots := sl } ∧
      R (.ok (.ret (.ref (s.heap.push { cls := .type "tuple_iterator", data := .fields #[.ref l, .int 0 0] }).objs.size)))
        { s with heap := (s.heap.push { cls := .type "tuple_iterator", data := .fields #[.ref l, .int 0 0] }).push { cls := .type "enumerate", data := .fields #[.none, .bool false, .ref s.heap.objs.size, rawInt 0, .none, .none] } }) :=
  .of_wp fun prog w A R s h => by
    obtain ⟨hp, g, d, tk, os⟩ := s
    obtain ⟨h1, h⟩ := h
    have hsub := sub_enumerate
    have hT : Heap.IsTuple (Shared.heap ⟨hp, g, d, tk, os⟩) l xs := ⟨_, h1, rfl, n, rfl⟩
    wp_walk using wpAny_loadPart' h1
    refine wpAny_stack_any fun st => wpAny_pure ?_
    split
    · rename_i c _ _ _ _ _
      cases (c == Value.type "enumerate")
      · wp_walk using wpAny_loadPart' h1, wpAny_pyIter_tuple hT
        exact ⟨_, rfl, h⟩
      · wp_walk using wpAny_loadPart' h1, wpAny_pyIter_tuple hT
        exact ⟨_, rfl, h⟩
    · wp_walk using wpAny_loadPart' h1, wpAny_pyIter_tuple hT
      exact ⟨_, rfl, h⟩
section
variable {prog : Program} {w : World} {A : Around} {E : Value → Shared → Prop} {s : Shared}
theorem next_t {it t : Addr} {i : Nat} {xs : Array Value} {x : Value} {Q : Value → Shared → Prop} (g : s.heap.IsTupleIter it t i) (k : s.heap.IsTuple t xs) (hx : xs[i]? = some x)
    (q : ∀ h', h'.IsTupleIter it t (i + 1) → Heap.SameBut it s.heap h' → Q x { s with heap := h' }) : wpAny (model prog w) A (Builtin.SmallTypes.nextOf (.ref it)) Q E s := by
  obtain ⟨o, e1, e2, e3⟩ := id g
  obtain ⟨u, k1, _, m, k2⟩ := k
  unfold Builtin.SmallTypes.nextOf
  refine wpAny_bind (wpAny_callSpecial?_slot (name := Str.ofString "__next__") g.typeIs F.slot_tuple_iterator_next (wpAny_call_entry F.slot_tuple_iterator_next g.typeIs
    F.entry_tuple_iterator_next ?_ (F.args_tuple_iterator_next_1 _)))
  show wpAny _ _ (field (.ref it) 0 >>= _) _ _ s; refine wpAny_bind (wpAny_field e1 e3 (x := .ref t) rfl ?_)
  show wpAny _ _ (ite ((Value.ref t == Value.none) = true) _ _) _ _ s
  rw [show (Value.ref t == Value.none) = false from rfl, if_neg Bool.false_ne_true]
  show wpAny _ _ (field (.ref it) 1 >>= _) _ _ s; refine wpAny_bind (wpAny_field e1 e3 (x := .int i 0) rfl ?_)
  show wpAny _ _ (seqItems? (.ref t) >>= _) _ _ s; refine wpAny_bind (wpAny_seqItems k1 k2 ?_)
  simp only [Int.toNat_natCast, hx]
  refine wpAny_bind (wpAny_setField e1 e3 (by simp) (wpAny_pure ⟨x, rfl, wpAny_pure (q _ ?_ (Heap.SameBut.update ..))⟩))
  exact ⟨_, Heap.get?_update_self _ e1 (Obj.isFreed_of_fields (Obj.data_mapFields e3 _)), (Obj.cls_mapFields ..).trans e2, by rw [Obj.data_mapFields e3]; simp [rawInt]⟩
theorem stop_t {it t : Addr} {i : Nat} {xs : Array Value} {Q : Value → Shared → Prop} (hh : A.handled = none) (g : s.heap.IsTupleIter it t i) (k : s.heap.IsTuple t xs) (hx : xs[i]? = none)
    (q : ∀ h' e, Heap.ExtBut it s.heap h' → (∃ o, h'.get? e = some o ∧ o.cls = .type "StopIteration") → E (.ref e) { s with heap := h' }) : wpAny (model prog w) A (Builtin.SmallTypes.nextOf (.ref it)) Q E s := by
  obtain ⟨o, e1, e2, e3⟩ := id g
  obtain ⟨u, k1, _, m, k2⟩ := k
  unfold Builtin.SmallTypes.nextOf
  refine wpAny_bind (wpAny_callSpecial?_slot (name := Str.ofString "__next__") g.typeIs F.slot_tuple_iterator_next (wpAny_call_entry F.slot_tuple_iterator_next g.typeIs
    F.entry_tuple_iterator_next ?_ (F.args_tuple_iterator_next_1 _)))
  show wpAny _ _ (field (.ref it) 0 >>= _) _ _ s; refine wpAny_bind (wpAny_field e1 e3 (x := .ref t) rfl ?_)
  show wpAny _ _ (ite ((Value.ref t == Value.none) = true) _ _) _ _ s
  rw [show (Value.ref t == Value.none) = false from rfl, if_neg Bool.false_ne_true]
  show wpAny _ _ (field (.ref it) 1 >>= _) _ _ s; refine wpAny_bind (wpAny_field e1 e3 (x := .int i 0) rfl ?_)
  show wpAny _ _ (seqItems? (.ref t) >>= _) _ _ s; refine wpAny_bind (wpAny_seqItems k1 k2 ?_)
  simp only [Int.toNat_natCast, hx]
  refine wpAny_bind (wpAny_rule (wpAny_bind (wpAny_setField e1 e3 (by simp) ?_)))
  show wpAny _ _ (newExc (.type "StopIteration") [] >>= _) _ _ _; refine wpAny_bind ?_
  simp only [newExc, newTuple]
  refine wpAny_bind (wpAny_newObj_type ?_ (by size_fits)); refine wpAny_bind (m := firstArgMember _ _) (wpAny_of_eq (a := Value.none) (by first | rfl | (simp only [firstArgMember]; rfl)) ?_)
  refine wpAny_newObj_type ?_ (by size_fits); simp only [raiseNew]; refine wpAny_bind (wpAny_handled ?_)
  first | rw [show A.in1.handled = none from hh] | rw [hh]
  refine wpAny_bind (wpAny_pure (wpAny_throw ?_)); exact q _ _ (((Heap.SameBut.update ..).extBut.push _).push _) ⟨_, Heap.get?_push_size _ rfl, rfl⟩
theorem tup_at {h h' : Heap} {t : Addr} {xs : Array Value} (k : h.IsTuple t xs) (e : ∀ o, h.get? t = some o → h'.get? t = some o) : h'.IsTuple t xs :=
  let ⟨o, a, r⟩ := k; ⟨o, e o a, r⟩
theorem draws_t (hh : A.handled = none) (it t : Addr) (hne : t ≠ it) (xs : Array Value) :
    Draws prog w A it [it, t] xs.size (fun i v => xs[i]? = some v) (fun i h => h.IsTupleIter it t i ∧ h.IsTuple t xs) where
  live := fun _ _ st => let ⟨o, ho, _⟩ := st.1; ⟨o, ho⟩
  frame := fun _ _ _ st hk => ⟨st.1.at fun o e => hk it (by simp) o e, tup_at st.2 fun o e => hk t (by simp) o e⟩
  item := fun i s Q E hi st hQ => by
    refine next_t st.1 st.2 (x := xs[i]) (by simp [hi]) fun h' a b => ?_
    exact hQ _ h' s.toks (by simp [hi]) ⟨a, st.2.extBut b.extBut hne⟩ b
  done := fun s Q E st hE => stop_t hh st.1 st.2 (by simp) hE
theorem call_t {t : Addr} {xs : Array Value} {Q : Value → Shared → Prop} (k : s.heap.IsTuple t xs)
    (h : ∀ h', IsEnum h' (s.heap.objs.size + 1) s.heap.objs.size 0 .none → h'.IsTupleIter s.heap.objs.size t 0 → h'.objs.size = s.heap.objs.size + 2 →
      (∀ b o, s.heap.get? b = some o → h'.get? b = some o) → Q (.ref (s.heap.objs.size + 1)) { s with heap := h' }) : wpAny (model prog w) A (call (.type "enumerate") [.ref t]) Q E s := by
  obtain ⟨⟨c, dd, dt, sl⟩, e1, e2, n, e3⟩ := k
  obtain rfl : c = .type "tuple" := e2
  obtain rfl : dt = .seq xs n := e3
  refine callType_new F.called_enumerate (by decide) (F.typeCall_enumerate_1 _) (F.newCall_enumerate_1 _) (fun obj => F.args_object_init_2 obj _)
    F.entry_enumerate_new (made_t t xs n dd sl) ⟨e1, ?_⟩
  have z1 : (s.heap.push { cls := .type "tuple_iterator", data := .fields #[.ref t, .int 0 0] }).objs.size = s.heap.objs.size + 1 := Heap.size_push ..
  show _ ∧ _
  rw [z1]
  have z2 := Heap.get?_push_size (s.heap.push { cls := .type "tuple_iterator", data := .fields #[.ref t, .int 0 0] }) (o := { cls := .type "enumerate", data := .fields #[.none, .bool false, .ref s.heap.objs.size, rawInt 0, .none, .none] }) rfl
  rw [z1] at z2
  exact ⟨⟨_, z2, rfl⟩, h _ z2 ⟨_, Heap.get?_push_of_some _ (Heap.get?_push_size _ rfl), rfl, rfl⟩ (by rw [Heap.size_push, z1]) fun b o y => Heap.get?_push_of_some _ (Heap.get?_push_of_some _ y)⟩
end
end E1
end PySem
namespace L2
open PySem PySem.Spec PyProof.Rows
/-- the tuple at a, its items in new pairs behind their numbers -/
def IteT (K : PySem.W.Frag) (a : Addr) : It :=
  ⟨fun i H => ∃ (xs : List V) (x : V), SqT K H a xs ∧ xs[i]? = some x, fun i H v H' => ∃ T x, v = .ref T ∧ H T = none ∧ H' = upd H T (.tup [.int (i : Nat), x]) ∧ ∀ xs, SqT K H a xs → xs[i]? = some x,
    fun i H => ∃ xs : List V, SqT K H a xs ∧ xs.length ≤ i⟩
theorem turn_enumT {P : Program} {w : World} {K : PySem.W.Frag} {elts : List Expr} {kk : Nat} {tpos : Pos} (a e it : Addr) (hai : a ≠ it) (hae : a ≠ e) :
    Turn P w K (.Tuple elts kk tpos) (IteT K a) [e, it] e (fun i h => (∃ old, IsEnum h e it ((i : Nat) : Int) old) ∧ h.IsTupleIter it a i ∧ e ≠ it) where
  mem := by simp
  obj := fun i h st b hb => by
    obtain ⟨⟨old, q1⟩, ⟨o, q2, _, q3⟩, _⟩ := st
    rcases (show b = e ∨ b = it by simpa using hb) with z | z
    · rw [z]; exact ⟨_, q1, fun v q => nomatch q⟩
    · rw [z]; exact ⟨o, q2, fun v q => by rw [q3] at q; cases q⟩
  keep := fun i h h' st k => let ⟨⟨old, q1⟩, q2, q3⟩ := st; ⟨⟨old, k e (by simp) _ q1⟩, q2.at fun o q => k it (by simp) o q, q3⟩
  item := by
    intro X hP hw hK hc i pins s σ H E I hf st hg
    subst hP hw hK
    obtain ⟨⟨old, q1⟩, q2, q3⟩ := st
    obtain ⟨xs, x, hq, hx⟩ := hg
    obtain ⟨its, rv, p, hz⟩ := I.tuple hq
    obtain ⟨u, hu, ru⟩ := rv.get hx
    have p' : s.heap.IsTuple a its.toArray := p
    have l1 : e < s.heap.objs.size := Heap.lt_size q1
    have l2 : it < s.heap.objs.size := by obtain ⟨_, q, _⟩ := q2; exact Heap.lt_size q
    have hlt : i < its.toArray.size := by
      have := (List.getElem?_eq_some_iff.mp hu).1
      simpa using this
    refine wpAny_pyNext_enum_itemD (E1.draws_t (A := X.A.in1) (I.ok.hd hc) it a hai its.toArray) q1 ⟨q2, p'⟩ hlt q3 (by simp [q3, Ne.symm hae]) fun y h' tk hy ho st' hT hsz hk => ?_
    obtain rfl : y = u := by
      have e1 : its.toArray[i]? = some u := by simpa using hu
      exact Option.some.inj (hy.symm.trans e1)
    refine ⟨_, rfl, wpAny_letOwnedTupleGo_enum (s := { s with heap := h', toks := tk + 1 }) ho fun h'' he' sb => ?_⟩
    have hT2 : h''.get? s.heap.objs.size = some { cls := .type "tuple", data := .seq #[.int i tk, y] } := (sb.2 _ (Nat.ne_of_gt l1)).trans hT
    have new : ObjOk X.prog X.w (upd H s.heap.objs.size (.tup [.int (i : Nat), x])) h'' s.heap.objs.size (.tup [.int (i : Nat), x]) :=
      ⟨by show 2 ≤ sizeLine; decide, [.int i tk, y], .cons ⟨_, rfl⟩ (.cons ru .nil), ⟨_, hT2, rfl, _, rfl⟩⟩
    have I1 : Inv X pins σ (upd H s.heap.objs.size (.tup [.int (i : Nat), x])) { s with heap := h'', toks := tk + 1 } :=
      I.turnedNew (ch := [e, it]) (fun b ob hb q => (sb.2 b (fun z => hb (by simp [z]))).trans (hk b ob (fun z => hb (by simp [z])) (fun z => hb (by simp [z])) q)) hf (Nat.le_refl _) new
    refine ⟨.ref s.heap.objs.size, _, I1, rfl, ⟨_, x, rfl, I.hok.fresh (Nat.le_refl _), rfl, fun ys hy => by rw [I.tuple_inj hy hq]; exact hx⟩, ⟨⟨y, ?_⟩, st'.1.at fun o q => (sb.2 it (Ne.symm q3)).trans q, q3⟩, fun b hb => ?_⟩
    · rw [show ((i + 1 : Nat) : Int) = (i : Int) + 1 by omega]
      exact he'
    · have hb' : b < s.heap.objs.size := by
        rcases (show b = e ∨ b = it by simpa using hb) with z | z
        · rw [z]; exact l1
        · rw [z]; exact l2
      rw [upd_ne (Nat.ne_of_lt hb')]
      exact (hf b hb).1
  done := by
    intro X hP hw hK hc i pins s σ H E I hf st hg
    subst hP hw hK
    obtain ⟨⟨old, q1⟩, q2, q3⟩ := st
    obtain ⟨xs, hq, hx⟩ := hg
    obtain ⟨its, rv, p, hz⟩ := I.tuple hq
    have p' : s.heap.IsTuple a its.toArray := p
    obtain ⟨f0, f1, f2, f3, f4, f5⟩ := hf it (by simp)
    have hl := rv.length
    have hT : s.TypeIs (.ref e) "enumerate" := ⟨_, q1, rfl⟩
    unfold pyNext; refine wpAny_bind (wpAny_attempt (wpAny_callSpecial?_slot (name := Str.ofString "__next__") hT F.slot_enumerate_next (wpAny_call_entry F.slot_enumerate_next hT F.entry_enumerate_next ?_ (F.args_enumerate_next_1 _))))
    show wpAny _ _ (field (.ref e) 2 >>= _) _ _ _; refine wpAny_bind (wpAny_field q1 rfl (x := .ref it) rfl ?_)
    refine wpAny_bind (E1.stop_t (A := X.A.in1) (I.ok.hd hc) q2 p' (by simp; omega) fun h' y eb hy => ?_)
    obtain ⟨o, o1, o2⟩ := hy
    refine wpAny_bind (wpAny_isInstance (T := "StopIteration") (b := true) ⟨o, o1, o2⟩ isSubtype_stop ?_)
    exact wpAny_pure ⟨rfl, I.turned (t' := s.toks) (fun b o hb q => eb b o hb q) f0 f1 f3 f4 f5⟩
  self := fun A i s Q E st h => let ⟨⟨_, he⟩, _⟩ := st; wpAny_pyIter_enum he h
def iEnumA (K : PySem.W.Frag) (ta : TA) : TI := fun σ H R => ta σ H fun vs H1 => ∃ a xs, vs = [.ref a] ∧ ((SqL K H1 a xs ∧ R (Ite K a) H1) ∨ (SqT K H1 a xs ∧ R (IteT K a) H1))
theorem pi_enumA {X : Cx} {e : Expr} {ta : TA} {p pos tpos : Pos} {elts : List Expr} {kk : Nat} (hg : Gl X "enumerate") (hm : X.mg "enumerate" = none) (ha : PA X [e] ta) (hs : starEach [e] X.env = [(false, eval e X.env)] := by rfl) :
    PI X (.Tuple elts kk tpos) (.Call (.Name "enumerate" p) [e] [] pos) (iEnumA X.K ta) := by
  refine ⟨fun pins s σ H R I h => ?_⟩
  refine Call_ (ld_blt I hg hm boot_enumerate (PyProof.Rows.callWith_type1 (thn (ha.run pos pins s σ H _ I h) fun us s1 ⟨vs, H1, I1, r1, q1⟩ => ?_) hs rfl))
  obtain ⟨a, xs, rfl, q1⟩ := q1
  cases r1 with
  | cons r rr =>
    cases rr
    cases r
    rcases q1 with ⟨hq, q⟩ | ⟨hq, q⟩
    · obtain ⟨its, rv, p', hz⟩ := I1.list hq
      refine call_enumerate_list p'.isList fun h' q1 q2 hsz hk => wpAny_pyIter_enum q1 ?_
      have I2 : Inv X pins σ H1 { s1 with heap := h' } := I1.kept (t' := s1.toks) hk
      refine ⟨s1.heap.objs.size + 1, [s1.heap.objs.size + 1, s1.heap.objs.size], _, _, H1, rfl, I2, turn_enum a (s1.heap.objs.size + 1) s1.heap.objs.size, ⟨⟨.none, q1⟩, q2, Nat.succ_ne_self _⟩, fun b hb => ?_, q⟩
      have hle : s1.heap.objs.size ≤ b := by
        rcases (show b = s1.heap.objs.size + 1 ∨ b = s1.heap.objs.size by simpa using hb) with z | z <;> (rw [z]; first | exact Nat.le_add_right _ _ | exact Nat.le_refl _)
      exact I1.fpOk hle (I1.hok.fresh hle)
    · obtain ⟨its, rv, p', hz⟩ := I1.tuple hq
      have p2 : s1.heap.IsTuple a its.toArray := p'
      have l0 : a < s1.heap.objs.size := by obtain ⟨o, e1, _⟩ := p2; exact Heap.lt_size e1
      refine E1.call_t p2 fun h' q1 q2 hsz hk => wpAny_pyIter_enum q1 ?_
      have I2 : Inv X pins σ H1 { s1 with heap := h' } := I1.kept (t' := s1.toks) hk
      refine ⟨s1.heap.objs.size + 1, [s1.heap.objs.size + 1, s1.heap.objs.size], _, _, H1, rfl, I2, turn_enumT a (s1.heap.objs.size + 1) s1.heap.objs.size (Nat.ne_of_lt l0) (Nat.ne_of_lt (Nat.lt_succ_of_lt l0)), ⟨⟨.none, q1⟩, q2, Nat.succ_ne_self _⟩, fun b hb => ?_, q⟩
      have hle : s1.heap.objs.size ≤ b := by
        rcases (show b = s1.heap.objs.size + 1 ∨ b = s1.heap.objs.size by simpa using hb) with z | z <;> (rw [z]; first | exact Nat.le_add_right _ _ | exact Nat.le_refl _)
      exact I1.fpOk hle (I1.hok.fresh hle)
theorem walk_enumT {K : PySem.W.Frag} {a : Addr} {xs : List V} : L2.Walk (IteT K a) xs.length (fun H => SqT K H a xs) (YPair (fun i => some (.int (i : Nat))) (fun i => xs[i]?)) := by
  refine ⟨fun i _ hi q => ⟨xs, xs[i], q, by simp [hi]⟩, fun _ q => ⟨xs, q, Nat.le_refl _⟩, fun i H v H' _ q y => ?_⟩
  obtain ⟨T, x, h1, h2, h3, h4⟩ := y
  exact ⟨T, .int (i : Nat), x, h1, h2, h3, rfl, h4 xs q⟩
end L2
namespace L2
open PySem PySem.Spec PyProof.Rows
namespace FB
open PySem.W PySem.Calls Builtin Builtin.Int Builtin.Float
def dg (n : Nat) : List Nat := (Nat.toDigits 2 n).map Char.toNat
def fb : FormatSpec := { align := 62, type := some 98 }
theorem digs_eq (n : Nat) : ((Nat.toDigits 2 n).map fun c => (if ((98 : Nat) == 88) = true then c.toUpper else c).toNat) = dg n := rfl
theorem field_fb {ds : List Nat} (h : ds ≠ []) : intField' fb false [] ds [] 4 = ⟨ds.toArray⟩ := by
  unfold intField' fb
  have e : ds.isEmpty = false := by cases ds with | nil => exact absurd rfl h | cons a r => rfl
  simp [e]
theorem dg_ne (n : Nat) : dg n ≠ [] := by
  intro e
  have := tDigits_len_ge 2 n
  have l : (dg n).length = (Nat.toDigits 2 n).length := List.length_map ..
  rw [e] at l
  rw [← l] at this
  exact absurd this (by decide)
theorem text_fb {a : Int} (h0 : 0 ≤ a) : intField' fb (decide (a < 0)) [] ((Nat.toDigits 2 a.natAbs).map fun c => (if ((98 : Nat) == 88) = true then c.toUpper else c).toNat) [] 4 = ⟨(dg a.natAbs).toArray⟩ := by
  rw [digs_eq, decide_eq_false (by omega), field_fb (dg_ne _)]
theorem step_ite {M : Model} {A : Around} {E : Value → Shared → Prop} {s : Shared} {Q : Fin → Shared → Prop} {x t e : Sem Fin} {c : Prop} [Decidable c] (hx : x = ite c t e) (hc : ¬ c) (h : wpAny M A e Q E s) : wpAny M A x Q E s := by
  rw [hx, if_neg hc]
  exact h
theorem ret2 {M : Model} {A : Around} {E : Value → Shared → Prop} {s : Shared} {X T : PySem.Str} {Q : Fin → Shared → Prop} (e : X = T) (hL : T.length ≤ sizeLine) (h : ∀ t k, Q (.done (.ret (.str T t))) { s with toks := k }) : wpAny M A (retStr X) Q E s :=
  KXf.ret_text e (e ▸ hL) h
theorem meets_fb {a : Int} {t u : Tok} (h0 : 0 ≤ a) (hl : (dg a.natAbs).length ≤ 1000) :
    Meets («int.__format__» ⟨[.int a t, .str (⟨#[98]⟩ : Str) u], []⟩) (fun _ R s => ∀ t' k, R (.ok (.ret (.str ⟨(dg a.natAbs).toArray⟩ t'))) { s with toks := k }) := by
  apply KPc.meets_of
  intro prog w A s Q E h
  unfold Builtin.«int.__format__»
  refine wpAny_bind (wpAny_of_eq (a := (_, _)) rfl ?_)
  refine wpAny_bind (wpAny_of_eq (a := _) rfl ?_)
  kxf_if
  refine wpAny_bind (wpAny_typeNameOf (T := "str") (typeIs_str _ _ _) (by decide) fun _ => ?_)
  refine wpAny_bind (wpAny_of_eq (a := some _) rfl ?_)
  kxf_if
  kxf_if
  refine wpAny_bind (wpAny_typeNameOfCut_int ?_)
  repeat kxf_if
  have hneg : decide (a < 0) = false := decide_eq_false (by omega)
  refine ret2 (T := ⟨(dg a.natAbs).toArray⟩) ?_ ?_ h
  · conv => lhs; whnf
    rw [hneg]
    simp
    rfl
  · show (dg a.natAbs).toArray.size ≤ _
    rw [List.size_toArray]
    exact Nat.le_trans hl (by decide)
theorem field_b {prog : Program} {w : World} {A : Around} {E : Value → Shared → Prop} {s : Shared} {a : Int} {t : Tok} {Q : Value → Shared → Prop} (h0 : 0 ≤ a) (hl : (dg a.natAbs).length ≤ 1000)
    (h : ∀ t' k, Q (.str ⟨(dg a.natAbs).toArray⟩ t') { s with toks := k }) : wpAny (model prog w) A (formatField (.int a t) (⟨#[98]⟩ : Str)) Q E s :=
  KXf.field_int rfl (by decide) (by decide) (fun u => meets_fb h0 hl) h
end FB
/-- f"{e:b}" -/
def tFmtB (te : TE) : TE := fun σ H Q => te σ H fun x H1 => ∃ n : Nat, x = .int (n : Int) ∧ (FB.dg n).length ≤ 1000 ∧ Q (.str ⟨(FB.dg n).toArray⟩) H1
theorem pe_fmtB {X : Cx} {e : Expr} {te : TE} {p1 p2 pos : Pos} {kd : Nat} (he : PE X e te) : PE X (.FormattedValue e (-1) (some (.JoinedStr [.Constant (.str "b") kd p1] p2)) pos) (tFmtB te) := by
  refine ⟨fun pins s σ H Q I h => ?_⟩
  refine wpAny_FormattedValue_spec (thn (he.run pins s σ H _ I h) fun v s1 hv => ?_)
  obtain ⟨x, H1, I1, r1, n, rfl, hl, q⟩ := hv
  obtain ⟨t, rfl⟩ := r1
  refine wpAny_JoinedStr_one (thn ((pe_str (X := X)).run pins s1 σ H1 (fun x H' => x = .str "b" ∧ H' = H1) I1 ⟨rfl, rfl⟩) fun v s2 hv => ?_)
  obtain ⟨x, H2, I2, r2, rfl, rfl⟩ := hv
  obtain ⟨t2, rfl⟩ := r2
  exact ⟨_, _, rfl, FB.field_b (Int.natCast_nonneg n) hl fun t' k => ⟨.str ⟨(FB.dg n).toArray⟩, H2, I2.tok k, ⟨t', rfl⟩, q⟩⟩
end L2
namespace L2
open PySem PySem.Spec PyProof.Rows
section
variable {X : Cx}
/-- name = {..} on one line, the name a local -/
theorem ps_setDc {i : Nat} {y : Str} {py : Pos} {kx vx tg iter : Expr} {ifs : List Expr} {scope : Scope} {own : List (Str × Nat)} {pos spos : Pos} {wi : TI} {g : TG} {tt : TT} {tk tv : TE} (hc : X.calm = true) (hN : X.N.Nodup) (hy : X.N[i]? = some y) (hyl : X.env.scope.names.lookup y = some .local)
    (hsw : swapsWith (.DictComp kx vx [⟨tg, iter, ifs, 0⟩] scope pos) (some (.Name y py)) spos.line X.env = pure true) (hi : PI X tg iter wi) (ok : BlkOk X.N X.env.scope scope own)
    (hg : ∀ (s : Shared) (H : Hp) (C : Addr) (cl : List (Str × Addr)) (fp : List Addr), PG (X.blk s H scope (compEnvC scope cl C X.env) fp) tg g) (ht : ∀ (s : Shared) (H : Hp) (C : Addr) (cl : List (Str × Addr)) (fp : List Addr), PTs (X.blk s H scope (compEnvC scope cl C X.env) fp) ifs tt)
    (hk : ∀ (s : Shared) (H : Hp) (C : Addr) (cl : List (Str × Addr)) (fp : List Addr), PE (X.blk s H scope (compEnvC scope cl C X.env) fp) kx tk) (he : ∀ (s : Shared) (H : Hp) (C : Addr) (cl : List (Str × Addr)) (fp : List Addr), PE (X.blk s H scope (compEnvC scope cl C X.env) fp) vx tv)
    (hs : ∀ x, foldedSetIterable iter X.env x = pure x := by intro _; rfl) : PS X (.Assign [.Name y py] (.DictComp kx vx [⟨tg, iter, ifs, 0⟩] scope pos) spos) (tAsg (tDc wi g tt tk tv (own.map (·.2))) (gName i)) := by
  refine ⟨fun pins s σ H D I h => ?_⟩
  rw [exec_Assign_Name_used _ _ _ _ hsw]; refine wpAny_bind (wpAny_standAt (wpAny_bind ?_))
  show wpAny _ X.A (do let _ ← comprehension (.DictComp kx vx [⟨tg, iter, ifs, 0⟩] scope pos) scope X.env (firstIterPos [⟨tg, iter, ifs, 0⟩] pos) newDict false (eval iter X.env) (some (assign (.Name y py) X.env))) _ _ s
  have h : tDc wi g tt tk tv (own.map (·.2)) σ H (fun x H1 => gName i x σ H1 D.nx) := h
  refine wpAny_bind (thn (dc_core (Qf := fun _ s' => SP X pins D .next s') hc hN I hi ok hg ht hk he hs h fun L C s' m H' I' q hn f => ?_) fun _ s' hq => wpAny_pure (wpAny_pure hq))
  show wpAny _ _ (assign (.Name y py) X.env (.ref L)) _ _ _
  refine wpAny_assign_Name (store_ok2 (v := V.ref L) I' hN hy (.inl hyl) rfl (fun s2 I2 ⟨a, sb, ha⟩ => ?_) (.inr hyl))
  obtain ⟨f0, f1, f2, f3, f4, f5⟩ := f
  have haC : C ≠ a := ha.elim (fun z => z ▸ f1) fun z e => f4 y a z e.symm
  exact ⟨m, hn.sameBut sb haC, fun h3 sb3 => ⟨_, H', I2.turned (t' := s2.toks) (fun b o hb e => (sb3.2 b hb).trans e) f0 f1 f3 f4 f5, q⟩⟩
theorem sw_trueD {kx vx : Expr} {gs : List Comprehension} {scope : Scope} {pos py : Pos} {y : Str} {l : Nat} {env : Env} (hk : env.scope.kind = .function) (hy : env.scope.names.lookup y = some .local) (hl : (py.line == pos.line) = true)
    (ha : (scope.names.any fun (n, k) => n == y && (k == .local || k == .cell)) = false) : swapsWith (.DictComp kx vx gs scope pos) (some (.Name y py)) l env = pure true := by
  have k1 : env.kindOf y = some .local := hy
  have k2 : env.blockKind = .function := by unfold Env.blockKind; rw [hk]; rfl
  unfold swapsWith
  simp only [k1, k2, ha, Expr.pos, hl]
  rfl
end
end L2
namespace Cov
open PySem PySem.Spec PyProof.Rows L2
/-! ## texts of data: repr -/
def kD : Key → PyData
  | .inl i => .int i
  | .inr x => .str x
def vD : V → Option PyData
  | .non => some .none
  | .bl b => some (.bool b)
  | .int i => some (.int i)
  | .str x => some (.str x)
  | _ => none
inductive Flat : List (Key × V) → List (PyData × PyData) → Prop
  | nil : Flat [] []
  | cons {k : Key} {v : V} {d : PyData} {r : List (Key × V)} {ds : List (PyData × PyData)} : vD v = some d → Flat r ds → Flat ((k, v) :: r) ((kD k, d) :: ds)
/-- what a value's text is made of -/
inductive Rp (K : PySem.W.Frag) (H : Hp) : V → PyData → Prop
  | dat {x : V} {d : PyData} : Dp K H x d → PyData.hasDict d = false → Rp K H x d
  | dct {a : Addr} {kvs : List (Key × V)} {ds : List (PyData × PyData)} : H a = some (.dK kvs) → Flat kvs ds → Rp K H (.ref a) (.dict ds)
section
variable {X : Cx} {pins : List (Addr × Obj)} {σ : L2.St} {H : Hp} {s : Shared}
theorem vD_reads {h : Heap} {v : V} {d : PyData} {u : Value} (e : vD v = some d) (r : RelV v u) : Reads h u d [] := by
  cases v with
  | non => cases e; cases (show u = Value.none from r); exact .none
  | bl b => cases e; cases (show u = Value.bool b from r); exact .bool b
  | int i => cases e; obtain ⟨t, rfl⟩ := (show ∃ t, u = Value.int i t from r); exact .int i t
  | str x => cases e; obtain ⟨t, rfl⟩ := (show ∃ t, u = Value.str x t from r); exact .str x t
  | byt b => cases e
  | flt b => cases e
  | ref a => cases e
  | ty n => cases e
theorem flat_reads {P : Program} {w : World} {h : Heap} : ∀ {kvs : List (Key × V)} {ds : List (PyData × PyData)} {es : List DictEntry} {vs : List (Key × Value)}, Flat kvs ds → KV kvs vs → PySem.Pairs (mixKind P w) es vs →
    ReadsAll h (es.map (·.key)) (ds.map (·.1)) [] ∧ ReadsAll h (es.map (·.val)) (ds.map (·.2)) []
  | _, _, _, _, .nil, .nil, .nil => ⟨.nil, .nil⟩
  | _, _, _, _, .cons hv hr, .cons hk hkr, .cons he1 he2 her => by
    obtain ⟨i1, i2⟩ := flat_reads hr hkr her
    obtain ⟨q1, q2⟩ := hk
    refine ⟨ReadsAll.cons (as := []) (bs := []) ?_ i1, ReadsAll.cons (as := []) (bs := []) ?_ i2⟩
    · have he1' := he1
      rw [mixKind_is, ← q1] at he1'
      rcases keyIs_shape he1' with ⟨i, t, e1, e2⟩ | ⟨x, t, e1, e2⟩
      · simp only at e1; subst e1; show Reads h _ (PyData.int i) []; simp only [e2]; exact Reads.int i t
      · simp only at e1; subst e1; show Reads h _ (PyData.str x) []; simp only [e2]; exact Reads.str x t
    · simp only [he2]; exact vD_reads hv q2
theorem Rp.reads (I : Inv X pins σ H s) {x : V} {d : PyData} {u : Value} (h : Rp X.K H x d) (r : RelV x u) : ∃ as, Reads s.heap u d as ∧ (PyData.hasDict d = true → sysModules ∉ as) := by
  cases h with
  | dat h0 h1 =>
    obtain ⟨as, q⟩ := Dp.reads I d x u h0 r
    exact ⟨as, q, fun z => by rw [h1] at z; cases z⟩
  | @dct a kvs ds ha hf =>
    obtain ⟨z, ns, vs, rel, o, es, ep, e1, e2, e3, e4, e5, e6⟩ := dk_of I.hok ha
    cases (show u = Value.ref a from r)
    obtain ⟨r1, r2⟩ := flat_reads (h := s.heap) hf rel e5
    refine ⟨_, Reads.dict e1 e2.1 e3 r1 r2, fun _ hm => ?_⟩
    rw [List.append_nil, List.mem_singleton] at hm
    exact (beq_eq_false_iff_ne.mp ns) hm.symm
/-- repr(x), where nothing around is being shown -/
@[irreducible] def rRepr (K : PySem.W.Frag) : List V → Hp → VK → Prop := fun xs H Q => ∃ (x : V) (d : PyData), xs = [x] ∧ Rp K H x d ∧ PyData.showable d = true ∧ PyData.depth d ≤ 50 ∧ d.shown.length ≤ sizeLine ∧ Q (.str d.shown) H
theorem call_repr (hg : X.A.guards = some []) (hu : X.A.units + 60 < cLine) : CallR X (.builtin "repr") (rRepr X.K) := by
  intro pins s σ H xs us Q I r h
  unfold rRepr at h
  obtain ⟨x, d, rfl, hx, hs, hd, hz, q⟩ := h
  obtain ⟨u, rfl, ru⟩ := vals1 r
  obtain ⟨as, rd, hm⟩ := hx.reads I ru
  cases rd with
  | none => exact PySem.P.repr_of_none ⟨.str _, H, I.tok _, ⟨_, rfl⟩, by simpa only [PyData.shown] using q⟩
  | bool b => exact PySem.P.repr_of_bool ⟨.str _, H, I.tok _, ⟨_, rfl⟩, by simpa only [PyData.shown] using q⟩
  | int i t => exact PySem.P.repr_of_int (by simpa [PyData.showable] using hs) ⟨.str _, H, I.tok _, ⟨_, rfl⟩, by simpa only [PyData.shown] using q⟩
  | str y t => exact PySem.P.repr_of_str (hsz := by simpa only [PyData.shown] using hz) ⟨.str _, H, I.tok _, ⟨_, rfl⟩, by simpa only [PyData.shown] using q⟩
  | list h1 h2 h3 h4 => exact repr_of_reads' (.list h1 h2 h3 h4) hs hm hg (by omega) (fun _ _ e => e) (fun h' u tk hk => ⟨.str _, H, I.kept hk, ⟨_, rfl⟩, q⟩) hz
  | tuple h1 h2 h3 h4 => exact repr_of_reads' (.tuple h1 h2 h3 h4) hs hm hg (by omega) (fun _ _ e => e) (fun h' u tk hk => ⟨.str _, H, I.kept hk, ⟨_, rfl⟩, q⟩) hz
  | dict h1 h2 h3 h4 h5 => exact repr_of_reads' (.dict h1 h2 h3 h4 h5) hs hm hg (by omega) (fun _ _ e => e) (fun h' u tk hk => ⟨.str _, H, I.kept hk, ⟨_, rfl⟩, q⟩) hz
end
theorem repr_go {K : PySem.W.Frag} {H : Hp} {Q : VK} {x : V} {d : PyData} (h : Rp K H x d ∧ PyData.showable d = true ∧ PyData.depth d ≤ 50 ∧ d.shown.length ≤ sizeLine) (q : Q (.str d.shown) H) : rRepr K [x] H Q := by
  unfold rRepr
  exact ⟨x, d, rfl, h.1, h.2.1, h.2.2.1, h.2.2.2, q⟩
open PySem PySem.Spec PyProof.Rows L2
/-! ## room in which nothing is being shown -/
structure RoomG (k : Nat) (A : Around) : Prop where
  r : Room k A
  g : A.guards = some []
theorem RoomG.mono {j k : Nat} {A : Around} (x : RoomG k A) (h : j ≤ k) : RoomG j A := ⟨x.r.mono h, x.g⟩
theorem RoomG.deeper {k : Nat} {A : Around} (x : RoomG (k + 1) A) (e : Env) : RoomG k (A.deeper e) := ⟨x.r.deeper e, x.g⟩
theorem RoomG.u {k : Nat} {A : Around} (x : RoomG k A) : A.units + 60 < cLine := Nat.lt_trans (by omega) x.r.units
theorem RoomG.u1 {k : Nat} {A : Around} (x : RoomG k A) : A.units + 1 < cLine := by have := x.u; omega
theorem RoomG.u64 {k : Nat} {A : Around} (x : RoomG k A) : A.units + 64 < cLine := x.r.units
/-! ## promises that hold where nothing is being shown -/
structure FnG (P : Program) (w : World) (K : PySem.W.Frag) (mg : Str → Option Value) (base : Heap) (CX : CXT) (k : Nat) (f : Addr) (fd : FuncData) (ps : List Str) (sp : Sp) : Prop where
  len : ∀ vs H Q E, sp vs H Q E → vs.length = ps.length
  run : ∀ (A : Around) (outer : List Env) (s : Shared) (H : Hp) (args : Args) (us : List Value) (vs : List V) (Q : VK) (E : XK),
    RoomG k A → Env0 P w K mg base A outer s H → BindsTo s fd args (ps.zip us) → Vals vs us → sp vs H Q E → codeAny (model P w) A (.call (.ref f) args) (CR CX outer P w H s Q E) s
theorem FnG.of {P : Program} {w : World} {K : PySem.W.Frag} {mg : Str → Option Value} {base : Heap} {CX : CXT} {k : Nat} {f : Addr} {fd : FuncData} {ps : List Str} {sp : Sp} (F : FnOk P w K mg base CX k f fd ps sp) : FnG P w K mg base CX k f fd ps sp :=
  ⟨F.len, fun A outer s H args us vs Q E hr => F.run A outer s H args us vs Q E hr.r⟩
/-- a def by its name: st its statement, ps its parameters -/
structure Nm (P : Program) (w : World) (K : PySem.W.Frag) (mg : Str → Option Value) (base : Heap) (CX : CXT) (k : Nat) (x : Str) (st : Stmt) (ps : List Str) (sp : Sp) : Prop where
  ex : ∃ (f : Addr) (fd : FuncData), Fun K x x st f fd ∧ mg x = some (.ref f) ∧ FnG P w K mg base CX k f fd ps sp
section
variable {P : Program} {w : World} {K : PySem.W.Frag} {mg : Str → Option Value} {base : Heap} {CX : CXT}
/-- THE RULE for a def -/
theorem nm_of {x : Str} {st : Stmt} {f : Addr} {fd : FuncData} {N ps : List Str} {k : Nat} {sp : Sp} (F : Fun K x x st f fd) (hm : mg x = some (.ref f)) (S : FnScope N ps (defScope st)) (len : ∀ vs H Q E, sp vs H Q E → vs.length = ps.length)
    (hb : ∀ (cdv : Value) (A : Around) (outer : List Env) (s : Shared) (H : Hp) (vs : List V) (Q : VK) (E : XK), RoomG k (A.deeper (envOfC x (defScope st) s.heap.objs.size f cdv)) → sp vs H Q E →
      ∃ t, PSs (cxOf CX P w K mg base N x (defScope st) f cdv A outer s H E) (defBody st) t ∧ t { nx := fun _ H' => Q .non H', rt := Q } (start N vs) H) : Nm P w K mg base CX (k + 1) x st ps sp := by
  refine ⟨f, fd, F, hm, len, ?_⟩
  obtain ⟨oc, od, kV, doc, pm, an, cdv, ct, osl, rfl, lk, hcd⟩ := F.ex
  intro A outer s H args us vs Q E hr e0 bt rv hs
  have hl := len _ _ _ _ hs
  have kin : K.In s.heap := e0.mod.kin.keeps fun b o e => (e0.bs b o e).1
  have nol : s.heap.NoLimit := e0.mod.nolimit.keeps fun b o e => (e0.bs b o e).1
  refine codeAny_call_function hr.r.depth (kin _ _ lk) rfl S.co S.gen rfl (PySem.W.codeRec_of kin hcd) (bt _ _ _ _ ?_)
  refine wpAny_newFunctionEnv_cells S.kind (fun ⟨n, v⟩ hy => ?_) fun env he s1 x1 => ?_
  · cases S.par n (List.of_mem_zip hy).1 with
    | inl q => exact .inl q
    | inr q => exact .inr ⟨q, PySem.W.cellsFrom_some _ _ _ (.inl q)⟩
  · subst he
    refine ⟨nol.keeps x1.toInCall.keep, codeAny_func ?_⟩
    obtain ⟨t, ht, hq⟩ := hb cdv A outer s H vs Q E (hr.deeper _) hs
    have I : Inv (cxOf CX P w K mg base N x (defScope st) f cdv A outer s H E) [] (start N vs) H s1 := inv_start S hr.r.hd e0 hl rv x1
    refine wpAny_mono (ht.run [] s1 (start N vs) H _ I hq) (fun fl s' z => ?_) fun e s' z => z
    cases fl with
    | ret u => obtain ⟨v, σ', H', J, r2, q⟩ := z; exact ⟨v, H', J.os, J.bare, J.base, J.hok, r2, q⟩
    | next => obtain ⟨σ', H', J, q⟩ := z; exact ⟨.non, H', J.os, J.bare, J.base, J.hok, rfl, q⟩
    | brk => obtain ⟨_, _, _, q⟩ := z; exact q.elim
    | cont => obtain ⟨_, _, _, q⟩ := z; exact q.elim
end
section
variable {X : Cx} {CX : CXT} {k j : Nat} {f : Addr} {fd : FuncData} {st : Stmt} {ps ks : List Str} {sp : Sp} {E : XK} {x : Str} {p pos : Pos} {e : Expr} {es : List Expr} {kws : List Keyword} {t tk : TA}
theorem run_g {pins : List (Addr × Obj)} {σ : L2.St} {H : Hp} {s : Shared} {Q : VK} {us ws : List Value} {kw : List (Str × Value)} {vs : List V} (F : FnG X.prog X.w X.K X.mg X.base CX k f fd ps sp) (hr : RoomG k X.A)
    (hb : BindsTo s fd ⟨us, kw⟩ (ps.zip ws)) (hx : Passes CX X E) (I : Inv X pins σ H s) (r : Vals vs ws) (h : sp vs H Q E) : wpAny (model X.prog X.w) X.A (call (.ref f) us kw) (EP X pins σ Q) X.xe s := by
  refine wpAny_call (codeAny_mono (F.run X.A X.stack s H ⟨us, kw⟩ ws vs Q E hr I.env0 hb r h) fun y s' z => ?_)
  match y, z with
  | .error e, z => exact hx pins σ H s e s' I z
  | .ok (.ret u), z => exact I.after z
  | .ok .next, z => exact z.elim
  | .ok .brk, z => exact z.elim
  | .ok .cont, z => exact z.elim
/-- a selection of places -/
def sel {α : Type} (ix : List Nat) (l : List α) : List α := ix.filterMap fun i => l[i]?
theorem sel_vals {xs : List V} {us : List Value} (r : Vals xs us) : ∀ ix : List Nat, Vals (sel ix xs) (sel ix us)
  | [] => .nil
  | i :: ix => by
    unfold sel
    rw [List.filterMap_cons, List.filterMap_cons]
    cases e : xs[i]? with
    | none => rw [r.none_of e]; exact sel_vals r ix
    | some v =>
      obtain ⟨u, h1, h2⟩ := r.get e
      rw [h1]
      exact .cons h2 (sel_vals r ix)
/-- how arguments written by place (n of them) and by name (ks) come to the parameters -/
def Bnd (x : Str) (st : Stmt) (ps : List Str) (n : Nat) (ks : List Str) (ix : List Nat) : Prop :=
  ∀ (kV doc pm cdv ct : Value) (an : Option Addr) (us ws : List Value), us.length = n → ws.length = ks.length →
    bindArgs (PySem.W.fnOf x x (defArgs st) (defBody st) (defScope st) .none kV doc pm an cdv ct) ⟨us, ks.zip ws⟩ = pure (ps.zip (sel ix (us ++ ws)))
def tG (sp : Sp) (E : XK) (t : TA) : TE := fun σ H Q => t σ H fun vs H1 => sp vs H1 Q E
def tGK (sp : Sp) (n m : Nat) (ix : List Nat) (E : XK) (t tk : TA) : TE := fun σ H Q => t σ H fun vs H1 => tk σ H1 fun zs H2 => vs.length = n ∧ zs.length = m ∧ sp (sel ix (vs ++ zs)) H2 Q E
/-- plain positional binding -/
def BndP (x : Str) (st : Stmt) (ps : List Str) : Prop :=
  ∀ (kV doc pm cdv ct : Value) (an : Option Addr) (us : List Value), us.length = ps.length → bindArgs (PySem.W.fnOf x x (defArgs st) (defBody st) (defScope st) .none kV doc pm an cdv ct) ⟨us, []⟩ = pure (ps.zip us)
/-- x(e, ..) -/
theorem pe_g (c : Nm X.prog X.w X.K X.mg X.base CX k x st ps sp) (hr : RoomG j X.A) (hk : k ≤ j) (hx : Passes CX X E) (b : BndP x st ps) (hg : Gl X x) (ha : PA X (e :: es) t)
    (hdb : (x == ("__debug__" : Str)) = false := by decide) (he : starEach (e :: es) X.env = (false, eval e X.env) :: starEach es X.env := by rfl) (hpl : (backTo pos (starEach es X.env)).any (·.1) = false := by rfl) :
    PE X (.Call (.Name x p) (e :: es) [] pos) (tG sp E t) := by
  obtain ⟨f, fd, F, hm, G⟩ := c.ex
  have kp := F.kp
  obtain ⟨oc, od, kV, doc, pm, an, cdv, ct, osl, rfl, lk, hcd⟩ := F.ex
  refine ⟨fun pins s σ H Q I h => wpAny_Call_Name_kw (ld_glob I hg hm (PySem.W.callWith_K (h₀ := X.base) I.ok.mod.kin kp (thn (ha.run pos pins s σ H _ I h) fun us s1 ⟨vs, H1, I1, r, q⟩ => ⟨I1.kIn, ?_⟩) he hpl) hdb)⟩
  have q' : sp vs H1 Q E := q
  have h0 := r.length
  have h1 := G.len _ _ _ _ q'
  exact run_g (kw := []) G (hr.mono hk) (.of_eq (b kV doc pm cdv ct an us (by omega))) hx I1 r q'
/-- x(e, .., k = e, ..) -/
theorem pe_gK {ix : List Nat} (c : Nm X.prog X.w X.K X.mg X.base CX k x st ps sp) (hr : RoomG j X.A) (hk : k ≤ j) (hx : Passes CX X E) (b : Bnd x st ps (e :: es).length ks ix) (hg : Gl X x) (ha : PA X (e :: es) t) (hkw : PK X kws tk)
    (hall : (backToKw pos (keywordEach kws X.env)).all (·.1.isSome) = true := by rfl) (hks : (backToKw pos (keywordEach kws X.env)).filterMap (·.1) = ks := by rfl)
    (hdb : (x == ("__debug__" : Str)) = false := by decide) (he : starEach (e :: es) X.env = (false, eval e X.env) :: starEach es X.env := by rfl)
    (hpl : ((backTo pos (starEach (e :: es) X.env)).any (·.1) || (backToKw pos (keywordEach kws X.env)).any (·.1.isNone)) = false := by rfl) :
    PE X (.Call (.Name x p) (e :: es) kws pos) (tGK sp (e :: es).length ks.length ix E t tk) := by
  obtain ⟨f, fd, F, hm, G⟩ := c.ex
  have kp := F.kp
  obtain ⟨oc, od, kV, doc, pm, an, cdv, ct, osl, rfl, lk, hcd⟩ := F.ex
  refine ⟨fun pins s σ H Q I h => wpAny_Call_Name_kw (ld_glob I hg hm (PySem.W.callWith_KW (h₀ := X.base) I.ok.mod.kin kp hall (thn (ha.run pos pins s σ H _ I h) fun us s1 ⟨vs, H1, I1, r, q⟩ => ?_) hpl he) hdb)⟩
  refine thn (hkw.run pos pins s1 σ H1 _ I1 q) fun ws s2 ⟨zs, H2, I2, rz, l1, l2, q2⟩ => ⟨I2.kIn, ?_⟩
  rw [hks]
  exact run_g G (hr.mono hk) (.of_eq (b kV doc pm cdv ct an us ws (r.length.symm.trans l1) (rz.length.symm.trans l2))) hx I2 (sel_vals (r.append rz) ix) q2
/-- x(k = e, ..) -/
theorem pe_gK0 {ix : List Nat} (c : Nm X.prog X.w X.K X.mg X.base CX k x st ps sp) (hr : RoomG j X.A) (hk : k ≤ j) (hx : Passes CX X E) (b : Bnd x st ps 0 ks ix) (hg : Gl X x) (hkw : PK X kws tk)
    (hall : (backToKw pos (keywordEach kws X.env)).all (·.1.isSome) = true := by rfl) (hks : (backToKw pos (keywordEach kws X.env)).filterMap (·.1) = ks := by rfl)
    (hdb : (x == ("__debug__" : Str)) = false := by decide)
    (hpl : ((backTo pos (starEach [] X.env)).any (·.1) || (backToKw pos (keywordEach kws X.env)).any (·.1.isNone)) = false := by rfl) :
    PE X (.Call (.Name x p) [] kws pos) (tGK sp 0 ks.length ix E tNil tk) := by
  obtain ⟨f, fd, F, hm, G⟩ := c.ex
  have kp := F.kp
  obtain ⟨oc, od, kV, doc, pm, an, cdv, ct, osl, rfl, lk, hcd⟩ := F.ex
  refine ⟨fun pins s σ H Q I h => wpAny_Call_Name_kw (ld_glob I hg hm (PySem.W.callWith_KW0 (h₀ := X.base) I.ok.mod.kin kp hall ?_ hpl) hdb)⟩
  refine thn (hkw.run pos pins s σ H _ I h) fun ws s2 ⟨zs, H2, I2, rz, l1, l2, q2⟩ => ⟨I2.kIn, ?_⟩
  rw [hks]
  exact run_g G (hr.mono hk) (.of_eq (b kV doc pm cdv ct an [] ws rfl (rz.length.symm.trans l2))) hx I2 (sel_vals (xs := [] ++ zs) (us := [] ++ ws) rz ix) q2
end
/-! ## the law's own call -/
theorem law_g {P : Program} {w : World} {K : PySem.W.Frag} {mg mb : Str → Option Value} {CX : CXT} {k : Nat} {a fa : Addr} {fd : FuncData} {x : Str} {sp : Sp} {s₁ : Shared} {vs : List Value} {ns : List Int}
    (KX : K.In s₁.heap) (hG : s₁.heap.Ns mainGlobals mg) (hB : s₁.heap.Ns builtinsNs mb) (hBB : ∀ x : Str, x ≠ "__name__" → mb x = bootBuiltins x) (hL : s₁.heap.NoLimit) (hgen : s₁.gens = #[])
    (ha : s₁.heap.get? a = some { cls := .type "list", data := .seq vs.toArray }) (hi : IntsAre vs ns) (hl : ns.length ≤ sizeLine) (hr : RoomG k callerA)
    (F : ∀ base : Heap, K.In base → base.Ns mainGlobals mg → FnG P w K mg base CX k fa fd [x] sp) (hbind : ∀ (s : Shared) (u : Value), BindsTo s fd ⟨[u], []⟩ [(x, u)])
    (hsp : ∀ H : Hp, SqL K H a (ns.map V.int) → (∀ b, H b = none ∨ b = a) → sp [.ref a] H (fun v _ => v = .bl true) fun _ _ _ => False)
    (hCX : ∀ H e s', CX [] H s₁ (fun _ _ _ => False) e s' → False) :
    codeAny (model P w) callerA (.call (.ref fa) ⟨[.ref a], []⟩) (fun r s' => r = .ok (.ret (.bool true)) ∧ OldK s₁.heap s'.heap ∧ s'.os = s₁.os ∧ AllBare s'.gens) s₁ := by
  -- the script is tracked, locked, where it is no object of the text's own
  let so : Obj := { cls := .type "list", data := .seq vs.toArray }
  have main : ∀ H : Hp, (∀ b, H b = none ∨ (b = a ∧ K.lookup a = none ∧ H b = some (.frz so (.lst (ns.map V.int))))) → SqL K H a (ns.map V.int) → HOk P w H s₁.heap →
      codeAny (model P w) callerA (.call (.ref fa) ⟨[.ref a], []⟩) (fun r s' => r = .ok (.ret (.bool true)) ∧ OldK s₁.heap s'.heap ∧ s'.os = s₁.os ∧ AllBare s'.gens) s₁ := by
    intro H only hS hok
    have isNone : ∀ {b : Addr} {o : Obj}, s₁.heap.get? b = some o → (∀ (y : H b = some (.frz so (.lst (ns.map V.int)))), b = a → K.lookup a = none → o = so → False) → H b = none := fun {b o} e n => by
      rcases only b with q | ⟨q1, q2, q3⟩
      · exact q
      · refine (n q3 q1 q2 ?_).elim
        subst q1
        exact Option.some.inj (e.symm.trans ha)
    have nsOf : ∀ {b : Addr} {m : Str → Option Value}, s₁.heap.Ns b m → (hidT s₁.heap H).Ns b m := fun {b m} ⟨o, es, ep, e, d, r⟩ =>
      ⟨o, es, ep, hidT_get e (isNone e fun _ _ _ z => by subst z; cases d), d, r⟩
    have hK : K.In (hidT s₁.heap H) := fun b o e => hidT_get (KX b o e) (isNone (KX b o e) fun _ y z _ => by subst y; rw [z] at e; cases e)
    have hM : Mod K mg (hidT s₁.heap H) := ⟨hK, nsOf hG, ⟨mb, nsOf hB, hBB⟩, hL.elim fun mc z => ⟨mc, nsOf z.1, z.2⟩⟩
    have nofr : ∀ b : Addr, b ∉ frs ([] : List Env) := fun b z => by cases z
    have e0 : Env0 P w K mg (hidT s₁.heap H) callerA [] s₁ H := ⟨rfl, hM, fun b o e => of_hidT e, by rw [hidT_size] <;> exact Nat.le_refl _, trivial, fun b z => (nofr b z).elim, hok, .of_eq hgen⟩
    have hs : sp [.ref a] H (fun v _ => v = .bl true) fun _ _ _ => False := hsp H hS fun b => (only b).elim Or.inl fun z => Or.inr z.1
    refine codeAny_mono ((F _ hK (nsOf hG)).run callerA [] s₁ H ⟨[.ref a], []⟩ [.ref a] [.ref a] _ _ hr e0 (hbind s₁ (.ref a)) (.cons rfl .nil) hs) fun r s' z => ?_
    match r, z with
    | .error e, z => exact (hCX H e s' z).elim
    | .ok .next, z => exact z.elim
    | .ok .brk, z => exact z.elim
    | .ok .cont, z => exact z.elim
    | .ok (.ret u), ⟨v, H', os, bare, un, hok', rv, q⟩ =>
      obtain rfl : v = .bl true := q
      obtain rfl : u = Value.bool true := rv
      refine ⟨rfl, OldK.of_keep fun b o e => ?_, os, bare⟩
      rcases only b with y | ⟨_, _, y⟩
      · exact un.keep b o e y (nofr b) (by intro c; cases c)
      · obtain ⟨e1, _⟩ := hok b _ y
        obtain ⟨e2, _⟩ := hok' b _ (un.frzs b _ _ y)
        exact e2.trans (e1.symm.trans e)
  cases hk : K.lookup a with
  | some o =>
    have e : o = so := Option.some.inj ((KX a o hk).symm.trans ha)
    subst e
    exact main (fun _ => none) (fun _ => .inl rfl) (.inr ⟨so, vs.toArray, _, hk, rfl, rfl, rfl, by rw [List.size_toArray, hi.length]; exact hl, by simpa using vals_ints hi⟩) fun b u z => by cases z
  | none =>
    have at_a : (fun b : Addr => if b = a then some (HO.frz so (.lst (ns.map V.int))) else none) a = some (HO.frz so (.lst (ns.map V.int))) := if_pos rfl
    refine main (fun b => if b = a then some (.frz so (.lst (ns.map V.int))) else none) (fun b => ?_) (.inl (.inr ⟨so, at_a⟩)) fun b u z => ?_
    · by_cases y : b = a
      · exact .inr ⟨y, hk, if_pos y⟩
      · exact .inl (if_neg y)
    · by_cases y : b = a
      · subst y
        obtain rfl : HO.frz so (.lst (ns.map V.int)) = u := Option.some.inj (at_a.symm.trans z)
        exact ⟨ha, by rw [List.length_map] <;> exact hl, vs, _, vals_ints hi, ha⟩
      · have z' : (none : Option HO) = some u := (if_neg y).symm.trans z
        cases z'
theorem walk_g {l : PySem.W.OpenLaw} {n k : Nat} {q : Program} {loose : List Str} {XP : (Str → Option Value) → Heap → Prop} {YP : World → Heap → Prop} {d : DefRec} {K : Params → PySem.W.Frag} {CX : World → CXT} {sp : World → Sp} {x : Str}
    (hn : l.most = some n) (hn2 : n ≤ sizeLine) (hdf : d.params.defaults = []) (hr : RoomG k callerA) (hY : ∀ (w : World) (h : Heap), YP w h → (K w.params).In h)
    (F : ∀ (w : World) (mg : Str → Option Value) (fa : Addr) (h : Heap), (K w.params).In h → h.Ns mainGlobals mg → mg d.name = some (.ref fa) →
      ∃ fd : FuncData, (∀ (s : Shared) (u : Value), BindsTo s fd ⟨[u], []⟩ [(x, u)]) ∧ ∀ base : Heap, (K w.params).In base → base.Ns mainGlobals mg → FnG l.prog w (K w.params) mg base (CX w) k fa fd [x] (sp w))
    (hsp : ∀ (w : World) (H : Hp) (a : Addr) (ns : List Int), ns.length ≤ n → SqL (K w.params) H a (ns.map V.int) → (∀ b, H b = none ∨ b = a) → sp w [.ref a] H (fun v _ => v = .bl true) fun _ _ _ => False)
    (hCX : ∀ (w : World) (H : Hp) (s : Shared) (e : Value) (s' : Shared), CX w [] H s (fun _ _ _ => False) e s' → False) : PySem.W.WalkO q loose XP YP l.row.toRowW d [] (fun f vs => PySem.call f vs) := by
  refine Att.attach_call hn hdf fun w s₀ s₁ mg mb fa o pm cd doc a vs ns G Y ho hd hcd hmg hobj hints hlen hg => ?_
  obtain ⟨fd, hb, hF⟩ := F w mg fa _ (hY w _ Y) G.T.g hmg
  exact law_g (hY w _ Y) G.T.g G.T.b G.T.builtins G.T.nolimit hg hobj hints (Nat.le_trans hlen hn2) hr hF hb (fun H hS hO => hsp w H a ns hlen hS hO) fun H e s' => hCX w H s₁ e s'
theorem roomTop {k : Nat} (h : k ≤ 60 := by decide) : RoomG k callerA := ⟨⟨rfl, by show 1 + claimMargin + 3 * k + 5 < recursionLimit; have : claimMargin + 200 < recursionLimit := (by decide); omega, by show 4 + 16 * k + 200 < cLine; have : 2000 < cLine := (by decide); omega⟩, rfl⟩
open PySem PySem.Spec PyProof.Rows L2
/-! ## rules told over a given written part -/
section
variable {X : Cx} {K : PySem.W.Frag}
theorem ix_seqK (e : X.K = K) : IxR X (rIx K) := by subst e; exact ix_seq
theorem ix_listK (e : X.K = K) : IxR X (rIxL K) := by subst e; exact ix_list
theorem ix_tupK (e : X.K = K) : IxR X (rIxT K) := by subst e; exact ix_tup
theorem call_lenK (e : X.K = K) : CallR X (.builtin "len") (fun xs H Q => ∃ x n, xs = [x] ∧ LenV K x H n ∧ Q (.int n) H) := by subst e; exact call_len
theorem call_isiK' (e : X.K = K) : CallR X (.builtin "isinstance") (rIsi K) := by subst e; exact call_isi
theorem op_inK (e : X.K = K) : OpR X (compareOp .In) (rIn K false) := by subst e; exact op_in_seq
theorem op_notInK (e : X.K = K) : OpR X (compareOp .NotIn) (rIn K true) := by subst e; exact op_notIn_seq
theorem call_reprK (e : X.K = K) (hg : X.A.guards = some []) (hu : X.A.units + 60 < cLine) : CallR X (.builtin "repr") (rRepr K) := by subst e; exact call_repr hg hu
theorem call_allK (e : X.K = K) (hc : X.calm = true) : CallR X (.builtin "all") (rAll K) := by subst e; exact cr_all hc
theorem op_eqDK (e : X.K = K) (hu : X.A.units + 64 < cLine) : OpR X (compareOp .Eq) (rEqD K) := by subst e; exact op_eqD hu
theorem op_neDK (e : X.K = K) (hu : X.A.units + 64 < cLine) : OpR X (compareOp .NotEq) (rNeD K) := by subst e; exact op_neD hu
theorem pi_listK {tg l : Expr} {tl : TE} (e : X.K = K) (hl : PE X l tl) : PI X tg l (iList K tl) := by subst e; exact pi_list hl
/-- a built-in class by its name, a constant of the text -/
theorem pe_ty {x : Str} {pos : Pos} (n : String) (hg : Gl X x) (hm : X.mg x = none) (hv : bootBuiltins x = some (.type n)) (hn : x ≠ "__name__" := by decide) (hd : (x == ("__debug__" : Str)) = false := by decide) : PE X (.Name x pos) (tC (.ty n)) :=
  pe_bltn hg hm hv rfl hn hd
theorem pe_cst {x : Str} {pos : Pos} {v : V} (hg : Gl X x) (h : ∃ u, X.mg x = some u ∧ RelV v u) (hd : (x == ("__debug__" : Str)) = false := by decide) : PE X (.Name x pos) (tC v) :=
  let ⟨_, hm, r⟩ := h
  pe_glob hg hm r hd
/-- a text times a number -/
def rMulS : R2 := fun x y H Q => ∃ (z : Str) (n : Int), x = .str z ∧ y = .int n ∧ z.length ≤ 1000 ∧ -1000 ≤ n ∧ n ≤ 10000 ∧ Q (.str ⟨(List.replicate n.toNat z.cps.toList).flatten.toArray⟩) H
theorem fold_app : ∀ (l : List (Array Nat)) (acc : Array Nat), l.foldl (· ++ ·) acc = acc ++ (l.map Array.toList).flatten.toArray
  | [], acc => by simp
  | x :: l, acc => by
    rw [List.foldl_cons, fold_app l (acc ++ x)]
    apply Array.ext'
    simp
theorem op_mul_str : OpR X (binaryOp .Mult) rMulS := by
  intro pins s σ H x y v u Q I rx ry h
  obtain ⟨z, n, rfl, rfl, hz, h1, h2, q⟩ := h
  obtain ⟨t, rfl⟩ := rx
  obtain ⟨t', rfl⟩ := ry
  have big : 1000 * 10000 ≤ sizeLine := by decide
  have e : ∀ k : Nat, ((List.replicate k z.cps).foldl (· ++ ·) #[] : Array Nat) = (List.replicate k z.cps.toList).flatten.toArray := fun k => by
    rw [fold_app, List.map_replicate]; simp
  have hzn : z.length * n.toNat ≤ 1000 * 10000 := Nat.mul_le_mul hz (by omega)
  refine PySem.P.mul_str (by rw [decide_eq_false (by omega), decide_eq_false (by omega)]; rfl) (fun a _ => ?_) (fun a _ => ?_) ?_
  · have : (1001 : Int) ≤ (2 ^ 63 - 1) / n := Int.le_ediv_of_mul_le (by omega) (by omega)
    omega
  · exact decide_eq_false (by omega)
  · by_cases c1 : n < 1
    · rw [if_pos c1]
      have e0 : n.toNat = 0 := by omega
      rw [e0] at q
      exact ⟨Nat.zero_le _, .str _, H, I.tok _, ⟨_, rfl⟩, q⟩
    · rw [if_neg c1]
      by_cases c2 : (n == 1 || z.length == 0) = true
      · rw [if_pos c2]
        refine ⟨.str z, H, I, ⟨t, rfl⟩, ?_⟩
        have ez : (⟨(List.replicate n.toNat z.cps.toList).flatten.toArray⟩ : Str) = z := by
          rw [Bool.or_eq_true, beq_iff_eq, beq_iff_eq] at c2
          rcases c2 with c2 | c2
          · subst c2
            show (⟨(List.replicate 1 z.cps.toList).flatten.toArray⟩ : Str) = z
            simp
          · have hz0 : z.cps.toList = [] := by
              have : z.cps.toList.length = 0 := by rw [Array.length_toList]; exact c2
              exact List.length_eq_zero_iff.mp this
            obtain ⟨cps⟩ := z
            have hz1 : cps.toList = [] := hz0
            have : cps = #[] := by apply Array.ext'; rw [hz1]
            subst this
            simp
        rw [ez] at q
        exact q
      · rw [if_neg c2, e]
        refine ⟨?_, .str _, H, I.tok _, ⟨_, rfl⟩, q⟩
        show (List.replicate n.toNat z.cps.toList).flatten.toArray.size ≤ sizeLine
        rw [List.size_toArray, List.length_flatten, List.map_replicate, List.sum_replicate_nat, Array.length_toList]
        have : n.toNat * z.cps.size = z.length * n.toNat := Nat.mul_comm _ _
        omega
end
open PySem PySem.Spec PyProof.Rows L2
/-! ## texts in order -/
def tLt (a b : Str) : Bool := decide (a.cps.toList < b.cps.toList)
theorem tLt_irr (a : Str) : tLt a a = false := PyProof.Rows.strKind.irrefl _
theorem tLt_tr {a b c : Str} (h1 : tLt a b = true) (h2 : tLt b c = true) : tLt a c = true := PyProof.Rows.strKind.trans _ _ _ h1 h2
theorem tLt_tot {a b : Str} (h1 : tLt a b = false) (h2 : tLt b a = false) : a = b := by
  have e : a.cps.toList = b.cps.toList := PyProof.Rows.strKind.total _ _ h1 h2
  obtain ⟨⟨a⟩⟩ := a
  obtain ⟨⟨b⟩⟩ := b
  cases e
  rfl
/-- rising -/
abbrev TS (ys : List Str) : Prop := ys.Pairwise fun a b => tLt b a = false
theorem tLe_tr {a b c : Str} (h1 : tLt b a = false) (h2 : tLt c b = false) : tLt c a = false := by
  cases e : tLt c a with
  | false => rfl
  | true => rcases PyProof.Rows.strKind.negTrans _ b.cps.toList _ e with z | z
            · exact absurd (show tLt c b = true from z) (by rw [h2]; decide)
            · exact absurd (show tLt b a = true from z) (by rw [h1]; decide)
theorem ts_of_rising : ∀ {ys : List Str} {p : Str}, risingS p ys = true → (∀ y ∈ ys, tLt y p = false) ∧ TS ys
  | [], _, _ => ⟨(fun _ h => by cases h), List.Pairwise.nil⟩
  | y :: ys, p, h => by
    obtain ⟨h1, h2⟩ := Bool.and_eq_true_iff.mp (show (!ltCps y.cps.toList p.cps.toList && risingS y ys) = true from h)
    have h1' : tLt y p = false := by
      have e : ltCps y.cps.toList p.cps.toList = tLt y p := by
        first | rfl | (unfold tLt; exact ltCps_eq _ _)
      rw [← e]
      simpa using h1
    obtain ⟨a, b⟩ := ts_of_rising h2
    refine ⟨fun z hz => ?_, .cons a b⟩
    rcases List.mem_cons.mp hz with rfl | hz
    · exact h1'
    · exact tLe_tr h1' (a z hz)
theorem ts_of_sortedS {ys : List Str} (h : sortedS ys = true) : TS ys := by
  cases ys with
  | nil => exact List.Pairwise.nil
  | cons y ys =>
    obtain ⟨a, b⟩ := ts_of_rising (show risingS y ys = true from h)
    exact .cons a b
theorem ts_uniq {xs ys : List Str} (h : xs.Perm ys) (h1 : TS xs) (h2 : TS ys) : xs = ys :=
  h.eq_of_pairwise (le := fun a b => tLt b a = false) (fun a b _ _ h1 h2 => tLt_tot h2 h1) h1 h2
theorem dle_str (a b : Str) : PySem.W.dataLe false (fun x : Str => PyData.str x) a b = !tLt b a := by
  show (!(PyProof.Rows.lexLt PyProof.Rows.itemOrd [.inr b.cps.toList] [.inr a.cps.toList])) = _
  have e : PyProof.Rows.lexLt PyProof.Rows.itemOrd [.inr b.cps.toList] [.inr a.cps.toList] = tLt b a := by
    rw [PyProof.Rows.lex_cons]
    show (tLt b a || (!tLt a b && false)) = _
    rw [Bool.and_false, Bool.or_false]
  rw [e]
/-- the texts in order -/
def tsort (xs : List Str) : List Str := xs.mergeSort (PySem.W.dataLe false fun x : Str => PyData.str x)
theorem tsort_perm (xs : List Str) : (tsort xs).Perm xs := List.mergeSort_perm _ _
theorem tsort_ts (xs : List Str) : TS (tsort xs) := by
  have h := List.pairwise_mergeSort (le := PySem.W.dataLe false fun x : Str => PyData.str x) (fun a b c h1 h2 => by
    rw [dle_str] at *
    have h1' : tLt b a = false := by simpa using h1
    have h2' : tLt c b = false := by simpa using h2
    rw [tLe_tr h1' h2']
    rfl) (fun a b => by
    rw [dle_str, dle_str]
    cases e : tLt b a with
    | false => rfl
    | true =>
      cases e2 : tLt a b with
      | false => rfl
      | true => exact absurd (tLt_tr e e2) (by rw [tLt_irr]; decide)) xs
  refine h.imp fun {a b} z => ?_
  rw [dle_str] at z
  simpa using z
theorem tsort_uniq {xs ys : List Str} (h : ys.Perm xs) (h1 : TS ys) : ys = tsort xs := ts_uniq (h.trans (tsort_perm xs).symm) h1 (tsort_ts xs)
/-! ## sorted(.., key=str) -/
theorem t_key (a : Addr) : Builtin.«list.sort» ⟨[.ref a], [(Str.ofString "key", .type "str")]⟩ = ksk_tree a (.type "str") false := rfl
theorem ea_strs : ∀ {vs : List Value} {xs : List Str}, StrsAre vs xs → PySem.W.EachIs (fun v x => ∃ t, v = Value.str x t) vs xs
  | _, _, .nil => .nil
  | _, _, .cons x t h => .cons ⟨t, rfl⟩ (ea_strs h)
theorem strs_ea : ∀ {vs : List Value} {xs : List Str}, PySem.W.EachIs (fun v x => ∃ t, v = Value.str x t) vs xs → StrsAre vs xs
  | _, _, .nil => .nil
  | _, _, .cons ⟨t, e⟩ h => by cases e; exact .cons _ t (strs_ea h)
theorem strs_alike (xs : List Str) : PySem.W.AllAlike (xs.map fun x => PyData.str x) := fun d hd d' hd' => by
  obtain ⟨_, _, rfl⟩ := List.mem_map.mp hd
  obtain ⟨_, _, rfl⟩ := List.mem_map.mp hd'
  first | rfl | (unfold PySem.W.alike; rfl)
theorem strs_sortable (xs : List Str) : PySem.W.Sortable (xs.map fun x => PyData.str x) := .inr fun d hd => by
  obtain ⟨_, _, rfl⟩ := List.mem_map.mp hd
  exact ⟨(fun z => by cases z), (fun _ z => by cases z)⟩
theorem str_depth (x : Str) : (PyData.str x).depth ≤ 1 := by first | decide | (unfold PyData.depth; decide) | simp [PyData.depth]
theorem str_turn {prog : Program} {w : World} {A : Around} {s : Shared} (v : Value) (x : Str) (e : ∃ t, v = Value.str x t) (h : Heap) (tk : Nat) :
    wpAny (model prog w) A (call (.type "str") [v]) (PySem.W.KeyPure (.str x) { s with heap := h, toks := tk }) (fun _ _ => False) { s with heap := h, toks := tk } := by
  obtain ⟨t, rfl⟩ := e
  exact PySem.P.str_of_str ⟨h, tk, rfl, fun _ _ z => z, .str x t⟩
section
variable {X : Cx}
def rSortK (K : PySem.W.Frag) : List V → List V → Hp → VK → Prop := fun vs zs H Q => ∃ (a : Addr) (xs : List Str), vs = [V.ref a] ∧ zs = [.ty "str"] ∧ SqL K H a (xs.map V.str) ∧ ∀ p, H p = none → Q (.ref p) (upd H p (.lst ((tsort xs).map V.str)))
theorem sortK_out {pins : List (Addr × Obj)} {s : Shared} {σ : L2.St} {H : Hp} {Q : VK} {xs : List Str} {p : Addr} {out : List Value} {c : Nat} {h' : Heap} {tk : Nat} (I : L2.Inv X pins σ H s) (hz : xs.length ≤ sizeLine) (hp : s.heap.objs.size ≤ p)
    (q : ∀ (p : Addr), H p = none → Q (V.ref p) (upd H p (HO.lst ((tsort xs).map V.str)))) (k : ∀ (b : Addr) (o : Obj), s.heap.get? b = some o → h'.get? b = some o) (e : h'.get? p = some (seqObj "list" out.toArray c))
    (ea : PySem.W.EachIs (fun v x => ∃ t, v = Value.str x t) out (tsort xs)) : EP X pins σ Q (Value.ref p) { s with heap := h', toks := tk } := by
  have hlen : ((tsort xs).map V.str).length ≤ sizeLine := by rw [List.length_map, (tsort_perm xs).length_eq]; exact hz
  exact ⟨.ref p, upd H p (.lst ((tsort xs).map V.str)), I.laid (t' := tk) k hp ⟨hlen, out, c, vals_of_strs (strs_ea ea), e⟩, rfl, q _ (I.hok.fresh hp)⟩
theorem cr_sortK (hu : X.A.units + 60 < cLine) : CallRK X (.builtin "sorted") [Str.ofString "key"] (rSortK X.K) := by
  intro pins s σ H vs zs us ws Q I r rz h
  obtain ⟨a, xs, rfl, rfl, hs, q⟩ := h
  obtain rfl := Vals.ref1 r
  obtain ⟨w1, rfl, e1⟩ := vals1 rz
  obtain rfl : w1 = Value.type "str" := e1
  obtain ⟨its, rv, hl, hz⟩ := I.list hs
  rw [List.length_map] at hz
  exact PySem.W.sorted_key_data (fun x : Str => PyData.str x) hl.isList (ea_strs rv.strs) (strs_alike xs) (strs_sortable xs) hz (fun x _ => by have := str_depth x; omega) (PyProof.Rows.ksk_s1 _ _) (fun _ => PyProof.Rows.ksk_l1 _ _) t_key
    (fun v x e _ h tk _ => str_turn v x e h tk) fun out c h' tk k _ e _ ea => sortK_out I hz (Nat.le_succ _) q k e ea
/-- .. of a dict whose keys are texts -/
def rSortKD : List V → List V → Hp → VK → Prop := fun vs zs H Q => ∃ (a : Addr) (kvs : List (Key × V)) (xs : List Str), vs = [V.ref a] ∧ zs = [.ty "str"] ∧ Rd H a (.dK kvs) ∧ kvs.map (·.1) = xs.map Sum.inr ∧ ∀ p, H p = none → Q (.ref p) (upd H p (.lst ((tsort xs).map V.str)))
theorem cr_sortKD (hu : X.A.units + 60 < cLine) (hcalm : X.calm = true) : CallRK X (.builtin "sorted") [Str.ofString "key"] rSortKD := by
  intro pins s σ H vs zs us ws Q I r rz h
  obtain ⟨a, kvs, ks, rfl, rfl, hd, hks, q⟩ := h
  obtain rfl := Vals.ref1 r
  obtain ⟨w1, rfl, e1⟩ := vals1 rz
  obtain rfl : w1 = Value.type "str" := e1
  obtain ⟨z, lo, vs, rel, dd⟩ := dk_rd I.hok hd
  obtain ⟨ep, hat⟩ := dd.dictAt
  have hkeys : vs.map (·.1) = ks.map Sum.inr := rel.keys.symm.trans hks
  have hl : vs.length = ks.length := by
    have e := congrArg List.length hkeys
    rw [List.length_map, List.length_map] at e
    exact e
  have hl2 : kvs.length = ks.length := by
    have e := congrArg List.length hks
    rw [List.length_map, List.length_map] at e
    exact e
  have h16 : vs.length ≤ sizeLine := by rw [hl, ← hl2]; exact z
  refine PyProof.Rows.call_function_entry_kw PyProof.Rows.kind_sorted PyProof.Rows.plain_sorted PyProof.Rows.entry_sorted (PyProof.Rows.ksk_s1 _ _) ?_
  unfold Builtin.«sorted»
  refine wpAny_bind (m := checkCount "sorted" 1 1 _) (wpAny_pure ?_)
  refine wpAny_bind (PySem.W.kdu_collect (A := X.A.in1) (PySem.W.kdl_dict (knd := mixKind X.prog X.w) (kvs := vs) (ep := ep) lo) (I.ok.hd hcalm) hat h16 fun h' tk acc hk hacc => ?_)
  have hal : acc.toList.length = ks.length := by rw [Array.length_toList, hacc.1, hl]
  have hS : StrsAre acc.toList ks := strs_at hal fun j v e => by
    obtain ⟨k, x, e1, e2⟩ := hacc.2 j v (by rw [← Array.getElem?_toList]; exact e)
    have e3 : (vs.map (·.1))[j]? = some k := by rw [List.getElem?_map, e1]; all_goals rfl
    rw [hkeys, List.getElem?_map] at e3
    cases e4 : ks[j]? with
    | none => rw [e4] at e3; cases e3
    | some y =>
      rw [e4] at e3
      have e5 : Sum.inr y = k := Option.some.inj e3
      subst e5
      obtain ⟨t, ev⟩ := Value.isStrOf_shape (x := y) (v := v) e2
      exact ⟨y, t, rfl, ev⟩
  have I1 : Inv X pins σ H { s with heap := h', toks := tk } := I.kept hk
  have hzk : ks.length ≤ sizeLine := by rw [← hl]; exact h16
  refine wpAny_bind (wpAny_newList ?_ (by rw [hal]; exact hzk))
  have hoL : (h'.push (seqObj "list" acc.toList.toArray 0)).get? h'.objs.size = some (seqObj "list" acc.toList.toArray 0) := Heap.get?_push_size _ rfl
  show wpAny _ _ _ _ _ { s with heap := h'.push (seqObj "list" acc.toList.toArray 0), toks := tk }
  have ea := ea_strs hS
  have up : ∀ {g : Heap}, PySem.W.KeepsBut h'.objs.size (h'.push (seqObj "list" acc.toList.toArray 0)) g → ∀ b o, h'.get? b = some o → g.get? b = some o := fun {g} kp b o e =>
    kp b o (Nat.ne_of_lt (Heap.lt_size e)) (Heap.get?_push_of_some _ e)
  refine wpAny_bind (wpAny_holding (wpAny_call_entry_kw PyProof.Rows.slot_list_sort ⟨_, hoL, rfl⟩ PyProof.Rows.entry_list_sort ?_ (PyProof.Rows.ksk_l1 _ _)))
  show wpAny _ _ (Builtin.«list.sort» ⟨[.ref h'.objs.size], [(Str.ofString "key", .type "str")]⟩) _ _ _
  rw [t_key]
  refine PySem.W.keyH_tree (s := { s with heap := h'.push (seqObj "list" acc.toList.toArray 0), toks := tk }) (kz := ks.map fun x => PyData.str x) hoL (by rw [List.length_map, hal]) (by rw [hal]; exact hzk) (strs_alike ks) (strs_sortable ks) (fun d hd => ?_)
    (PySem.W.keyH_turns (k := fun x : Str => PyData.str x) ea fun v x e _ h tk _ => str_turn v x e h tk) fun h2 tk2 out c kp e ko => ⟨_, rfl, wpAny_pure ⟨_, rfl, ?_⟩⟩
  · obtain ⟨x, _, rfl⟩ := List.mem_map.mp hd
    have := str_depth x
    show X.A.units + 1 + 1 + _ < _
    omega
  · have h3 : EP X pins σ Q (Value.ref h'.objs.size) { ({ s with heap := h', toks := tk } : Shared) with heap := h2, toks := tk2 } := sortK_out I1 hzk (Nat.le_refl _) q (up kp) e (PySem.W.keyedOut_each (fun x : Str => PyData.str x) ko ea)
    exact h3
end
open PySem PySem.Spec PyProof.Rows L2
theorem RoomG.in1 {k : Nat} {A : Around} (x : RoomG (k + 1) A) : RoomG k A.in1 := ⟨x.r.in1, x.g⟩
theorem RoomG.make {k : Nat} {A : Around} (x : RoomG (k + 1) A) (C : Addr) (us : List Value) (kw : List (Str × Value)) : RoomG k (A.under (.builtin "type.__call__" ⟨.ref C :: us, kw⟩)) :=
  ⟨x.r.make C us kw, by
    show pushGuards (Code.guards (.builtin "type.__call__" ⟨.ref C :: us, kw⟩)) A.guards = _
    rw [x.g]
    have e : Code.isGuard (.builtin "type.__call__" ⟨.ref C :: us, kw⟩) = false := by first | rfl | decide | (unfold Code.isGuard; decide)
    unfold Code.guards
    rw [e]
    rfl⟩
section
variable {P : Program} {w : World} {K : PySem.W.Frag} {mg : Str → Option Value} {base : Heap} {CX : CXT}
theorem fnG_core {f : Addr} {x q : Str} {args : Arguments} {body : List Stmt} {scope : Scope} {oc : Value} {od : Option Addr} {dV kV doc pm cdv ct : Value} {an : Option Addr} {osl : Array (Option Value)} {N ps : List Str} {k : Nat} {sp : Sp}
    (lk : K.lookup f = some ⟨oc, od, .func (PySem.W.fnOf x q args body scope dV kV doc pm an cdv ct), osl⟩) (hcd : PySem.W.codeIn K cdv q = true) (S : FnScope N ps scope) (len : ∀ vs H Q E, sp vs H Q E → vs.length = ps.length)
    (hb : ∀ (A : Around) (outer : List Env) (s : Shared) (H : Hp) (vs : List V) (Q : VK) (E : XK), RoomG k (A.deeper (envOfC q scope s.heap.objs.size f cdv)) → sp vs H Q E →
      ∃ t, PSs (cxOf CX P w K mg base N q scope f cdv A outer s H E) body t ∧ t { nx := fun _ H' => Q .non H', rt := Q } (start N vs) H) : FnG P w K mg base CX (k + 1) f (PySem.W.fnOf x q args body scope dV kV doc pm an cdv ct) ps sp := by
  refine ⟨len, ?_⟩
  intro A outer s H args us vs Q E hr e0 bt rv hs
  have hl := len _ _ _ _ hs
  have kin : K.In s.heap := e0.mod.kin.keeps fun b o e => (e0.bs b o e).1
  have nol : s.heap.NoLimit := e0.mod.nolimit.keeps fun b o e => (e0.bs b o e).1
  refine codeAny_call_function hr.r.depth (kin _ _ lk) rfl S.co S.gen rfl (PySem.W.codeRec_of kin hcd) (bt _ _ _ _ ?_)
  refine wpAny_newFunctionEnv_cells S.kind (fun ⟨n, v⟩ hy => ?_) fun env he s1 x1 => ?_
  · cases S.par n (List.of_mem_zip hy).1 with
    | inl q => exact .inl q
    | inr q => exact .inr ⟨q, PySem.W.cellsFrom_some _ _ _ (.inl q)⟩
  · subst he
    refine ⟨nol.keeps x1.toInCall.keep, codeAny_func ?_⟩
    obtain ⟨t, ht, hq⟩ := hb A outer s H vs Q E (hr.deeper _) hs
    have I : Inv (cxOf CX P w K mg base N q scope f cdv A outer s H E) [] (start N vs) H s1 := inv_start S hr.r.hd e0 hl rv x1
    refine wpAny_mono (ht.run [] s1 (start N vs) H _ I hq) (fun fl s' z => ?_) fun e s' z => z
    cases fl with
    | ret u => obtain ⟨v, σ', H', J, r2, q⟩ := z; exact ⟨v, H', J.os, J.bare, J.base, J.hok, r2, q⟩
    | next => obtain ⟨σ', H', J, q⟩ := z; exact ⟨.non, H', J.os, J.bare, J.base, J.hok, rfl, q⟩
    | brk => obtain ⟨_, _, _, q⟩ := z; exact q.elim
    | cont => obtain ⟨_, _, _, q⟩ := z; exact q.elim
/-- a method m of the class at C, of the class's own body: q its qualified name, st its statement -/
structure Mth (P : Program) (w : World) (K : PySem.W.Frag) (mg : Str → Option Value) (base : Heap) (CX : CXT) (k : Nat) (C : Addr) (m q : Str) (st : Stmt) (ps : List Str) (sp : Sp) : Prop where
  ex : ∃ (f : Addr) (fd : FuncData), Fun K m q st f fd ∧ Meth K C m f ∧ PySem.W.fnIn K f = true ∧ FnG P w K mg base CX k f fd ps sp
/-- THE RULE for a method -/
theorem mth_of {m q : Str} {st : Stmt} {C f : Addr} {fd : FuncData} {N ps : List Str} {k : Nat} {sp : Sp} (F : Fun K m q st f fd) (hm : Meth K C m f) (S : FnScope N ps (defScope st)) (len : ∀ vs H Q E, sp vs H Q E → vs.length = ps.length)
    (hb : ∀ (cdv : Value) (A : Around) (outer : List Env) (s : Shared) (H : Hp) (vs : List V) (Q : VK) (E : XK), RoomG k (A.deeper (envOfC q (defScope st) s.heap.objs.size f cdv)) → sp vs H Q E →
      ∃ t, PSs (cxOf CX P w K mg base N q (defScope st) f cdv A outer s H E) (defBody st) t ∧ t { nx := fun _ H' => Q .non H', rt := Q } (start N vs) H) : Mth P w K mg base CX (k + 1) C m q st ps sp := by
  refine ⟨f, fd, F, hm, ?_, ?_⟩
  · obtain ⟨oc, od, kV, doc, pm, an, cdv, ct, osl, rfl, lk, hcd⟩ := F.ex
    unfold PySem.W.fnIn
    rw [lk]
  · obtain ⟨oc, od, kV, doc, pm, an, cdv, ct, osl, rfl, lk, hcd⟩ := F.ex
    exact fnG_core lk hcd S len fun A outer s H vs Q E hr h => hb cdv A outer s H vs Q E hr h
theorem mth_of0 {m q : Str} {st : Stmt} {C f : Addr} {fd : FuncData} {N ps : List Str} {k : Nat} {sp : Sp} (F : Fun K m q st f fd) (hm : Meth K C m f) (S : FnScope N ps (defScope st)) (len : ∀ vs H Q E, sp vs H Q E → vs.length = ps.length)
    (hb : ∀ (cdv : Value) (A : Around) (outer : List Env) (s : Shared) (H : Hp) (vs : List V) (Q : VK) (E : XK), RoomG k (A.deeper (envOfC q (defScope st) s.heap.objs.size f cdv)) → sp vs H Q E →
      ∃ t, PSs (cxOf CX P w K mg base N q (defScope st) f cdv A outer s H E).nox (defBody st) t ∧ t { nx := fun _ H' => Q .non H', rt := Q } (start N vs) H) : Mth P w K mg base CX (k + 1) C m q st ps sp :=
  mth_of F hm S len fun cdv A outer s H vs Q E hr h => let ⟨t, h1, h2⟩ := hb cdv A outer s H vs Q E hr h; ⟨t, h1.nox, h2⟩
end
/-- how arguments written by place (n, the object among them) and by name come to a method's parameters -/
def BndM (m q : Str) (st : Stmt) (ps : List Str) (n : Nat) (ks : List Str) (ix : List Nat) : Prop :=
  ∀ (kV doc pm cdv ct : Value) (an : Option Addr) (us ws : List Value), us.length = n → ws.length = ks.length →
    bindArgs (PySem.W.fnOf m q (defArgs st) (defBody st) (defScope st) .none kV doc pm an cdv ct) ⟨us, ks.zip ws⟩ = pure (ps.zip (sel ix (us ++ ws)))
def BndMP (m q : Str) (st : Stmt) (ps : List Str) : Prop :=
  ∀ (kV doc pm cdv ct : Value) (an : Option Addr) (us : List Value), us.length = ps.length → bindArgs (PySem.W.fnOf m q (defArgs st) (defBody st) (defScope st) .none kV doc pm an cdv ct) ⟨us, []⟩ = pure (ps.zip us)
section
variable {X : Cx} {CX : CXT} {k j : Nat} {C : Addr} {m q : Str} {st : Stmt} {ps ks : List Str} {sp : Sp} {E : XK} {p pos apos : Pos} {o e : Expr} {es : List Expr} {kws : List Keyword} {to : TE} {t tk : TA}
/-- the instance that a value is -/
def IsIns (H : Hp) (C : Addr) (x : V) (m : Str) : Prop := ∃ a dx fs, x = .ref a ∧ H a = some (.ins C dx fs) ∧ fs.lookup m = none
def tM (C : Addr) (m : Str) (sp : Sp) (E : XK) (to : TE) (t : TA) : TE := fun σ H Q => to σ H fun x H1 => IsIns H1 C x m ∧ t σ H1 fun vs H2 => sp (x :: vs) H2 Q E
def tMK (C : Addr) (m : Str) (sp : Sp) (n : Nat) (ix : List Nat) (E : XK) (to : TE) (tk : TA) : TE := fun σ H Q => to σ H fun x H1 => IsIns H1 C x m ∧ tk σ H1 fun zs H2 => zs.length = n ∧ sp (sel ix (x :: zs)) H2 Q E
/-- o.m(e, ..) -/
theorem pe_m {pl : Sem Bool} (c : Mth X.prog X.w X.K X.mg X.base CX k C m q st ps sp) (hc : Cls X.K C) (hr : RoomG j X.A) (hk : k ≤ j) (hx : Passes CX X E) (b : BndMP m q st ps) (he : PE X o to) (ha : PA X (e :: es) t)
    (hst : starEach (e :: es) X.env = (false, eval e X.env) :: starEach es X.env := by rfl) (hpl : (backTo pos (starEach es X.env)).any (·.1) = false := by rfl)
    (ht : eval (.Call (.Attribute o m apos) (e :: es) [] pos) X.env = (do
      let ov ← eval o X.env
      standAt apos.atName
      let (f, first) ← holding [ov] (getMethod ov m pl)
      callWith pos f first (backTo pos (starEach (e :: es) X.env)) (backToKw pos (keywordEach [] X.env))) := by rfl) :
    PE X (.Call (.Attribute o m apos) (e :: es) [] pos) (tM C m sp E to t) := by
  obtain ⟨f, fd, F, hm, _, G⟩ := c.ex
  obtain ⟨oc, od, kV, doc, pm, an, cdv, ct, osl, rfl, lk, hcd⟩ := F.ex
  refine ⟨fun pins s σ H Q I h => PySem.W.methodCall_KW (pl := pl) (thn (he.run pins s σ H _ I h) fun u s1 ⟨x, H1, I1, rx, ⟨a, dx, fs, ex, ea, l⟩, q⟩ => ?_) ht⟩
  subst ex
  obtain rfl : u = Value.ref a := rx
  refine getmeth_ok I1 ea hc hm l ?_
  refine PySem.W.callWith_K (first := [.ref a]) (h₀ := X.base) I.ok.mod.kin hm.kp (thn (ha.run pos pins s1 σ H1 _ I1 q) fun us s2 ⟨vs, H2, I2, r, q2⟩ => ⟨I2.kIn, ?_⟩) hst hpl
  have h0 := r.length
  have h1 := G.len _ _ _ _ q2
  rw [List.length_cons] at h1
  exact run_g (us := .ref a :: us) (kw := []) (vs := .ref a :: vs) G (hr.mono hk) (.of_eq (b kV doc pm cdv ct an (.ref a :: us) (by rw [List.length_cons]; omega))) hx I2 (.cons rfl r) q2
/-- o.m() -/
theorem pe_m0 {pl : Sem Bool} (c : Mth X.prog X.w X.K X.mg X.base CX k C m q st ps sp) (hc : Cls X.K C) (hr : RoomG j X.A) (hk : k ≤ j) (hx : Passes CX X E) (b : BndMP m q st ps) (he : PE X o to)
    (ht : eval (.Call (.Attribute o m apos) [] [] pos) X.env = (do
      let ov ← eval o X.env
      standAt apos.atName
      let (f, first) ← holding [ov] (getMethod ov m pl)
      callWith pos f first (backTo pos (starEach [] X.env)) (backToKw pos (keywordEach [] X.env))) := by rfl) :
    PE X (.Call (.Attribute o m apos) [] [] pos) (tM C m sp E to tNil) := by
  obtain ⟨f, fd, F, hm, _, G⟩ := c.ex
  obtain ⟨oc, od, kV, doc, pm, an, cdv, ct, osl, rfl, lk, hcd⟩ := F.ex
  refine ⟨fun pins s σ H Q I h => PySem.W.methodCall_KW (pl := pl) (thn (he.run pins s σ H _ I h) fun u s1 ⟨x, H1, I1, rx, ⟨a, dx, fs, ex, ea, l⟩, q⟩ => ?_) ht⟩
  subst ex
  obtain rfl : u = Value.ref a := rx
  refine getmeth_ok I1 ea hc hm l ?_
  have h1 := G.len _ _ _ _ q
  exact PySem.W.callWith_K0 (first := [.ref a]) I1.kIn hm.kp (run_g (us := [.ref a]) (kw := []) (vs := [.ref a]) G (hr.mono hk) (.of_eq (b kV doc pm cdv ct an [.ref a] h1)) hx I1 (.cons rfl .nil) q)
/-- o.m(k = e, ..) -/
theorem pe_mK0 {pl : Sem Bool} {ix : List Nat} (c : Mth X.prog X.w X.K X.mg X.base CX k C m q st ps sp) (hc : Cls X.K C) (hr : RoomG j X.A) (hk : k ≤ j) (hx : Passes CX X E) (b : BndM m q st ps 1 ks ix) (he : PE X o to) (hkw : PK X kws tk)
    (hall : (backToKw pos (keywordEach kws X.env)).all (·.1.isSome) = true := by rfl) (hks : (backToKw pos (keywordEach kws X.env)).filterMap (·.1) = ks := by rfl)
    (hpl : ((backTo pos (starEach [] X.env)).any (·.1) || (backToKw pos (keywordEach kws X.env)).any (·.1.isNone)) = false := by rfl)
    (ht : eval (.Call (.Attribute o m apos) [] kws pos) X.env = (do
      let ov ← eval o X.env
      standAt apos.atName
      let (f, first) ← holding [ov] (getMethod ov m pl)
      callWith pos f first (backTo pos (starEach [] X.env)) (backToKw pos (keywordEach kws X.env))) := by rfl) :
    PE X (.Call (.Attribute o m apos) [] kws pos) (tMK C m sp ks.length ix E to tk) := by
  obtain ⟨f, fd, F, hm, _, G⟩ := c.ex
  obtain ⟨oc, od, kV, doc, pm, an, cdv, ct, osl, rfl, lk, hcd⟩ := F.ex
  refine ⟨fun pins s σ H Q I h => PySem.W.methodCall_KW (pl := pl) (thn (he.run pins s σ H _ I h) fun u s1 ⟨x, H1, I1, rx, ⟨a, dx, fs, ex, ea, l⟩, q⟩ => ?_) ht⟩
  subst ex
  obtain rfl : u = Value.ref a := rx
  refine getmeth_ok I1 ea hc hm l (PySem.W.callWith_KW0 (first := [.ref a]) (h₀ := X.base) I.ok.mod.kin hm.kp hall (thn (hkw.run pos pins s1 σ H1 _ I1 q) fun ws s2 ⟨zs, H2, I2, rz, l2, q2⟩ => ⟨I2.kIn, ?_⟩) hpl)
  rw [hks]
  exact run_g (us := [.ref a]) G (hr.mono hk) (.of_eq (b kV doc pm cdv ct an [.ref a] ws rfl (rz.length.symm.trans l2))) hx I2 (sel_vals (xs := .ref a :: zs) (us := .ref a :: ws) (.cons rfl rz) ix) q2
end
open PySem PySem.Spec PySem.Calls PyProof.Rows L2
/-- what the result of a call at a deeper place is -/
theorem run_in1 {X : Cx} {CX : CXT} {k : Nat} {f : Addr} {fd : FuncData} {ps : List Str} {sp : Sp} {E : XK} {pins : List (Addr × Obj)} {σ : L2.St} {H : Hp} {s : Shared} {us : List Value} {vs : List V} {Q : VK} {R : Value → Shared → Prop}
    (F : FnG X.prog X.w X.K X.mg X.base CX k f fd ps sp) (hr : RoomG (k + 1) X.A) (hb : BindsTo s fd ⟨us, []⟩ (ps.zip us)) (hx : Passes CX X E) (I : Inv X pins σ H s) (r : Vals vs us) (h : sp vs H Q E)
    (hR : ∀ u s', EP X pins σ Q u s' → R u s') : wpAny (model X.prog X.w) X.A.in1 (call (.ref f) us) R X.xe s := by
  refine wpAny_call (codeAny_mono (F.run X.A.in1 X.stack s H ⟨us, []⟩ us vs Q E hr.in1 I.env0.in1 hb r h) fun y s' z => ?_)
  match y, z with
  | .error e, z => exact hx pins σ H s e s' I z
  | .ok (.ret u), z => exact hR u s' (I.after z)
  | .ok .next, z => exact z.elim
  | .ok .brk, z => exact z.elim
  | .ok .cont, z => exact z.elim
/-! ## a property -/
/-- a property p of the class at C, its getter by its own body -/
structure Prp (P : Program) (w : World) (K : PySem.W.Frag) (mg : Str → Option Value) (base : Heap) (CX : CXT) (k : Nat) (C : Addr) (m q : Str) (st : Stmt) (ps : List Str) (sp : Sp) : Prop where
  ex : ∃ (p f : Addr) (fd : FuncData), Fun K m q st f fd ∧ PropOf K C m p f ∧ FnG P w K mg base CX k f fd ps sp
section
variable {P : Program} {w : World} {K : PySem.W.Frag} {mg : Str → Option Value} {base : Heap} {CX : CXT}
theorem prp_of {m q : Str} {st : Stmt} {C p f : Addr} {fd : FuncData} {N ps : List Str} {k : Nat} {sp : Sp} (F : Fun K m q st f fd) (hp : PropOf K C m p f) (S : FnScope N ps (defScope st)) (len : ∀ vs H Q E, sp vs H Q E → vs.length = ps.length)
    (hb : ∀ (cdv : Value) (A : Around) (outer : List Env) (s : Shared) (H : Hp) (vs : List V) (Q : VK) (E : XK), RoomG k (A.deeper (envOfC q (defScope st) s.heap.objs.size f cdv)) → sp vs H Q E →
      ∃ t, PSs (cxOf CX P w K mg base N q (defScope st) f cdv A outer s H E) (defBody st) t ∧ t { nx := fun _ H' => Q .non H', rt := Q } (start N vs) H) : Prp P w K mg base CX (k + 1) C m q st ps sp := by
  refine ⟨p, f, fd, F, hp, ?_⟩
  obtain ⟨oc, od, kV, doc, pm, an, cdv, ct, osl, rfl, lk, hcd⟩ := F.ex
  exact fnG_core lk hcd S len fun A outer s H vs Q E hr h => hb cdv A outer s H vs Q E hr h
end
section
variable {X : Cx} {CX : CXT} {k j : Nat} {C : Addr} {m q : Str} {st : Stmt} {ps ks : List Str} {sp : Sp} {E : XK} {p pos apos : Pos} {o e fe : Expr} {es : List Expr} {kws : List Keyword} {to tf : TE} {t tk : TA}
def tP (C : Addr) (sp : Sp) (E : XK) (to : TE) : TE := fun σ H Q => to σ H fun x H1 => ∃ a dx fs, x = .ref a ∧ H1 a = some (.ins C dx fs) ∧ sp [.ref a] H1 Q E
/-- o.p -/
theorem pe_p (c : Prp X.prog X.w X.K X.mg X.base CX k C m q st ps sp) (hc : Cls X.K C) (hr : RoomG j X.A) (hk : k + 1 ≤ j) (hx : Passes CX X.nox E) (b : BndMP m q st ps) (he : PE X o to)
    (hab : attributeBase o m X.env (eval o X.env) = eval o X.env := by rfl) : PE X (.Attribute o m pos) (tP C sp E to) := by
  obtain ⟨p, f, fd, F, hp, G⟩ := c.ex
  obtain ⟨oc, od, kV, doc, pm, an, cdv, ct, osl, rfl, lk, hcd⟩ := F.ex
  refine ⟨fun pins s σ H Q I h => attr_of hab (thn (he.run pins s σ H _ I h) fun u s1 ⟨x, H1, I1, rx, a, dx, fs, ex, ea, q⟩ => ?_)⟩
  subst ex
  obtain rfl : u = Value.ref a := rx
  obtain ⟨mA, O, _, _, _, _⟩ := ins_get I1.hok ea
  obtain ⟨od', J, _⟩ := O.look
  obtain ⟨rest, hrec⟩ := hp.rec_
  have I2 := I1.tok (s1.toks + 1)
  have hcl : (PySem.W.clsIn X.K C).isSome = true := by
    obtain ⟨cd, hc, _⟩ := PySem.W.any_some hc.hd
    rw [hc]
    rfl
  have h1 := G.len _ _ _ _ q
  refine PySem.W.get_bind I1.kIn J (PySem.W.plainGet_of (hc.get m)).1 (PySem.W.findObj_data hcl hp.at_ hp.get hp.tak) (PySem.W.plainGet_of (hc.get m)).2 (wpAny_call (PySem.W.prop_get (s := { s1 with toks := s1.toks + 1 }) I1.kIn hrec ?_))
  refine codeAny_mono (G.run X.A.in1 X.stack { s1 with toks := s1.toks + 1 } H1 ⟨[.ref a], []⟩ [.ref a] [.ref a] Q E (hr.mono hk).in1 I2.env0.in1 (.of_eq (b kV doc pm cdv ct an [.ref a] h1)) (.cons rfl .nil) q) fun y s' z => ?_
  match y, z with
  | .error er, z => exact False.elim (hx pins σ H1 { s1 with toks := s1.toks + 1 } er s' (I2.wish _) z)
  | .ok (.ret u), z =>
    obtain ⟨v, H', I3, rv, q3⟩ := I2.after z
    show wpAny _ _ (handedOut u) _ _ _
    rw [PySem.W.handedOut_of (handed_of rv)]
    exact wpAny_pure ⟨v, H', I3, rv, q3⟩
  | .ok .next, z => exact z.elim
  | .ok .brk, z => exact z.elim
  | .ok .cont, z => exact z.elim
/-! ## an instance called -/
def tO (C : Addr) (sp : Sp) (E : XK) (tf : TE) (t : TA) : TE := fun σ H Q => tf σ H fun y H1 => ∃ a, y = V.ref a ∧ t σ H1 fun vs H2 => (∃ dx fs, H2 a = some (.ins C dx fs)) ∧ sp (.ref a :: vs) H2 Q E
theorem pe_o (c : Mth X.prog X.w X.K X.mg X.base CX k C "__call__" q st ps sp) (hr : RoomG j X.A) (hk : k ≤ j) (hx : Passes CX X E) (b : BndMP "__call__" q st ps) (hf : PE X fe tf) (ha : PA X (e :: es) t)
    (ht : eval (.Call fe (e :: es) [] pos) X.env = (do callWith pos (← eval fe X.env) [] (backTo pos (starEach (e :: es) X.env)) (backToKw pos (keywordEach [] X.env))) := by rfl)
    (he : starEach (e :: es) X.env = (false, eval e X.env) :: starEach es X.env := by rfl) (hpl : (backTo pos (starEach es X.env)).any (·.1) = false := by rfl) : PE X (.Call fe (e :: es) [] pos) (tO C sp E tf t) := by
  obtain ⟨f, fd, F, hm, hfi, G⟩ := c.ex
  obtain ⟨oc, od, kV, doc, pm, an, cdv, ct, osl, rfl, lk, hcd⟩ := F.ex
  refine ⟨fun pins s σ H Q I h => Call_ (thn (hf.run pins s σ H _ I h) fun u s1 ⟨y, H1, I1, ry, a, ey, q⟩ => ?_) ht⟩
  subst ey
  obtain rfl : u = Value.ref a := ry
  refine StX.callO_with (thn (ha.run pos pins s1 σ H1 _ I1 q) fun us s2 ⟨vs, H2, I2, r, ⟨dx, fs, hi⟩, q2⟩ => ?_) he hpl
  obtain ⟨ox, od, J, hd⟩ := StX.insC_at I2 (.inr ⟨dx, fs, hi⟩)
  refine ⟨⟨C, ox, od, J, hd⟩, wpAny_call (PySem.W.kco_code I2.kIn J hd hm.at_ hm.fn hfi ?_)⟩
  have h0 := r.length
  have h1 := G.len _ _ _ _ q2
  rw [List.length_cons] at h1
  refine codeAny_mono (G.run X.A X.stack s2 H2 ⟨.ref a :: us, []⟩ (.ref a :: us) (.ref a :: vs) Q E (hr.mono hk) I2.env0 (.of_eq (b kV doc pm cdv ct an (.ref a :: us) (by rw [List.length_cons]; omega))) (.cons rfl r) q2) fun y s' z => ?_
  match y, z with
  | .error e, z => exact hx pins σ H2 s2 e s' I2 z
  | .ok (.ret u), z => exact I2.after z
  | .ok .next, z => exact z.elim
  | .ok .brk, z => exact z.elim
  | .ok .cont, z => exact z.elim
/-! ## len(o) -/
def rLenO (C : Addr) (sp : Sp) (E : XK) : List V → Hp → VK → Prop := fun xs H Q => ∃ a dx fs, xs = [.ref a] ∧ H a = some (.ins C dx fs) ∧ sp [.ref a] H (fun v H' => ∃ n : Int, v = .int n ∧ 0 ≤ n ∧ n < 2 ^ 63 ∧ Q v H') E
theorem call_lenO (c : Mth X.prog X.w X.K X.mg X.base CX k C "__len__" q st ps sp) (hr : RoomG j X.A) (hk : k + 1 ≤ j) (hx : Passes CX X E) (b : BndMP "__len__" q st ps) : CallR X (.builtin "len") (rLenO C sp E) := by
  intro pins s σ H xs us Q I r h
  obtain ⟨f, fd, F, hm, hfi, G⟩ := c.ex
  obtain ⟨oc, od, kV, doc, pm, an, cdv, ct, osl, rfl, lk, hcd⟩ := F.ex
  obtain ⟨a, dx, fs, rfl, ea, q⟩ := h
  obtain rfl := Vals.ref1 r
  obtain ⟨mA, O, _, _, _, _⟩ := ins_get I.hok ea
  obtain ⟨od', J, _⟩ := O.look
  have h1 := G.len _ _ _ _ q
  have T := I.tok s.toks
  refine Calls.call_function_entry kind_len plain_len entry_len (args_len1 _) ?_
  unfold Builtin.«len»
  refine wpAny_bind (m := oneArg "len" _) (wpAny_pure ?_)
  refine wpAny_bind (m := callSpecial? (.ref a) (Str.ofString "__len__")) (PySem.W.special_fn I.kIn J hm.at_ (beq_iff_eq.mp hm.fn) (run_in1 G (hr.mono hk) (.of_eq (b kV doc pm cdv ct an [.ref a] h1)) hx I (.cons rfl .nil : Vals [.ref a] [.ref a]) q fun u s' z => ?_))
  obtain ⟨v, H', I3, rv, n, rfl, h0, h2, q3⟩ := z
  obtain ⟨tk, rfl⟩ := rv
  refine wpAny_bind (wpAny_holding (wpAny_pure ?_))
  refine wpAny_bind (wpAny_letGo ?_)
  show wpAny _ _ (if n < 0 then _ else _) _ _ _
  rw [if_neg (by omega)]
  show wpAny _ _ (if n ≥ 2 ^ 63 then _ else _) _ _ _
  rw [if_neg (by omega)]
  exact wpAny_bind (wpAny_mkInt (wpAny_pure ⟨_, rfl, .int n, H', I3.tok _, ⟨_, rfl⟩, q3⟩))
end
open PySem PySem.Spec PySem.Calls PyProof.Rows L2
theorem rv_ref (a : Addr) : RelV (.ref a) (.ref a) := rfl
/-- a value of the layer is never NotImplemented -/
theorem cb_of {X : Cx} {pins : List (Addr × Obj)} {σ : L2.St} {Q : VK} {u : Value} {s : Shared} (h : EP X pins σ Q u s) : PySem.W.CmpBack (EP X pins σ Q) u s := by
  unfold PySem.W.CmpBack
  split
  · obtain ⟨v, H', _, r, _⟩ := h
    cases v <;> first | (obtain ⟨_, e⟩ := r; cases e) | cases r
  · exact h
section
variable {prog : Program} {w : World} {A : Around} {E : Value → Shared → Prop} {s : Shared} {K : PySem.W.Frag} {x C f : Addr} {ox : Obj} {od : Option Obj}
theorem mro_self (hc : PySem.W.selfFirst K C = true) : ∃ cd rest, PySem.W.clsIn K C = some cd ∧ cd.mro = .ref C :: rest := by
  obtain ⟨cd, hcd, hm⟩ := PySem.W.any_some hc
  cases q : cd.mro with
  | nil => rw [q] at hm; cases hm
  | cons a r => rw [q] at hm; exact ⟨cd, r, hcd, by rw [List.head?_cons] at hm; cases (beq_iff_eq.mp hm); exact q⟩
/-- o op b, b of a built-in type without the slot -/
theorem binL {op : Operator} {b : Value} {T : String} {Q : Value → Shared → Prop} (X : K.In s.heap) (I : PySem.W.InstAt s.heap x ox C od) (hb : s.TypeIs b T) (hno : fillsNumberSlot (.type T) op.info.2 = pure false) (hc : PySem.W.selfFirst K C = true)
    (hs : PySem.W.findIn K (.ref C) (PySem.dunder op.info.2) = some (some (.ref f))) (hf : PySem.W.isFn K (.ref f) = true)
    (h : wpAny (model prog w) A (call (.ref f) [.ref x, b]) (PySem.W.CmpBack Q) E s) : wpAny (model prog w) A (binaryOp op (.ref x) b) Q E s := by
  obtain ⟨cd, rest, hcd, hm⟩ := mro_self hc
  unfold binaryOp
  refine wpAny_holding (wpAny_bind ?_)
  unfold binaryOp1
  refine wpAny_bind (I.type.here (wpAny_bind (wpAny_typeOf hb (wpAny_bind ((PySem.W.fills_K X hcd hm hs).here ?_)))))
  have hne : ((Value.ref C) == (Value.type T)) = false := by simp
  rw [hne]
  simp only [Bool.false_eq_true, if_false]
  refine wpAny_bind (wpAny_of_eq hno ?_)
  simp only [Bool.and_false, Bool.false_eq_true, if_false, Bool.false_and]
  refine wpAny_bind (wpAny_pure ?_)
  simp only [Bool.false_eq_true, if_false, if_true]
  refine wpAny_bind (m := tryMethod (.ref x) _ b) ?_
  unfold tryMethod
  refine wpAny_bind (PySem.W.special_fn X I hs (beq_iff_eq.mp hf) (wpAny_mono h (fun v s' hv => ?_) fun _ _ e => e))
  cases v <;> first | exact hv.elim | exact wpAny_pure (wpAny_pure (wpAny_pure hv))
/-- b op o, b of a built-in type without the slot: o's reflected method -/
theorem binR {op : Operator} {b : Value} {T : String} {g : Addr} {Q : Value → Shared → Prop} (X : K.In s.heap) (I : PySem.W.InstAt s.heap x ox C od) (hb : s.TypeIs b T) (hno : fillsNumberSlot (.type T) op.info.2 = pure false) (hc : PySem.W.selfFirst K C = true)
    (hs0 : PySem.W.findIn K (.ref C) (PySem.dunder op.info.2) = some (some (.ref g))) (hs : PySem.W.findIn K (.ref C) (PySem.dunderR op.info.2) = some (some (.ref f))) (hf : PySem.W.isFn K (.ref f) = true)
    (h : wpAny (model prog w) A (call (.ref f) [.ref x, b]) (PySem.W.CmpBack Q) E s) : wpAny (model prog w) A (binaryOp op b (.ref x)) Q E s := by
  obtain ⟨cd, rest, hcd, hm⟩ := mro_self hc
  unfold binaryOp
  refine wpAny_holding (wpAny_bind ?_)
  unfold binaryOp1
  refine wpAny_bind (wpAny_typeOf hb (wpAny_bind (I.type.here (wpAny_bind (wpAny_of_eq hno ?_)))))
  have hne : ((Value.type T) == (Value.ref C)) = false := by simp
  rw [hne]
  simp only [Bool.false_eq_true, if_false]
  refine wpAny_bind ((PySem.W.fills_K X hcd hm hs0).here ?_)
  simp only [Bool.and_false, Bool.false_eq_true, if_false, Bool.false_and]
  refine wpAny_bind (wpAny_pure ?_)
  simp only [Bool.false_eq_true, if_false, Bool.not_false, Bool.and_true, if_true]
  refine wpAny_bind (m := tryMethod (.ref x) _ b) ?_
  unfold tryMethod
  refine wpAny_bind (PySem.W.special_fn X I hs (beq_iff_eq.mp hf) (wpAny_mono h (fun v s' hv => ?_) fun _ _ e => e))
  cases v <;> first | exact hv.elim | exact wpAny_pure (wpAny_bind (wpAny_rule (wpAny_pure (wpAny_pure hv))))
/-- o op o', both of C -/
theorem binS {op : Operator} {b : Value} {Q : Value → Shared → Prop} (X : K.In s.heap) (I : PySem.W.InstAt s.heap x ox C od) (hb : PySem.W.Looks (model prog w) s.heap (typeOf b) (.ref C)) (hc : PySem.W.selfFirst K C = true)
    (hs : PySem.W.findIn K (.ref C) (PySem.dunder op.info.2) = some (some (.ref f))) (hf : PySem.W.isFn K (.ref f) = true)
    (h : wpAny (model prog w) A (call (.ref f) [.ref x, b]) (PySem.W.CmpBack Q) E s) : wpAny (model prog w) A (binaryOp op (.ref x) b) Q E s := by
  obtain ⟨cd, rest, hcd, hm⟩ := mro_self hc
  unfold binaryOp
  refine wpAny_holding (wpAny_bind ?_)
  unfold binaryOp1
  refine wpAny_bind (I.type.here (wpAny_bind (hb.here (wpAny_bind ((PySem.W.fills_K X hcd hm hs).here ?_)))))
  simp only [beq_self_eq_true, if_true]
  refine wpAny_bind (wpAny_pure ?_)
  simp only [Bool.and_false, Bool.false_eq_true, if_false, Bool.false_and]
  refine wpAny_bind (wpAny_pure ?_)
  simp only [Bool.false_eq_true, if_false]
  refine wpAny_bind (m := tryMethod (.ref x) _ b) ?_
  unfold tryMethod
  refine wpAny_bind (PySem.W.special_fn X I hs (beq_iff_eq.mp hf) (wpAny_mono h (fun v s' hv => ?_) fun _ _ e => e))
  cases v <;> first | exact hv.elim | exact wpAny_pure (wpAny_pure (wpAny_pure hv))
/-- o op b by a comparison's own method -/
theorem cmpO {op : CmpOp} {b tb : Value} {Q : Value → Shared → Prop} (hu : A.units < cLine) (X : K.In s.heap) (I : PySem.W.InstAt s.heap x ox C od) (hb : PySem.W.Looks (model prog w) s.heap (typeOf b) tb) (hn : PySem.W.notFirst K C tb = true)
    (hs : PySem.W.findIn K (.ref C) (cmpInfo op).2.1 = some (some (.ref f))) (hf : PySem.W.isFn K (.ref f) = true)
    (h : wpAny (model prog w) A (call (.ref f) [.ref x, b]) (PySem.W.CmpBack Q) E s) : wpAny (model prog w) A (richCompare op (.ref x) b) Q E s := by
  have one : wpAny (model prog w) A (tryCompare (.ref x) (cmpInfo op).2.1 b) (fun r s' => ∃ v, r = some v ∧ Q v s') E s := by
    unfold tryCompare
    refine wpAny_bind (PySem.W.ifBound_K X I hs hf (wpAny_mono h (fun v s' hv => ?_) fun _ _ e => e))
    cases v <;> first | exact hv.elim | exact wpAny_pure ⟨_, rfl, hv⟩
  unfold richCompare
  simp only [oneThing_ref]
  refine wpAny_holding (wpAny_bind (wpAny_cRoomFor hu ?_))
  refine wpAny_bind (I.type.here (wpAny_bind (hb.here ?_)))
  split
  · rename_i q
    have e : PySem.W.subIn K tb (.ref C) = some false := by
      rcases Bool.or_eq_true_iff.mp hn with e | e
      · rw [beq_iff_eq.mp e] at q; simp at q
      · exact beq_iff_eq.mp e
    refine wpAny_bind ((PySem.W.looks_subIn X e).here ?_)
    simp only [Bool.false_eq_true, if_false]
    refine wpAny_bind (wpAny_mono one (fun r s' z => ?_) fun _ _ e => e)
    obtain ⟨v, rfl, hq⟩ := z
    exact wpAny_pure hq
  · refine wpAny_bind (wpAny_pure ?_)
    simp only [Bool.false_eq_true, if_false]
    refine wpAny_bind (wpAny_mono one (fun r s' z => ?_) fun _ _ e => e)
    obtain ⟨v, rfl, hq⟩ := z
    exact wpAny_pure hq
/-- v in o -/
theorem inO {v : Value} {Q : Bool → Shared → Prop} (X : K.In s.heap) (I : PySem.W.InstAt s.heap x ox C od) (hs : PySem.W.findIn K (.ref C) "__contains__" = some (some (.ref f))) (hf : PySem.W.isFn K (.ref f) = true)
    (h : wpAny (model prog w) A (call (.ref f) [.ref x, v]) (fun r s' => wpAny (model prog w) A (truthy r) Q E s') E s) : wpAny (model prog w) A (contains (.ref x) v) Q E s := by
  unfold contains
  refine wpAny_holding (wpAny_bind (wpAny_bind (I.type.here ((PySem.W.looks_findIn X hs).here ?_))))
  rw [if_neg (by simp)]
  exact wpAny_bind (PySem.W.unlessNone_K X I hs hf h)
end
section
variable {X : Cx} {CX : CXT} {k j : Nat} {C : Addr} {m q : Str} {st : Stmt} {ps : List Str} {sp : Sp} {E : XK}
/-- a call of the method with these values -/
theorem run_mth (c : Mth X.prog X.w X.K X.mg X.base CX k C m q st ps sp) (hr : RoomG j X.A) (hk : k ≤ j) (hx : Passes CX X E) (b : BndMP m q st ps) :
    ∃ f, Meth X.K C m f ∧ ∀ {pins : List (Addr × Obj)} {σ : L2.St} {H : Hp} {s : Shared} {us : List Value} {vs : List V} {Q : VK}, Inv X pins σ H s → Vals vs us → sp vs H Q E → wpAny (model X.prog X.w) X.A (call (.ref f) us) (EP X pins σ Q) X.xe s := by
  obtain ⟨f, fd, F, hm, hfi, G⟩ := c.ex
  obtain ⟨oc, od, kV, doc, pm, an, cdv, ct, osl, rfl, lk, hcd⟩ := F.ex
  refine ⟨f, hm, fun I r h => run_g (kw := []) G (hr.mono hk) (.of_eq (b kV doc pm cdv ct an _ ?_)) hx I r h⟩
  have h0 := r.length
  have h1 := G.len _ _ _ _ h
  omega
theorem ins_at {pins : List (Addr × Obj)} {σ : L2.St} {H : Hp} {s : Shared} {a dx : Addr} {fs : List (Str × V)} (I : Inv X pins σ H s) (e : H a = some (.ins C dx fs)) : ∃ od, PySem.W.InstAt s.heap a (PySem.W.instObj C dx) C od := by
  obtain ⟨mA, O, _⟩ := ins_get I.hok e
  obtain ⟨od, J, _⟩ := O.look
  exact ⟨_, J⟩
def IsI (H : Hp) (C : Addr) (x : V) : Prop := ∃ a dx fs, x = .ref a ∧ H a = some (.ins C dx fs)
/-- of the built-in class T -/
def TyB (K : PySem.W.Frag) (T : String) (y : V) (H : Hp) : Prop := tyV K T y H ∨ (T = "tuple" ∧ ∃ t xs, y = .ref t ∧ H t = some (.tup xs))
theorem tyB_is {pins : List (Addr × Obj)} {σ : L2.St} {H : Hp} {s : Shared} {T : String} {y : V} {u : Value} (I : Inv X pins σ H s) (r : RelV y u) (ty : TyB X.K T y H) : s.TypeIs u T := by
  rcases ty with ty | ⟨rfl, t, xs, rfl, ht⟩
  · exact (tyV_is I r ty).1
  · obtain rfl : u = Value.ref t := r
    obtain ⟨_, its, r2, o, ho, hc, n, hd⟩ := I.hok _ _ ht
    exact ⟨o, ho, hc⟩
def rBinL (K : PySem.W.Frag) (C : Addr) (T : String) (sp : Sp) (E : XK) : R2 := fun x y H Q => IsI H C x ∧ TyB K T y H ∧ sp [x, y] H Q E
def rBinR (K : PySem.W.Frag) (C : Addr) (T : String) (sp : Sp) (E : XK) : R2 := fun y x H Q => IsI H C x ∧ TyB K T y H ∧ sp [x, y] H Q E
def rBinS (C : Addr) (sp : Sp) (E : XK) : R2 := fun x y H Q => IsI H C x ∧ IsI H C y ∧ sp [x, y] H Q E
theorem op_binL {op : Operator} {T : String} (c : Mth X.prog X.w X.K X.mg X.base CX k C (PySem.dunder op.info.2) q st ps sp) (hc : PySem.W.selfFirst X.K C = true) (hr : RoomG j X.A) (hk : k ≤ j) (hx : Passes CX X E) (b : BndMP (PySem.dunder op.info.2) q st ps)
    (hno : fillsNumberSlot (.type T) op.info.2 = pure false) : OpR X (binaryOp op) (rBinL X.K C T sp E) := by
  intro pins s σ H x y v u Q I rx ry h
  obtain ⟨⟨a, dx, fs, rfl, ea⟩, ty, q⟩ := h
  obtain rfl : v = Value.ref a := rx
  obtain ⟨f, hm, run⟩ := run_mth c hr hk hx b
  obtain ⟨od, J⟩ := ins_at I ea
  exact binL I.kIn J (tyB_is I ry ty) hno hc hm.at_ hm.fn (wpAny_mono (run I (.cons (rv_ref a) (.cons ry .nil)) q) (fun _ _ z => cb_of z) fun _ _ z => z)
theorem op_binR {op : Operator} {T : String} {g : Addr} (c : Mth X.prog X.w X.K X.mg X.base CX k C (PySem.dunderR op.info.2) q st ps sp) (hc : PySem.W.selfFirst X.K C = true) (hr : RoomG j X.A) (hk : k ≤ j) (hx : Passes CX X E) (b : BndMP (PySem.dunderR op.info.2) q st ps)
    (hno : fillsNumberSlot (.type T) op.info.2 = pure false) (h0 : Meth X.K C (PySem.dunder op.info.2) g) : OpR X (binaryOp op) (rBinR X.K C T sp E) := by
  intro pins s σ H y x u v Q I ry rx h
  obtain ⟨⟨a, dx, fs, rfl, ea⟩, ty, q⟩ := h
  obtain rfl : v = Value.ref a := rx
  obtain ⟨f, hm, run⟩ := run_mth c hr hk hx b
  obtain ⟨od, J⟩ := ins_at I ea
  exact binR I.kIn J (tyB_is I ry ty) hno hc h0.at_ hm.at_ hm.fn (wpAny_mono (run I (.cons (rv_ref a) (.cons ry .nil)) q) (fun _ _ z => cb_of z) fun _ _ z => z)
theorem op_binS {op : Operator} (c : Mth X.prog X.w X.K X.mg X.base CX k C (PySem.dunder op.info.2) q st ps sp) (hc : PySem.W.selfFirst X.K C = true) (hr : RoomG j X.A) (hk : k ≤ j) (hx : Passes CX X E) (b : BndMP (PySem.dunder op.info.2) q st ps) : OpR X (binaryOp op) (rBinS C sp E) := by
  intro pins s σ H x y v u Q I rx ry h
  obtain ⟨⟨a, dx, fs, rfl, ea⟩, ⟨a', dx', fs', rfl, ea'⟩, q⟩ := h
  obtain rfl : v = Value.ref a := rx
  obtain rfl : u = Value.ref a' := ry
  obtain ⟨f, hm, run⟩ := run_mth c hr hk hx b
  obtain ⟨od, J⟩ := ins_at I ea
  obtain ⟨od', J'⟩ := ins_at I ea'
  exact binS I.kIn J J'.type hc hm.at_ hm.fn (wpAny_mono (run I (.cons (rv_ref a) (.cons (rv_ref a') .nil)) q) (fun _ _ z => cb_of z) fun _ _ z => z)
/-- a comparison of two of C by its own method -/
theorem op_cmpS {op : CmpOp} (c : Mth X.prog X.w X.K X.mg X.base CX k C (cmpInfo op).2.1 q st ps sp) (hr : RoomG j X.A) (hk : k ≤ j) (hx : Passes CX X E) (b : BndMP (cmpInfo op).2.1 q st ps) (he : compareOp op = richCompare op) : OpR X (compareOp op) (rBinS C sp E) := by
  intro pins s σ H x y v u Q I rx ry h
  obtain ⟨⟨a, dx, fs, rfl, ea⟩, ⟨a', dx', fs', rfl, ea'⟩, q⟩ := h
  obtain rfl : v = Value.ref a := rx
  obtain rfl : u = Value.ref a' := ry
  obtain ⟨f, hm, run⟩ := run_mth c hr hk hx b
  obtain ⟨od, J⟩ := ins_at I ea
  obtain ⟨od', J'⟩ := ins_at I ea'
  rw [he]
  have hn : PySem.W.notFirst X.K C (.ref C) = true := by
    unfold PySem.W.notFirst
    rw [beq_self_eq_true, Bool.true_or]
  exact cmpO hr.r.units0 I.kIn J J'.type hn hm.at_ hm.fn (wpAny_mono (run I (.cons (rv_ref a) (.cons (rv_ref a') .nil)) q) (fun _ _ z => cb_of z) fun _ _ z => z)
/-- y in o: the method tells a truth value -/
def rInO (C : Addr) (neg : Bool) (sp : Sp) (E : XK) : R2 := fun y x H Q => IsI H C x ∧ sp [x, y] H (fun v H' => ∃ b, v = .bl b ∧ Q (.bl (if neg then !b else b)) H') E
theorem op_inO (c : Mth X.prog X.w X.K X.mg X.base CX k C "__contains__" q st ps sp) (hr : RoomG j X.A) (hk : k ≤ j) (hx : Passes CX X E) (b : BndMP "__contains__" q st ps) : OpR X (compareOp .In) (rInO C false sp E) := by
  intro pins s σ H y x u v Q I ry rx h
  obtain ⟨⟨a, dx, fs, rfl, ea⟩, q⟩ := h
  obtain rfl : v = Value.ref a := rx
  obtain ⟨f, hm, run⟩ := run_mth c hr hk hx b
  obtain ⟨od, J⟩ := ins_at I ea
  refine wpAny_bind (inO I.kIn J hm.at_ hm.fn (wpAny_mono (run I (.cons (rv_ref a) (.cons ry .nil)) q) (fun r s' z => ?_) fun _ _ z => z))
  obtain ⟨_, H', I3, rv, b, rfl, q3⟩ := z
  cases rv
  exact wpAny_pure (wpAny_pure ⟨.bl b, H', I3, rfl, q3⟩)
theorem op_notInO (c : Mth X.prog X.w X.K X.mg X.base CX k C "__contains__" q st ps sp) (hr : RoomG j X.A) (hk : k ≤ j) (hx : Passes CX X E) (b : BndMP "__contains__" q st ps) : OpR X (compareOp .NotIn) (rInO C true sp E) := by
  intro pins s σ H y x u v Q I ry rx h
  obtain ⟨⟨a, dx, fs, rfl, ea⟩, q⟩ := h
  obtain rfl : v = Value.ref a := rx
  obtain ⟨f, hm, run⟩ := run_mth c hr hk hx b
  obtain ⟨od, J⟩ := ins_at I ea
  refine wpAny_bind (inO I.kIn J hm.at_ hm.fn (wpAny_mono (run I (.cons (rv_ref a) (.cons ry .nil)) q) (fun r s' z => ?_) fun _ _ z => z))
  obtain ⟨_, H', I3, rv, b, rfl, q3⟩ := z
  cases rv
  exact wpAny_pure (wpAny_pure ⟨.bl (!b), H', I3, rfl, q3⟩)
end
open PySem PySem.Spec PySem.Calls PyProof.Rows L2
/-! ## instances made -/
/-- C(..) with n values and the keywords ks: its own __init__ keeps sp, called with g -/
structure Mkr (P : Program) (w : World) (K : PySem.W.Frag) (mg : Str → Option Value) (base : Heap) (CX : CXT) (k : Nat) (x : Str) (C : Addr) (ps : List Str) (sp : Sp) : Prop where
  ex : ∃ (f : Addr) (fd : FuncData), Mk K C f ∧ mg x = some (.ref C) ∧ FnG P w K mg base CX k f fd ps sp
/-- how arguments come to the parameters, defaults among them -/
def BndI (P : Program) (w : World) (K : PySem.W.Frag) (mg : Str → Option Value) (base : Heap) (CX : CXT) (k : Nat) (x : Str) (C : Addr) (ps : List Str) (sp : Sp) (n : Nat) (ks : List Str) (gV : List V → List V → List V) : Prop :=
  ∃ (f : Addr) (fd : FuncData) (g : List Value → List Value → List Value), Mk K C f ∧ mg x = some (.ref C) ∧ FnG P w K mg base CX k f fd ps sp ∧ KBn K fd ps (n + 1) ks g gV
section
variable {X : Cx} {CX : CXT} {k j n : Nat} {C : Addr} {ps ks : List Str} {sp : Sp} {E : XK} {x : Str} {p pos : Pos} {e : Expr} {es : List Expr} {kws : List Keyword} {t tk : TA} {gV : List V → List V → List V}
theorem run_mk {pins : List (Addr × Obj)} {σ : L2.St} {H : Hp} {s : Shared} {Q : VK} {us ws : List Value} {vs zs : List V} {f : Addr} {fd : FuncData} {g : List Value → List Value → List Value} (M : Mk X.K C f) (F : FnG X.prog X.w X.K X.mg X.base CX k f fd ps sp) (hr : RoomG (k + 1) X.A)
    (hb : KBn X.K fd ps (n + 1) ks g gV) (hx : Passes CX X E) (I : Inv X pins σ H s) (r : Vals vs us) (rz : Vals zs ws) (l1 : vs.length = n) (l2 : zs.length = ks.length)
    (h : ∀ x dx, H x = none → H dx = none → dx ≠ x → sp (gV (.ref x :: vs) zs) (upd (upd H dx (.own x)) x (.ins C dx [])) (fun v H2 => v = .non ∧ Q (.ref x) H2) E) :
    wpAny (model X.prog X.w) X.A (call (.ref C) us (ks.zip ws)) (EP X pins σ Q) X.xe s := by
  have hq := h (s.heap.objs.size + 1) s.heap.objs.size (I.hok.fresh (Nat.le_succ _)) (I.hok.fresh (Nat.le_refl _)) (Nat.ne_of_lt (Nat.lt_succ_self _))
  have I2 := Inv.made (C := C) I
  have r1 : Vals (V.ref (s.heap.objs.size + 1) :: vs) (Value.ref (s.heap.objs.size + 1) :: us) := .cons rfl r
  have r2 := hb.rel r1 rz
  have e1 : (Value.ref (s.heap.objs.size + 1) :: us).length = n + 1 := r1.length.symm.trans (congrArg Nat.succ l1)
  have e2 : ws.length = ks.length := rz.length.symm.trans l2
  refine wpAny_call (make_map (f := f) I.kIn M.makes M.init (beq_iff_eq.mp M.fn) (codeAny_mono (F.run _ X.stack _ _ ⟨Value.ref (s.heap.objs.size + 1) :: us, ks.zip ws⟩ (g (Value.ref (s.heap.objs.size + 1) :: us) ws) _ _ E (hr.make C us (ks.zip ws))
    (I2.env0.make C us (ks.zip ws)) (hb.to _ (Value.ref (s.heap.objs.size + 1) :: us) ws I2.kIn e1 e2) r2 hq) fun r s' hq' => ?_))
  cases r with
  | error e => exact hx pins σ _ _ e s' I2 hq'
  | ok fl =>
    cases fl with
    | ret u =>
      obtain ⟨v, H', I3, rv, ev, q3⟩ := I2.after hq'
      subst ev
      exact ⟨rv, ⟨V.ref (s.heap.objs.size + 1), H', I3, rfl, q3⟩⟩
    | next => exact False.elim hq'
    | brk => exact False.elim hq'
    | cont => exact False.elim hq'
def tMk (C : Addr) (n m : Nat) (sp : Sp) (gV : List V → List V → List V) (E : XK) (t tk : TA) : TE := fun σ H Q => t σ H fun vs H1 => tk σ H1 fun zs H2 => vs.length = n ∧ zs.length = m ∧
  ∀ x dx, H2 x = none → H2 dx = none → dx ≠ x → sp (gV (.ref x :: vs) zs) (upd (upd H2 dx (.own x)) x (.ins C dx [])) (fun v H3 => v = .non ∧ Q (.ref x) H3) E
/-- C(e, .., k = e, ..) -/
theorem pe_mk (c : BndI X.prog X.w X.K X.mg X.base CX k x C ps sp n ks gV) (hr : RoomG j X.A) (hk : k + 1 ≤ j) (hx : Passes CX X E) (hg : Gl X x)
    (ha : PA X (e :: es) t) (hkw : PK X kws tk) (hall : (backToKw pos (keywordEach kws X.env)).all (·.1.isSome) = true := by rfl) (hks : (backToKw pos (keywordEach kws X.env)).filterMap (·.1) = ks := by rfl)
    (hdb : (x == ("__debug__" : Str)) = false := by decide) (he : starEach (e :: es) X.env = (false, eval e X.env) :: starEach es X.env := by rfl)
    (hpl : ((backTo pos (starEach (e :: es) X.env)).any (·.1) || (backToKw pos (keywordEach kws X.env)).any (·.1.isNone)) = false := by rfl) :
    PE X (.Call (.Name x p) (e :: es) kws pos) (tMk C n ks.length sp gV E t tk) := by
  obtain ⟨f, fd, g, M, hm, F, hb⟩ := c
  refine ⟨fun pins s σ H Q I h => wpAny_Call_Name_kw (ld_glob I hg hm ?_ hdb)⟩
  refine PySem.W.callWith_KW (h₀ := X.base) I.ok.mod.kin M.kp hall (thn (ha.run pos pins s σ H _ I h) fun us s1 ⟨vs, H1, I1, r, q⟩ => ?_) hpl he
  refine thn (hkw.run pos pins s1 σ H1 _ I1 q) fun ws s2 ⟨zs, H2, I2, rz, l1, l2, q2⟩ => ⟨I2.kIn, ?_⟩
  rw [hks]
  exact run_mk M F (hr.mono hk) hb hx I2 r rz l1 l2 q2
/-! ## an instance called by keywords -/
theorem callO_kw {M : Model} {A : Around} {E : Value → Shared → Prop} {s : Shared} {a : Addr} {pos : Pos} {Q : Value → Shared → Prop} {args : List (Bool × Sem Value)} {kws : List (Option Str × Sem Value)} (hplain : (args.any (·.1) || kws.any (·.1.isNone)) = false)
    (h : wpAny M A (evalArgs (.ref a) true args kws) (fun z s₁ => (∃ C ox od, PySem.W.InstAt s₁.heap a ox C od ∧ ox.data = .plain) ∧ wpAny M A (call (.ref a) ([] ++ z.pos) z.kw) Q E s₁) E s) : wpAny M A (callWith pos (.ref a) [] args kws) Q E s := by
  unfold callWith
  refine wpAny_bind (wpAny_holding (wpAny_mono h (fun z s₁ h₁ => wpAny_bind (wpAny_standAt ?_)) fun _ _ y => y))
  obtain ⟨⟨C, ox, od, J, hd⟩, h₁⟩ := h₁
  have L := PySem.W.kco_keeper (M := M) J hd
  simp only [hplain]
  refine wpAny_bind (L.here ?_)
  have tail : ∀ {t : Sem Value}, wpAny M A t Q E s₁ → wpAny M A (t >>= fun r => holding [r] point >>= fun _ => pure r) Q E s₁ :=
    fun ht => wpAny_bind (wpAny_mono ht (fun r s₂ hr => wpAny_bind (wpAny_holding (wpAny_point (wpAny_pure hr)))) fun _ _ y => y)
  exact tail (wpAny_operateT h₁)
def tOK (C : Addr) (sp : Sp) (n : Nat) (ix : List Nat) (E : XK) (tf : TE) (tk : TA) : TE := fun σ H Q => tf σ H fun y H1 => ∃ a, y = V.ref a ∧ tk σ H1 fun zs H2 => (∃ dx fs, H2 a = some (.ins C dx fs)) ∧ zs.length = n ∧ sp (sel ix (.ref a :: zs)) H2 Q E
theorem pe_oK {q : Str} {st : Stmt} {fe : Expr} {tf : TE} {ix : List Nat} (c : Mth X.prog X.w X.K X.mg X.base CX k C "__call__" q st ps sp) (hr : RoomG j X.A) (hk : k ≤ j) (hx : Passes CX X E) (b : BndM "__call__" q st ps 1 ks ix) (hf : PE X fe tf) (hkw : PK X kws tk)
    (hall : (backToKw pos (keywordEach kws X.env)).all (·.1.isSome) = true := by rfl) (hks : (backToKw pos (keywordEach kws X.env)).filterMap (·.1) = ks := by rfl)
    (ht : eval (.Call fe [] kws pos) X.env = (do callWith pos (← eval fe X.env) [] (backTo pos (starEach [] X.env)) (backToKw pos (keywordEach kws X.env))) := by rfl)
    (hpl : ((backTo pos (starEach [] X.env)).any (·.1) || (backToKw pos (keywordEach kws X.env)).any (·.1.isNone)) = false := by rfl) : PE X (.Call fe [] kws pos) (tOK C sp ks.length ix E tf tk) := by
  obtain ⟨f, fd, F, hm, hfi, G⟩ := c.ex
  obtain ⟨oc, od, kV, doc, pm, an, cdv, ct, osl, rfl, lk, hcd⟩ := F.ex
  refine ⟨fun pins s σ H Q I h => ?_⟩
  rw [ht]
  refine wpAny_bind (thn (hf.run pins s σ H _ I h) fun u s1 ⟨y, H1, I1, ry, a, ey, q⟩ => ?_)
  subst ey
  obtain rfl : u = Value.ref a := ry
  refine callO_kw hpl (evalArgs_kw2_nil hall (thn (hkw.run pos pins s1 σ H1 _ I1 q) fun ws s2 ⟨zs, H2, I2, rz, ⟨dx, fs, hi⟩, l2, q2⟩ => ?_))
  obtain ⟨ox, od, J, hd⟩ := StX.insC_at I2 (.inr ⟨dx, fs, hi⟩)
  refine ⟨⟨C, ox, od, J, hd⟩, wpAny_call (PySem.W.kco_code I2.kIn J hd hm.at_ hm.fn hfi ?_)⟩
  rw [hks]
  refine codeAny_mono (G.run X.A X.stack s2 H2 ⟨[.ref a], ks.zip ws⟩ (sel ix (.ref a :: ws)) (sel ix (.ref a :: zs)) Q E (hr.mono hk) I2.env0 (.of_eq (b kV doc pm cdv ct an [.ref a] ws rfl (rz.length.symm.trans l2))) (sel_vals (xs := .ref a :: zs) (us := .ref a :: ws) (.cons rfl rz) ix) q2) fun y s' z => ?_
  match y, z with
  | .error e, z => exact hx pins σ H2 s2 e s' I2 z
  | .ok (.ret u), z => exact I2.after z
  | .ok .next, z => exact z.elim
  | .ok .brk, z => exact z.elim
  | .ok .cont, z => exact z.elim
end
open PySem PySem.Spec PySem.Calls PyProof.Rows L2
section
variable {prog : Program} {w : World} {K : Type} [DecidableEq K] {knd : KeyKind prog w K} {A : Around} {E : Value → Shared → Prop} {s : Shared}
theorem dictPut_pairs {d : Addr} {kvs : List (K × Value)} {k : K} {key v : Value} {Q : Unit → Shared → Prop} (hkey : knd.is k key = true) (hm : s.heap.DictOf knd d kvs)
    (hQ : ∀ h', h'.DictOf knd d (stored kvs k v) → Heap.SameBut d s.heap h' → Q () { s with heap := h' })
    (hsz : kvs.length ≤ sizeLine) : wpAny (model prog w) A (dictPut d (knd.hash k) key v) Q E s := by
  obtain ⟨o, es, ep, ho, hc, hd, hk, hp, hn⟩ := hm
  have hes : es.size ≤ sizeLine := by have e1 := hp.length; have e2 : es.toList.length = es.size := by simp
                                      omega
  unfold dictPut
  refine wpAny_bind (wpAny_dictFind_of hkey ho hd hk ?_)
  have hidx : (es.findIdx? fun e => knd.is k e.key) = kvs.findIdx? fun kv => decide (kv.1 = k) := by
    rw [← hp.findIdx k]; obtain ⟨l⟩ := es; simp
  cases hi : es.findIdx? fun e => knd.is k e.key with
  | some i =>
    refine wpAny_updateDict ho hd (hQ _ ⟨_, _, ep, Heap.get?_update_self _ ho (Obj.isFreed_of_dict (Obj.data_mapDict hd _)),
      hc.mapDict _, Obj.data_mapDict hd _, hk.modify _ _, ?_, ?_⟩ (Heap.SameBut.update ..))
    · rw [stored, if_pos (any_of_findIdx_some (hidx ▸ hi))]
      have hl : (es.toList.findIdx? fun e => knd.is k e.key) = some i := by rw [← hi]; obtain ⟨l⟩ := es; simp
      have := hp.modify hn hl v
      obtain ⟨l⟩ := es
      simpa using this
    · rw [stored, if_pos (any_of_findIdx_some (hidx ▸ hi)), keys_map_store]; exact hn
  | none =>
    have hnot : k ∉ kvs.map (·.1) := not_mem_of_findIdx_none (hidx ▸ hi)
    have hany : ¬ (kvs.any fun kv => decide (kv.1 = k)) = true := by
      rw [List.any_eq_true]; rintro ⟨kv, hkv, he⟩
      exact hnot (List.mem_map.mpr ⟨kv, hkv, of_decide_eq_true he⟩)
    refine wpAny_updateDictKeys (hz := hes) ho hd (hQ _ ⟨_, _, ep + 1, Heap.get?_update_self _ ho (Obj.isFreed_of_dict (Obj.data_mapDictKeys hd _)),
      hc.mapDictKeys _, Obj.data_mapDictKeys hd _, hk.push hkey _, ?_, ?_⟩ (Heap.SameBut.update ..))
    · rw [stored, if_neg hany]
      have := hp.append hkey (knd.hash k) v
      obtain ⟨l⟩ := es
      simpa using this
    · rw [stored, if_neg hany, List.map_append, List.nodup_append]
      refine ⟨hn, by simp, ?_⟩
      intro a ha b hb
      simp only [List.map_cons, List.map_nil, List.mem_singleton] at hb
      subst hb
      exact fun e => hnot (e ▸ ha)
/-- the keys of the dict are told by value -/
theorem merge_map {d o : Addr} {kvs more : List (K × Value)} {Q : Unit → Shared → Prop} (hdo : d ≠ o) (hoS : (o == sysModules) = false) (hd : s.heap.DictOf knd d kvs) (ho : s.heap.DictOf knd o more)
    (href : ∀ (k : K) (v : Value), knd.is k v = true → ∀ a, v ≠ .ref a)
    (hQ : ∀ h', h'.DictOf knd d (merged kvs more) → h'.DictOf knd o more → Heap.SameBut d s.heap h' → Q () { s with heap := h' })
    (hsz : kvs.length + more.length ≤ sizeLine) : wpAny (model prog w) A (mergeMapping d (.ref o) false) Q E s := by
  obtain ⟨od, esd, epd, hod, hcd, hdd, hkd, hpd, hnd⟩ := id hd
  obtain ⟨oo, eso, epo, hoo, hco, hdo', hko, hpo, hno⟩ := id ho
  have hlen : more.length = eso.size := by rw [← hpo.length]; simp
  unfold mergeMapping
  refine wpAny_bind (wpAny_isInstance ho.typeIs isSubtype_dict_dict ?_)
  rw [if_pos rfl]
  refine wpAny_bind (wpAny_specialOf ho.typeIs F.slot_dict_iter.lookup ?_)
  rw [show (some (Value.builtin "dict.__iter__") == some (Value.builtin "dict.__iter__")) = true from rfl]
  refine wpAny_bind (wpAny_pure ?_)
  dsimp only
  rw [if_neg (show ¬ (o == sysModules) = true by rw [hoS]; exact Bool.false_ne_true)]
  refine wpAny_bind (wpAny_dictEntries hod hdd ?_)
  have loop : ∀ s1 : Shared, s1 = s → wpAny (model prog w) A (do
      let l ← dictEntries o
      let epoch ← dictEpoch o
      forIn (List.range l.size) PUnit.unit fun i (_ : PUnit) => (do
          let l' ← dictEntries o
          match l'[i]? with
            | some e => do
              holding [e.key, e.val] (dictPut d e.hash e.key e.val)
              let ep' ← dictEpoch o
              if (ep' != epoch) = true then do
                  (unsupported "dict.changed-during-merge" : Sem PUnit)
                  pure (ForInStep.yield PUnit.unit)
                else pure (ForInStep.yield PUnit.unit)
            | _ => do
              (unsupported "dict.changed-during-merge" : Sem PUnit)
              pure (ForInStep.yield PUnit.unit) : Sem (ForInStep PUnit))
      pure ()) Q E s1 := by
    intro s1 e1
    subst e1
    refine wpAny_bind (wpAny_dictEntries hoo hdo' ?_)
    refine wpAny_bind (wpAny_dictEpoch hoo hdo' ?_)
    refine wpAny_bind ?_
    rw [List.range_eq_range']
    refine wpAny_forIn_list _
      (fun rest _ s' => ∃ h' i, s' = { s1 with heap := h' } ∧ rest = List.range' i (eso.size - i) ∧ i ≤ eso.size ∧ h'.DictOf knd d (merged kvs (more.take i)) ∧ h'.get? o = some oo ∧ Heap.SameBut d s1.heap h')
      _ ?_ ?_ _ _ ⟨s1.heap, 0, rfl, by simp, Nat.zero_le _, by simpa [merged] using hd, hoo, Heap.SameBut.refl _ _⟩
    · rintro x rest b s' ⟨h', i, rfl, hr, hi, hd', hoo', hs'⟩
      have hlt : i < eso.size := by
        rcases Nat.lt_or_ge i eso.size with h | h
        · exact h
        · rw [Nat.sub_eq_zero_of_le h] at hr; simp at hr
      obtain ⟨rfl, hrest⟩ : x = i ∧ rest = List.range' (i + 1) (eso.size - (i + 1)) := by
        have e : eso.size - i = (eso.size - (i + 1)) + 1 := by omega
        rw [e, List.range'_succ] at hr
        injection hr with h1 h2
        exact ⟨h1, h2⟩
      refine wpAny_bind (wpAny_dictEntries hoo' hdo' ?_)
      rw [Array.getElem?_eq_getElem hlt]
      obtain ⟨kv, hkv⟩ : ∃ kv, more[x]? = some kv := ⟨more[x]'(by rw [hlen]; exact hlt), List.getElem?_eq_getElem _⟩
      obtain ⟨k, v⟩ := kv
      obtain ⟨hkey, hval⟩ := hpo.get? (e := eso[x]) (by simp [hlt]) hkv
      obtain ⟨k', hkey', hhash⟩ := hko eso[x] (Array.getElem_mem hlt)
      obtain rfl : k' = k := knd.inj _ _ _ hkey' hkey
      show wpAny _ _ (holding [eso[x].key, eso[x].val] (dictPut d eso[x].hash eso[x].key eso[x].val) >>= _) _ _ _
      rw [hhash, hval]
      have hmx : (merged kvs (more.take x)).length ≤ sizeLine := by
        have e1 := merged_length_le kvs (more.take x)
        have e2 : (more.take x).length ≤ more.length := by rw [List.length_take]; omega
        omega
      refine wpAny_bind (wpAny_holding (dictPut_pairs (hsz := hmx) hkey hd' fun h'' hd'' hs'' => ?_))
      have hoo'' : h''.get? o = some oo := (hs''.2 o (Ne.symm hdo)).trans hoo'
      refine wpAny_bind (wpAny_dictEpoch hoo'' hdo' ?_)
      rw [if_neg (by simp)]
      exact wpAny_pure ⟨h'', x + 1, rfl, hrest, hlt, by rw [merged_take_succ kvs more x (k', v) hkv]; exact hd'', hoo'', hs'.trans hs''⟩
    · rintro b s' ⟨h', i, rfl, hr, hi, hd', hoo', hs'⟩
      have hin : i = eso.size := by
        rcases Nat.lt_or_ge i eso.size with h | h
        · have e : eso.size - i = (eso.size - (i + 1)) + 1 := by omega
          rw [e, List.range'_succ] at hr; exact nomatch hr
        · exact Nat.le_antisymm hi h
      refine wpAny_pure (hQ h' ?_ ⟨oo, eso, epo, hoo', hco, hdo', hko, hpo, hno⟩ hs')
      rw [hin, ← hlen, List.take_length] at hd'; exact hd'
  split
  · refine wpAny_bind (wpAny_dictEntries hoo hdo' ?_)
    have hloop : (forIn eso PUnit.unit fun e (_ : PUnit) => (match e.key with
          | Value.ref a => do
            let lk ← specialOf e.key (Str.ofString "__eq__")
            if (lk != some (Value.builtin "object.__eq__")) = true then
                if (Array.filter (fun x => x.hash == e.hash) eso).size > 1 then do
                  (unsupported "dict.merge-into-an-empty-dict:keys-of-equal-hash" : Sem PUnit)
                  pure (ForInStep.yield PUnit.unit)
                else pure (ForInStep.yield PUnit.unit)
              else pure (ForInStep.yield PUnit.unit)
          | x => pure (ForInStep.yield PUnit.unit) : Sem (ForInStep PUnit))) = pure PUnit.unit := by
      rw [← Array.forIn_toList]
      refine forIn_yield_id _ fun e he c => ?_
      obtain ⟨k, hkey, _⟩ := hko e (Array.mem_toList_iff.mp he)
      have hn := href k e.key hkey
      split
      · rename_i a q
        exact absurd q (hn a)
      · rfl
    refine wpAny_bind (wpAny_of_eq hloop ?_)
    exact loop s rfl
  · exact loop s rfl
end
open PySem PySem.Spec PySem.Calls PyProof.Rows L2
section
variable {prog : Program} {w : World} {A : Around} {s : Shared} {K : Type} [DecidableEq K] {knd : KeyKind prog w K}
theorem wp_onR {M : Model} {α : Type} {t : Sem α} {h : Value → Sem Unit} {Q : α → Shared → Prop} {E : Value → Shared → Prop} (ht : wpAny M A t Q (fun _ _ => False) s) : wpAny M A (t.onRaise h) Q E s :=
  wpAny_onRaise (wpAny_mono ht (fun _ _ z => z) fun _ _ z => z.elim)
theorem wp_tryC {M : Model} {α : Type} {t : Sem α} {h : Value → Sem α} {Q : α → Shared → Prop} {E : Value → Shared → Prop} (ht : wpAny M A t Q (fun _ _ => False) s) : wpAny M A (t.tryCatch h) Q E s :=
  wpAny_tryCatch (wpAny_mono ht (fun _ _ z => z) fun _ _ z => z.elim)
/-- the dict at o into the one at d -/
def Mrg1 (knd : KeyKind prog w K) (d : Addr) (s : Shared) (o : Addr) (Q : Shared → Prop) : Prop :=
  ∃ kvs more, d ≠ o ∧ (o == sysModules) = false ∧ s.heap.DictOf knd d kvs ∧ s.heap.DictOf knd o more ∧ kvs.length + more.length ≤ sizeLine ∧ ∀ h', h'.DictOf knd d (merged kvs more) → Heap.SameBut d s.heap h' → Q { s with heap := h' }
theorem mrg1_run {d o : Addr} {Q : Shared → Prop} {E : Value → Shared → Prop} (href : ∀ (k : K) (v : Value), knd.is k v = true → ∀ a, v ≠ .ref a) (h : Mrg1 knd d s o Q) : wpAny (model prog w) A (mergeMapping d (.ref o) false) (fun _ => Q) E s := by
  obtain ⟨kvs, more, h1, h2, h3, h4, h5, h6⟩ := h
  exact merge_map h1 h2 h3 h4 href (fun h' a _ c => h6 h' a c) h5
theorem disp_star1 {m k v : Sem Value} {E : Value → Shared → Prop} {Q : Value → Shared → Prop} (href : ∀ (k : K) (v : Value), knd.is k v = true → ∀ a, v ≠ .ref a)
    (hx : wpAny (model prog w) A m (fun x s1 => ∃ o, x = .ref o ∧ Mrg1 knd s.heap.objs.size s1 o fun s2 => wpAny (model prog w) A (subDict [(k, v)]) (fun b s3 => Mrg1 knd s.heap.objs.size s3 b fun s4 => Q (.ref s.heap.objs.size) s4) E s2) E
      { s with heap := s.heap.push { cls := .type "dict", data := .dict #[] } }) : wpAny (model prog w) A (dictDisplay [(none, m), (some k, v)]) Q E s := by
  unfold dictDisplay
  dsimp only
  simp only [List.forIn_cons, List.forIn_nil, List.isEmpty_nil, if_true, pure_bind]
  refine wpAny_bind (wpAny_bind (wpAny_bind (wpAny_alloc ?_)))
  refine wpAny_bind (wpAny_holding (wpAny_mono hx (fun x s1 z => ?_) fun _ _ z => z))
  obtain ⟨o, rfl, z⟩ := z
  refine wpAny_bind (wp_onR (wp_tryC (wp_onR (wpAny_holding (wpAny_mono (mrg1_run href z) (fun _ s2 z2 => ?_) fun _ _ z => z)))))
  refine wpAny_pure ?_
  refine wpAny_bind (wpAny_pure (wpAny_pure ?_))
  refine wpAny_bind (wpAny_bind (wpAny_holding (wpAny_mono z2 (fun b s3 z3 => ?_) fun _ _ z => z)))
  refine wpAny_bind (wp_onR (wpAny_holding (wpAny_mono (mrg1_run href z3) (fun _ s4 z4 => ?_) fun _ _ z => z)))
  exact wpAny_pure (wpAny_pure z4)
theorem disp_star2 {m m2 : Sem Value} {E : Value → Shared → Prop} {Q : Value → Shared → Prop} (href : ∀ (k : K) (v : Value), knd.is k v = true → ∀ a, v ≠ .ref a)
    (hx : wpAny (model prog w) A m (fun x s1 => ∃ o, x = .ref o ∧ Mrg1 knd s.heap.objs.size s1 o fun s2 => wpAny (model prog w) A m2 (fun y s3 => ∃ b, y = .ref b ∧ Mrg1 knd s.heap.objs.size s3 b fun s4 => Q (.ref s.heap.objs.size) s4) E s2) E
      { s with heap := s.heap.push { cls := .type "dict", data := .dict #[] } }) : wpAny (model prog w) A (dictDisplay [(none, m), (none, m2)]) Q E s := by
  unfold dictDisplay
  dsimp only
  simp only [List.forIn_cons, List.forIn_nil, List.isEmpty_nil, if_true, pure_bind]
  refine wpAny_bind (wpAny_bind (wpAny_bind (wpAny_alloc ?_)))
  refine wpAny_bind (wpAny_holding (wpAny_mono hx (fun x s1 z => ?_) fun _ _ z => z))
  obtain ⟨o, rfl, z⟩ := z
  refine wpAny_bind (wp_onR (wp_tryC (wp_onR (wpAny_holding (wpAny_mono (mrg1_run href z) (fun _ s2 z2 => ?_) fun _ _ z => z)))))
  refine wpAny_pure ?_
  simp only [List.isEmpty_nil, if_true, pure_bind]
  refine wpAny_bind (wpAny_bind (wpAny_holding (wpAny_mono z2 (fun y s3 z3 => ?_) fun _ _ z => z)))
  obtain ⟨b, rfl, z3⟩ := z3
  refine wpAny_bind (wp_onR (wp_tryC (wp_onR (wpAny_holding (wpAny_mono (mrg1_run href z3) (fun _ s4 z4 => ?_) fun _ _ z => z)))))
  refine wpAny_pure ?_
  exact wpAny_pure (wpAny_pure z4)
end
theorem szl1 : 1 ≤ sizeLine := by rw [sizeLine_eq]; decide
/-! ## {**a, k: v}, {**a, **b} over the layer -/
theorem mix_href {P : Program} {w : World} (k : Key) (v : Value) (h : (mixKind P w).is k v = true) (a : Addr) : v ≠ .ref a := by
  rcases keyIs_shape (k := k) (v := v) h with ⟨i, t, _, e⟩ | ⟨i, t, _, e⟩ <;> (rw [e]; intro z; cases z)
section
variable {X : Cx} {pins : List (Addr × Obj)} {σ : L2.St} {H : Hp} {s : Shared}
/-- one merging -/
theorem mrg_lay {d o : Addr} {kvs more : List (Key × V)} {Q : Shared → Prop} (I : Inv X pins σ H s) (hd : H d = some (.dK kvs)) (ho : Rd H o (.dK more)) (hne : d ≠ o) (hz : kvs.length + more.length ≤ sizeLine)
    (hq : ∀ s', Inv X pins σ (upd H d (.dK (mergeK kvs more))) s' → Q s') : Mrg1 (mixKind X.prog X.w) d s o Q := by
  obtain ⟨z1, l1, vs1, r1, d1⟩ := dk_of I.hok hd
  obtain ⟨z2, l2, vs2, r2, d2⟩ := dk_rd I.hok ho
  refine ⟨vs1, vs2, hne, l2, d1, d2, by rw [← r1.length, ← r2.length]; exact hz, fun h' dd hs => hq _ ?_⟩
  have he : ∃ q, h'.get? d = some q := let ⟨q, _, _, hq, _⟩ := dd; ⟨q, hq⟩
  exact d_write I (by rw [hd]; exact True.intro) hs he (dk_new (Nat.le_trans (length_mergeK more kvs) hz) l1 (r2.merge r1) dd)
end
section
variable {X : Cx} {pos : Pos} {e1 e2 k v : Expr} {t1 t2 tk tv : TE}
def tStar1 (t1 tk tv : TE) : TE := fun σ H Q => ∀ d, H d = none → t1 σ (upd H d (.dK [])) fun x H1 => ∃ a more, x = .ref a ∧ d ≠ a ∧ H1 d = some (.dK []) ∧ Rd H1 a (.dK more) ∧
  ∀ b, upd H1 d (.dK (mergeK [] more)) b = none → tPairs [(tk, tv)] σ (upd (upd H1 d (.dK (mergeK [] more))) b (.dK [])) fun ps H2 => ∃ (key : Key) (y : V) (kvs : List (Key × V)), ps = [(kV key, y)] ∧ H2 b = some (.dK []) ∧ H2 d = some (.dK kvs) ∧ kvs.length + 1 ≤ sizeLine ∧
    Q (.ref d) (upd (upd H2 b (.dK [(key, y)])) d (.dK (putK kvs key y)))
theorem pe_star1 (h1 : PE X e1 t1) (hk : PE X k tk) (hv : PE X v tv) : PE X (.Dict [none, some k] [e1, v] pos) (tStar1 t1 tk tv) := by
  refine ⟨fun pins s σ H Q I q => ?_⟩
  rw [arm_eval_Dict]
  refine wpAny_bind (wpAny_standAt ?_)
  show wpAny _ _ (dictDisplay [(none, do let x ← eval e1 X.env; standAt pos; pure x), (some (eval k X.env), do let x ← eval v X.env; standAt pos; pure x)]) _ _ _
  have hn := I.hok.fresh (Nat.le_refl s.heap.objs.size)
  have I1 := I.laid (a := s.heap.objs.size) (o := .dK []) (h' := s.heap.push { cls := .type "dict", data := .dict #[] }) (t' := s.toks) (fun _ _ q => Heap.get?_push_of_some _ q) (Nat.le_refl _) (dk_empty s.heap I.big)
  refine disp_star1 (knd := mixKind X.prog X.w) mix_href (wpAny_bind (thn (h1.run pins _ σ _ _ I1 (q _ hn)) fun u s1 ⟨x, H1, I2, rx, a, more, ex, hne, hd, hr, q2⟩ => wpAny_bind (wpAny_standAt (wpAny_pure ?_))))
  subst ex
  obtain rfl : u = Value.ref a := rx
  have hz0 : more.length ≤ sizeLine := (dk_rd I2.hok hr).1
  refine ⟨a, rfl, mrg_lay I2 hd hr hne (by rw [List.length_nil, Nat.zero_add]; exact hz0) fun s2 I3 => ?_⟩
  have hn3 := I3.hok.fresh (Nat.le_refl s2.heap.objs.size)
  have I4 := I3.laid (a := s2.heap.objs.size) (o := .dK []) (h' := s2.heap.push { cls := .type "dict", data := .dict #[] }) (t' := s2.toks) (fun _ _ q => Heap.get?_push_of_some _ q) (Nat.le_refl _) (dk_empty s2.heap I3.big)
  refine wpAny_subDict (knd := mixKind X.prog X.w) (Nat.le_of_ble_eq_true rfl) (thn ((pps_cons hk hv pps_nil).run pins _ σ _ _ I4 (q2 _ hn3)) fun ws s4 ⟨ps, H4, I5, rel, key, y, kvs, ep, lb, ld, hz, q5⟩ => ?_)
  subst ep
  obtain ⟨rs, c, rk⟩ := carries_of (P := X.prog) (w := X.w) (kvs := [(key, y)]) rel
  obtain ⟨z, hb, vs0, r0, dd⟩ := dk_of I5.hok lb
  cases r0
  refine ⟨rs, c, dd, fun h' dd' hs => ?_⟩
  have he : ∃ q, h'.get? s2.heap.objs.size = some q := let ⟨q, _, _, hq, _⟩ := dd'; ⟨q, hq⟩
  have I6 : Inv X pins σ (upd H4 s2.heap.objs.size (.dK [(key, y)])) { s4 with heap := h', toks := s4.toks + ws.length } := d_write I5 (by rw [lb]; exact True.intro) hs he (dk_new (kvs := mergeK [] [(key, y)]) szl1 hb (rk.merge .nil) dd')
  have hdb : s.heap.objs.size ≠ s2.heap.objs.size := fun z => by
    rw [← z, ] at hn3
    rw [upd_same] at hn3
    cases hn3
  refine mrg_lay I6 (kvs := kvs) (more := [(key, y)]) (by rw [upd_ne hdb]; exact ld) (.inl upd_same) hdb hz fun s6 I7 => ⟨.ref s.heap.objs.size, _, I7, rfl, q5⟩
def tStar2 (t1 t2 : TE) : TE := fun σ H Q => ∀ d, H d = none → t1 σ (upd H d (.dK [])) fun x H1 => ∃ a more, x = .ref a ∧ d ≠ a ∧ H1 d = some (.dK []) ∧ Rd H1 a (.dK more) ∧
  t2 σ (upd H1 d (.dK (mergeK [] more))) fun y H2 => ∃ b kvs more2, y = .ref b ∧ d ≠ b ∧ H2 d = some (.dK kvs) ∧ Rd H2 b (.dK more2) ∧ kvs.length + more2.length ≤ sizeLine ∧ Q (.ref d) (upd H2 d (.dK (mergeK kvs more2)))
theorem pe_star2 (h1 : PE X e1 t1) (h2 : PE X e2 t2) : PE X (.Dict [none, none] [e1, e2] pos) (tStar2 t1 t2) := by
  refine ⟨fun pins s σ H Q I q => ?_⟩
  rw [arm_eval_Dict]
  refine wpAny_bind (wpAny_standAt ?_)
  show wpAny _ _ (dictDisplay [(none, do let x ← eval e1 X.env; standAt pos; pure x), (none, do let x ← eval e2 X.env; standAt pos; pure x)]) _ _ _
  have hn := I.hok.fresh (Nat.le_refl s.heap.objs.size)
  have I1 := I.laid (a := s.heap.objs.size) (o := .dK []) (h' := s.heap.push { cls := .type "dict", data := .dict #[] }) (t' := s.toks) (fun _ _ q => Heap.get?_push_of_some _ q) (Nat.le_refl _) (dk_empty s.heap I.big)
  refine disp_star2 (knd := mixKind X.prog X.w) mix_href (wpAny_bind (thn (h1.run pins _ σ _ _ I1 (q _ hn)) fun u s1 ⟨x, H1, I2, rx, a, more, ex, hne, hd, hr, q2⟩ => wpAny_bind (wpAny_standAt (wpAny_pure ?_))))
  subst ex
  obtain rfl : u = Value.ref a := rx
  have hz0 : more.length ≤ sizeLine := (dk_rd I2.hok hr).1
  refine ⟨a, rfl, mrg_lay I2 hd hr hne (by rw [List.length_nil, Nat.zero_add]; exact hz0) fun s2 I3 => ?_⟩
  refine wpAny_bind (thn (h2.run pins _ σ _ _ I3 q2) fun u2 s3 ⟨y, H2, I4, ry, b, kvs, more2, ey, hne2, hd2, hr2, hz2, q3⟩ => wpAny_bind (wpAny_standAt (wpAny_pure ?_)))
  subst ey
  obtain rfl : u2 = Value.ref b := ry
  exact ⟨b, rfl, mrg_lay I4 hd2 hr2 hne2 hz2 fun s6 I7 => ⟨.ref s.heap.objs.size, _, I7, rfl, q3⟩⟩
end
open PySem PySem.Spec PyProof.Rows
open L2 hiding pass0
/-! ## raise C(e), C an own class whose __init__ lays one field -/
/-- C's own __init__ (self, v): lays the field f -/
def spErr (C : Addr) (f : Str) : Sp := fun vs H Q _ => ∃ (a : Addr) (y : V), vs = [.ref a, y] ∧ H a = some (exo a C none) ∧ ∀ dx, H dx = none → dx ≠ a → Q .non (upd (upd H dx (exd dx [(f, y)])) a (exo a C (some dx)))
structure ErrC (P : Program) (w : World) (K : PySem.W.Frag) (mg : Str → Option Value) (base : Heap) (x : Str) (C : Addr) (f : Str) : Prop where
  ox : OexC K C
  nm : mg x = some (.ref C)
  ini : ∃ (fI : Addr) (fd : FuncData), PySem.W.findIn K (.ref C) "__init__" = some (some (.ref fI)) ∧ PySem.W.typeIn K (.ref fI) = some (.type "function") ∧ FnOk P w K mg base (fun _ _ _ _ _ _ => False) 2 fI fd ["self", f] (spErr C f) ∧ Binds K fd ["self", f] []
/-- an exception of the class at C is in the air: its field f holds v -/
def Err (C : Addr) (f : Str) (v : V) (H : Hp) (cls : Value) (d : Option Addr) (H' : Hp) : Prop := cls = .ref C ∧ ∃ dd, d = some dd ∧ H dd = none ∧ H' = upd H dd (.xd [(f, v)])
theorem err_go {C : Addr} {f : Str} {v : V} {H1 : Hp} {Q : XK} (q : ∀ d, H1 d = none → Q (.ref C) (some d) (upd H1 d (.xd [(f, v)]))) : [v].length ≤ 1000 ∧ ∀ a, H1 a = none → spErr C f (.ref a :: ([v] ++ [])) (upd H1 a (exo a C none))
    (fun u H2 => u = .non ∧ ∃ (d : Addr) (fs : List (Str × V)), H2 a = some (exo a C (some d)) ∧ H2 d = some (exd d fs) ∧ H1 d = none ∧ Q (.ref C) (some d) (upd (del H2 a) d (.xd fs))) (fun _ _ _ => False) := by
  refine ⟨by show 1 ≤ 1000; decide, fun a na => ⟨a, v, rfl, upd_same, fun dx nd ne => ⟨rfl, dx, [(f, v)], upd_same, ?_, ?_, ?_⟩⟩⟩
  · rw [upd_ne ne, upd_same]
  · rw [upd_ne ne] at nd
    exact nd
  · rw [upd_ne ne] at nd
    have e : upd (del (upd (upd (upd H1 a (exo a C none)) dx (exd dx [(f, v)])) a (exo a C (some dx))) a) dx (.xd [(f, v)]) = upd H1 dx (.xd [(f, v)]) := by
      funext b
      by_cases h1 : b = dx
      · rw [h1, upd_same, upd_same]
      · rw [upd_ne h1, upd_ne h1]
        by_cases h2 : b = a
        · rw [h2, del_same, na]
        · rw [del_ne h2, upd_ne h2, upd_ne h1, upd_ne h2]
    rw [e]
    exact q dx nd
def tRaise1 (C : Addr) (f : Str) (te : TE) (W : WX) : L2.TS := fun _ σ H => te σ H fun v H1 => [v].length ≤ 1000 ∧ ∀ a, H1 a = none → spErr C f (.ref a :: ([v] ++ [])) (upd H1 a (exo a C none))
    (fun u H2 => u = .non ∧ ∃ (d : Addr) (fs : List (Str × V)), H2 a = some (exo a C (some d)) ∧ H2 d = some (exd d fs) ∧ H1 d = none ∧ W (.ref C) (some d) σ (upd (del H2 a) d (.xd fs))) (fun _ _ _ => False)
section
variable {X : Cx}
theorem ps_raise1 {x f : Str} {C : Addr} {j : Nat} {W : WX} {e : Expr} {te : TE} {p q pos : Pos} (c : ErrC X.prog X.w X.K X.mg X.base x C f) (hr : Room j X.A) (hj : 3 ≤ j) (hc : X.calm = true) (tk : Takes X W) (hg : Gl X x) (he : PE X e te)
    (hdb : (x == ("__debug__" : Str)) = false := by decide) (hst : starEach [e] X.env = (false, eval e X.env) :: starEach [] X.env := by rfl) (hpl : (backTo q (starEach [] X.env)).any (·.1) = false := by rfl) :
    PS X (.Raise (some (.Call (.Name x p) [e] [] q)) none pos) (tRaise1 C f te W) := by
  obtain ⟨fI, fd, iC, tI, F1, hb⟩ := c.ini
  exact ps_raise (pos := pos) hc tk (pmk_oex (x := x) (p := p) (pos := q) (sp := spErr C f) (dvs := []) c.ox iC tI F1 (hr.mono hj) hb .nil (fun _ _ _ _ _ _ _ z => z.elim) hg c.nm (pa_cons he pa_nil hst) hdb hst hpl)
end
/-! ## the class' facts give its __init__'s promise -/
abbrev initNd (f : Str) : List Str := ["self", f, "__class__"]
/-! zip of two texts of small signs -/
open PySem PySem.Spec PyProof.Rows
/-- an iterator over a text of small signs -/
abbrev SIt (h : Heap) (it : Addr) (x : Str) (t : Tok) (i : Nat) : Prop := h.IsStrIter it "str_ascii_iterator" x t i
theorem SIt.ext {h h' : Heap} {it b : Addr} {x : Str} {t : Tok} {i : Nat} (a : SIt h it x t i) (e : Heap.ExtBut b h h') (n : it ≠ b) : SIt h' it x t i :=
  let ⟨o, ho, r⟩ := a; ⟨o, e it o n ho, r⟩
section
variable {prog : Program} {w : World} {A : Around} {E : Value → Shared → Prop} {s : Shared}
theorem nextOf_s_item {it : Addr} {x : Str} {t : Tok} {i c : Nat} {Q : Value → Shared → Prop} (hit : SIt s.heap it x t i) (hx : x.cps[i]? = some c)
    (hQ : ∀ h', SIt h' it x t (i + 1) → Heap.SameBut it s.heap h' → Q (.str ⟨#[c]⟩ s.toks) { s with heap := h', toks := s.toks + 1 }) :
    wpAny (model prog w) A (Builtin.SmallTypes.nextOf (.ref it)) Q E s := by
  obtain ⟨o, ho, hc, hd⟩ := id hit
  unfold Builtin.SmallTypes.nextOf
  refine wpAny_bind (wpAny_callSpecial?_slot (name := Str.ofString "__next__") hit.typeIs F.slot_str_ascii_iterator_next (wpAny_call_entry F.slot_str_ascii_iterator_next hit.typeIs F.entry_str_ascii_iterator_next ?_ (F.args_str_ascii_iterator_next_1 _)))
  show wpAny _ _ (field (.ref it) 0 >>= _) _ _ s; refine wpAny_bind (wpAny_field ho hd (x := .str x t) rfl ?_)
  show wpAny _ _ (field (.ref it) 1 >>= _) _ _ s; refine wpAny_bind (wpAny_field ho hd (x := .int i 0) rfl ?_)
  simp only [Int.toNat_natCast, hx]
  refine wpAny_bind (wpAny_setField ho hd (by simp) (wpAny_bind (wpAny_mkStr (wpAny_pure ⟨_, rfl, wpAny_pure (hQ _ ⟨_, Heap.get?_update_self _ ho (Obj.isFreed_of_fields (Obj.data_mapFields hd _)), (Obj.cls_mapFields ..).trans hc, by rw [Obj.data_mapFields hd]; simp [rawInt]⟩ (Heap.SameBut.update ..))⟩) (by show 1 ≤ sizeLine; decide))))
theorem nextOf_s_end {it : Addr} {x : Str} {t : Tok} {i : Nat} {Q : Value → Shared → Prop} (hh : A.handled = none) (hit : SIt s.heap it x t i) (hx : x.cps[i]? = none)
    (hE : ∀ h' e, Heap.ExtBut it s.heap h' → (∃ o, h'.get? e = some o ∧ o.cls = .type "StopIteration") → E (.ref e) { s with heap := h' }) :
    wpAny (model prog w) A (Builtin.SmallTypes.nextOf (.ref it)) Q E s := by
  obtain ⟨o, ho, hc, hd⟩ := id hit
  unfold Builtin.SmallTypes.nextOf
  refine wpAny_bind (wpAny_callSpecial?_slot (name := Str.ofString "__next__") hit.typeIs F.slot_str_ascii_iterator_next (wpAny_call_entry F.slot_str_ascii_iterator_next hit.typeIs F.entry_str_ascii_iterator_next ?_ (F.args_str_ascii_iterator_next_1 _)))
  show wpAny _ _ (field (.ref it) 0 >>= _) _ _ s; refine wpAny_bind (wpAny_field ho hd (x := .str x t) rfl ?_)
  show wpAny _ _ (field (.ref it) 1 >>= _) _ _ s; refine wpAny_bind (wpAny_field ho hd (x := .int i 0) rfl ?_)
  simp only [Int.toNat_natCast, hx]
  refine wpAny_bind (wpAny_rule (wpAny_bind (wpAny_setField ho hd (by simp) (wpAny_bind (wpAny_letGo ?_)))))
  show wpAny _ _ (newExc (.type "StopIteration") [] >>= _) _ _ _; refine wpAny_bind ?_
  simp only [newExc, newTuple]
  refine wpAny_bind (wpAny_newObj_type ?_ (by size_fits)); refine wpAny_bind (m := firstArgMember _ _) (wpAny_of_eq (a := Value.none) (by first | rfl | (simp only [firstArgMember]; rfl)) ?_)
  refine wpAny_newObj_type ?_ (by size_fits); simp only [raiseNew]; refine wpAny_bind (wpAny_handled ?_)
  first | rw [show A.in1.handled = none from hh] | rw [hh]
  refine wpAny_bind (wpAny_pure (wpAny_throw ?_)); exact hE _ _ (((Heap.SameBut.update ..).extBut.push _).push _) ⟨_, Heap.get?_push_size _ rfl, rfl⟩
theorem zipS_next_item {z TI TO i1 i2 l1 l2 : Addr} {k1 k2 c1 c2 : Nat} {x y : Str} {t1 t2 : Tok} {a b : Value} {Q : Value → Shared → Prop} (D : ZipApart z TI TO i1 i2 l1 l2)
    (hz : IsZip s.heap z TI TO .none) (hTI : IsPair s.heap TI (.ref i1) (.ref i2)) (hTO : IsPair s.heap TO a b) (h1 : SIt s.heap i1 x t1 k1) (h2 : SIt s.heap i2 y t2 k2) (hx : x.cps[k1]? = some c1) (hy : y.cps[k2]? = some c2)
    (hQ : ∀ h' u v t, IsZip h' z TI TO (rawInt s.heap.objs.size) → IsPair h' TO (.str ⟨#[c1]⟩ u) (.str ⟨#[c2]⟩ v) → SIt h' i1 x t1 (k1 + 1) → SIt h' i2 y t2 (k2 + 1) → IsPair h' s.heap.objs.size (.str ⟨#[c1]⟩ u) (.str ⟨#[c2]⟩ v) →
      (∀ c o, c ≠ z → c ≠ TO → c ≠ i1 → c ≠ i2 → s.heap.get? c = some o → h'.get? c = some o) → Q (.ref s.heap.objs.size) { s with heap := h', toks := t }) :
    wpAny (model prog w) A (Builtin.«zip.__next__» ⟨[.ref z], []⟩) (fun fin s' => ∃ v, fin = .done (.ret v) ∧ Q v s') E s := by
  show wpAny _ _ (field (.ref z) 2 >>= _) _ _ _; refine wpAny_bind (wpAny_field hz rfl (x := .bool false) rfl ?_)
  show wpAny _ _ (field (.ref z) 3 >>= _) _ _ _; refine wpAny_bind (wpAny_field hz rfl (x := .ref TI) rfl ?_)
  refine wpAny_bind (wpAny_seqItems hTI rfl ?_); show wpAny _ _ (Builtin.SmallTypes.ownedTupleIsFree (.ref z) >>= _) _ _ _; refine wpAny_bind ?_
  unfold Builtin.SmallTypes.ownedTupleIsFree; refine wpAny_bind (wpAny_field hz rfl (x := .none) rfl (wpAny_pure ?_))
  simp only [if_true]; refine wpAny_bind (wpAny_rule ?_); refine wpAny_bind (wpAny_field hz rfl (x := .ref TO) rfl ?_)
  refine wpAny_bind (wpAny_setField_rec hz (by simp) fun h₁ hz₁ hs₁ => ?_); replace hz₁ : IsZip h₁ z TI TO .ellipsis := hz₁
  refine wpAny_bind ?_; simp only [List.zipIdx_cons, List.zipIdx_nil, List.forIn_cons, List.forIn_nil]
  refine wpAny_bind (wpAny_bind (wpAny_onRaise ?_)); show wpAny _ _ (Builtin.SmallTypes.nextOf (.ref i1) >>= _) _ _ _
  refine wpAny_bind (nextOf_s_item (h1.ext hs₁.extBut D.i1z) hx fun h₂ h1₂ hs₂ => wpAny_pure ?_)
  have hTO₂ : IsPair h₂ TO a b := hs₂.extBut _ _ D.TOi1 (hs₁.extBut _ _ D.TOz hTO); refine wpAny_bind (wpAny_seqItems hTO₂ rfl ?_)
  refine wpAny_bind (wpAny_updateSeq_pair hTO₂ fun h₃ hTO₃ hs₃ => ?_); replace hTO₃ : IsPair h₃ TO (.str ⟨#[c1]⟩ s.toks) b := hTO₃
  refine wpAny_bind (wpAny_letGo (wpAny_pure ?_)); refine wpAny_bind (wpAny_bind (wpAny_onRaise ?_)); show wpAny _ _ (Builtin.SmallTypes.nextOf (.ref i2) >>= _) _ _ _
  refine wpAny_bind (nextOf_s_item (((h2.ext hs₁.extBut D.i2z).ext hs₂.extBut D.i12.symm).ext hs₃.extBut D.TOi2.symm) hy fun h₄ h2₄ hs₄ => wpAny_pure ?_)
  have hTO₄ : IsPair h₄ TO (.str ⟨#[c1]⟩ s.toks) b := hs₄.extBut _ _ D.TOi2 hTO₃; refine wpAny_bind (wpAny_seqItems hTO₄ rfl ?_)
  refine wpAny_bind (wpAny_updateSeq_pair hTO₄ fun h₅ hTO₅ hs₅ => ?_); replace hTO₅ : IsPair h₅ TO (.str ⟨#[c1]⟩ s.toks) (.str ⟨#[c2]⟩ (s.toks + 1)) := hTO₅
  refine wpAny_bind (wpAny_letGo (wpAny_pure (wpAny_pure ?_))); refine wpAny_bind (wpAny_seqItems hTO₅ rfl ?_); refine wpAny_bind (wpAny_newTuple ?_)
  have hsz : h₅.objs.size = s.heap.objs.size := by rw [hs₅.1, hs₄.1, hs₃.1, hs₂.1]; exact hs₁.1
  have hz₅ : IsZip h₅ z TI TO .ellipsis := hs₅.extBut _ _ D.TOz.symm (hs₄.extBut _ _ D.i2z.symm (hs₃.extBut _ _ D.TOz.symm (hs₂.extBut _ _ D.i1z.symm hz₁)))
  have hk₅ : ∀ c o, c ≠ z → c ≠ TO → c ≠ i1 → c ≠ i2 → s.heap.get? c = some o → h₅.get? c = some o := fun c o n1 n2 n3 n4 e => hs₅.extBut _ _ n2 (hs₄.extBut _ _ n4 (hs₃.extBut _ _ n2 (hs₂.extBut _ _ n3 (hs₁.extBut _ _ n1 e))))
  have h1₅ : SIt h₅ i1 x t1 (k1 + 1) := ((h1₂.ext hs₃.extBut D.TOi1.symm).ext hs₄.extBut D.i12).ext hs₅.extBut D.TOi1.symm
  have h2₅ : SIt h₅ i2 y t2 (k2 + 1) := h2₄.ext hs₅.extBut D.TOi2.symm
  have hzlt : z < h₅.objs.size := Heap.lt_size hz₅
  show wpAny _ _ (Builtin.SmallTypes.ownedTupleHandOut (.ref z) (.ref h₅.objs.size) >>= _) _ _ _; refine wpAny_bind ?_; unfold Builtin.SmallTypes.ownedTupleHandOut
  have hz₆ : IsZip (h₅.push { cls := .type "tuple", data := .seq #[.str ⟨#[c1]⟩ s.toks, .str ⟨#[c2]⟩ (s.toks + 1)] }) z TI TO .ellipsis := Heap.get?_push_of_some _ hz₅
  refine wpAny_bind (wpAny_setField_rec hz₆ (by simp) fun h₇ hz₇ hs₇ => ?_); replace hz₇ : IsZip h₇ z TI TO (rawInt h₅.objs.size) := hz₇
  refine wpAny_setField_rec hz₇ (by simp) fun h₈ hz₈ hs₈ => ?_; replace hz₈ : IsZip h₈ z TI TO (rawInt h₅.objs.size) := hz₈
  have up : ∀ c o, c ≠ z → h₅.get? c = some o → h₈.get? c = some o := fun c o n e => hs₈.extBut _ _ n (hs₇.extBut _ _ n (Heap.get?_push_of_some _ e))
  have hT₈ : IsPair h₈ h₅.objs.size (.str ⟨#[c1]⟩ s.toks) (.str ⟨#[c2]⟩ (s.toks + 1)) := hs₈.extBut _ _ (Nat.ne_of_gt hzlt) (hs₇.extBut _ _ (Nat.ne_of_gt hzlt) (Heap.get?_push_size _ rfl))
  rw [hsz] at hz₈ hT₈
  refine wpAny_pure ⟨_, rfl, ?_⟩; show Q (.ref h₅.objs.size) _; rw [hsz]
  exact hQ h₈ _ _ _ hz₈ (up _ _ D.TOz hTO₅) (let ⟨o, e, r⟩ := h1₅; ⟨o, up _ o D.i1z e, r⟩) (let ⟨o, e, r⟩ := h2₅; ⟨o, up _ o D.i2z e, r⟩) hT₈ fun c o n1 n2 n3 n4 e => up c o n1 (hk₅ c o n1 n2 n3 n4 e)
theorem zipS_next_end {z TI TO i1 i2 l1 l2 : Addr} {k1 k2 : Nat} {x y : Str} {t1 t2 : Tok} {a b : Value} {Q : Fin → Shared → Prop} (hh : A.handled = none) (D : ZipApart z TI TO i1 i2 l1 l2)
    (hz : IsZip s.heap z TI TO .none) (hTI : IsPair s.heap TI (.ref i1) (.ref i2)) (hTO : IsPair s.heap TO a b) (h1 : SIt s.heap i1 x t1 k1) (h2 : SIt s.heap i2 y t2 k2) (hend : x.cps[k1]? = none ∨ y.cps[k2]? = none)
    (hE : ∀ h' t e, (∀ c o, c ≠ z → c ≠ TO → c ≠ i1 → c ≠ i2 → s.heap.get? c = some o → h'.get? c = some o) → (∃ o, h'.get? e = some o ∧ o.cls = .type "StopIteration") → E (.ref e) { s with heap := h', toks := t }) :
    wpAny (model prog w) A (Builtin.«zip.__next__» ⟨[.ref z], []⟩) Q E s := by
  show wpAny _ _ (field (.ref z) 2 >>= _) _ _ _; refine wpAny_bind (wpAny_field hz rfl (x := .bool false) rfl ?_)
  show wpAny _ _ (field (.ref z) 3 >>= _) _ _ _; refine wpAny_bind (wpAny_field hz rfl (x := .ref TI) rfl ?_)
  refine wpAny_bind (wpAny_seqItems hTI rfl ?_); show wpAny _ _ (Builtin.SmallTypes.ownedTupleIsFree (.ref z) >>= _) _ _ _; refine wpAny_bind ?_
  unfold Builtin.SmallTypes.ownedTupleIsFree; refine wpAny_bind (wpAny_field hz rfl (x := .none) rfl (wpAny_pure ?_))
  simp only [if_true]; refine wpAny_bind (wpAny_rule ?_); refine wpAny_bind (wpAny_field hz rfl (x := .ref TO) rfl ?_)
  refine wpAny_bind (wpAny_setField_rec hz (by simp) fun h₁ hz₁ hs₁ => ?_); replace hz₁ : IsZip h₁ z TI TO .ellipsis := hz₁
  refine wpAny_bind ?_; simp only [List.zipIdx_cons, List.zipIdx_nil, List.forIn_cons, List.forIn_nil]
  refine wpAny_bind (wpAny_bind (wpAny_onRaise ?_)); show wpAny _ _ (Builtin.SmallTypes.nextOf (.ref i1) >>= _) _ _ _
  cases hx : x.cps[k1]? with
  | none =>
    refine wpAny_bind (nextOf_s_end hh (h1.ext hs₁.extBut D.i1z) hx fun h₂ e hs₂ he => ?_); obtain ⟨oe, hoe, hce⟩ := he
    have hz₂ : IsZip h₂ z TI TO .ellipsis := hs₂ _ _ D.i1z.symm hz₁
    have hez : e ≠ z := fun q => by subst q; rw [hz₂] at hoe; cases hoe; simp at hce
    refine wpAny_setField_rec hz₂ (by simp) fun h₃ _ hs₃ => hE h₃ _ e (fun c o n1 _ n3 _ q => hs₃.extBut _ _ n1 (hs₂ _ _ n3 (hs₁.extBut _ _ n1 q))) ⟨oe, hs₃.extBut _ _ hez hoe, hce⟩
  | some c =>
    have hy : y.cps[k2]? = none := by rcases hend with h | h; (rw [hx] at h; cases h); exact h
    refine wpAny_bind (nextOf_s_item (h1.ext hs₁.extBut D.i1z) hx fun h₂ h1₂ hs₂ => wpAny_pure ?_)
    have hTO₂ : IsPair h₂ TO a b := hs₂.extBut _ _ D.TOi1 (hs₁.extBut _ _ D.TOz hTO); refine wpAny_bind (wpAny_seqItems hTO₂ rfl ?_)
    refine wpAny_bind (wpAny_updateSeq_pair hTO₂ fun h₃ hTO₃ hs₃ => ?_); refine wpAny_bind (wpAny_letGo (wpAny_pure ?_)); refine wpAny_bind (wpAny_bind (wpAny_onRaise ?_))
    show wpAny _ _ (Builtin.SmallTypes.nextOf (.ref i2) >>= _) _ _ _
    refine wpAny_bind (nextOf_s_end hh (((h2.ext hs₁.extBut D.i2z).ext hs₂.extBut D.i12.symm).ext hs₃.extBut D.TOi2.symm) hy fun h₄ e hs₄ he => ?_); obtain ⟨oe, hoe, hce⟩ := he
    have hz₄ : IsZip h₄ z TI TO .ellipsis := hs₄ _ _ D.i2z.symm (hs₃.extBut _ _ D.TOz.symm (hs₂.extBut _ _ D.i1z.symm hz₁))
    have hez : e ≠ z := fun q => by subst q; rw [hz₄] at hoe; cases hoe; simp at hce
    refine wpAny_setField_rec hz₄ (by simp) fun h₅ _ hs₅ => hE h₅ _ e (fun c o n1 n2 n3 n4 q => hs₅.extBut _ _ n1 (hs₄ _ _ n4 (hs₃.extBut _ _ n2 (hs₂.extBut _ _ n3 (hs₁.extBut _ _ n1 q))))) ⟨oe, hs₅.extBut _ _ hez hoe, hce⟩
theorem pyNext_zipS_item {z TI TO i1 i2 l1 l2 : Addr} {k1 k2 c1 c2 : Nat} {x y : Str} {t1 t2 : Tok} {a b : Value} {Q : Option Value → Shared → Prop} (D : ZipApart z TI TO i1 i2 l1 l2)
    (hz : IsZip s.heap z TI TO .none) (hTI : IsPair s.heap TI (.ref i1) (.ref i2)) (hTO : IsPair s.heap TO a b) (h1 : SIt s.heap i1 x t1 k1) (h2 : SIt s.heap i2 y t2 k2) (hx : x.cps[k1]? = some c1) (hy : y.cps[k2]? = some c2)
    (hQ : ∀ h' u v t, IsZip h' z TI TO (rawInt s.heap.objs.size) → IsPair h' TO (.str ⟨#[c1]⟩ u) (.str ⟨#[c2]⟩ v) → SIt h' i1 x t1 (k1 + 1) → SIt h' i2 y t2 (k2 + 1) → IsPair h' s.heap.objs.size (.str ⟨#[c1]⟩ u) (.str ⟨#[c2]⟩ v) →
      (∀ c o, c ≠ z → c ≠ TO → c ≠ i1 → c ≠ i2 → s.heap.get? c = some o → h'.get? c = some o) → Q (some (.ref s.heap.objs.size)) { s with heap := h', toks := t }) :
    wpAny (model prog w) A (pyNext (.ref z)) Q E s := by
  have hT : s.TypeIs (.ref z) "zip" := ⟨_, hz, rfl⟩
  unfold pyNext
  exact wpAny_bind (wpAny_attempt (wpAny_callSpecial?_slot (name := Str.ofString "__next__") hT F.slot_zip_next (wpAny_call_entry F.slot_zip_next hT F.entry_zip_next
      (zipS_next_item D hz hTI hTO h1 h2 hx hy fun h' u v t a1 a2 a3 a4 a5 a7 => wpAny_pure (hQ h' u v t a1 a2 a3 a4 a5 a7)) (F.args_zip_next_1 _))))
theorem pyNext_zipS_end {z TI TO i1 i2 l1 l2 : Addr} {k1 k2 : Nat} {x y : Str} {t1 t2 : Tok} {a b : Value} {Q : Option Value → Shared → Prop} (hh : A.handled = none) (D : ZipApart z TI TO i1 i2 l1 l2)
    (hz : IsZip s.heap z TI TO .none) (hTI : IsPair s.heap TI (.ref i1) (.ref i2)) (hTO : IsPair s.heap TO a b) (h1 : SIt s.heap i1 x t1 k1) (h2 : SIt s.heap i2 y t2 k2) (hend : x.cps[k1]? = none ∨ y.cps[k2]? = none)
    (hQ : ∀ h' t, (∀ c o, c ≠ z → c ≠ TO → c ≠ i1 → c ≠ i2 → s.heap.get? c = some o → h'.get? c = some o) → Q none { s with heap := h', toks := t }) : wpAny (model prog w) A (pyNext (.ref z)) Q E s := by
  have hT : s.TypeIs (.ref z) "zip" := ⟨_, hz, rfl⟩
  unfold pyNext
  refine wpAny_bind (wpAny_attempt (wpAny_callSpecial?_slot (name := Str.ofString "__next__") hT F.slot_zip_next (wpAny_call_entry F.slot_zip_next hT F.entry_zip_next
    (zipS_next_end hh D hz hTI hTO h1 h2 hend fun h' t e hk he => ?_) (F.args_zip_next_1 _))))
  obtain ⟨o, ho, hc⟩ := he
  exact wpAny_bind (wpAny_isInstance (T := "StopIteration") (b := true) ⟨o, ho, hc⟩ isSubtype_stop (wpAny_pure (hQ _ _ hk)))
end
/-! the call -/
abbrev zsH1 (h : Heap) (x : Str) (t : Tok) : Heap := h.push { cls := .type "str_ascii_iterator", data := .fields #[.str x t, .int 0 0] }
abbrev zsH2 (h : Heap) (x y : Str) (t u : Tok) : Heap := (zsH1 h x t).push { cls := .type "str_ascii_iterator", data := .fields #[.str y u, .int 0 0] }
abbrev zsH3 (h : Heap) (x y : Str) (t u : Tok) : Heap := (zsH2 h x y t u).push { cls := .type "tuple", data := .seq #[.ref h.objs.size, .ref (zsH1 h x t).objs.size] }
abbrev zsH4 (h : Heap) (x y : Str) (t u : Tok) : Heap := (zsH3 h x y t u).push { cls := .type "tuple", data := .seq #[.none, .none] }
abbrev zsH5 (h : Heap) (x y : Str) (t u : Tok) : Heap := (zsH4 h x y t u).push { cls := .type "zip", data := .fields #[.none, .bool false, .bool false, .ref (zsH2 h x y t u).objs.size, .ref (zsH3 h x y t u).objs.size] }
theorem meets_zipS (x y : Str) (t u : Tok) (hx : x.cps.all (· < 128) = true) (hy : y.cps.all (· < 128) = true) :
    Meets (Builtin.«zip.__new__» ⟨[.type "zip", .str x t, .str y u], []⟩) (fun _ R s => R (.ok (.ret (.ref (zsH4 s.heap x y t u).objs.size))) { s with heap := zsH5 s.heap x y t u }) :=
  .of_wp fun prog w A R s h => by
    obtain ⟨hp, g, d, tk, os⟩ := s
    have hsub := sub_zip
    wp_walk using wpAny_pyIter_ascii hx, wpAny_pyIter_ascii hy
    exact ⟨_, rfl, h⟩
section
variable {prog : Program} {w : World} {A : Around} {E : Value → Shared → Prop} {s : Shared}
theorem call_zipS {x y : Str} {t u : Tok} {Q : Value → Shared → Prop} (hx : x.cps.all (· < 128) = true) (hy : y.cps.all (· < 128) = true)
    (h : ∀ h', IsZip h' (s.heap.objs.size + 4) (s.heap.objs.size + 2) (s.heap.objs.size + 3) .none → IsPair h' (s.heap.objs.size + 2) (.ref s.heap.objs.size) (.ref (s.heap.objs.size + 1)) →
      IsPair h' (s.heap.objs.size + 3) .none .none → SIt h' s.heap.objs.size x t 0 → SIt h' (s.heap.objs.size + 1) y u 0 → h'.objs.size = s.heap.objs.size + 5 →
      (∀ c o, s.heap.get? c = some o → h'.get? c = some o) → Q (.ref (s.heap.objs.size + 4)) { s with heap := h' }) :
    wpAny (model prog w) A (call (.type "zip") [.str x t, .str y u]) Q E s := by
  refine callType_new F.called_zip (by decide) (F.typeCall_zip_2 _ _) (F.newCall_zip_2 _ _) (fun obj => F.args_object_init_3 obj _ _) F.entry_zip_new (meets_zipS x y t u hx hy) ?_
  have z1 : (zsH1 s.heap x t).objs.size = s.heap.objs.size + 1 := Heap.size_push ..
  have z2 : (zsH2 s.heap x y t u).objs.size = s.heap.objs.size + 2 := by rw [Heap.size_push, z1]
  have z3 : (zsH3 s.heap x y t u).objs.size = s.heap.objs.size + 3 := by rw [Heap.size_push, z2]
  have z4 : (zsH4 s.heap x y t u).objs.size = s.heap.objs.size + 4 := by rw [Heap.size_push, z3]
  have z5 : (zsH5 s.heap x y t u).objs.size = s.heap.objs.size + 5 := by rw [Heap.size_push, z4]
  have g5 : (zsH5 s.heap x y t u).get? (zsH4 s.heap x y t u).objs.size = some _ := Heap.get?_push_size _ rfl
  have g4 : (zsH5 s.heap x y t u).get? (zsH3 s.heap x y t u).objs.size = some _ := Heap.get?_push_of_some _ (Heap.get?_push_size _ rfl)
  have g3 : (zsH5 s.heap x y t u).get? (zsH2 s.heap x y t u).objs.size = some _ := Heap.get?_push_of_some _ (Heap.get?_push_of_some _ (Heap.get?_push_size _ rfl))
  have g2 : (zsH5 s.heap x y t u).get? (zsH1 s.heap x t).objs.size = some _ := Heap.get?_push_of_some _ (Heap.get?_push_of_some _ (Heap.get?_push_of_some _ (Heap.get?_push_size _ rfl)))
  have g1 : (zsH5 s.heap x y t u).get? s.heap.objs.size = some _ := Heap.get?_push_of_some _ (Heap.get?_push_of_some _ (Heap.get?_push_of_some _ (Heap.get?_push_of_some _ (Heap.get?_push_size _ rfl))))
  show _ ∧ _
  rw [z2, z3, z4] at g5
  rw [z1, z2] at g3
  rw [z3] at g4
  rw [z1] at g2
  rw [z4]
  exact ⟨⟨_, g5, rfl⟩, h _ g5 g3 g4 ⟨_, g1, rfl, rfl⟩ ⟨_, g2, rfl, rfl⟩ z5 fun c o q => Heap.get?_push_of_some _ (Heap.get?_push_of_some _ (Heap.get?_push_of_some _ (Heap.get?_push_of_some _ (Heap.get?_push_of_some _ q))))⟩
end
open PySem PySem.Spec PyProof.Rows
open L2
/-! the rule -/
def ItzS (x y : Str) : It :=
  ⟨fun i _ => i < x.cps.size ∧ i < y.cps.size, fun i H v H' => ∃ T c d, v = .ref T ∧ H T = none ∧ H' = upd H T (.tup [.str ⟨#[c]⟩, .str ⟨#[d]⟩]) ∧ x.cps[i]? = some c ∧ y.cps[i]? = some d, fun i _ => x.cps.size ≤ i ∨ y.cps.size ≤ i⟩
theorem apartS (I : Nat) : ZipApart (I + 4) (I + 2) (I + 3) I (I + 1) (I + 2) (I + 2) := by constructor <;> (show ¬ ((_ : Nat) = _); omega)
theorem turn_zipS {P : Program} {w : World} {K : PySem.W.Frag} {elts : List Expr} {kk : Nat} {tpos : Pos} {x y : Str} {t1 t2 : Tok} {a b z TI TO i1 i2 : Addr} (D : ZipApart z TI TO i1 i2 a b) :
    Turn P w K (.Tuple elts kk tpos) (ItzS x y) [z, TI, TO, i1, i2] z (fun i h => IsZip h z TI TO .none ∧ IsPair h TI (.ref i1) (.ref i2) ∧ (∃ x y, IsPair h TO x y) ∧ SIt h i1 x t1 i ∧ SIt h i2 y t2 i) where
  mem := by simp
  obj := fun i h st c hc => by
    obtain ⟨hz, hTI, ⟨u, v, hTO⟩, ⟨o1, e1, _, d1⟩, ⟨o2, e2, _, d2⟩⟩ := st
    have e' : c = z ∨ c = TI ∨ c = TO ∨ c = i1 ∨ c = i2 := by simpa using hc
    rcases e' with q | q | q | q | q <;> rw [q]
    · exact ⟨_, hz, fun v q => nomatch q⟩
    · exact ⟨_, hTI, fun v q => nomatch q⟩
    · exact ⟨_, hTO, fun v q => nomatch q⟩
    · exact ⟨o1, e1, fun v q => by rw [d1] at q; cases q⟩
    · exact ⟨o2, e2, fun v q => by rw [d2] at q; cases q⟩
  keep := fun i h h' st k => by
    obtain ⟨hz, hTI, ⟨u, v, hTO⟩, ⟨o1, e1, r1⟩, ⟨o2, e2, r2⟩⟩ := st
    exact ⟨k z (by simp) _ hz, k TI (by simp) _ hTI, ⟨u, v, k TO (by simp) _ hTO⟩, ⟨o1, k i1 (by simp) _ e1, r1⟩, ⟨o2, k i2 (by simp) _ e2, r2⟩⟩
  item := by
    intro X hP hw hK hc i pins s σ H E I hf st hg
    subst hP hw hK
    obtain ⟨hz, hTI, ⟨x0, y0, hTO⟩, h1, h2⟩ := st
    obtain ⟨lx, ly⟩ := hg
    have hx : x.cps[i]? = some x.cps[i] := Array.getElem?_eq_getElem lx
    have hy : y.cps[i]? = some y.cps[i] := Array.getElem?_eq_getElem ly
    have hzl : z < s.heap.objs.size := Heap.lt_size hz
    refine pyNext_zipS_item D hz hTI hTO h1 h2 hx hy fun h' u v t z' TO' h1' h2' hT hk => ?_
    refine ⟨_, rfl, wpAny_letOwnedTupleGo_zip (s := { s with heap := h', toks := t }) z' fun h'' z'' sb => ?_⟩
    have hT2 : h''.get? s.heap.objs.size = some { cls := .type "tuple", data := .seq #[.str ⟨#[x.cps[i]]⟩ u, .str ⟨#[y.cps[i]]⟩ v] } := (sb.2 _ (Nat.ne_of_gt hzl)).trans hT
    have new : ObjOk X.prog X.w (upd H s.heap.objs.size (.tup [.str ⟨#[x.cps[i]]⟩, .str ⟨#[y.cps[i]]⟩])) h'' s.heap.objs.size (.tup [.str ⟨#[x.cps[i]]⟩, .str ⟨#[y.cps[i]]⟩]) :=
      ⟨by show 2 ≤ sizeLine; decide, [.str ⟨#[x.cps[i]]⟩ u, .str ⟨#[y.cps[i]]⟩ v], .cons ⟨_, rfl⟩ (.cons ⟨_, rfl⟩ .nil), ⟨_, hT2, rfl, _, rfl⟩⟩
    have I1 : Inv X pins σ (upd H s.heap.objs.size (.tup [.str ⟨#[x.cps[i]]⟩, .str ⟨#[y.cps[i]]⟩])) { s with heap := h'', toks := t } :=
      I.turnedNew (t' := t) (ch := [z, TI, TO, i1, i2]) (fun c o hb q => (sb.2 c (fun q' => hb (by simp [q']))).trans (hk c o (fun q' => hb (by simp [q'])) (fun q' => hb (by simp [q'])) (fun q' => hb (by simp [q'])) (fun q' => hb (by simp [q'])) q)) hf (Nat.le_refl _) new
    refine ⟨.ref s.heap.objs.size, _, I1, rfl, ⟨_, _, _, rfl, I.hok.fresh (Nat.le_refl _), rfl, hx, hy⟩, ⟨z'', ?_, ⟨_, _, (sb.2 _ D.TOz).trans TO'⟩, ?_, ?_⟩, fun c hcm => ?_⟩
    · exact (sb.2 _ D.TIz).trans (hk _ _ D.TIz D.TITO D.TIi1 D.TIi2 hTI)
    · exact let ⟨o, e, r⟩ := h1'; ⟨o, (sb.2 _ D.i1z).trans e, r⟩
    · exact let ⟨o, e, r⟩ := h2'; ⟨o, (sb.2 _ D.i2z).trans e, r⟩
    · have hlt : c < s.heap.objs.size := by
        have e' : c = z ∨ c = TI ∨ c = TO ∨ c = i1 ∨ c = i2 := by simpa using hcm
        rcases e' with q | q | q | q | q <;> rw [q]
        · exact hzl
        · exact Heap.lt_size hTI
        · exact Heap.lt_size hTO
        · obtain ⟨_, e1, _⟩ := h1; exact Heap.lt_size e1
        · obtain ⟨_, e2, _⟩ := h2; exact Heap.lt_size e2
      rw [upd_ne (Nat.ne_of_lt hlt)]
      exact (hf c hcm).1
  done := by
    intro X hP hw hK hc i pins s σ H E I hf st hg
    subst hP hw hK
    obtain ⟨hz, hTI, ⟨x0, y0, hTO⟩, h1, h2⟩ := st
    have he : x.cps[i]? = none ∨ y.cps[i]? = none := hg.elim (fun q => .inl (Array.getElem?_eq_none q)) fun q => .inr (Array.getElem?_eq_none q)
    exact pyNext_zipS_end (I.ok.hd hc) D hz hTI hTO h1 h2 he fun h' t hk => ⟨rfl, I.turnedL (t' := t) (ch := [z, TI, TO, i1, i2]) (fun c o hb q =>
      hk c o (fun q' => hb (by simp [q'])) (fun q' => hb (by simp [q'])) (fun q' => hb (by simp [q'])) (fun q' => hb (by simp [q'])) q) hf⟩
  self := fun A i s Q E st h => wpAny_pyIter_zip st.1 h
def SmallS (x : Str) : Prop := x.cps.all (· < 128) = true
def iZipS (ta : TA) : TI := fun σ H R => ta σ H fun vs H1 => ∃ x y, vs = [.str x, .str y] ∧ SmallS x ∧ SmallS y ∧ R (ItzS x y) H1
theorem pi_zipS {X : Cx} {e e2 : Expr} {ta : TA} {p pos tpos : Pos} {elts : List Expr} {kk : Nat} (hg : Gl X "zip") (hm : X.mg "zip" = none) (ha : PA X [e, e2] ta)
    (hs : starEach [e, e2] X.env = (false, eval e X.env) :: starEach [e2] X.env := by rfl) (hpl : (backTo pos (starEach [e2] X.env)).any (·.1) = false := by rfl) :
    PI X (.Tuple elts kk tpos) (.Call (.Name "zip" p) [e, e2] [] pos) (iZipS ta) := by
  refine ⟨fun pins s σ H R I h => ?_⟩
  refine Call_ (ld_blt I hg hm PyProof.Rows.boot_zip (PyProof.Rows.callWith_type1 (thn (ha.run pos pins s σ H _ I h) fun us s1 ⟨vs, H1, I1, r1, q1⟩ => ?_) hs hpl))
  obtain ⟨x, y, ex, hx, hy, q⟩ := q1
  subst ex
  cases r1 with
  | cons r rr =>
    cases rr with
    | cons r' rr =>
      cases rr
      obtain ⟨t, rfl⟩ := r
      obtain ⟨t', rfl⟩ := r'
      refine call_zipS hx hy fun h' hz hTI hTO h1 h2 hsz hk => wpAny_pyIter_zip hz ?_
      have I2 : Inv X pins σ H1 { s1 with heap := h' } := I1.kept (t' := s1.toks) hk
      refine ⟨s1.heap.objs.size + 4, [s1.heap.objs.size + 4, s1.heap.objs.size + 2, s1.heap.objs.size + 3, s1.heap.objs.size, s1.heap.objs.size + 1], _, _, H1, rfl, I2, turn_zipS (apartS s1.heap.objs.size), ⟨hz, hTI, ⟨_, _, hTO⟩, h1, h2⟩, fun c hcm => ?_, q⟩
      have e' : c = s1.heap.objs.size + 4 ∨ c = s1.heap.objs.size + 2 ∨ c = s1.heap.objs.size + 3 ∨ c = s1.heap.objs.size ∨ c = s1.heap.objs.size + 1 := by simpa using hcm
      have hle : s1.heap.objs.size ≤ c := by
        rcases e' with q | q | q | q | q <;> rw [q] <;> first | exact Nat.le_add_right _ _ | exact Nat.le_refl _
      exact I1.fpOk hle (I1.hok.fresh hle)
theorem walk_zipS {x y : Str} : L2.Walk (ItzS x y) (min x.length y.length) (fun _ => True) (fun i H v H' => ∃ T c d, v = .ref T ∧ H T = none ∧ H' = upd H T (.tup [.str ⟨#[c]⟩, .str ⟨#[d]⟩]) ∧ x.cps.toList[i]? = some c ∧ y.cps.toList[i]? = some d) := by
  refine ⟨fun i _ hi _ => ?_, fun _ _ => ?_, fun i H v H' hi _ y => ?_⟩
  · show i < x.length ∧ i < y.length
    omega
  · show x.length ≤ _ ∨ y.length ≤ _
    omega
  · obtain ⟨T, c, d, e1, e2, e3, e4, e5⟩ := y
    exact ⟨T, c, d, e1, e2, e3, by simpa using e4, by simpa using e5⟩
open PySem PySem.Spec PyProof.Rows
open L2 hiding pass0
open L2 (cxOf)
def top (i : Nat) : Stmt := PySem.Challenge.pw_coverways_k12_stretches.main.body.getD i (.Pass ⟨0, 0, 0, 0⟩)
abbrev s_law_pot : Stmt := top 28
theorem sc_law_pot : FnScope ["_law_script", "_law_k", "_law_cell"] ["_law_script", "_law_k"] (defScope s_law_pot) := ⟨rfl, rfl, rfl, by decide +kernel, rfl, by decide +kernel, by decide +kernel⟩
theorem bp_law_pot : BndP "_law_pot" s_law_pot ["_law_script", "_law_k"] := fun _ _ _ _ _ _ us h => match us, h with | [_, _], _ => rfl
abbrev s_law_draw : Stmt := top 29
theorem sc_law_draw : FnScope ["_law_pot_here", "_law_many", "_law_digit"] ["_law_pot_here", "_law_many"] (defScope s_law_draw) := ⟨rfl, rfl, rfl, by decide +kernel, rfl, by decide +kernel, by decide +kernel⟩
theorem bp_law_draw : BndP "_law_draw" s_law_draw ["_law_pot_here", "_law_many"] := fun _ _ _ _ _ _ us h => match us, h with | [_, _], _ => rfl
abbrev s_law_among : Stmt := top 30
theorem sc_law_among : FnScope ["_law_pot_here", "_law_some"] ["_law_pot_here", "_law_some"] (defScope s_law_among) := ⟨rfl, rfl, rfl, by decide +kernel, rfl, by decide +kernel, by decide +kernel⟩
theorem bp_law_among : BndP "_law_among" s_law_among ["_law_pot_here", "_law_some"] := fun _ _ _ _ _ _ us h => match us, h with | [_, _], _ => rfl
abbrev s_law_bits : Stmt := top 31
theorem sc_law_bits : FnScope ["_law_pot_here", "_law_least", "_law_most", "_law_turn"] ["_law_pot_here", "_law_least", "_law_most"] (defScope s_law_bits) := ⟨rfl, rfl, rfl, by decide +kernel, rfl, by decide +kernel, by decide +kernel⟩
theorem bp_law_bits : BndP "_law_bits" s_law_bits ["_law_pot_here", "_law_least", "_law_most"] := fun _ _ _ _ _ _ us h => match us, h with | [_, _, _], _ => rfl
/-- what the top leaves of the built-in names -/
structure Txt (K : PySem.W.Frag) (mg : Str → Option Value) : Prop where
  b_len : mg "len" = none
  b_abs : mg "abs" = none
  b_max : mg "max" = none
  b_min : mg "min" = none
  b_int : mg "int" = none
  b_divmod : mg "divmod" = none
  b_range : mg "range" = none
  b_repr : mg "repr" = none
  b_all : mg "all" = none
  b_str : mg "str" = none
  b_bool : mg "bool" = none
  b_isinstance : mg "isinstance" = none
  b_tuple : mg "tuple" = none
  b_dict : mg "dict" = none
  b_list : mg "list" = none
  b_sorted : mg "sorted" = none
  b_zip : mg "zip" = none
  b_enumerate : mg "enumerate" = none
  b_sum : mg "sum" = none
  b_super : mg "super" = none
/-! ### draws -/
def PotAt (H : Hp) (p : Addr) : Prop := ∃ a b : Int, H p = some (.lst [.int a, .int b]) ∧ 0 ≤ a ∧ 0 ≤ b ∧ b < 2147483648
/-- all that stood stands, but for the pot at p -/
structure Go (p : Addr) (H H' : Hp) : Prop where
  pot : PotAt H' p
  keep : ∀ a o, H a = some o → a ≠ p → H' a = some o
theorem Go.trans {p : Addr} {H H1 H2 : Hp} (a : Go p H H1) (b : Go p H1 H2) : Go p H H2 := ⟨b.pot, fun c o h n => b.keep c o (a.keep c o h n) n⟩
theorem Go.refl {p : Addr} {H : Hp} (h : PotAt H p) : Go p H H := ⟨h, fun _ _ e _ => e⟩
theorem Go.new {p q : Addr} {H H1 : Hp} {o : HO} (g : Go p H H1) (h : H1 q = none) : Go p H (upd H1 q o) := by
  obtain ⟨a, b, e, r⟩ := g.pot
  refine ⟨⟨a, b, by rw [upd_ne (ne_of_none e h)]; exact e, r⟩, fun c u hc n => ?_⟩
  have := g.keep c u hc n
  rw [upd_ne (ne_of_none this h)]
  exact this
theorem Go.lst {K : PySem.W.Frag} {p a : Addr} {H H' : Hp} {xs : List V} (g : Go p H H') (n : a ≠ p) (h : SqL K H a xs) : SqL K H' a xs := by
  rcases h with (h | ⟨o, h⟩) | h
  · exact .inl (.inl (g.keep _ _ h n))
  · exact .inl (.inr ⟨o, g.keep _ _ h n⟩)
  · exact .inr h
theorem Go.fresh {p q : Addr} {H H' : Hp} (g : Go p H H') (hp : PotAt H p) (h : H' q = none) : H q = none := by
  cases e : H q with
  | none => rfl
  | some o =>
    by_cases n : q = p
    · subst n
      obtain ⟨a, b, e2, _⟩ := g.pot
      rw [h] at e2
      cases e2
    · have := g.keep q o e n
      rw [h] at this
      cases this
theorem szl {n : Nat} (h : n ≤ 1000000) : n ≤ sizeLine := Nat.le_trans h (by decide)
theorem szt {n : Nat} (h : n < 1000000) : n < sizeLine := Nat.lt_of_lt_of_le h (by decide)
theorem nonn {H : Hp} {a b : Addr} {o : HO} (h' : H b = none) (h : H a = some o) : a ≠ b := ne_of_none h h'
theorem Go.kp {p a : Addr} {H H' : Hp} {o : HO} (g : Go p H H') (h : H a = some o) (n : a ≠ p) : H' a = some o := g.keep a o h n
theorem updn {H : Hp} {a b : Addr} {o u : HO} (n : b ≠ a) (h : H b = some u) : upd H a o b = some u := (upd_ne n).trans h
local macro_rules | `(tactic| walk_at "hp") => `(tactic| first | assumption | exact upd_same | exact updn (by walk_at "ne") (by walk_at "hp") | exact Go.kp (by assumption) (by walk_at "hp") (by walk_at "ne"))
local macro_rules | `(tactic| walk_at "ne") => `(tactic| first | assumption | exact Ne.symm (by assumption) | exact nonn (by assumption) (by walk_at "hp") | exact Ne.symm (nonn (by assumption) (by walk_at "hp")))
local macro_rules | `(tactic| walk_at "sq") => `(tactic| first | assumption | exact SqL.of (by walk_at "hp") | exact SqT.of (by walk_at "hp") | exact Go.lst (by assumption) (by walk_at "ne") (by walk_at "sq"))
local macro_rules | `(tactic| walk_at "sz") => `(tactic| first | assumption | exact szl (Nat.le_of_ble_eq_true rfl) | (apply szl; first | omega | (simp; omega)) | (apply szt; first | omega | (simp; omega)))
local macro_rules | `(tactic| walk_at "len") => `(tactic| first | exact Or.inl ⟨_, (by walk_at "sq"), rfl⟩ | exact ⟨(by walk_at "sz"), rfl⟩ | exact Or.inr ⟨_, (by walk_at "sq"), rfl⟩)
local macro_rules | `(tactic| walk_at "ar") => `(tactic| first | assumption | omega | decide | exact upd_same | rfl | walk_at "sz" | (simp only [CDiv, CMul, CPow]; first | omega | decide) | (refine ⟨?_, ?_⟩ <;> first | omega | decide))
local macro_rules | `(tactic| walk_at "at") => `(tactic| first | rfl | assumption | decide)
/-! one step of a reading -/
local macro_rules | `(tactic| walk_at "s1") => `(tactic| first
  | (refine ⟨_, rfl, ?_⟩)
  | (refine ⟨_, _, rfl, rfl, ?_⟩)
  | (refine Or.inl ⟨_, _, _, _, rfl, rfl, by walk_at "sq", by walk_at "at", ?_⟩)
  | (refine Or.inr (Or.inl ⟨_, _, _, _, rfl, rfl, by walk_at "sq", by walk_at "at", ?_⟩))
  | (refine Or.inl ⟨_, rfl, ?_⟩)
  | (refine And.intro (by walk_at "ar") ?_)
  | (refine ⟨_, _, rfl, ?_⟩)
  | (refine ⟨_, _, rfl, (by walk_at "sq"), rfl, ?_⟩)
  | (refine ⟨_, _, rfl, (by walk_at "len"), ?_⟩)
  | (refine ⟨_, _, _, _, rfl, rfl, (by walk_at "hp"), rfl, ?_⟩)
  | (refine fun q (hq : _ = none) => ?_)
  | (intro _; intros))
local macro_rules | `(tactic| walk_at "go") => `(tactic| first | assumption | exact Go.refl (by assumption) | exact Go.new (by walk_at "go") (by assumption) | exact Go.trans (by walk_at "go") (by assumption))
local macro_rules | `(tactic| walk_at "pot") => `(tactic| first | assumption | exact Go.pot (by assumption) | exact Go.pot (by walk_at "go"))
theorem atI_ok {α : Type} {xs : List α} {d : Int} (h0 : 0 ≤ d) (h1 : d < (xs.length : Int)) : ∃ v, v ∈ xs ∧ atI xs d = some v := by
  obtain ⟨j, rfl⟩ := Int.eq_ofNat_of_zero_le h0
  have hj : j < xs.length := by omega
  exact ⟨xs[j], List.getElem_mem hj, atI_nat (by simp [hj])⟩
theorem potb (x M : Int) (h0 : 0 < M) (h1 : M < 2147483648) : 0 ≤ x % M + 1 ∧ x % M + 1 < 2147483648 := by
  have := Int.emod_nonneg x (show M ≠ 0 by omega)
  have := Int.emod_lt_of_pos x h0
  omega
theorem emodb (x M : Int) (h0 : 0 < M) (h1 : M ≤ 2147483648) : x % M < 2147483648 := by
  have := Int.emod_lt_of_pos x h0
  omega
theorem max0 {x : Int} : 0 ≤ (if x > 0 then x else 0) := by split <;> omega
theorem Go.mut {p D : Addr} {H H1 : Hp} {o : HO} (g : Go p H H1) (n : H D = none) (np : D ≠ p) : Go p H (upd H1 D o) := by
  obtain ⟨a, b, e, r⟩ := g.pot
  exact ⟨⟨a, b, by rw [upd_ne (Ne.symm np)]; exact e, r⟩, fun c u hc nc => by rw [upd_ne (ne_of_none hc n)]; exact g.keep c u hc nc⟩
theorem PotAt.ne {p q : Addr} {H : Hp} (h : PotAt H p) (n : H q = none) : q ≠ p := by
  obtain ⟨a, b, e, _⟩ := h
  exact (ne_of_none e n).symm
/-- a def that raises nothing -/
theorem nm_of0 {P : Program} {w : World} {K : PySem.W.Frag} {mg : Str → Option Value} {base : Heap} {CX : CXT} {x : Str} {st : Stmt} {f : Addr} {fd : FuncData} {N ps : List Str} {k : Nat} {sp : Sp} (F : Fun K x x st f fd) (hm : mg x = some (.ref f)) (S : FnScope N ps (defScope st)) (len : ∀ vs H Q E, sp vs H Q E → vs.length = ps.length)
    (hb : ∀ (cdv : Value) (A : Around) (outer : List Env) (s : Shared) (H : Hp) (vs : List V) (Q : VK) (E : XK), RoomG k (A.deeper (envOfC x (defScope st) s.heap.objs.size f cdv)) → sp vs H Q E →
      ∃ t, PSs (cxOf CX P w K mg base N x (defScope st) f cdv A outer s H E).nox (defBody st) t ∧ t { nx := fun _ H' => Q .non H', rt := Q } (start N vs) H) : Nm P w K mg base CX (k + 1) x st ps sp :=
  nm_of F hm S len fun cdv A outer s H vs Q E hr h => let ⟨t, h1, h2⟩ := hb cdv A outer s H vs Q E hr h; ⟨t, h1.nox, h2⟩
/-- texts of single signs -/
def sg (c : Nat) : Str := ⟨#[c]⟩
theorem joinL_sg : ∀ zs : List Nat, TL.joinL [] (zs.map fun c => [c]) = zs
  | [] => rfl
  | [c] => rfl
  | c :: d :: r => by
    show [c] ++ [] ++ TL.joinL [] ((d :: r).map fun c => [c]) = c :: d :: r
    rw [joinL_sg (d :: r)]
    rfl
theorem join_sg (zs : List Nat) : Txt.join ("" : Str) (zs.map sg) = SX.S zs := by
  have h := SX.join_S [] (zs.map fun c => [c])
  rw [joinL_sg, List.map_map] at h
  exact h
theorem sum_sg : ∀ zs : List Nat, ((zs.map sg).map (·.length)).sum = zs.length
  | [] => rfl
  | c :: r => by
    rw [List.map_cons, List.map_cons, List.sum_cons, sum_sg r]
    show 1 + r.length = r.length + 1
    omega
theorem Go.put {p : Addr} {H H1 : Hp} {a b : Int} (g : Go p H H1) (ha : 0 ≤ a) (hb : 0 ≤ b) (hb2 : b < 2147483648) : Go p H (upd H1 p (.lst [.int a, .int b])) :=
  ⟨⟨a, b, upd_same, ha, hb, hb2⟩, fun c o e n => by rw [upd_ne n]; exact g.keep c o e n⟩
theorem Go.any {p : Addr} {H : Hp} (q : Addr) (o : HO) (h : PotAt H p) (n : H q = none) : Go p H (upd H q o) := (Go.refl h).new n
@[irreducible] def spPot (K : PySem.W.Frag) : Sp := fun vs H Q _ => ∃ (a : Addr) (ns : List Int) (k : Int), vs = [.ref a, .int k] ∧ SqL K H a (ns.map V.int) ∧ ns.length ≤ 63 ∧ 0 ≤ k ∧ k ≤ 100 ∧
  ∀ p H', H p = none → PotAt H' p → (∀ b o, H b = some o → H' b = some o) → Q (.ref p) H'
@[irreducible] def spDraw : Sp := fun vs H Q _ => ∃ (p : Addr) (n : Int), vs = [.ref p, .int n] ∧ PotAt H p ∧ 0 < n ∧ n < 1073741824 ∧ ∀ (d : Int) H', 0 ≤ d → d < n → Go p H H' → Q (.int d) H'
@[irreducible] def spAmong (K : PySem.W.Frag) : Sp := fun vs H Q _ => ∃ (p : Addr) (x : V), vs = [.ref p, x] ∧ PotAt H p ∧
  ((∃ (a : Addr) (xs : List V), x = .ref a ∧ a ≠ p ∧ SqL K H a xs ∧ 0 < xs.length ∧ xs.length ≤ 1000 ∧ ∀ v ∈ xs, ∀ H', Go p H H' → Q v H') ∨
   (∃ z : Str, x = .str z ∧ 0 < z.length ∧ z.length ≤ 1000 ∧ ∀ c ∈ z.cps.toList, ∀ H', Go p H H' → Q (.str ⟨#[c]⟩) H'))
def Bits (z : Str) : Prop := ∀ c ∈ z.cps.toList, c = 48 ∨ c = 49
@[irreducible] def spBits : Sp := fun vs H Q _ => ∃ (p : Addr) (lo hi : Int), vs = [.ref p, .int lo, .int hi] ∧ PotAt H p ∧ 0 ≤ lo ∧ lo ≤ hi ∧ hi ≤ 1000 ∧
  ∀ (z : Str) H', Bits z → lo ≤ (z.length : Int) → (z.length : Int) ≤ hi → Go p H H' → Q (.str z) H'
section
variable {K : PySem.W.Frag} {p a : Addr} {n lo hi k : Int} {H : Hp} {Q : VK} {E : XK} {xs : List V} {z : Str} {ns : List Int}
theorem pot_go (hS : SqL K H a (ns.map V.int)) (hl : ns.length ≤ 63) (h0 : 0 ≤ k) (h1 : k ≤ 100) (q : ∀ p H', H p = none → PotAt H' p → (∀ b o, H b = some o → H' b = some o) → Q (.ref p) H') : spPot K [.ref a, .int k] H Q E := by
  unfold spPot
  exact ⟨a, ns, k, rfl, hS, hl, h0, h1, q⟩
theorem draw_go (hp : PotAt H p) (h0 : 0 < n) (h1 : n < 1073741824) (q : ∀ (d : Int) H', 0 ≤ d → d < n → Go p H H' → Q (.int d) H') : spDraw [.ref p, .int n] H Q E := by
  unfold spDraw
  exact ⟨p, n, rfl, hp, h0, h1, q⟩
theorem among_l (hp : PotAt H p) (na : a ≠ p) (hS : SqL K H a xs) (h0 : 0 < xs.length) (h1 : xs.length ≤ 1000) (q : ∀ v ∈ xs, ∀ H', Go p H H' → Q v H') : spAmong K [.ref p, .ref a] H Q E := by
  unfold spAmong
  exact ⟨p, _, rfl, hp, .inl ⟨a, xs, rfl, na, hS, h0, h1, q⟩⟩
theorem among_s (hp : PotAt H p) (h0 : 0 < z.length) (h1 : z.length ≤ 1000) (q : ∀ c ∈ z.cps.toList, ∀ H', Go p H H' → Q (.str ⟨#[c]⟩) H') : spAmong K [.ref p, .str z] H Q E := by
  unfold spAmong
  exact ⟨p, _, rfl, hp, .inr ⟨z, rfl, h0, h1, q⟩⟩
theorem bits_go (hp : PotAt H p) (h0 : 0 ≤ lo) (h1 : lo ≤ hi) (h2 : hi ≤ 1000) (q : ∀ (z : Str) H', Bits z → lo ≤ (z.length : Int) → (z.length : Int) ≤ hi → Go p H H' → Q (.str z) H') : spBits [.ref p, .int lo, .int hi] H Q E := by
  unfold spBits
  exact ⟨p, lo, hi, rfl, hp, h0, h1, h2, q⟩
end
section
variable {P : Program} {w : World} {K : PySem.W.Frag} {mg : Str → Option Value} {base : Heap} {f : Addr} {fd : FuncData}
theorem ok_draw (F : Fun K "_law_draw" "_law_draw" s_law_draw f fd) (hm : mg "_law_draw" = some (.ref f)) (T : Txt K mg) : Nm P w K mg base CX0 1 "_law_draw" s_law_draw ["_law_pot_here", "_law_many"] spDraw := by
  refine nm_of F hm sc_law_draw (fun vs H Q E h => ?_) fun cdv A outer s H vs Q E hr h => ?_
  · unfold spDraw at h
    obtain ⟨p, n, rfl, _⟩ := h
    rfl
  · unfold spDraw at h
    obtain ⟨p, n, rfl, ⟨a, b, hp, ha, hb, hb2⟩, hn, hn2, k⟩ := h
    refine ⟨_, (pss_cons (ps_if (pt_cmpR op_gt (pe_ix (ix_seqK (K := K) rfl) (pv 0) pe_int (fun _ _ => rfl)) pe_int (nomark _)) (pss_cons (ps_asg (pe_callB call_divmod (by rfl) T.b_divmod (by decide +kernel) (pa_cons (pe_ix (ix_seqK (K := K) rfl) (pv 0) pe_int (fun _ _ => rfl)) (pa_cons (pv 1) pa_nil))) (pg_tup (by rfl) (pgs_cons (pg_sub (pv 0) pe_int set_list) (pgs_cons (pg_name (i := 2) sc_law_draw.nd rfl (by first | exact Or.inl rfl | exact Or.inr rfl)) pgs_nil))))
      (pss_one (ps_ret (pv 2)))) pss_nil)
      (pss_cons (ps_asg (pe_op op_mod (pe_callTy call_int1 (by rfl) T.b_int (by decide +kernel) (pa_cons (pe_op op_add (pe_op op_mul (pe_ix (ix_seqK (K := K) rfl) (pv 0) pe_int (fun _ _ => rfl)) pe_int) pe_int) pa_nil)) pe_int) (pg_sub (pv 0) pe_int set_list))
      (pss_one (ps_ret (pe_op op_mod (pe_callTy call_int1 (by rfl) T.b_int (by decide +kernel) (pa_cons (pe_op op_fdiv (pe_op op_mod (pe_callTy call_int1 (by rfl) T.b_int (by decide +kernel) (pa_cons (pe_op op_mul (pe_ix (ix_seqK (K := K) rfl) (pv 0) pe_int (fun _ _ => rfl)) (pe_ix (ix_seqK (K := K) rfl) (pv 0) pe_int (fun _ _ => rfl))) pa_nil)) pe_int) pe_int) pa_nil)) (pv 1)))))), ?_⟩
    have g0 : PotAt H p := ⟨a, b, hp, ha, hb, hb2⟩
    repeat walk_at "s1"
    refine ite2 (fun c => ?_) fun c => ?_
    · have c' : 0 < a := of_decide_eq_true c
      repeat walk_at "s1"
      rename_i q hq
      exact k _ _ (Int.emod_nonneg _ (by omega)) (Int.emod_lt_of_pos _ hn) (((Go.refl g0).new hq).put (Int.ediv_nonneg ha (by omega)) hb hb2)
    · repeat walk_at "s1"
      exact k _ _ (Int.emod_nonneg _ (by omega)) (Int.emod_lt_of_pos _ hn) ((Go.refl g0).put ha (Int.emod_nonneg _ (by decide)) (emodb _ _ (by decide) (by decide)))
theorem ok_pot (F : Fun K "_law_pot" "_law_pot" s_law_pot f fd) (hm : mg "_law_pot" = some (.ref f)) (T : Txt K mg) : Nm P w K mg base CX0 1 "_law_pot" s_law_pot ["_law_script", "_law_k"] (spPot K) := by
  refine nm_of F hm sc_law_pot (fun vs H Q E h => ?_) fun cdv A outer s H vs Q E hr h => ?_
  · unfold spPot at h
    obtain ⟨a, ns, k, rfl, _⟩ := h
    rfl
  · unfold spPot at h
    obtain ⟨a, ns, k, rfl, hS, hl, hk, hk2, kk⟩ := h
    refine ⟨_, (pss_cons (ps_set (i := 2) sc_law_pot.nd rfl (by first | exact Or.inl rfl | exact Or.inr rfl) (pe_op op_add (pe_op op_mul pe_int (pv 1)) pe_int))
      (pss_cons (ps_if (pt_cmpR op_lt (pv 1) (pe_callB (call_lenK (K := K) rfl) (by rfl) T.b_len PySem.boot_len (pa_cons (pv 0) pa_nil)) (nomark _)) (pss_one (ps_set (i := 2) sc_law_pot.nd rfl (by first | exact Or.inl rfl | exact Or.inr rfl) (pe_callB call_abs (by rfl) T.b_abs (by decide +kernel) (pa_cons (pe_ix (ix_seqK (K := K) rfl) (pv 0) (pv 1) (fun _ _ => rfl)) pa_nil)))) pss_nil)
      (pss_one (ps_ret (pe_lst (pa_cons (pe_callB (call_max2 rfl) (by rfl) T.b_max (by decide +kernel) (pa_cons pe_int (pa_cons (pe_op op_sub (pv 2) (pe_op op_pow pe_int pe_int)) pa_nil))) (pa_cons (pe_op op_add (pe_op op_mod (pe_callTy call_int1 (by rfl) T.b_int (by decide +kernel) (pa_cons (pe_op op_add (pe_op op_add (pe_op op_mul (pe_op op_mod (pe_callTy call_int1 (by rfl) T.b_int (by decide +kernel) (pa_cons (pv 2) pa_nil)) pe_int) pe_int) (pe_op op_mul pe_int (pv 1))) pe_int) pa_nil)) pe_int) pe_int) pa_nil))))))), ?_⟩
    repeat walk_at "s1"
    refine ite2 (fun c => ?_) fun c => ?_
    · have c' : k < (ns.length : Int) := by have := of_decide_eq_true c; rw [List.length_map] at this; exact this
      have hat : atI (ns.map V.int) k = some (.int (ns.getD k.toNat 0)) := by
        obtain ⟨j, rfl⟩ := Int.eq_ofNat_of_zero_le hk
        have hj : j < ns.length := by omega
        refine atI_nat ?_
        simp [List.getElem?_map, hj, List.getD]
      iterate 30 (try walk_at "s1")
      refine kk _ _ (by assumption) ⟨_, _, upd_same, ?_, ?_, ?_⟩ fun b o e => updn (nonn (by assumption) e) e
      · exact max0
      · exact (potb _ _ (by decide) (by decide)).1
      · exact (potb _ _ (by decide) (by decide)).2
    · iterate 30 (try walk_at "s1")
      refine kk _ _ (by assumption) ⟨_, _, upd_same, ?_, ?_, ?_⟩ fun b o e => updn (nonn (by assumption) e) e
      · exact max0
      · exact (potb _ _ (by decide) (by decide)).1
      · exact (potb _ _ (by decide) (by decide)).2
theorem ok_among (F : Fun K "_law_among" "_law_among" s_law_among f fd) (hm : mg "_law_among" = some (.ref f)) (T : Txt K mg) (c_law_draw : Nm P w K mg base CX0 1 "_law_draw" s_law_draw ["_law_pot_here", "_law_many"] spDraw) :
    Nm P w K mg base CX0 2 "_law_among" s_law_among ["_law_pot_here", "_law_some"] (spAmong K) := by
  refine nm_of F hm sc_law_among (fun vs H Q E h => ?_) fun cdv A outer s H vs Q E hr h => ?_
  · unfold spAmong at h
    obtain ⟨p, x, rfl, _⟩ := h
    rfl
  · unfold spAmong at h
    obtain ⟨p, x, rfl, hp, h⟩ := h
    refine ⟨_, (pss_one (ps_ret (pe_ix (ix_seqK (K := K) rfl) (pv 1) (pe_g c_law_draw hr (by decide) L2.pass0 bp_law_draw (by rfl) (pa_cons (pv 0) (pa_cons (pe_callB (call_lenK (K := K) rfl) (by rfl) T.b_len PySem.boot_len (pa_cons (pv 1) pa_nil)) pa_nil))) (fun _ _ => rfl)))), ?_⟩
    rcases h with ⟨a, xs, rfl, na, hS, l0, l1, k⟩ | ⟨z, rfl, l0, l1, k⟩
    · iterate 4 walk_at "s1"
      refine draw_go hp (by omega) (by omega) fun d H' h0 h1 g => ?_
      obtain ⟨v, hv, hat⟩ := atI_ok (xs := xs) h0 h1
      exact Or.inl ⟨_, _, _, _, rfl, rfl, g.lst na hS, hat, k v hv H' g⟩
    · iterate 4 walk_at "s1"
      refine draw_go hp (by omega) (by omega) fun d H' h0 h1 g => ?_
      obtain ⟨c, hc, hat⟩ := atI_ok (xs := z.cps.toList) h0 (by rw [Array.length_toList]; exact h1)
      exact Or.inr (Or.inr ⟨_, _, c, rfl, rfl, szl (by omega), hat, k c hc H' g⟩)
theorem ok_bits (F : Fun K "_law_bits" "_law_bits" s_law_bits f fd) (hm : mg "_law_bits" = some (.ref f)) (T : Txt K mg) (c_law_draw : Nm P w K mg base CX0 1 "_law_draw" s_law_draw ["_law_pot_here", "_law_many"] spDraw)
    (c_law_among : Nm P w K mg base CX0 2 "_law_among" s_law_among ["_law_pot_here", "_law_some"] (spAmong K)) :
    Nm P w K mg base CX0 3 "_law_bits" s_law_bits ["_law_pot_here", "_law_least", "_law_most"] spBits := by
  refine nm_of F hm sc_law_bits (fun vs H Q E h => ?_) fun cdv A outer s H vs Q E hr h => ?_
  · unfold spBits at h
    obtain ⟨p, lo, hi, rfl, _⟩ := h
    rfl
  · unfold spBits at h
    obtain ⟨p, lo, hi, rfl, hp, h0, h1, h2, k⟩ := h
    refine ⟨_, (pss_one (ps_ret (pe_join pe_str (pe_lc (own := [("_law_turn", 3)]) (g := (gName 3)) (by rfl) sc_law_bits.nd (pi_range1 (by rfl) T.b_range (pa_cons (pe_op op_add (pv 1) (pe_g c_law_draw hr (by decide) L2.pass0 bp_law_draw (by rfl) (pa_cons (pv 0) (pa_cons (pe_op op_add (pe_op op_sub (pv 2) (pv 1)) pe_int) pa_nil)))) pa_nil)) (blkOk_by (own := [("_law_turn", 3)]) (N := ["_law_pot_here", "_law_least", "_law_most", "_law_turn"]) (sc := defScope s_law_bits) (by decide +kernel)) (fun _ _ _ _ _ => (pg_name (i := 3) sc_law_bits.nd rfl (by first | exact Or.inl rfl | exact Or.inr rfl))) (fun _ _ _ _ _ => pts_nil) (fun _ _ _ _ _ => (pe_g c_law_among hr (by decide) L2.pass0 bp_law_among (by rfl) (pa_cons (pv 0) (pa_cons pe_str pa_nil)))))))), ?_⟩
    refine ⟨⟨_, rfl⟩, ?_⟩
    iterate 6 (try walk_at "s1")
    refine draw_go hp (by omega) (by omega) fun d H1 d0 d1 g => ?_
    have d1' : d < hi - lo + 1 := d1
    iterate 2 (try walk_at "s1")
    refine ⟨by show -(2 ^ 62) ≤ lo + d; omega, by show lo + d < 2 ^ 62; omega, fun D nD => ?_⟩
    have nDp : D ≠ p := g.pot.ne nD
    refine lc_it walk_range (fun i H => ∃ zs : List Nat, H D = some (.lst ((zs.map sg).map V.str)) ∧ zs.length = i ∧ (∀ c ∈ zs, c = 48 ∨ c = 49) ∧ Go p H1 H) ⟨[], upd_same, rfl, (fun c hc => by cases hc), (Go.refl g.pot).new nD⟩ (fun _ _ _ _ => trivial) ?_ ?_
    · rintro i x H2 H3 hi ⟨zs, hD, hl, hz, g2⟩ ⟨rfl, rfl⟩
      refine ⟨rfl, ?_⟩
      dsimp only [tYes]
      rw [if_pos rfl]
      walk_at "s1"
      refine among_s g2.pot (by decide) (by decide) fun c hc H4 g3 => ?_
      refine ⟨_, g3.kp hD nDp, szt (by rw [List.length_map, List.length_map, hl]; have := d1'; omega), zs ++ [c], ?_, ?_, ?_, (g2.trans g3).mut nD nDp⟩
      · rw [upd_same, List.map_append, List.map_append]; rfl
      · rw [List.length_append, hl]; rfl
      · intro e he
        rcases List.mem_append.mp he with he | he
        · exact hz e he
        · rw [List.mem_singleton] at he
          subst he
          have : e ∈ [48, 49] := hc
          simpa using this
    · rintro H2 ⟨zs, hD, hl, hz, g2⟩
      have hn : ((lo + d - 0).toNat : Int) = lo + d := by omega
      refine ⟨_, _, zs.map sg, rfl, rfl, Or.inl (SqL.of hD), ?_, ?_⟩
      · rw [sum_sg, List.length_map]
        show zs.length + zs.length * 0 ≤ _
        omega
      · show Q (.str (Txt.join "" (zs.map sg))) H2
        rw [join_sg]
        refine k _ _ hz ?_ ?_ (g.trans g2)
        · rw [SX.S_len]; omega
        · rw [SX.S_len]; omega
end
namespace M
/-! ## texts of 0 and 1 as numbers -/
def BL (l : List Nat) : Prop := ∀ c ∈ l, c = 48 ∨ c = 49
def bn : List Nat → Nat
  | [] => 0
  | c :: r => (c - 48) * 2 ^ r.length + bn r
theorem BL.tl {c : Nat} {l : List Nat} (h : BL (c :: l)) : BL l := fun d hd => h d (List.mem_cons_of_mem _ hd)
theorem BL.hd {c : Nat} {l : List Nat} (h : BL (c :: l)) : c = 48 ∨ c = 49 := h c (List.mem_cons_self ..)
theorem BL.app {x y : List Nat} (h : BL x) (k : BL y) : BL (x ++ y) := fun d hd => (List.mem_append.mp hd).elim (h d) (k d)
theorem BL.l {x y : List Nat} (h : BL (x ++ y)) : BL x := fun d hd => h d (List.mem_append_left _ hd)
theorem BL.r {x y : List Nat} (h : BL (x ++ y)) : BL y := fun d hd => h d (List.mem_append_right _ hd)
theorem BL.rep (n : Nat) : BL (List.replicate n 48) := fun d hd => .inl (List.eq_of_mem_replicate hd)
theorem bn_app : ∀ x y : List Nat, bn (x ++ y) = bn x * 2 ^ y.length + bn y
  | [], y => by simp [bn]
  | c :: x, y => by
    show (c - 48) * 2 ^ (x ++ y).length + bn (x ++ y) = ((c - 48) * 2 ^ x.length + bn x) * 2 ^ y.length + bn y
    rw [bn_app x y, List.length_append, Nat.pow_add, Nat.add_mul, Nat.mul_assoc, Nat.add_assoc]
theorem bn_rep : ∀ n : Nat, bn (List.replicate n 48) = 0
  | 0 => rfl
  | n + 1 => by
    show (48 - 48) * _ + bn (List.replicate n 48) = 0
    rw [bn_rep n]; simp
theorem bn_lt : ∀ {l : List Nat}, BL l → bn l < 2 ^ l.length
  | [], _ => by simp [bn]
  | c :: l, h => by
    have ih := bn_lt h.tl
    show (c - 48) * 2 ^ l.length + bn l < 2 ^ (l.length + 1)
    rw [Nat.pow_succ]
    rcases h.hd with rfl | rfl <;> simp <;> omega
theorem bn_inj : ∀ {x y : List Nat}, BL x → BL y → x.length = y.length → bn x = bn y → x = y
  | [], [], _, _, _, _ => rfl
  | [], _ :: _, _, _, h, _ => by simp at h
  | _ :: _, [], _, _, h, _ => by simp at h
  | c :: x, d :: y, hx, hy, hl, h => by
    have hl' : x.length = y.length := by simpa using hl
    have h' : (c - 48) * 2 ^ x.length + bn x = (d - 48) * 2 ^ y.length + bn y := h
    have l1 := bn_lt hx.tl
    have l2 := bn_lt hy.tl
    rw [hl'] at h' l1
    rcases hx.hd with rfl | rfl <;> rcases hy.hd with rfl | rfl
    · rw [bn_inj hx.tl hy.tl hl' (by simpa using h')]
    · simp at h'; omega
    · simp at h'; omega
    · rw [bn_inj hx.tl hy.tl hl' (by simpa using h')]
theorem bn_foldl : ∀ (l : List Nat) (a : Nat), l.foldl (fun a c => a * 2 + (c - 48)) a = a * 2 ^ l.length + bn l
  | [], a => by simp [bn]
  | c :: l, a => by
    rw [List.foldl_cons, bn_foldl l]
    show (a * 2 + (c - 48)) * 2 ^ l.length + bn l = a * 2 ^ (l.length + 1) + ((c - 48) * 2 ^ l.length + bn l)
    rw [Nat.pow_succ, Nat.add_mul, Nat.mul_assoc, Nat.mul_comm 2 (2 ^ l.length)]
    omega
/-! ## stretches as intervals -/
def size (w : Nat) (t : List Nat) : Nat := 2 ^ (w - t.length)
def lo (w : Nat) (t : List Nat) : Nat := bn t * size w t
def hi (w : Nat) (t : List Nat) : Nat := lo w t + size w t
theorem size_pos (w : Nat) (t : List Nat) : 0 < size w t := Nat.two_pow_pos _
theorem lo_first (w : Nat) (t : List Nat) : bn (t ++ List.replicate (w - t.length) 48) = lo w t := by
  rw [bn_app, bn_rep, List.length_replicate]; rfl
theorem hi_le {w : Nat} {t : List Nat} (h : BL t) (hl : t.length ≤ w) : hi w t ≤ 2 ^ w := by
  have l := bn_lt h
  have e : 2 ^ w = 2 ^ t.length * size w t := by unfold size; rw [← Nat.pow_add]; congr 1; omega
  unfold hi lo
  have : (bn t + 1) * size w t ≤ 2 ^ t.length * size w t := Nat.mul_le_mul_right _ l
  rw [Nat.add_mul, Nat.one_mul] at this
  omega
theorem pre_iff {w : Nat} {t a : List Nat} (ht : BL t) (ha : BL a) (hl : t.length ≤ w) (hw : a.length = w) : t <+: a ↔ lo w t ≤ bn a ∧ bn a < hi w t := by
  have e : a = a.take t.length ++ a.drop t.length := (List.take_append_drop ..).symm
  have h1 : BL (a.take t.length) := fun c hc => ha c (List.mem_of_mem_take hc)
  have h2 : BL (a.drop t.length) := fun c hc => ha c (List.mem_of_mem_drop hc)
  have l1 : (a.take t.length).length = t.length := by rw [List.length_take]; omega
  have l2 : (a.drop t.length).length = w - t.length := by rw [List.length_drop]; omega
  have b2 := bn_lt h2
  have eb : bn a = bn (a.take t.length) * size w t + bn (a.drop t.length) := by
    have := bn_app (a.take t.length) (a.drop t.length)
    rw [← e, l2] at this
    exact this
  have b2' : bn (a.drop t.length) < size w t := by rw [l2] at b2; exact b2
  rw [List.prefix_iff_eq_take]
  unfold hi lo
  rw [eb]
  have sp := size_pos w t
  constructor
  · intro q
    rw [← q]
    omega
  · rintro ⟨q1, q2⟩
    refine bn_inj ht h1 l1.symm ?_
    have : bn t * size w t < (bn (a.take t.length) + 1) * size w t := by rw [Nat.add_mul, Nat.one_mul]; omega
    have i1 := Nat.lt_of_mul_lt_mul_right this
    have : bn (a.take t.length) * size w t < (bn t + 1) * size w t := by rw [Nat.add_mul, Nat.one_mul]; omega
    have i2 := Nat.lt_of_mul_lt_mul_right this
    omega
theorem lo_cons {w c : Nat} {t : List Nat} : lo (w + 1) (c :: t) = if t.length ≤ w then (c - 48) * 2 ^ w + lo w t else (c - 48) * 2 ^ t.length + bn t := by
  unfold lo size
  show ((c - 48) * 2 ^ t.length + bn t) * 2 ^ (w + 1 - (t.length + 1)) = _
  rw [Nat.add_sub_add_right]
  split
  · rename_i h
    rw [Nat.add_mul, Nat.mul_assoc, ← Nat.pow_add]
    congr 3
    omega
  · rename_i h
    rw [show w - t.length = 0 by omega]
    simp
theorem lex_hi : ∀ {w : Nat} {x y : List Nat}, BL x → BL y → x.length ≤ w → y.length ≤ w → x < y → ¬ x <+: y → hi w x ≤ lo w y
  | w, [], y, _, _, _, _, _, np => absurd (List.nil_prefix) np
  | w, c :: x, [], _, _, _, _, h, _ => by cases h
  | 0, _ :: _, _ :: _, _, _, h, _, _, _ => by simp at h
  | w + 1, c :: x, d :: y, hx, hy, lx, ly, h, np => by
    have lx' : x.length ≤ w := by simpa using lx
    have ly' : y.length ≤ w := by simpa using ly
    have sz : ∀ (e : Nat) (z : List Nat), size (w + 1) (e :: z) = size w z := fun e z => by unfold size; rw [List.length_cons, Nat.add_sub_add_right]
    unfold hi
    rw [sz, lo_cons, if_pos lx', lo_cons, if_pos ly']
    have hh : lo w x + size w x ≤ 2 ^ w := hi_le hx.tl lx'
    rcases hx.hd with rfl | rfl <;> rcases hy.hd with rfl | rfl
    · have := lex_hi (w := w) hx.tl hy.tl lx' ly' (by
        rw [List.cons_lt_cons_iff] at h
        rcases h with h | h
        · omega
        · exact h.2) (fun q => np (List.prefix_cons_inj _ |>.mpr q))
      unfold hi at this
      simpa using this
    · simp; omega
    · rw [List.cons_lt_cons_iff] at h
      omega
    · have := lex_hi (w := w) hx.tl hy.tl lx' ly' (by
        rw [List.cons_lt_cons_iff] at h
        rcases h with h | h
        · omega
        · exact h.2) (fun q => np (List.prefix_cons_inj _ |>.mpr q))
      unfold hi at this
      omega
end M
namespace M
/-! ## longest beginnings -/
/-- the longest of the beginnings of a up to k signs that is among ts -/
def lgN (ts : List (List Nat)) (a : List Nat) : Nat → List Nat
  | 0 => []
  | k + 1 => if a.take (k + 1) ∈ ts then a.take (k + 1) else lgN ts a k
def lg (ts : List (List Nat)) (a : List Nat) : List Nat := lgN ts a a.length
/-- p is the longest one of ts with which a begins -/
structure IsLg (ts : List (List Nat)) (a p : List Nat) : Prop where
  mem : p ∈ ts
  pre : p <+: a
  top : ∀ q ∈ ts, q <+: a → q.length ≤ p.length
theorem IsLg.uniq {ts : List (List Nat)} {a p q : List Nat} (h : IsLg ts a p) (k : IsLg ts a q) : p = q := by
  have e : p.length = q.length := Nat.le_antisymm (k.top p h.mem h.pre) (h.top q k.mem k.pre)
  rw [List.prefix_iff_eq_take.mp h.pre, List.prefix_iff_eq_take.mp k.pre, e]
theorem lgN_is {ts : List (List Nat)} {a : List Nat} (h0 : [] ∈ ts) : ∀ k, k ≤ a.length → (∀ q ∈ ts, q <+: a → q.length ≤ k) → IsLg ts a (lgN ts a k)
  | 0, _, h => ⟨h0, List.nil_prefix, h⟩
  | k + 1, hk, h => by
    unfold lgN
    split
    · rename_i hm
      exact ⟨hm, List.take_prefix _ _, fun q hq hp => by rw [List.length_take]; have := h q hq hp; omega⟩
    · rename_i hm
      refine lgN_is h0 k (by omega) fun q hq hp => ?_
      have l := h q hq hp
      by_cases e : q.length = k + 1
      · refine absurd ?_ hm
        rw [← e, ← List.prefix_iff_eq_take.mp hp]
        exact hq
      · omega
theorem lg_is {ts : List (List Nat)} {a : List Nat} (h0 : [] ∈ ts) : IsLg ts a (lg ts a) := lgN_is h0 a.length (Nat.le_refl _) fun q _ hp => hp.length_le
theorem lg_eq {ts : List (List Nat)} {a p : List Nat} (h0 : [] ∈ ts) (h : IsLg ts a p) : lg ts a = p := (lg_is h0).uniq h
theorem lgN_step {ts : List (List Nat)} {a : List Nat} {k : Nat} (hk : k + 1 ≤ a.length) (h : a.take (k + 1) ∉ ts) : lgN ts a (k + 1) = lgN ts a k := by
  rw [lgN, if_neg h]
/-- whose cell a stretch lies in, itself left out -/
def par (ts : List (List Nat)) (t : List Nat) : List Nat := lg ts t.dropLast
/-- the widest stretches inside one -/
def ch (ts : List (List Nat)) (s : List Nat) : List (List Nat) := ts.filter fun t => decide (t ≠ [] ∧ par ts t = s)
theorem mem_ch {ts : List (List Nat)} {s t : List Nat} : t ∈ ch ts s ↔ t ∈ ts ∧ t ≠ [] ∧ par ts t = s := by
  unfold ch
  rw [List.mem_filter, decide_eq_true_eq]
theorem pre_dropLast {q t : List Nat} : q <+: t.dropLast ↔ q <+: t ∧ q.length ≤ t.length - 1 := by
  constructor
  · intro h
    exact ⟨h.trans (List.dropLast_prefix t), by have := h.length_le; rwa [List.length_dropLast] at this⟩
  · rintro ⟨h, l⟩
    rw [List.prefix_iff_eq_take] at h ⊢
    rw [List.dropLast_eq_take, List.take_take, Nat.min_eq_left l]
    exact h
theorem ch_iff {ts : List (List Nat)} {s t : List Nat} (h0 : [] ∈ ts) : t ∈ ch ts s ↔ t ∈ ts ∧ t ≠ [] ∧ s ∈ ts ∧ s <+: t ∧ s.length < t.length ∧ ∀ q ∈ ts, q <+: t → q.length < t.length → q.length ≤ s.length := by
  rw [mem_ch]
  constructor
  · rintro ⟨h1, h2, h3⟩
    have h4 : IsLg ts t.dropLast s := h3 ▸ lg_is h0
    have p := pre_dropLast.mp h4.pre
    have lp : 0 < t.length := List.length_pos_iff.mpr h2
    exact ⟨h1, h2, h4.mem, p.1, by omega, fun q hq hp hl => h4.top q hq (pre_dropLast.mpr ⟨hp, by omega⟩)⟩
  · rintro ⟨h1, h2, h3, h4, h5, h6⟩
    exact ⟨h1, h2, lg_eq h0 ⟨h3, pre_dropLast.mpr ⟨h4, by omega⟩, fun q hq hp => h6 q hq (pre_dropLast.mp hp).1 (by have := (pre_dropLast.mp hp).2; have : 0 < t.length := List.length_pos_iff.mpr h2; omega)⟩⟩
/-- a least one of a list -/
theorem least {α : Type} (f : α → Nat) (P : α → Prop) : ∀ (n : Nat) (x : α), P x → f x ≤ n → ∃ y, P y ∧ ∀ z, P z → f y ≤ f z
  | 0, x, h, l => ⟨x, h, fun z _ => by omega⟩
  | n + 1, x, h, l => by
    by_cases e : ∃ z, P z ∧ f z < f x
    · obtain ⟨z, hz, hl⟩ := e
      exact least f P n z hz (by omega)
    · exact ⟨x, h, fun z hz => by
        by_cases q : f x ≤ f z
        · exact q
        · exact absurd ⟨z, hz, by omega⟩ e⟩
theorem pre_both {p q a : List Nat} (h : p <+: a) (k : q <+: a) (l : p.length ≤ q.length) : p <+: q := List.prefix_of_prefix_length_le h k l
/-- the cell of s: its addresses but for those of the widest ones inside -/
theorem cell_iff {ts : List (List Nat)} {s a : List Nat} (h0 : [] ∈ ts) (hs : s ∈ ts) : lg ts a = s ↔ s <+: a ∧ ∀ c ∈ ch ts s, ¬ c <+: a := by
  constructor
  · intro e
    have h : IsLg ts a s := e ▸ lg_is h0
    refine ⟨h.pre, fun c hc hp => ?_⟩
    have hc' := (ch_iff h0).mp hc
    have := h.top c hc'.1 hp
    omega
  · rintro ⟨hp, hn⟩
    refine lg_eq h0 ⟨hs, hp, fun q hq hqa => ?_⟩
    refine Decidable.byContradiction fun hl => ?_
    obtain ⟨c, ⟨hc1, hc2, hc3⟩, hc4⟩ := least List.length (fun c => c ∈ ts ∧ c <+: a ∧ s.length < c.length) q.length q ⟨hq, hqa, by omega⟩ (Nat.le_refl _)
    refine hn c ((ch_iff h0).mpr ⟨hc1, ?_, hs, pre_both hp hc2 (by omega), hc3, fun r hr hrc hrl => ?_⟩) hc2
    · rintro rfl
      simp at hc3
    · refine Decidable.byContradiction fun hl2 => ?_
      have := hc4 r ⟨hr, hrc.trans hc2, by omega⟩
      omega
/-- two of them have no address in common -/
theorem ch_apart {ts : List (List Nat)} {s c d : List Nat} (h0 : [] ∈ ts) (hc : c ∈ ch ts s) (hd : d ∈ ch ts s) (h : c <+: d) : c = d := by
  have hc' := (ch_iff h0).mp hc
  have hd' := (ch_iff h0).mp hd
  by_cases e : c.length < d.length
  · have := hd'.2.2.2.2.2 c hc'.1 h e
    omega
  · exact h.eq_of_length (by have := h.length_le; omega)
/-! ## counting -/
def inI (w : Nat) (t : List Nat) (v : Nat) : Bool := decide (lo w t ≤ v) && decide (v < hi w t)
theorem cnt_and {α : Type} (p q : α → Bool) : ∀ l : List α, l.countP p = l.countP (fun x => p x && q x) + l.countP (fun x => p x && !q x)
  | [] => rfl
  | x :: l => by
    rw [List.countP_cons, List.countP_cons, List.countP_cons, cnt_and p q l]
    cases p x <;> cases q x <;> simp <;> omega
theorem cnt_sum {α : Type} (l : List α) : ∀ (cs : List (α → Bool)) (p : α → Bool), cs.Pairwise (fun c d => ∀ x, c x = true → d x = false) → (∀ c ∈ cs, ∀ x, c x = true → p x = true) →
    l.countP p = l.countP (fun x => p x && cs.all fun c => !c x) + (cs.map fun c => l.countP c).sum
  | [], p, _, _ => by simp
  | c :: cs, p, h, k => by
    have hc := List.pairwise_cons.mp h
    have ih := cnt_sum l cs (fun x => p x && !c x) hc.2 fun d hd x hx => by
      rw [k d (List.mem_cons_of_mem _ hd) x hx, Bool.true_and]
      cases e : c x with
      | false => rfl
      | true => rw [hc.1 d hd x e] at hx; cases hx
    have e1 : l.countP (fun x => p x && c x) = l.countP c := by
      congr 1
      funext x
      cases e : c x with
      | false => rw [Bool.and_false]
      | true => rw [k c (List.mem_cons_self ..) x e]; rfl
    rw [cnt_and p c l, e1, ih, List.map_cons, List.sum_cons]
    have e2 : (fun x => p x && (c :: cs).all fun c => !c x) = fun x => (p x && !c x) && cs.all fun c => !c x := by
      funext x
      rw [List.all_cons, Bool.and_assoc]
    rw [e2]
    omega
theorem cnt_range : ∀ (n a b : Nat), a ≤ b → b ≤ n → (List.range n).countP (fun v => decide (a ≤ v) && decide (v < b)) = b - a
  | 0, a, b, h1, h2 => by simp; omega
  | n + 1, a, b, h1, h2 => by
    rw [List.range_succ, List.countP_append]
    by_cases e : b ≤ n
    · rw [cnt_range n a b h1 e]
      simp [show ¬ n < b by omega]
    · have eb : b = n + 1 := by omega
      subst eb
      by_cases ea : a ≤ n
      · have ih := cnt_range n a n ea (Nat.le_refl _)
        have e2 : (List.range n).countP (fun v => decide (a ≤ v) && decide (v < n + 1)) = (List.range n).countP (fun v => decide (a ≤ v) && decide (v < n)) := by
          refine List.countP_congr fun v hv => ?_
          have := List.mem_range.mp hv
          simp; omega
        rw [e2, ih]
        simp [ea]
        omega
      · have e2 : (List.range n).countP (fun v => decide (a ≤ v) && decide (v < n + 1)) = 0 := by
          rw [List.countP_eq_zero]
          intro v hv
          have := List.mem_range.mp hv
          simp; omega
        rw [e2]
        simp [ea]
        omega
theorem cnt_inI {w : Nat} {t : List Nat} (h : BL t) (l : t.length ≤ w) : (List.range (2 ^ w)).countP (inI w t) = size w t := by
  show (List.range (2 ^ w)).countP (fun v => decide (lo w t ≤ v) && decide (v < hi w t)) = _
  rw [cnt_range _ _ _ (by unfold hi; omega) (hi_le h l)]
  unfold hi; omega
/-! ## the first place that no part holds -/
def scan (w : Nat) : Nat → List (List Nat) → Nat
  | place, [] => place
  | place, c :: r => if lo w c = place then scan w (place + size w c) r else place
theorem scan_ok (w : Nat) : ∀ (cs : List (List Nat)) (place : Nat), cs.Pairwise (fun c d => hi w c ≤ lo w d) → (∀ c ∈ cs, place ≤ lo w c) →
    place ≤ scan w place cs ∧ (∀ v, place ≤ v → v < scan w place cs → ∃ c ∈ cs, inI w c v = true) ∧ ∀ c ∈ cs, inI w c (scan w place cs) = false
  | [], place, _, _ => ⟨Nat.le_refl _, fun v h1 h2 => by simp [scan] at h2; omega, fun c hc => by cases hc⟩
  | c :: cs, place, h, k => by
    have hc := List.pairwise_cons.mp h
    have sp := size_pos w c
    unfold scan
    split
    · rename_i e
      have ih := scan_ok w cs (place + size w c) hc.2 fun d hd => by
        have := hc.1 d hd
        unfold hi at this
        omega
      refine ⟨by omega, fun v h1 h2 => ?_, fun d hd => ?_⟩
      · by_cases q : v < place + size w c
        · refine ⟨c, List.mem_cons_self .., ?_⟩
          unfold inI hi
          rw [Bool.and_eq_true, decide_eq_true_eq, decide_eq_true_eq]
          omega
        · obtain ⟨d, hd, e2⟩ := ih.2.1 v (by omega) h2
          exact ⟨d, List.mem_cons_of_mem _ hd, e2⟩
      · rcases List.mem_cons.mp hd with rfl | hd
        · unfold inI hi
          rw [Bool.and_eq_false_iff, decide_eq_false_iff_not, decide_eq_false_iff_not]
          omega
        · exact ih.2.2 d hd
    · rename_i e
      have kc := k c (List.mem_cons_self ..)
      refine ⟨Nat.le_refl _, fun v h1 h2 => by omega, fun d hd => ?_⟩
      unfold inI
      rw [Bool.and_eq_false_iff, decide_eq_false_iff_not, decide_eq_false_iff_not]
      rcases List.mem_cons.mp hd with rfl | hd
      · omega
      · have := hc.1 d hd
        unfold hi at this
        omega
end M
namespace M
/-- all addresses -/
def addrs : Nat → List (List Nat)
  | 0 => [[]]
  | n + 1 => (addrs n).flatMap fun r => [r ++ [48], r ++ [49]]
theorem addr_ok : ∀ {w : Nat} {a : List Nat}, a ∈ addrs w → BL a ∧ a.length = w
  | 0, a, h => by
    obtain rfl := List.mem_singleton.mp h
    exact ⟨(fun c hc => by cases hc), rfl⟩
  | w + 1, a, h => by
    obtain ⟨r, hr, h⟩ := List.mem_flatMap.mp h
    have ih := addr_ok hr
    have : a = r ++ [48] ∨ a = r ++ [49] := by simpa using h
    rcases this with rfl | rfl
    · exact ⟨ih.1.app fun c hc => .inl (List.mem_singleton.mp hc), by rw [List.length_append, ih.2]; rfl⟩
    · exact ⟨ih.1.app fun c hc => .inr (List.mem_singleton.mp hc), by rw [List.length_append, ih.2]; rfl⟩
theorem range_two : ∀ n : Nat, (List.range n).flatMap (fun v => [2 * v, 2 * v + 1]) = List.range (2 * n)
  | 0 => rfl
  | n + 1 => by
    rw [List.range_succ, List.flatMap_append, range_two n, show 2 * (n + 1) = 2 * n + 1 + 1 by omega, List.range_succ, List.range_succ, List.append_assoc]
    rfl
theorem addrs_bn : ∀ w : Nat, (addrs w).map bn = List.range (2 ^ w)
  | 0 => rfl
  | w + 1 => by
    show ((addrs w).flatMap fun r => [r ++ [48], r ++ [49]]).map bn = _
    rw [Nat.pow_succ, Nat.mul_comm, ← range_two, ← addrs_bn w, List.map_flatMap, List.flatMap_map]
    congr 1
    funext r
    have e0 : bn (r ++ [48]) = 2 * bn r := by rw [bn_app]; simp [bn]; omega
    have e1 : bn (r ++ [49]) = 2 * bn r + 1 := by rw [bn_app]; simp [bn]; omega
    show [bn (r ++ [48]), bn (r ++ [49])] = _
    rw [e0, e1]
theorem addrs_len (w : Nat) : (addrs w).length = 2 ^ w := by
  have := congrArg List.length (addrs_bn w)
  simpa using this
theorem addrs_lt (w : Nat) : (addrs w).Pairwise fun a b => bn a < bn b := by
  have h : ((addrs w).map bn).Pairwise (· < ·) := by rw [addrs_bn]; exact List.pairwise_lt_range
  rwa [List.pairwise_map] at h
theorem addr_of {w : Nat} {a : List Nat} (h : BL a) (l : a.length = w) : a ∈ addrs w := by
  have hl : bn a < 2 ^ w := l ▸ bn_lt h
  have : bn a ∈ (addrs w).map bn := by rw [addrs_bn]; exact List.mem_range.mpr hl
  obtain ⟨b, hb, e⟩ := List.mem_map.mp this
  have hb' := addr_ok hb
  rw [← bn_inj hb'.1 h (hb'.2.trans l.symm) e]
  exact hb
theorem find_least {w : Nat} {p : List Nat → Bool} {a : List Nat} (ha : a ∈ addrs w) (hp : p a = true) (hl : ∀ b ∈ addrs w, p b = true → bn a ≤ bn b) : (addrs w).find? p = some a := by
  cases e : (addrs w).find? p with
  | none => exact absurd hp (List.find?_eq_none.mp e a ha)
  | some b =>
    obtain ⟨pb, as, bs, e2, e3⟩ := List.find?_eq_some_iff_append.mp e
    have hb : b ∈ addrs w := by rw [e2]; simp
    have l1 := hl b hb pb
    have ha' := ha
    rw [e2] at ha'
    rcases List.mem_append.mp ha' with q | q
    · have := e3 a q
      rw [hp] at this
      cases this
    · rcases List.mem_cons.mp q with rfl | q
      · rfl
      · have s := addrs_lt w
        rw [e2] at s
        have := (List.pairwise_cons.mp (List.pairwise_append.mp s).2.1).1 a q
        omega
/-- the stretches of some cells, in their order -/
structure Known (w : Nat) (ts : List (List Nat)) : Prop where
  all : [] ∈ ts
  bits : ∀ t ∈ ts, BL t
  fit : ∀ t ∈ ts, t.length ≤ w
  ord : ts.Pairwise (· < ·)
def many (w : Nat) (ts : List (List Nat)) (s : List Nat) : Nat := size w s - ((ch ts s).map (size w)).sum
def place (w : Nat) (ts : List (List Nat)) (s : List Nat) : Nat := scan w (lo w s) (ch ts s)
theorem lo_le_of_pre {w : Nat} {s t : List Nat} (hs : BL s) (ht : BL t) (ls : s.length ≤ w) (lt : t.length ≤ w) (h : s <+: t) : lo w s ≤ lo w t ∧ hi w t ≤ hi w s := by
  have hf : BL (t ++ List.replicate (w - t.length) 48) := ht.app (BL.rep _)
  have lf : (t ++ List.replicate (w - t.length) 48).length = w := by rw [List.length_append, List.length_replicate]; omega
  have h1 := (pre_iff hs hf ls lf).mp (h.trans (List.prefix_append _ _))
  rw [lo_first] at h1
  refine ⟨h1.1, ?_⟩
  have hg : BL (t ++ List.replicate (w - t.length) 49) := ht.app fun d hd => .inr (List.eq_of_mem_replicate hd)
  have lg' : (t ++ List.replicate (w - t.length) 49).length = w := by rw [List.length_append, List.length_replicate]; omega
  have h2 := (pre_iff hs hg ls lg').mp (h.trans (List.prefix_append _ _))
  have e : bn (t ++ List.replicate (w - t.length) 49) + 1 = hi w t := by
    rw [bn_app, List.length_replicate]
    have : ∀ n, bn (List.replicate n 49) + 1 = 2 ^ n := by
      intro n
      induction n with
      | zero => rfl
      | succ n ih =>
        show (49 - 48) * 2 ^ (List.replicate n 49).length + bn (List.replicate n 49) + 1 = _
        rw [List.length_replicate, Nat.pow_succ]
        omega
    unfold hi lo size
    rw [Nat.add_assoc, this]
  omega
theorem ch_ord {w : Nat} {ts : List (List Nat)} {s : List Nat} (k : Known w ts) : (ch ts s).Pairwise fun c d => hi w c ≤ lo w d := by
  have h : (ch ts s).Pairwise (· < ·) := k.ord.sublist List.filter_sublist
  refine h.imp_of_mem fun {c d} hc hd l => ?_
  have hc' := mem_ch.mp hc
  have hd' := mem_ch.mp hd
  refine lex_hi (k.bits _ hc'.1) (k.bits _ hd'.1) (k.fit _ hc'.1) (k.fit _ hd'.1) l fun p => ?_
  have := ch_apart k.all hc hd p
  subst this
  exact absurd l (List.lt_irrefl _)
theorem cell_in {w : Nat} {ts : List (List Nat)} {s a : List Nat} (k : Known w ts) (hs : s ∈ ts) (ha : BL a) (la : a.length = w) :
    decide (lg ts a = s) = (inI w s (bn a) && (ch ts s).all fun c => !inI w c (bn a)) := by
  have key := cell_iff (a := a) k.all hs
  have one : ∀ t ∈ ts, (t <+: a ↔ inI w t (bn a) = true) := fun t ht => by
    rw [pre_iff (k.bits t ht) ha (k.fit t ht) la]
    unfold inI
    rw [Bool.and_eq_true, decide_eq_true_eq, decide_eq_true_eq]
  rw [Bool.eq_iff_iff, decide_eq_true_eq, key, Bool.and_eq_true, one s hs, List.all_eq_true]
  refine and_congr_right fun _ => ⟨fun h c hc => ?_, fun h c hc q => ?_⟩
  · have := h c hc
    rw [one c (mem_ch.mp hc).1] at this
    simpa using this
  · have := h c hc
    rw [(one c (mem_ch.mp hc).1).mp q] at this
    cases this
theorem cnt_addrs (w : Nat) (p : Nat → Bool) : (addrs w).countP (fun a => p (bn a)) = (List.range (2 ^ w)).countP p := by
  rw [← addrs_bn, List.countP_map]
  rfl
theorem cnt_cell {w : Nat} {ts : List (List Nat)} {s : List Nat} (k : Known w ts) (hs : s ∈ ts) :
    (addrs w).countP (fun a => decide (lg ts a = s)) + ((ch ts s).map (size w)).sum = size w s := by
  have e : (addrs w).countP (fun a => decide (lg ts a = s)) = (addrs w).countP (fun a => (fun v => inI w s v && (ch ts s).all fun c => !inI w c v) (bn a)) := by
    refine List.countP_congr fun a ha => ?_
    have := addr_ok ha
    rw [cell_in k hs this.1 this.2]
  rw [e, cnt_addrs w fun v => inI w s v && (ch ts s).all fun c => !inI w c v]
  have c := cnt_sum (List.range (2 ^ w)) ((ch ts s).map (inI w)) (inI w s) (by
    rw [List.pairwise_map]
    refine (ch_ord k).imp fun {c d} l x hx => ?_
    unfold inI at hx ⊢
    rw [Bool.and_eq_true, decide_eq_true_eq, decide_eq_true_eq] at hx
    rw [Bool.and_eq_false_iff, decide_eq_false_iff_not]
    left
    omega) (fun q hq x hx => by
    obtain ⟨c, hc, rfl⟩ := List.mem_map.mp hq
    have hc' := (ch_iff k.all).mp hc
    have := lo_le_of_pre (k.bits s hs) (k.bits c hc'.1) (k.fit s hs) (k.fit c hc'.1) hc'.2.2.2.1
    unfold inI at hx ⊢
    rw [Bool.and_eq_true, decide_eq_true_eq, decide_eq_true_eq] at hx ⊢
    omega)
  rw [cnt_inI (k.bits s hs) (k.fit s hs), List.map_map] at c
  have e2 : (ch ts s).map ((fun c => (List.range (2 ^ w)).countP c) ∘ inI w) = (ch ts s).map (size w) := by
    refine List.map_congr_left fun c hc => ?_
    have hc' := mem_ch.mp hc
    exact cnt_inI (k.bits c hc'.1) (k.fit c hc'.1)
  rw [e2] at c
  rw [c]
  congr 1
  refine List.countP_congr fun v _ => ?_
  rw [List.all_map]
  rfl
theorem cnt_many {w : Nat} {ts : List (List Nat)} {s : List Nat} (k : Known w ts) (hs : s ∈ ts) : (addrs w).countP (fun a => decide (lg ts a = s)) = many w ts s ∧ ((ch ts s).map (size w)).sum ≤ size w s := by
  have := cnt_cell k hs
  unfold many
  omega
theorem find_cell {w : Nat} {ts : List (List Nat)} {s : List Nat} (k : Known w ts) (hs : s ∈ ts) :
    (many w ts s = 0 → (addrs w).find? (fun a => decide (lg ts a = s)) = none) ∧
    (many w ts s ≠ 0 → place w ts s < 2 ^ w ∧ ∀ a, BL a → a.length = w → bn a = place w ts s → (addrs w).find? (fun a => decide (lg ts a = s)) = some a) := by
  have hc := (cnt_many k hs).1
  constructor
  · intro h
    rw [h, List.countP_eq_zero] at hc
    exact List.find?_eq_none.mpr hc
  · intro h
    have sc := scan_ok w (ch ts s) (lo w s) (ch_ord k) fun c hc => by
      have hc' := (ch_iff k.all).mp hc
      exact (lo_le_of_pre (k.bits s hs) (k.bits c hc'.1) (k.fit s hs) (k.fit c hc'.1) hc'.2.2.2.1).1
    have low : ∀ b, BL b → b.length = w → decide (lg ts b = s) = true → place w ts s ≤ bn b ∧ bn b < hi w s := by
      intro b hb lb e
      rw [cell_in k hs hb lb, Bool.and_eq_true, List.all_eq_true] at e
      have e1 := e.1
      unfold inI at e1
      rw [Bool.and_eq_true, decide_eq_true_eq, decide_eq_true_eq] at e1
      refine ⟨?_, e1.2⟩
      refine Decidable.byContradiction fun q => ?_
      obtain ⟨c, hc1, hc2⟩ := sc.2.1 (bn b) e1.1 (by unfold place at q; omega)
      have := e.2 c hc1
      rw [hc2] at this
      cases this
    have pos : 0 < (addrs w).countP (fun a => decide (lg ts a = s)) := by rw [hc]; omega
    obtain ⟨b, hb1, hb2⟩ := List.countP_pos_iff.mp pos
    have hb := addr_ok hb1
    have lb := low b hb.1 hb.2 hb2
    have hh := hi_le (k.bits s hs) (k.fit s hs)
    refine ⟨by omega, fun a ha la ea => find_least (addr_of ha la) ?_ fun c hc1 hc2 => ?_⟩
    · rw [cell_in k hs ha la, ea, Bool.and_eq_true, List.all_eq_true]
      refine ⟨?_, fun c hc => ?_⟩
      · unfold inI
        rw [Bool.and_eq_true, decide_eq_true_eq, decide_eq_true_eq]
        have := sc.1
        exact ⟨this, by omega⟩
      · have := sc.2.2 c hc
        unfold place
        rw [this]; rfl
    · have := addr_ok hc1
      rw [ea]
      exact (low c this.1 this.2 hc2).1
theorem sum_many {w : Nat} {ts : List (List Nat)} (k : Known w ts) : (ts.map (many w ts)).sum = 2 ^ w := by
  have e : ts.map (many w ts) = ts.map fun s => (addrs w).countP (fun a => decide (lg ts a = s)) := List.map_congr_left fun s hs => (cnt_many k hs).1.symm
  rw [e]
  have nd : ts.Nodup := k.ord.imp fun {a b} l => by rintro rfl; exact List.lt_irrefl _ l
  have : ∀ l : List (List Nat), (ts.map fun s => l.countP (fun a => decide (lg ts a = s))).sum = l.length := by
    intro l
    induction l with
    | nil =>
      have : ∀ us : List (List Nat), (us.map fun s => List.countP (fun a => decide (lg ts a = s)) []).sum = 0 := by
        intro us
        induction us with
        | nil => rfl
        | cons u us ih => rw [List.map_cons, List.sum_cons, ih]; rfl
      exact this ts
    | cons a l ih =>
      have hm := (lg_is (a := a) k.all).mem
      have : ∀ us : List (List Nat), us.Nodup → (us.map fun s => (a :: l).countP (fun a => decide (lg ts a = s))).sum = (us.map fun s => l.countP (fun a => decide (lg ts a = s))).sum + if lg ts a ∈ us then 1 else 0 := by
        intro us
        induction us with
        | nil => intro _; rfl
        | cons u us ih2 =>
          intro hn
          have hn' := List.nodup_cons.mp hn
          rw [List.map_cons, List.sum_cons, ih2 hn'.2, List.map_cons, List.sum_cons, List.countP_cons]
          by_cases e : lg ts a = u
          · subst e
            simp [hn'.1]
            omega
          · simp [e]
            omega
      rw [this ts nd, ih, if_pos hm]
      rfl
  rw [this, addrs_len]
end M
open PySem PySem.Spec PyProof.Rows
open L2 hiding pass0
abbrev s_is_count : Stmt := top 8
theorem sc_is_count : FnScope ["value"] ["value"] (defScope s_is_count) := ⟨rfl, rfl, rfl, by decide +kernel, rfl, by decide +kernel, by decide +kernel⟩
theorem bp_is_count : BndP "is_count" s_is_count ["value"] := fun _ _ _ _ _ _ us h => match us, h with | [_], _ => rfl
abbrev s_is_width : Stmt := top 9
theorem sc_is_width : FnScope ["value"] ["value"] (defScope s_is_width) := ⟨rfl, rfl, rfl, by decide +kernel, rfl, by decide +kernel, by decide +kernel⟩
theorem bp_is_width : BndP "is_width" s_is_width ["value"] := fun _ _ _ _ _ _ us h => match us, h with | [_], _ => rfl
abbrev s_is_bits : Stmt := top 10
theorem sc_is_bits : FnScope ["value", "bit"] ["value"] (defScope s_is_bits) := ⟨rfl, rfl, rfl, by decide +kernel, rfl, by decide +kernel, by decide +kernel⟩
theorem bp_is_bits : BndP "is_bits" s_is_bits ["value"] := fun _ _ _ _ _ _ us h => match us, h with | [_], _ => rfl
abbrev s_check_width : Stmt := top 13
theorem sc_check_width : FnScope ["width"] ["width"] (defScope s_check_width) := ⟨rfl, rfl, rfl, by decide +kernel, rfl, by decide +kernel, by decide +kernel⟩
theorem bp_check_width : BndP "check_width" s_check_width ["width"] := fun _ _ _ _ _ _ us h => match us, h with | [_], _ => rfl
abbrev s_is_stretch : Stmt := top 12
theorem sc_is_stretch : FnScope ["width", "value"] ["width", "value"] (defScope s_is_stretch) := ⟨rfl, rfl, rfl, by decide +kernel, rfl, by decide +kernel, by decide +kernel⟩
theorem bp_is_stretch : BndP "is_stretch" s_is_stretch ["width", "value"] := fun _ _ _ _ _ _ us h => match us, h with | [_, _], _ => rfl
abbrev s_is_address : Stmt := top 11
theorem sc_is_address : FnScope ["width", "value"] ["width", "value"] (defScope s_is_address) := ⟨rfl, rfl, rfl, by decide +kernel, rfl, by decide +kernel, by decide +kernel⟩
theorem bp_is_address : BndP "is_address" s_is_address ["width", "value"] := fun _ _ _ _ _ _ us h => match us, h with | [_, _], _ => rfl
abbrev s_check_stretch : Stmt := top 14
theorem sc_check_stretch : FnScope ["width", "stretch"] ["width", "stretch"] (defScope s_check_stretch) := ⟨rfl, rfl, rfl, by decide +kernel, rfl, by decide +kernel, by decide +kernel⟩
theorem bp_check_stretch : BndP "check_stretch" s_check_stretch ["width", "stretch"] := fun _ _ _ _ _ _ us h => match us, h with | [_, _], _ => rfl
abbrev s_check_stretches : Stmt := top 15
theorem sc_check_stretches : FnScope ["width", "stretches", "position", "stretch"] ["width", "stretches"] (defScope s_check_stretches) := ⟨rfl, rfl, rfl, by decide +kernel, rfl, by decide +kernel, by decide +kernel⟩
theorem bp_check_stretches : BndP "check_stretches" s_check_stretches ["width", "stretches"] := fun _ _ _ _ _ _ us h => match us, h with | [_, _], _ => rfl
abbrev s_check_address : Stmt := top 16
theorem sc_check_address : FnScope ["width", "address"] ["width", "address"] (defScope s_check_address) := ⟨rfl, rfl, rfl, by decide +kernel, rfl, by decide +kernel, by decide +kernel⟩
theorem bp_check_address : BndP "check_address" s_check_address ["width", "address"] := fun _ _ _ _ _ _ us h => match us, h with | [_, _], _ => rfl
abbrev s_number : Stmt := top 17
theorem sc_number : FnScope ["width", "stretch", "many", "_"] ["width", "stretch"] (defScope s_number) := ⟨rfl, rfl, rfl, by decide +kernel, rfl, by decide +kernel, by decide +kernel⟩
theorem bp_number : BndP "number" s_number ["width", "stretch"] := fun _ _ _ _ _ _ us h => match us, h with | [_, _], _ => rfl
abbrev s_first : Stmt := top 18
theorem sc_first : FnScope ["width", "stretch"] ["width", "stretch"] (defScope s_first) := ⟨rfl, rfl, rfl, by decide +kernel, rfl, by decide +kernel, by decide +kernel⟩
theorem bp_first : BndP "first" s_first ["width", "stretch"] := fun _ _ _ _ _ _ us h => match us, h with | [_, _], _ => rfl
/-- the constants of the text -/
structure Cst (K : PySem.W.Frag) (mg : Str → Option Value) where
  c_MOST_WIDTH : ∃ u, mg "MOST_WIDTH" = some u ∧ RelV (.int 100) u
/-! ### words, of whole numbers and texts -/
def bitsB (z : Str) : Bool := z.cps.toList.all fun c => decide (c ∈ ("01" : Str).cps.toList)
theorem bitsB_of {z : Str} (h : Bits z) : bitsB z = true := List.all_eq_true.mpr fun c hc => by
  rcases h c hc with rfl | rfl <;> exact decide_eq_true (by decide)
theorem Bits.of {z : Str} (h : bitsB z = true) : Bits z := fun c hc => by
  have := of_decide_eq_true (List.all_eq_true.mp h c hc)
  have h2 : c ∈ [48, 49] := this
  simpa using h2
def Low (z : Str) : Prop := ∀ c ∈ z.cps.toList, c < 128
theorem Bits.low {z : Str} (h : Bits z) : Low z := fun c hc => by
  have := h c hc
  omega
theorem Low.small {z : Str} (h : Low z) : SmallS z := by
  refine Array.all_eq_true_iff_forall_mem.mpr fun c hc => decide_eq_true (h c (by simpa using hc))
@[irreducible] def spI (g : Int → Bool) : Sp := fun vs H Q _ => ∃ n : Int, vs = [.int n] ∧ Q (.bl (g n)) H
@[irreducible] def spT (g : Str → Bool) : Sp := fun vs H Q _ => ∃ z : Str, vs = [.str z] ∧ z.length ≤ 1000 ∧ ∀ H', Same H H' → Q (.bl (g z)) H'
@[irreducible] def spIT (g : Int → Str → Bool) : Sp := fun vs H Q _ => ∃ (n : Int) (z : Str), vs = [.int n, .str z] ∧ 1 ≤ n ∧ n ≤ 100 ∧ z.length ≤ 1000 ∧ ∀ H', Same H H' → Q (.bl (g n z)) H'
@[irreducible] def spCW : Sp := fun vs H Q _ => ∃ n : Int, vs = [.int n] ∧ 1 ≤ n ∧ n ≤ 100 ∧ ∀ H', Same H H' → Q .non H'
/-- a check of a text that is right -/
@[irreducible] def spCT (g : Int → Str → Bool) : Sp := fun vs H Q _ => ∃ (n : Int) (z : Str), vs = [.int n, .str z] ∧ 1 ≤ n ∧ n ≤ 100 ∧ z.length ≤ 1000 ∧ g n z = true ∧ ∀ H', Same H H' → Q .non H'
def cntB (n : Int) : Bool := decide (0 ≤ n)
def widB (n : Int) : Bool := decide (1 ≤ n) && decide (n ≤ 100)
def strB (n : Int) (z : Str) : Bool := bitsB z && decide ((z.length : Int) ≤ n)
def adrB (n : Int) (z : Str) : Bool := bitsB z && decide ((z.length : Int) = n)
section
variable {g : Int → Bool} {gt : Str → Bool} {g2 : Int → Str → Bool} {n : Int} {z : Str} {H : Hp} {Q : VK} {E : XK}
theorem i_go (q : Q (.bl (g n)) H) : spI g [.int n] H Q E := by
  unfold spI
  exact ⟨n, rfl, q⟩
theorem t_go (h : z.length ≤ 1000) (q : ∀ H', Same H H' → Q (.bl (gt z)) H') : spT gt [.str z] H Q E := by
  unfold spT
  exact ⟨z, rfl, h, q⟩
theorem it_go (h0 : 1 ≤ n) (h1 : n ≤ 100) (h : z.length ≤ 1000) (q : ∀ H', Same H H' → Q (.bl (g2 n z)) H') : spIT g2 [.int n, .str z] H Q E := by
  unfold spIT
  exact ⟨n, z, rfl, h0, h1, h, q⟩
theorem cw_go (h0 : 1 ≤ n) (h1 : n ≤ 100) (q : ∀ H', Same H H' → Q .non H') : spCW [.int n] H Q E := by
  unfold spCW
  exact ⟨n, rfl, h0, h1, q⟩
theorem ct_go (h0 : 1 ≤ n) (h1 : n ≤ 100) (h : z.length ≤ 1000) (hg : g2 n z = true) (q : ∀ H', Same H H' → Q .non H') : spCT g2 [.int n, .str z] H Q E := by
  unfold spCT
  exact ⟨n, z, rfl, h0, h1, h, hg, q⟩
end
theorem k_ii : kitB "int" "int" = some true := by decide +kernel
theorem k_ib : kitB "int" "bool" = some false := by decide +kernel
theorem k_ss : kitB "str" "str" = some true := by decide +kernel
section
variable {P : Program} {w : World} {K : PySem.W.Frag} {mg : Str → Option Value} {base : Heap} {f : Addr} {fd : FuncData}
theorem ok_is_count (F : Fun K "is_count" "is_count" s_is_count f fd) (hm : mg "is_count" = some (.ref f)) (T : Txt K mg) : Nm P w K mg base CX0 1 "is_count" s_is_count ["value"] (spI cntB) := by
  refine nm_of F hm sc_is_count (fun vs H Q E h => ?_) fun cdv A outer s H vs Q E hr h => ?_
  · unfold spI at h
    obtain ⟨n, rfl, k⟩ := h
    subst_vars
    rfl
  unfold spI at h
  obtain ⟨n, rfl, k⟩ := h
  refine ⟨_, (pss_one (ps_ret (pe_and (pe_callB (call_isiK' (K := K) rfl) (by rfl) T.b_isinstance (by decide +kernel) (pa_cons (pv 0) (pa_cons (pe_ty "int" (by rfl) T.b_int (by decide +kernel)) pa_nil))) (pe_and (pe_not (pe_callB (call_isiK' (K := K) rfl) (by rfl) T.b_isinstance (by decide +kernel) (pa_cons (pv 0) (pa_cons (pe_ty "bool" (by rfl) T.b_bool (by decide +kernel)) pa_nil)))) (pe_one (pe_cmpR op_ge (pv 0) pe_int (nomark _))))))), ?_⟩
  repeat walk_at "s1"
  refine ⟨_, _, _, _, _, rfl, .ty _, .base (.int _), kit_ty k_ii, ?_⟩
  refine ⟨_, rfl, iteT ?_⟩
  repeat walk_at "s1"
  refine ⟨_, _, _, _, _, rfl, .ty _, .base (.int _), kit_ty k_ib, ?_⟩
  repeat walk_at "s1"
  exact k
theorem ok_is_width (F : Fun K "is_width" "is_width" s_is_width f fd) (hm : mg "is_width" = some (.ref f)) (T : Txt K mg) (C : Cst K mg) (c_is_count : Nm P w K mg base CX0 1 "is_count" s_is_count ["value"] (spI cntB)) : Nm P w K mg base CX0 2 "is_width" s_is_width ["value"] (spI widB) := by
  refine nm_of F hm sc_is_width (fun vs H Q E h => ?_) fun cdv A outer s H vs Q E hr h => ?_
  · unfold spI at h
    obtain ⟨n, rfl, k⟩ := h
    subst_vars
    rfl
  unfold spI at h
  obtain ⟨n, rfl, k⟩ := h
  refine ⟨_, (pss_one (ps_ret (pe_and (pe_g c_is_count hr (by decide) L2.pass0 bp_is_count (by rfl) (pa_cons (pv 0) pa_nil)) (pe_one (pe_chain op_le op_le pe_int (pv 0) (pe_cst (by rfl) C.c_MOST_WIDTH)))))), ?_⟩
  repeat walk_at "s1"
  refine i_go ?_
  refine ⟨_, rfl, ?_⟩
  refine ite2 (fun c => ?_) fun c => ?_
  · repeat walk_at "s1"
    refine ite2 (fun c1 => ?_) fun c1 => ?_
    · repeat walk_at "s1"
      have e : widB n = decide (n ≤ 100) := by show (decide _ && _) = _; rw [c1, Bool.true_and]
      rw [e] at k; exact k
    · have e : widB n = false := by show (decide _ && _) = _; rw [Bool.eq_false_iff.mpr c1, Bool.false_and]
      rw [e] at k; exact k
  · have c' : ¬ 0 ≤ n := fun q => c (decide_eq_true q)
    have e : widB n = false := by show (decide _ && _) = _; rw [decide_eq_false (show ¬ 1 ≤ n by omega)]; rfl
    rw [e] at k; exact k
theorem ok_is_bits (F : Fun K "is_bits" "is_bits" s_is_bits f fd) (hm : mg "is_bits" = some (.ref f)) (T : Txt K mg) : Nm P w K mg base CX0 1 "is_bits" s_is_bits ["value"] (spT bitsB) := by
  refine nm_of F hm sc_is_bits (fun vs H Q E h => ?_) fun cdv A outer s H vs Q E hr h => ?_
  · unfold spT at h
    obtain ⟨z, rfl, hz', k⟩ := h
    subst_vars
    rfl
  unfold spT at h
  obtain ⟨z, rfl, hz', k⟩ := h
  refine ⟨_, (pss_one (ps_ret (pe_and (pe_callB (call_isiK' (K := K) rfl) (by rfl) T.b_isinstance (by decide +kernel) (pa_cons (pv 0) (pa_cons (pe_ty "str" (by rfl) T.b_str (by decide +kernel)) pa_nil))) (pe_one (pe_callB (call_allK (K := K) rfl rfl) (by rfl) T.b_all (by decide +kernel) (pa_cons (pe_lc (own := [("bit", 1)]) (g := (gName 1)) (by rfl) sc_is_bits.nd (pi_str (pv 0)) (blkOk_by (own := [("bit", 1)]) (N := ["value", "bit"]) (sc := defScope s_is_bits) (by decide +kernel)) (fun _ _ _ _ _ => (pg_name (i := 1) sc_is_bits.nd rfl (by first | exact Or.inl rfl | exact Or.inr rfl))) (fun _ _ _ _ _ => pts_nil) (fun _ _ _ _ _ => (pe_cmpR op_in_sign (pv 1) pe_str rfl))) pa_nil)))))), ?_⟩
  repeat walk_at "s1"
  refine ⟨_, _, _, _, _, rfl, .ty _, .base (.str _), kit_ty k_ss, ?_⟩
  refine ⟨_, rfl, iteT ?_⟩
  repeat walk_at "s1"
  rename_i D nD
  have hz : z.cps.size ≤ 1000 := hz'
  refine lc_it walk_str (fun i H1 => H1 D = some (.lst (((z.cps.toList.take i).map fun c => decide (c ∈ ("01" : Str).cps.toList)).map V.bl)) ∧ Same H H1) ⟨upd_same, fun b o e => updn (nonn nD e) e⟩ (fun _ _ _ _ => trivial) ?_ ?_
  · rintro i x H1 H2 hi ⟨hD, sm⟩ ⟨rfl, c, hc, rfl⟩
    refine ⟨rfl, ?_⟩
    dsimp only [tYes]
    rw [if_pos rfl]
    repeat walk_at "s1"
    refine ⟨_, hD, szt (by rw [List.length_map, List.length_map, List.length_take]; omega), ?_, fun b o e => updn (nonn nD e) (sm b o e)⟩
    rw [upd_same, List.take_add_one, Array.getElem?_toList, hc, List.map_append, List.map_append]
    rfl
  · rintro H1 ⟨hD, sm⟩
    rw [List.take_of_length_le (by rw [Array.length_toList]; exact Nat.le_refl _)] at hD
    refine ⟨_, _, rfl, SqL.of hD, ?_⟩
    have hk := k H1 sm
    have e : bitsB z = ((z.cps.toList.map fun c => decide (c ∈ ("01" : Str).cps.toList)).all id) := by rw [List.all_map]; rfl
    rw [e] at hk
    exact hk
theorem ok_check_width (F : Fun K "check_width" "check_width" s_check_width f fd) (hm : mg "check_width" = some (.ref f)) (T : Txt K mg) (c_is_width : Nm P w K mg base CX0 2 "is_width" s_is_width ["value"] (spI widB)) : Nm P w K mg base CX0 3 "check_width" s_check_width ["width"] (spCW) := by
  refine nm_of F hm sc_check_width (fun vs H Q E h => ?_) fun cdv A outer s H vs Q E hr h => ?_
  · unfold spCW at h
    obtain ⟨n, rfl, h0, h1, k⟩ := h
    subst_vars
    rfl
  unfold spCW at h
  obtain ⟨n, rfl, h0, h1, k⟩ := h
  refine ⟨_, (pss_one (ps_if (pt_not (pt_val (pe_g c_is_width hr (by decide) L2.pass0 bp_is_width (by rfl) (pa_cons (pv 0) pa_nil)))) (pss_one ps_never) pss_nil)), ?_⟩
  repeat walk_at "s1"
  refine i_go ?_
  repeat walk_at "s1"
  have e : widB n = true := by show (decide _ && decide _) = true; rw [decide_eq_true h0, decide_eq_true h1]; rfl
  rw [e]
  refine iteF ?_
  exact k H (Same.refl H)
theorem ok_is_stretch (F : Fun K "is_stretch" "is_stretch" s_is_stretch f fd) (hm : mg "is_stretch" = some (.ref f)) (T : Txt K mg) (c_check_width : Nm P w K mg base CX0 3 "check_width" s_check_width ["width"] (spCW)) (c_is_bits : Nm P w K mg base CX0 1 "is_bits" s_is_bits ["value"] (spT bitsB)) : Nm P w K mg base CX0 4 "is_stretch" s_is_stretch ["width", "value"] (spIT strB) := by
  refine nm_of F hm sc_is_stretch (fun vs H Q E h => ?_) fun cdv A outer s H vs Q E hr h => ?_
  · unfold spIT at h
    obtain ⟨n, z, rfl, h0, h1, hz, k⟩ := h
    subst_vars
    rfl
  unfold spIT at h
  obtain ⟨n, z, rfl, h0, h1, hz, k⟩ := h
  refine ⟨_, (pss_cons (ps_expr (pe_g c_check_width hr (by decide) L2.pass0 bp_check_width (by rfl) (pa_cons (pv 0) pa_nil)))
      (pss_one (ps_ret (pe_and (pe_g c_is_bits hr (by decide) L2.pass0 bp_is_bits (by rfl) (pa_cons (pv 1) pa_nil)) (pe_one (pe_cmpR op_le (pe_callB (call_lenK (K := K) rfl) (by rfl) T.b_len PySem.boot_len (pa_cons (pv 1) pa_nil)) (pv 0) (nomark _))))))), ?_⟩
  repeat walk_at "s1"
  refine cw_go h0 h1 fun H1 sm => ?_
  repeat walk_at "s1"
  refine t_go hz fun H2 sm2 => ?_
  have hk := k H2 (sm.trans sm2)
  refine ⟨_, rfl, ?_⟩
  cases c : bitsB z with
  | true =>
    refine iteT ?_
    repeat walk_at "s1"
    have e : strB n z = decide ((z.length : Int) ≤ n) := by show (bitsB _ && _) = _; rw [c]; rfl
    rw [e] at hk
    exact hk
  | false =>
    have e : strB n z = false := by show (bitsB _ && _) = _; rw [c]; rfl
    rw [e] at hk
    exact iteF hk
theorem ok_is_address (F : Fun K "is_address" "is_address" s_is_address f fd) (hm : mg "is_address" = some (.ref f)) (T : Txt K mg) (c_is_stretch : Nm P w K mg base CX0 4 "is_stretch" s_is_stretch ["width", "value"] (spIT strB)) : Nm P w K mg base CX0 5 "is_address" s_is_address ["width", "value"] (spIT adrB) := by
  refine nm_of F hm sc_is_address (fun vs H Q E h => ?_) fun cdv A outer s H vs Q E hr h => ?_
  · unfold spIT at h
    obtain ⟨n, z, rfl, h0, h1, hz, k⟩ := h
    subst_vars
    rfl
  unfold spIT at h
  obtain ⟨n, z, rfl, h0, h1, hz, k⟩ := h
  refine ⟨_, (pss_one (ps_ret (pe_and (pe_g c_is_stretch hr (by decide) L2.pass0 bp_is_stretch (by rfl) (pa_cons (pv 0) (pa_cons (pv 1) pa_nil))) (pe_one (pe_cmpR op_eq (pe_callB (call_lenK (K := K) rfl) (by rfl) T.b_len PySem.boot_len (pa_cons (pv 1) pa_nil)) (pv 0) (nomark _)))))), ?_⟩
  repeat walk_at "s1"
  refine it_go h0 h1 hz fun H2 sm2 => ?_
  have hk := k H2 sm2
  refine ⟨_, rfl, ?_⟩
  cases c : strB n z with
  | true =>
    refine iteT ?_
    repeat walk_at "s1"
    have c' : (bitsB z && decide ((z.length : Int) ≤ n)) = true := c
    have e : adrB n z = decide (V.int (z.length : Int) = V.int n) := by
      show (bitsB z && decide ((z.length : Int) = n)) = _
      rw [Bool.and_eq_true] at c'
      rw [c'.1, Bool.true_and]
      exact decide_eq_decide.mpr ⟨fun q => by rw [q], fun q => V.int.inj q⟩
    rw [e] at hk
    exact hk
  | false =>
    have e : adrB n z = false := by
      have c' : (bitsB z && decide ((z.length : Int) ≤ n)) = false := c
      show (bitsB z && decide ((z.length : Int) = n)) = false
      cases b : bitsB z with
      | false => rfl
      | true =>
        rw [b, Bool.true_and] at c'
        have := of_decide_eq_false c'
        rw [Bool.true_and]
        exact decide_eq_false (by omega)
    rw [e] at hk
    exact iteF hk
theorem ok_check_stretch (F : Fun K "check_stretch" "check_stretch" s_check_stretch f fd) (hm : mg "check_stretch" = some (.ref f)) (T : Txt K mg) (c_is_stretch : Nm P w K mg base CX0 4 "is_stretch" s_is_stretch ["width", "value"] (spIT strB)) : Nm P w K mg base CX0 5 "check_stretch" s_check_stretch ["width", "stretch"] (spCT strB) := by
  refine nm_of F hm sc_check_stretch (fun vs H Q E h => ?_) fun cdv A outer s H vs Q E hr h => ?_
  · unfold spCT at h
    obtain ⟨n, z, rfl, h0, h1, hz, hg, k⟩ := h
    subst_vars
    rfl
  unfold spCT at h
  obtain ⟨n, z, rfl, h0, h1, hz, hg, k⟩ := h
  refine ⟨_, (pss_one (ps_if (pt_not (pt_val (pe_g c_is_stretch hr (by decide) L2.pass0 bp_is_stretch (by rfl) (pa_cons (pv 0) (pa_cons (pv 1) pa_nil))))) (pss_one ps_never) pss_nil)), ?_⟩
  repeat walk_at "s1"
  refine it_go h0 h1 hz fun H2 sm2 => ?_
  repeat walk_at "s1"
  rw [hg]
  refine iteF ?_
  exact k H2 sm2
theorem ok_check_address (F : Fun K "check_address" "check_address" s_check_address f fd) (hm : mg "check_address" = some (.ref f)) (T : Txt K mg) (c_is_address : Nm P w K mg base CX0 5 "is_address" s_is_address ["width", "value"] (spIT adrB)) : Nm P w K mg base CX0 6 "check_address" s_check_address ["width", "address"] (spCT adrB) := by
  refine nm_of F hm sc_check_address (fun vs H Q E h => ?_) fun cdv A outer s H vs Q E hr h => ?_
  · unfold spCT at h
    obtain ⟨n, z, rfl, h0, h1, hz, hg, k⟩ := h
    subst_vars
    rfl
  unfold spCT at h
  obtain ⟨n, z, rfl, h0, h1, hz, hg, k⟩ := h
  refine ⟨_, (pss_one (ps_if (pt_not (pt_val (pe_g c_is_address hr (by decide) L2.pass0 bp_is_address (by rfl) (pa_cons (pv 0) (pa_cons (pv 1) pa_nil))))) (pss_one ps_never) pss_nil)), ?_⟩
  repeat walk_at "s1"
  refine it_go h0 h1 hz fun H2 sm2 => ?_
  repeat walk_at "s1"
  rw [hg]
  refine iteF ?_
  exact k H2 sm2
end
open PySem PySem.Spec PyProof.Rows
open L2 hiding pass0
/-! ### stretches -/
def sx (t : List Nat) : V := .str (SX.S t)
theorem sx_bits {t : List Nat} (h : M.BL t) : Bits (SX.S t) := fun c hc => h c (by rw [SX.S] at hc; simpa using hc)
theorem sx_len (t : List Nat) : (SX.S t).length = t.length := SX.S_len t
theorem tl_S (t : List Nat) : (SX.S t).cps.toList = t := by unfold SX.S; simp
theorem S_inj {a b : List Nat} (h : SX.S a = SX.S b) : a = b := by
  have := congrArg (fun z : Str => z.cps.toList) h
  rwa [tl_S, tl_S] at this
/-- a list or a tuple of stretches -/
def ArgAt (H : Hp) (a : Addr) (ts : List (List Nat)) : Prop := H a = some (.lst (ts.map sx)) ∨ H a = some (.tup (ts.map sx))
def Fits (n : Nat) (ts : List (List Nat)) : Prop := ∀ t ∈ ts, M.BL t ∧ t.length ≤ n
theorem ArgAt.same {H H' : Hp} {a : Addr} {ts : List (List Nat)} (h : ArgAt H a ts) (s : Same H H') : ArgAt H' a ts := h.elim (fun e => .inl (s _ _ e)) fun e => .inr (s _ _ e)
@[irreducible] def spCS : Sp := fun vs H Q _ => ∃ (n : Nat) (a : Addr) (ts : List (List Nat)), vs = [.int n, .ref a] ∧ 1 ≤ n ∧ n ≤ 100 ∧ ArgAt H a ts ∧ Fits n ts ∧ ∀ H', Same H H' → Q .non H'
@[irreducible] def spNum : Sp := fun vs H Q _ => ∃ (n : Nat) (t : List Nat), vs = [.int n, sx t] ∧ 1 ≤ n ∧ n ≤ 100 ∧ M.BL t ∧ t.length ≤ n ∧ ∀ H', Same H H' → Q (.int ((M.size n t : Nat) : Int)) H'
@[irreducible] def spFirst : Sp := fun vs H Q _ => ∃ (n : Nat) (t : List Nat), vs = [.int n, sx t] ∧ 1 ≤ n ∧ n ≤ 100 ∧ M.BL t ∧ t.length ≤ n ∧ ∀ H', Same H H' → Q (sx (t ++ List.replicate (n - t.length) 48)) H'
theorem cs_go {n : Nat} {a : Addr} {ts : List (List Nat)} {H : Hp} {Q : VK} {E : XK} (h0 : 1 ≤ n) (h1 : n ≤ 100) (ha : ArgAt H a ts) (hf : Fits n ts) (k : ∀ H', Same H H' → Q .non H') : spCS [.int n, .ref a] H Q E := by
  unfold spCS
  exact ⟨n, a, ts, rfl, h0, h1, ha, hf, k⟩
theorem num_go {n : Nat} {t : List Nat} {H : Hp} {Q : VK} {E : XK} (h0 : 1 ≤ n) (h1 : n ≤ 100) (hb : M.BL t) (hl : t.length ≤ n) (k : ∀ H', Same H H' → Q (.int ((M.size n t : Nat) : Int)) H') : spNum [.int n, sx t] H Q E := by
  unfold spNum
  exact ⟨n, t, rfl, h0, h1, hb, hl, k⟩
theorem first_go {n : Nat} {t : List Nat} {H : Hp} {Q : VK} {E : XK} (h0 : 1 ≤ n) (h1 : n ≤ 100) (hb : M.BL t) (hl : t.length ≤ n) (k : ∀ H', Same H H' → Q (sx (t ++ List.replicate (n - t.length) 48)) H') : spFirst [.int n, sx t] H Q E := by
  unfold spFirst
  exact ⟨n, t, rfl, h0, h1, hb, hl, k⟩
theorem str_ok {n : Nat} {t : List Nat} (hb : M.BL t) (hl : t.length ≤ n) : strB n (SX.S t) = true := by
  show (bitsB _ && decide (((SX.S t).length : Int) ≤ n)) = true
  rw [bitsB_of (sx_bits hb), sx_len, decide_eq_true (by omega)]
  rfl
theorem lj_eq {n : Nat} {t : List Nat} (hl : t.length ≤ n) : Txt.ljustF (SX.S t) (n : Int) 48 = SX.S (t ++ List.replicate (n - t.length) 48) := by
  unfold Txt.ljustF
  rw [sx_len]
  split
  · rename_i h
    have : n - t.length = 0 := by omega
    rw [this, List.replicate_zero, List.append_nil]
  · rw [Int.toNat_natCast]
    unfold PySem.Builtin.Str.padded SX.S
    simp
theorem pad_ok {n : Nat} (h : n ≤ 100) : PadOk (n : Int) = true := by
  have : ∀ m : Fin 101, PadOk ((m.val : Nat) : Int) = true := by decide +kernel
  exact this ⟨n, by omega⟩
section
variable {P : Program} {w : World} {K : PySem.W.Frag} {mg : Str → Option Value} {base : Heap} {f : Addr} {fd : FuncData}
theorem ok_check_stretches (F : Fun K "check_stretches" "check_stretches" s_check_stretches f fd) (hm : mg "check_stretches" = some (.ref f)) (T : Txt K mg) (c_check_width : Nm P w K mg base CX0 3 "check_width" s_check_width ["width"] (spCW)) (c_is_stretch : Nm P w K mg base CX0 4 "is_stretch" s_is_stretch ["width", "value"] (spIT strB)) : Nm P w K mg base CX0 5 "check_stretches" s_check_stretches ["width", "stretches"] (spCS) := by
  refine nm_of0 F hm sc_check_stretches (fun vs H Q E h => ?_) fun cdv A outer s H vs Q E hr h => ?_
  · unfold spCS at h
    obtain ⟨n, a, ts, rfl, h0, h1, ha, hf, k⟩ := h
    subst_vars
    rfl
  unfold spCS at h
  obtain ⟨n, a, ts, rfl, h0, h1, ha, hf, k⟩ := h
  refine ⟨_, (pss_cons (ps_expr (pe_g c_check_width hr (by decide) L2.pass0 bp_check_width (by rfl) (pa_cons (pv 0) pa_nil)))
      (pss_cons (ps_if (pt_not (pt_val (pe_callB call_isiT (by rfl) T.b_isinstance (by decide +kernel) (pa_cons (pv 1) (pa_cons (pe_tup (pa_cons (pe_ty "list" (by rfl) T.b_list (by decide +kernel)) (pa_cons (pe_ty "tuple" (by rfl) T.b_tuple (by decide +kernel)) pa_nil))) pa_nil))))) (pss_one ps_never) pss_nil)
      (pss_one (ps_for PassesOwn.never rfl (pi_enumA (by rfl) T.b_enumerate (pa_cons (pv 1) pa_nil)) (pg_tup (by rfl) (pgs_cons (pg_name (i := 2) sc_check_stretches.nd rfl (by first | exact Or.inl rfl | exact Or.inr rfl)) (pgs_cons (pg_name (i := 3) sc_check_stretches.nd rfl (by first | exact Or.inl rfl | exact Or.inr rfl)) pgs_nil))) (pss_one (ps_if (pt_not (pt_val (pe_g c_is_stretch hr (by decide) L2.pass0 bp_is_stretch (by rfl) (pa_cons (pv 0) (pa_cons (pv 3) pa_nil))))) (pss_one ps_never) pss_nil)))))), ?_⟩
  repeat walk_at "s1"
  refine cw_go (by omega) (by omega) fun H1 sm1 => ?_
  have ha1 := ha.same sm1
  refine ⟨_, rfl, ?_⟩
  refine ⟨szl (by show 2 ≤ 1000000; decide), fun T nT => ?_⟩
  have e2 : kitB "tuple" "list" = some false := by decide +kernel
  have e3 : kitB "tuple" "tuple" = some true := by decide +kernel
  have e1 : kitB "list" "list" = some true := by decide +kernel
  have ty : ∃ t, TyX K (upd H1 T (.tup [.ty "list", .ty "tuple"])) (.ref a) t ∧ PySem.W.kitAny K t [.type "list", .type "tuple"] = some true := by
    rcases ha1 with e | e
    · exact ⟨_, .base (.lst (updn (nonn nT e) e)), kitAny_cons (kit_ty e1) (fun z => nomatch z) fun _ => rfl⟩
    · exact ⟨_, .base (.tup (updn (nonn nT e) e)), kitAny_cons (kit_ty e2) (fun _ => kitAny_cons (kit_ty e3) (fun z => nomatch z) fun _ => rfl) fun z => nomatch z⟩
  obtain ⟨ty, hty, hk⟩ := ty
  refine ⟨_, T, _, ty, _, true, rfl, upd_same, .cons (.ty _) (.cons (.ty _) .nil), hty, hk, ?_⟩
  refine ⟨_, rfl, ?_⟩
  refine iteF ?_
  have sm2 : Same H (upd H1 T (.tup [.ty "list", .ty "tuple"])) := fun b o e => updn (nonn nT (sm1 b o e)) (sm1 b o e)
  generalize upd H1 T (.tup [.ty "list", .ty "tuple"]) = H2 at sm2 ⊢
  clear hty hk nT ha1
  have ha2 := ha.same sm2
  refine ⟨_, rfl, ?_⟩
  rcases ha2 with e | e
  · refine ⟨a, ts.map sx, rfl, .inl ⟨SqL.of e, ?_⟩⟩
    refine for_it (walk_enum (xs := ts.map sx)) (fun i σ' H' => ∃ x2 x3, σ' = [some (.int n), some (.ref a), x2, x3] ∧ Same H2 H') ⟨_, _, rfl, Same.refl H2⟩ (fun i σ' H' _ h => let ⟨_, _, _, s⟩ := h; SqL.of (s _ _ e)) ?_ ?_
    · rintro i x σ' H3 H4 hi ⟨x2, x3, rfl, sm⟩ ⟨T2, y, z, rfl, nT2, rfl, e5, e6⟩
      obtain rfl : y = .int (i : Nat) := (Option.some.inj e5).symm
      obtain ⟨t, ht, rfl⟩ : ∃ t, ts[i]? = some t ∧ z = sx t := by
        dsimp only at e6
        rw [List.getElem?_map] at e6
        cases q : ts[i]? with
        | none => rw [q] at e6; cases e6
        | some t => rw [q] at e6; exact ⟨t, rfl, (Option.some.inj e6).symm⟩
      obtain ⟨hb, hl⟩ := hf t (List.mem_of_getElem? ht)
      have sm3 : Same H2 (upd H3 T2 (.tup [.int (i : Nat), sx t])) := fun b o q => updn (nonn nT2 (sm b o q)) (sm b o q)
      refine ⟨T2, [.int (i : Nat), sx t], rfl, SqT.of upd_same, rfl, ?_⟩
      refine ⟨_, _, rfl, ?_⟩
      refine ⟨_, _, rfl, ?_⟩
      refine ⟨rfl, ?_⟩
      refine ⟨_, rfl, ?_⟩
      refine ⟨_, rfl, ?_⟩
      refine it_go (by omega) (by omega) (by rw [sx_len]; omega) fun H5 sm5 => ?_
      rw [str_ok hb hl]
      refine ⟨_, rfl, iteF ?_⟩
      exact ⟨_, _, rfl, fun b o q => sm5 b o (sm3 b o q)⟩
    · rintro σ' H3 ⟨x2, x3, rfl, sm⟩
      exact k _ fun b o q => sm b o (sm2 b o q)
  · refine ⟨a, ts.map sx, rfl, .inr ⟨SqT.of e, ?_⟩⟩
    refine for_it (walk_enumT (xs := ts.map sx)) (fun i σ' H' => ∃ x2 x3, σ' = [some (.int n), some (.ref a), x2, x3] ∧ Same H2 H') ⟨_, _, rfl, Same.refl H2⟩ (fun i σ' H' _ h => let ⟨_, _, _, s⟩ := h; SqT.of (s _ _ e)) ?_ ?_
    · rintro i x σ' H3 H4 hi ⟨x2, x3, rfl, sm⟩ ⟨T2, y, z, rfl, nT2, rfl, e5, e6⟩
      obtain rfl : y = .int (i : Nat) := (Option.some.inj e5).symm
      obtain ⟨t, ht, rfl⟩ : ∃ t, ts[i]? = some t ∧ z = sx t := by
        dsimp only at e6
        rw [List.getElem?_map] at e6
        cases q : ts[i]? with
        | none => rw [q] at e6; cases e6
        | some t => rw [q] at e6; exact ⟨t, rfl, (Option.some.inj e6).symm⟩
      obtain ⟨hb, hl⟩ := hf t (List.mem_of_getElem? ht)
      have sm3 : Same H2 (upd H3 T2 (.tup [.int (i : Nat), sx t])) := fun b o q => updn (nonn nT2 (sm b o q)) (sm b o q)
      refine ⟨T2, [.int (i : Nat), sx t], rfl, SqT.of upd_same, rfl, ?_⟩
      refine ⟨_, _, rfl, ?_⟩
      refine ⟨_, _, rfl, ?_⟩
      refine ⟨rfl, ?_⟩
      refine ⟨_, rfl, ?_⟩
      refine ⟨_, rfl, ?_⟩
      refine it_go (by omega) (by omega) (by rw [sx_len]; omega) fun H5 sm5 => ?_
      rw [str_ok hb hl]
      refine ⟨_, rfl, iteF ?_⟩
      exact ⟨_, _, rfl, fun b o q => sm5 b o (sm3 b o q)⟩
    · rintro σ' H3 ⟨x2, x3, rfl, sm⟩
      exact k _ fun b o q => sm b o (sm2 b o q)
theorem ok_number (F : Fun K "number" "number" s_number f fd) (hm : mg "number" = some (.ref f)) (T : Txt K mg) (c_check_stretch : Nm P w K mg base CX0 5 "check_stretch" s_check_stretch ["width", "stretch"] (spCT strB)) : Nm P w K mg base CX0 6 "number" s_number ["width", "stretch"] (spNum) := by
  refine nm_of0 F hm sc_number (fun vs H Q E h => ?_) fun cdv A outer s H vs Q E hr h => ?_
  · unfold spNum at h
    obtain ⟨n, t, rfl, h0, h1, hb, hl, k⟩ := h
    subst_vars
    rfl
  unfold spNum at h
  obtain ⟨n, t, rfl, h0, h1, hb, hl, k⟩ := h
  refine ⟨_, (pss_cons (ps_expr (pe_g c_check_stretch hr (by decide) L2.pass0 bp_check_stretch (by rfl) (pa_cons (pv 0) (pa_cons (pv 1) pa_nil))))
      (pss_cons (ps_set (i := 2) sc_number.nd rfl (by first | exact Or.inl rfl | exact Or.inr rfl) pe_int)
      (pss_cons (ps_for PassesOwn.never rfl (pi_range1 (by rfl) T.b_range (pa_cons (pe_op op_sub (pv 0) (pe_callB (call_lenK (K := K) rfl) (by rfl) T.b_len PySem.boot_len (pa_cons (pv 1) pa_nil))) pa_nil)) (pg_name (i := 3) sc_number.nd rfl (by first | exact Or.inl rfl | exact Or.inr rfl)) (pss_one (ps_set (i := 2) sc_number.nd rfl (by first | exact Or.inl rfl | exact Or.inr rfl) (pe_op op_mul (pv 2) pe_int))))
      (pss_one (ps_ret (pv 2)))))), ?_⟩
  refine ⟨_, rfl, ?_⟩
  refine ⟨_, rfl, ?_⟩
  refine ct_go (by omega) (by omega) (by rw [sx_len]; omega) (str_ok hb hl) fun H1 sm1 => ?_
  refine ⟨_, rfl, ⟨_, rfl, ⟨_, _, rfl, ⟨szl (by rw [sx_len]; omega), rfl⟩, ⟨_, _, rfl, rfl, ?_⟩⟩⟩⟩
  have en : ((n : Int) - ((SX.S t).length : Int)).toNat = n - t.length := by rw [sx_len]; omega
  refine ⟨_, rfl, by rw [sx_len]; omega, by omega, ?_⟩
  rw [en]
  refine for_it walk_range (fun i σ' H' => ∃ x3, σ' = [some (.int n), some (sx t), some (.int ((2 ^ i : Nat) : Int)), x3] ∧ H' = H1) ⟨_, rfl, rfl⟩ (fun _ _ _ _ _ => trivial) ?_ ?_
  · rintro i x σ' H2 H3 hi ⟨x3, rfl, rfl⟩ ⟨rfl, rfl⟩
    refine ⟨_, rfl, ?_⟩
    refine ⟨_, _, rfl, rfl, .inr ⟨by decide, by decide⟩, ?_⟩
    rw [Nat.pow_succ, Int.natCast_mul]
    exact ⟨_, rfl, rfl⟩
  · rintro σ' H2 ⟨x3, rfl, rfl⟩
    refine ⟨_, rfl, ?_⟩
    exact k _ sm1
theorem ok_first (F : Fun K "first" "first" s_first f fd) (hm : mg "first" = some (.ref f)) (T : Txt K mg) (c_check_stretch : Nm P w K mg base CX0 5 "check_stretch" s_check_stretch ["width", "stretch"] (spCT strB)) : Nm P w K mg base CX0 6 "first" s_first ["width", "stretch"] (spFirst) := by
  refine nm_of F hm sc_first (fun vs H Q E h => ?_) fun cdv A outer s H vs Q E hr h => ?_
  · unfold spFirst at h
    obtain ⟨n, t, rfl, h0, h1, hb, hl, k⟩ := h
    subst_vars
    rfl
  unfold spFirst at h
  obtain ⟨n, t, rfl, h0, h1, hb, hl, k⟩ := h
  refine ⟨_, (pss_cons (ps_expr (pe_g c_check_stretch hr (by decide) L2.pass0 bp_check_stretch (by rfl) (pa_cons (pv 0) (pa_cons (pv 1) pa_nil))))
      (pss_one (ps_ret (pe_bm PySem.F.plainAttrs_str PySem.F.slot_str_ljust PySem.F.type_str_ljust mt_ljust2 (pv 1) (pa_cons (pv 0) (pa_cons pe_str pa_nil)))))), ?_⟩
  refine ⟨_, rfl, ?_⟩
  refine ⟨_, rfl, ?_⟩
  refine ct_go (by omega) (by omega) (by rw [sx_len]; omega) (str_ok hb hl) fun H1 sm1 => ?_
  refine ⟨_, rfl, ?_⟩
  have hp : PadOk (n : Int) = true := pad_ok h1
  refine ⟨rfl, ⟨_, rfl, ⟨SX.S t, n, "0", rfl, rfl, hp, rfl, ?_⟩⟩⟩
  have hk := k _ sm1
  unfold sx at hk
  rw [← lj_eq hl] at hk
  exact hk
end
open PySem PySem.Spec PyProof.Rows
open L2 hiding pass0
abbrev s_longest_beginning : Stmt := top 23
theorem sc_longest_beginning : FnScope ["known", "bits", "length"] ["known", "bits"] (defScope s_longest_beginning) := ⟨rfl, rfl, rfl, by decide +kernel, rfl, by decide +kernel, by decide +kernel⟩
theorem bp_longest_beginning : BndP "longest_beginning" s_longest_beginning ["known", "bits"] := fun _ _ _ _ _ _ us h => match us, h with | [_, _], _ => rfl
abbrev s_with_all : Stmt := top 24
theorem sc_with_all : FnScope ["stretches", "stretch"] ["stretches"] (defScope s_with_all) := ⟨rfl, rfl, rfl, by decide +kernel, rfl, by decide +kernel, by decide +kernel⟩
theorem bp_with_all : BndP "_with_all" s_with_all ["stretches"] := fun _ _ _ _ _ _ us h => match us, h with | [_], _ => rfl
/-! ### dicts of stretches -/
def skey (t : List Nat) : Key := Sum.inr (SX.S t)
theorem skey_inj {a b : List Nat} (h : skey a = skey b) : a = b := S_inj (Sum.inr.inj h)
def fd (ks : List (List Nat)) (g : List Nat → V) : List (Key × V) := ks.map fun t => (skey t, g t)
theorem fd_len (ks : List (List Nat)) (g : List Nat → V) : (fd ks g).length = ks.length := List.length_map ..
theorem fd_keys (ks : List (List Nat)) (g : List Nat → V) : (fd ks g).map (·.1) = (ks.map SX.S).map Sum.inr := by
  unfold fd
  rw [List.map_map, List.map_map]
  rfl
theorem fd_get (ks : List (List Nat)) (g : List Nat → V) (i : Nat) : (fd ks g)[i]? = (ks[i]?).map fun t => (skey t, g t) := List.getElem?_map ..
theorem fd_val {ks : List (List Nat)} {g : List Nat → V} {t : List Nat} : valV (fd ks g) (skey t) = if t ∈ ks then some (g t) else none := by
  induction ks with
  | nil => rfl
  | cons s ks ih =>
    show valV ((skey s, g s) :: fd ks g) (skey t) = _
    by_cases e : s = t
    · subst e
      rw [valV_pos rfl, if_pos (List.mem_cons_self ..)]
    · rw [valV_neg (fun q => e (skey_inj q)), ih]
      by_cases m : t ∈ ks
      · rw [if_pos m, if_pos (List.mem_cons_of_mem _ m)]
      · rw [if_neg m, if_neg (fun q => (List.mem_cons.mp q).elim (fun q => e q.symm) m)]
theorem fd_has {ks : List (List Nat)} {g : List Nat → V} {t : List Nat} : (valV (fd ks g) (skey t)).isSome = decide (t ∈ ks) := by
  rw [fd_val]
  by_cases m : t ∈ ks <;> simp [m]
theorem fd_congr {ks : List (List Nat)} {g g' : List Nat → V} (h : ∀ t ∈ ks, g t = g' t) : fd ks g = fd ks g' := List.map_congr_left fun t ht => by rw [h t ht]
def fup {α : Type} (g : List Nat → α) (t : List Nat) (v : α) : List Nat → α := fun x => if x = t then v else g x
theorem fup_at {α : Type} {g : List Nat → α} {t : List Nat} {v : α} : fup g t v t = v := if_pos rfl
theorem fup_ne {α : Type} {g : List Nat → α} {t x : List Nat} {v : α} (h : x ≠ t) : fup g t v x = g x := if_neg h
theorem fd_any {ks : List (List Nat)} {g : List Nat → V} {t : List Nat} : ((fd ks g).any fun kv => decide (kv.1 = skey t)) = decide (t ∈ ks) := by
  rw [valV_any, fd_has]
theorem fd_put {ks : List (List Nat)} {g : List Nat → V} {t : List Nat} {v : V} : putK (fd ks g) (skey t) v = fd (if t ∈ ks then ks else ks ++ [t]) (fup g t v) := by
  unfold putK
  rw [fd_any]
  by_cases m : t ∈ ks
  · rw [decide_eq_true m, if_pos rfl, if_pos m]
    unfold fd
    rw [List.map_map]
    refine List.map_congr_left fun s hs => ?_
    show (if skey s = skey t then (skey s, v) else (skey s, g s)) = _
    by_cases e : s = t
    · rw [if_pos (by rw [e]), e, fup_at]
    · rw [if_neg (fun q => e (skey_inj q)), fup_ne e]
  · rw [decide_eq_false m, if_neg Bool.false_ne_true, if_neg m]
    unfold fd
    rw [List.map_append]
    show _ = _ ++ [(skey t, fup g t v t)]
    rw [fup_at]
    congr 1
    exact List.map_congr_left fun s hs => by rw [fup_ne (fun q : s = t => m (q ▸ hs))]
/-! ### the longest beginning -/
@[irreducible] def spLB : Sp := fun vs H Q _ => ∃ (D : Addr) (ks : List (List Nat)) (g : List Nat → V) (a : List Nat), vs = [.ref D, sx a] ∧ Rd H D (.dK (fd ks g)) ∧ [] ∈ ks ∧ a.length ≤ 1000 ∧ ∀ H', Same H H' → Q (sx (M.lg ks a)) H'
theorem lb_go {D : Addr} {ks : List (List Nat)} {g : List Nat → V} {a : List Nat} {H : Hp} {Q : VK} {E : XK} (hD : Rd H D (.dK (fd ks g))) (h0 : [] ∈ ks) (hl : a.length ≤ 1000) (k : ∀ H', Same H H' → Q (sx (M.lg ks a)) H') : spLB [.ref D, sx a] H Q E := by
  unfold spLB
  exact ⟨D, ks, g, a, rfl, hD, h0, hl, k⟩
theorem cut_S (t : List Nat) {d : Int} {k : Nat} (h : d = k) : cutS (SX.S t) none (some d) = SX.S (t.take k) := by
  subst h
  show SX.S _ = SX.S _
  refine congrArg SX.S ?_
  show ((SX.S t).cps.toList.drop 0).take (HT.sIx (SX.S t).length (SX.S t).length (some (k : Int)) - 0) = t.take k
  rw [HT.sIx_nat, List.drop_zero, Nat.sub_zero, tl_S, sx_len]
  by_cases c : k ≤ t.length
  · rw [Nat.min_eq_left c]
  · rw [List.take_of_length_le (by omega), List.take_of_length_le (by omega)]
theorem rd_same {H H' : Hp} {a : Addr} {o : HO} (h : Rd H a o) (s : Same H H') : Rd H' a o := h.elim (fun e => .inl (s _ _ e)) fun ⟨b, e⟩ => .inr ⟨b, s _ _ e⟩
/-! ### stretches in order, each once -/
def stp (acc : List Str) (z : Str) : List Str := if z ∈ acc then acc else acc ++ [z]
def dd (zs : List Str) : List Str := zs.foldl stp []
theorem fold_mem : ∀ (zs acc : List Str) {z : Str}, z ∈ zs.foldl stp acc ↔ z ∈ acc ∨ z ∈ zs
  | [], acc, z => by simp
  | y :: zs, acc, z => by
    rw [List.foldl_cons, fold_mem zs]
    unfold stp
    by_cases m : y ∈ acc
    · rw [if_pos m]
      constructor
      · rintro (h | h)
        · exact .inl h
        · exact .inr (List.mem_cons_of_mem _ h)
      · rintro (h | h)
        · exact .inl h
        · rcases List.mem_cons.mp h with h | h
          · exact .inl (h ▸ m)
          · exact .inr h
    · rw [if_neg m, List.mem_append, List.mem_singleton, List.mem_cons, or_assoc]
theorem fold_sub : ∀ (zs acc : List Str), (zs.foldl stp acc).Sublist (acc ++ zs)
  | [], acc => by simp
  | y :: zs, acc => by
    rw [List.foldl_cons]
    refine (fold_sub zs _).trans ?_
    unfold stp
    split
    · exact (List.Sublist.refl acc).append (List.sublist_cons_self y zs)
    · rw [List.append_assoc]
      exact List.Sublist.refl _
theorem fold_nd : ∀ (zs acc : List Str), acc.Nodup → (zs.foldl stp acc).Nodup
  | [], acc, h => h
  | y :: zs, acc, h => by
    rw [List.foldl_cons]
    refine fold_nd zs _ ?_
    unfold stp
    split
    · exact h
    · rename_i m
      exact List.nodup_append.mpr ⟨h, by simp, fun a ha b hb e => m (by rw [List.mem_singleton.mp hb] at e; exact e ▸ ha)⟩
theorem dd_snoc {zs : List Str} {i : Nat} {z : Str} (h : zs[i]? = some z) : dd (zs.take (i + 1)) = stp (dd (zs.take i)) z := by
  unfold dd
  rw [List.take_add_one, h, List.foldl_append]
  rfl
/-- the stretches, that of all addresses ahead -/
def ksOf (ts : List (List Nat)) : List (List Nat) := (dd (tsort (("" : Str) :: ts.map SX.S))).map fun z => z.cps.toList
theorem ks_mem {ts : List (List Nat)} {t : List Nat} : t ∈ ksOf ts ↔ t = [] ∨ t ∈ ts := by
  unfold ksOf dd
  rw [List.mem_map]
  constructor
  · rintro ⟨z, hz, rfl⟩
    rw [fold_mem] at hz
    rcases hz with hz | hz
    · cases hz
    · rcases List.mem_cons.mp ((tsort_perm _).mem_iff.mp hz) with h | h
      · rw [h]; exact .inl rfl
      · obtain ⟨t, ht, rfl⟩ := List.mem_map.mp h
        rw [tl_S]
        exact .inr ht
  · intro h
    refine ⟨SX.S t, ?_, tl_S t⟩
    rw [fold_mem, (tsort_perm _).mem_iff]
    rcases h with rfl | h
    · exact .inr (List.mem_cons_self ..)
    · exact .inr (List.mem_cons_of_mem _ (List.mem_map_of_mem h))
theorem ks_ord (ts : List (List Nat)) : (ksOf ts).Pairwise (· < ·) := by
  unfold ksOf
  rw [List.pairwise_map]
  have h1 : (dd (tsort (("" : Str) :: ts.map SX.S))).Pairwise fun a b => tLt b a = false := by
    have := fold_sub (tsort (("" : Str) :: ts.map SX.S)) []
    rw [List.nil_append] at this
    exact (tsort_ts _).sublist this
  have h2 : (dd (tsort (("" : Str) :: ts.map SX.S))).Pairwise (· ≠ ·) := fold_nd _ [] .nil
  refine (h1.and h2).imp fun {a b} h => ?_
  by_cases c : tLt a b = true
  · exact of_decide_eq_true c
  · exact absurd (tLt_tot (by simpa using c) h.1) h.2
theorem ks_known {n : Nat} {ts : List (List Nat)} (h : Fits n ts) : M.Known n (ksOf ts) := by
  refine ⟨ks_mem.mpr (.inl rfl), fun t ht => ?_, fun t ht => ?_, ks_ord ts⟩
  · rcases ks_mem.mp ht with rfl | ht
    · exact fun c hc => by cases hc
    · exact (h t ht).1
  · rcases ks_mem.mp ht with rfl | ht
    · exact Nat.zero_le _
    · exact (h t ht).2
theorem ord_eq : ∀ {xs ys : List (List Nat)}, xs.Pairwise (· < ·) → ys.Pairwise (· < ·) → (∀ t, t ∈ xs ↔ t ∈ ys) → xs = ys
  | [], [], _, _, _ => rfl
  | [], y :: ys, _, _, h => by have := (h y).mpr (List.mem_cons_self ..); cases this
  | x :: xs, [], _, _, h => by have := (h x).mp (List.mem_cons_self ..); cases this
  | x :: xs, y :: ys, hx, hy, h => by
    have px := List.pairwise_cons.mp hx
    have py := List.pairwise_cons.mp hy
    have e : x = y := by
      rcases List.mem_cons.mp ((h x).mp (List.mem_cons_self ..)) with e | m1
      · exact e
      · rcases List.mem_cons.mp ((h y).mpr (List.mem_cons_self ..)) with e | m2
        · exact e.symm
        · exact absurd (List.lt_trans (px.1 y m2) (py.1 x m1)) (List.lt_irrefl _)
    subst e
    rw [ord_eq px.2 py.2 fun t => ⟨fun m => ?_, fun m => ?_⟩]
    · rcases List.mem_cons.mp ((h t).mp (List.mem_cons_of_mem _ m)) with e | q
      · exact absurd (e ▸ px.1 t m) (List.lt_irrefl _)
      · exact q
    · rcases List.mem_cons.mp ((h t).mpr (List.mem_cons_of_mem _ m)) with e | q
      · exact absurd (e ▸ py.1 t m) (List.lt_irrefl _)
      · exact q
theorem ks_eq {a b : List (List Nat)} (h : ∀ t, t ∈ a ↔ t ∈ b) : ksOf a = ksOf b := ord_eq (ks_ord a) (ks_ord b) fun t => by rw [ks_mem, ks_mem, h]
theorem sub_perm_len {α : Type} {a b : List α} (h : a.Sublist b) : a.length ≤ b.length := h.length_le
theorem ks_len (ts : List (List Nat)) : (ksOf ts).length ≤ ts.length + 1 := by
  unfold ksOf
  rw [List.length_map]
  have h := (fold_sub (tsort (("" : Str) :: ts.map SX.S)) []).length_le
  rw [List.nil_append, (tsort_perm _).length_eq, List.length_cons, List.length_map] at h
  exact h
@[irreducible] def spWA : Sp := fun vs H Q _ => ∃ (a : Addr) (ts : List (List Nat)), vs = [.ref a] ∧ ArgAt H a ts ∧ ts.length ≤ 1000 ∧ ∀ D H', H D = none → Same H H' → H' D = some (.dK (fd (ksOf ts) fun _ => .bl true)) → Q (.ref D) H'
theorem wa_go {a : Addr} {ts : List (List Nat)} {H : Hp} {Q : VK} {E : XK} (ha : ArgAt H a ts) (hl : ts.length ≤ 1000) (k : ∀ D H', H D = none → Same H H' → H' D = some (.dK (fd (ksOf ts) fun _ => .bl true)) → Q (.ref D) H') : spWA [.ref a] H Q E := by
  unfold spWA
  exact ⟨a, ts, rfl, ha, hl, k⟩
theorem dc_it {J : It} {n : Nat} {G : Hp → Prop} {Y : Nat → Hp → V → Hp → Prop} (w : L2.Walk J n G Y) {g : TG} {tt : TT} {tk tv : TE} {vs : List Nat} {σ : L2.St} {H1 : Hp} {D : Addr} {Qd : Hp → Prop} (Pv : Nat → Hp → Prop) (h0 : Pv 0 (upd H1 D (.dK []))) (hG : ∀ i H, i ≤ n → Pv i H → G H)
    (hs : ∀ i x H H', i < n → Pv i H → Y i H x H' → g x (wipe σ vs) H' fun σ2 H2 => wipe σ2 vs = wipe σ vs ∧ tt σ2 H2 fun b H3 =>
      if b = true then tk σ2 H3 fun y H4 => tv σ2 H4 fun z H5 => ∃ kvs k, y = kV k ∧ H5 D = some (.dK kvs) ∧ kvs.length < sizeLine ∧ Pv (i + 1) (upd H5 D (.dK (putK kvs k z))) else Pv (i + 1) H3) (hd : ∀ H, Pv n H → Qd H) :
    ∃ W : Nat → Nat → Hp → Prop, (∃ m, W 0 m (upd H1 D (.dK []))) ∧ ∀ i m H, W i m H →
      (J.stop i H ∧ Qd H) ∨ (J.go i H ∧ ∃ Nx : Hp → Prop, (∀ H', Nx H' → ∃ m', m' < m ∧ W (i + 1) m' H') ∧ ∀ x H', J.yld i H x H' → g x (wipe σ vs) H' fun σ2 H2 => wipe σ2 vs = wipe σ vs ∧ tt σ2 H2 fun b H3 =>
        if b = true then tk σ2 H3 fun y H4 => tv σ2 H4 fun z H5 => ∃ kvs k, y = kV k ∧ H5 D = some (.dK kvs) ∧ kvs.length < sizeLine ∧ Nx (upd H5 D (.dK (putK kvs k z))) else Nx H3) := by
  refine ⟨fun i m H => m = n - i ∧ i ≤ n ∧ Pv i H, ⟨n, by simp, Nat.zero_le _, h0⟩, ?_⟩
  rintro i m H ⟨rfl, hi, p⟩
  have q := hG i H hi p
  by_cases hlt : i < n
  · refine .inr ⟨w.goes i H hlt q, Pv (i + 1), fun H' p' => ⟨n - (i + 1), by omega, rfl, hlt, p'⟩, fun x H' y => hs i x H H' hlt p (w.yields i H x H' hlt q y)⟩
  · have e : i = n := by omega
    subst e
    exact .inl ⟨w.stops H q, hd H p⟩
section
variable {P : Program} {w : World} {K : PySem.W.Frag} {mg : Str → Option Value} {base : Heap} {f : Addr} {fd' : FuncData}
theorem ok_longest (F : Fun K "longest_beginning" "longest_beginning" s_longest_beginning f fd') (hm : mg "longest_beginning" = some (.ref f)) (T : Txt K mg) : Nm P w K mg base CX0 1 "longest_beginning" s_longest_beginning ["known", "bits"] (spLB) := by
  refine nm_of0 F hm sc_longest_beginning (fun vs H Q E h => ?_) fun cdv A outer s H vs Q E hr h => ?_
  · unfold spLB at h
    obtain ⟨D, ks, g, a, rfl, hD, h0, hl, k⟩ := h
    subst_vars
    rfl
  unfold spLB at h
  obtain ⟨D, ks, g, a, rfl, hD, h0, hl, k⟩ := h
  refine ⟨_, (pss_cons (ps_for PassesOwn.never rfl (pi_range3 (by rfl) T.b_range (pa_cons (pe_callB (call_lenK (K := K) rfl) (by rfl) T.b_len PySem.boot_len (pa_cons (pv 1) pa_nil)) (pa_cons (pe_un un_neg pe_int) (pa_cons (pe_un un_neg pe_int) pa_nil)))) (pg_name (i := 2) sc_longest_beginning.nd rfl (by first | exact Or.inl rfl | exact Or.inr rfl)) (pss_one (ps_if (pt_cmp (pc_din hr.u1 (pe_slice sl_str (pv 1) po_none (po_some (pv 2))) (pv 0))) (pss_one (ps_ret (pe_slice sl_str (pv 1) po_none (po_some (pv 2))))) pss_nil)))
      (pss_one (ps_ret pe_non))), ?_⟩
  have en : (((SX.S a).length : Int) - (-1)).toNat = a.length + 1 := by rw [sx_len]; omega
  refine ⟨_, rfl, ⟨_, _, rfl, ⟨szl (by rw [sx_len]; omega), rfl⟩, ?_⟩⟩
  repeat walk_at "s1"
  refine ⟨_, _, _, _, rfl, RgC.neg (by rw [sx_len]; omega) (by omega) (by omega) (by omega), ?_⟩
  rw [en]
  refine for_it walk_rangeC (fun i σ' H' => ∃ x2, σ' = [some (.ref D), some (sx a), x2] ∧ Same H H' ∧ i ≤ a.length ∧ M.lg ks a = M.lgN ks a (a.length - i)) ⟨_, rfl, Same.refl H, Nat.zero_le _, rfl⟩ (fun _ _ _ _ _ => trivial) ?_ ?_
  · rintro i x σ' H1 H2 hi ⟨x2, rfl, sm, hle, hg⟩ ⟨rfl, rfl⟩
    repeat walk_at "s1"
    have ej : ((SX.S a).length : Int) + (i : Int) * -1 = ((a.length - i : Nat) : Int) := by rw [sx_len]; omega
    rw [cut_S a ej]
    refine ⟨D, _, rfl, .inl ⟨fd ks g, skey (a.take (a.length - i)), rd_same hD sm, rfl, rfl⟩, ?_⟩
    rw [fd_has]
    by_cases hc : a.take (a.length - i) ∈ ks
    · rw [decide_eq_true hc]
      refine ⟨_, rfl, iteT ?_⟩
      repeat walk_at "s1"
      rw [cut_S a ej]
      have e : M.lg ks a = a.take (a.length - i) := by
        rw [hg]
        generalize a.length - i = j at hc
        cases j with
        | zero => rfl
        | succ j => exact if_pos hc
      have hk := k _ sm
      rw [e] at hk
      exact hk
    · rw [decide_eq_false hc]
      refine ⟨_, rfl, iteF ?_⟩
      have hi0 : i < a.length := by
        refine Nat.lt_of_le_of_ne hle fun q => hc ?_
        rw [q, Nat.sub_self]
        exact h0
      refine ⟨_, rfl, sm, by omega, ?_⟩
      obtain ⟨j, hj⟩ : ∃ j, a.length - i = j + 1 := ⟨a.length - i - 1, by omega⟩
      rw [hg, show a.length - (i + 1) = j by omega, hj]
      rw [hj] at hc
      exact if_neg hc
  · rintro σ' H1 ⟨x2, rfl, sm, hle, hg⟩
    omega
theorem ok_with_all (F : Fun K "_with_all" "_with_all" s_with_all f fd') (hm : mg "_with_all" = some (.ref f)) (T : Txt K mg) : Nm P w K mg base CX0 1 "_with_all" s_with_all ["stretches"] (spWA) := by
  refine nm_of F hm sc_with_all (fun vs H Q E h => ?_) fun cdv A outer s H vs Q E hr h => ?_
  · unfold spWA at h
    obtain ⟨a, ts, rfl, ha, hl, k⟩ := h
    subst_vars
    rfl
  unfold spWA at h
  obtain ⟨a, ts, rfl, ha, hl, k⟩ := h
  refine ⟨_, (pss_one (ps_ret (pe_dc (own := [("stretch", 1)]) (g := (gName 1)) (by rfl) sc_with_all.nd (pi_listK (K := K) rfl (pe_callBK (cr_sortK hr.u) (by rfl) T.b_sorted (by decide +kernel) (pa_cons (pe_lst (pa_cons pe_str (StX.pa_star (pv 0) pa_nil))) pa_nil) (pk_cons (pe_ty "str" (by rfl) T.b_str (by decide +kernel)) pk_nil))) (blkOk_by (own := [("stretch", 1)]) (N := ["stretches", "stretch"]) (sc := defScope s_with_all) (by decide +kernel)) (fun _ _ _ _ _ => (pg_name (i := 1) sc_with_all.nd rfl (by first | exact Or.inl rfl | exact Or.inr rfl))) (fun _ _ _ _ _ => pts_nil) (fun _ _ _ _ _ => (pv 1)) (fun _ _ _ _ _ => pe_bl)))), ?_⟩
  refine ⟨_, rfl, ?_⟩
  refine ⟨a, ts.map sx, rfl, ha.elim (fun e => .inr (SqL.of e)) fun e => .inl (SqT.of e), ?_⟩
  have eL : (V.str "" :: (ts.map sx ++ [])) = (("" : Str) :: ts.map SX.S).map V.str := by
    rw [List.append_nil, List.map_cons, List.map_map]
    rfl
  refine ⟨szl (by show (V.str "" :: (ts.map sx ++ [])).length ≤ _; rw [eL]; simp; omega), fun L nL => ?_⟩
  have hl2 : (tsort (("" : Str) :: ts.map SX.S)).length ≤ 1001 := by
    rw [(tsort_perm _).length_eq]
    simp
    omega
  refine ⟨L, ("" : Str) :: ts.map SX.S, rfl, rfl, SqL.of (by rw [upd_same]; exact congrArg (fun z => some (HO.lst z)) eL), fun L2 nL2 => ?_⟩
  have k' : ∀ D H', H D = none → Same H H' → H' D = some (.dK (fd ((dd (tsort (("" : Str) :: ts.map SX.S))).map fun z => z.cps.toList) fun _ => .bl true)) → Q (.ref D) H' := k
  generalize tsort (("" : Str) :: ts.map SX.S) = zs at hl2 nL2 k' ⊢
  have sm1 : Same H (upd (upd H L (.lst (V.str "" :: (ts.map sx ++ [])))) L2 (.lst (zs.map V.str))) := fun b o e => updn (nonn nL2 (updn (nonn nL e) e)) (updn (nonn nL e) e)
  have e1 : upd (upd H L (.lst (V.str "" :: (ts.map sx ++ [])))) L2 (.lst (zs.map V.str)) L2 = some (.lst (zs.map V.str)) := upd_same
  generalize upd (upd H L (.lst (V.str "" :: (ts.map sx ++ [])))) L2 (.lst (zs.map V.str)) = H1 at sm1 e1
  refine ⟨L2, rfl, ⟨_, SqL.of e1⟩, fun D nD => ?_⟩
  have nD0 : H D = none := by
    cases q : H D with
    | none => rfl
    | some o => rw [sm1 _ _ q] at nD; cases nD
  refine dc_it (walk_list (xs := zs.map V.str)) (fun i H' => H' D = some (.dK (fd ((dd (zs.take i)).map fun z => z.cps.toList) fun _ => .bl true)) ∧ H' L2 = some (.lst (zs.map V.str)) ∧ Same H H') ⟨upd_same, updn (nonn nD e1) e1, fun b o q => updn (nonn nD0 q) (sm1 b o q)⟩ (fun i H' _ h => SqL.of h.2.1) ?_ ?_
  · rintro i x H2 H3 hi ⟨hD, hL, sm⟩ ⟨rfl, hx⟩
    obtain ⟨z, hz, rfl⟩ : ∃ z, zs[i]? = some z ∧ x = .str z := by
      rw [List.getElem?_map] at hx
      cases e : zs[i]? with
      | none => rw [e] at hx; cases hx
      | some z => rw [e] at hx; exact ⟨z, rfl, (Option.some.inj hx).symm⟩
    refine ⟨rfl, ?_⟩
    dsimp only [tYes]
    rw [if_pos rfl]
    refine ⟨_, rfl, ?_⟩
    have ez : (Sum.inr z : Key) = skey z.cps.toList := by unfold skey; rw [SX.S_tl]
    have ln : (dd (zs.take i)).length ≤ 1001 := by
      have h := (fold_sub (zs.take i) []).length_le
      rw [List.nil_append, List.length_take] at h
      unfold dd
      omega
    refine ⟨_, Sum.inr z, rfl, hD, szt (by rw [fd_len, List.length_map]; omega), ?_, updn (nonn nD e1) hL, fun b o q => updn (nonn nD0 q) (sm b o q)⟩
    rw [upd_same, ez, fd_put, dd_snoc hz]
    have e2 : (if z.cps.toList ∈ (dd (zs.take i)).map (fun z => z.cps.toList) then (dd (zs.take i)).map (fun z => z.cps.toList) else (dd (zs.take i)).map (fun z => z.cps.toList) ++ [z.cps.toList]) = (stp (dd (zs.take i)) z).map fun z => z.cps.toList := by
      unfold stp
      by_cases m : z ∈ dd (zs.take i)
      · rw [if_pos m, if_pos (List.mem_map_of_mem m)]
      · rw [if_neg m, if_neg, List.map_append]
        · rfl
        · intro q
          obtain ⟨y, hy, e⟩ := List.mem_map.mp q
          have : y = z := by rw [← SX.S_tl y, ← SX.S_tl z, e]
          exact m (this ▸ hy)
    rw [e2]
    exact congrArg (fun z => some (HO.dK z)) (fd_congr fun t _ => by unfold fup; split <;> rfl)
  · rintro H2 ⟨hD, hL, sm⟩
    rw [List.length_map, List.take_length] at hD
    exact k' D H2 nD0 sm hD
end
open PySem PySem.Spec PyProof.Rows
open L2 hiding pass0
abbrev s_widest_inside : Stmt := top 25
theorem sc_widest_inside : FnScope ["known", "inside", "stretch"] ["known"] (defScope s_widest_inside) := ⟨rfl, rfl, rfl, by decide +kernel, rfl, by decide +kernel, by decide +kernel⟩
theorem bp_widest_inside : BndP "_widest_inside" s_widest_inside ["known"] := fun _ _ _ _ _ _ us h => match us, h with | [_], _ => rfl
theorem cut_last (t : List Nat) (h : t ≠ []) : cutS (SX.S t) none (some (-1)) = SX.S t.dropLast := by
  show SX.S _ = SX.S _
  refine congrArg SX.S ?_
  show ((SX.S t).cps.toList.drop 0).take (HT.sIx (SX.S t).length (SX.S t).length (some (-1)) - 0) = t.dropLast
  rw [List.drop_zero, Nat.sub_zero, tl_S, sx_len, List.dropLast_eq_take]
  congr 1
  have : 0 < t.length := List.length_pos_iff.mpr h
  unfold HT.sIx
  simp
  omega
/-- the dict of the widest ones inside each: lists of their own at ad; all else but at D stands -/
structure Ins (D : Addr) (H0 H : Hp) (ks : List (List Nat)) (ad : List Nat → Addr) (B : Addr) (vs : List Nat → List (List Nat)) : Prop where
  same : ∀ b o, b ≠ D → H0 b = some o → H b = some o
  newB : H0 B = none
  dict : H B = some (.dK (fd ks fun t => .ref (ad t)))
  lst : ∀ t ∈ ks, H (ad t) = some (.lst ((vs t).map sx))
  new : ∀ t ∈ ks, H0 (ad t) = none
  inj : ∀ s ∈ ks, ∀ t ∈ ks, ad s = ad t → s = t
  offB : ∀ t ∈ ks, ad t ≠ B
section
variable {D B : Addr} {H0 H : Hp} {ks : List (List Nat)} {ad : List Nat → Addr} {vs : List Nat → List (List Nat)}
theorem Ins.updD (h : Ins D H0 H ks ad B vs) {u : HO} (hD : H0 D = some u) (o : HO) : Ins D H0 (upd H D o) ks ad B vs :=
  ⟨fun b u' n e => updn n (h.same b u' n e), h.newB, updn (nonn h.newB hD).symm h.dict, fun t ht => updn (nonn (h.new t ht) hD).symm (h.lst t ht), h.new, h.inj, h.offB⟩
theorem Ins.to {H' : Hp} (h : Ins D H0 H ks ad B vs) (s : Same H H') : Ins D H0 H' ks ad B vs :=
  ⟨fun b u' n e => s _ _ (h.same b u' n e), h.newB, s _ _ h.dict, fun t ht => s _ _ (h.lst t ht), h.new, h.inj, h.offB⟩
theorem Ins.congr {vs' : List Nat → List (List Nat)} (h : Ins D H0 H ks ad B vs) (e : ∀ t ∈ ks, vs t = vs' t) : Ins D H0 H ks ad B vs' :=
  ⟨h.same, h.newB, h.dict, fun t ht => e t ht ▸ h.lst t ht, h.new, h.inj, h.offB⟩
theorem Ins.push (h : Ins D H0 H ks ad B vs) {s : List Nat} (hs : s ∈ ks) (l : List (List Nat)) : Ins D H0 (upd H (ad s) (.lst (l.map sx))) ks ad B (fup vs s l) := by
  refine ⟨fun b u' n e => updn (nonn (h.new s hs) e) (h.same b u' n e), h.newB, updn (h.offB s hs).symm h.dict, fun t ht => ?_, h.new, h.inj, h.offB⟩
  by_cases e : t = s
  · subst e
    rw [upd_same, fup_at]
  · rw [fup_ne e]
    exact updn (fun q => e (h.inj t ht s hs q)) (h.lst t ht)
theorem Ins.all (h : Ins D H0 H ks ad B vs) {u : HO} (hD : H0 D = some u) (e : H D = some u) : Same H0 H := fun b o q => by
  by_cases n : b = D
  · subst n
    rw [hD] at q
    cases q
    exact e
  · exact h.same b o n q
/-- one more key, with a new list -/
theorem Ins.more (h : Ins D H0 H ks ad B fun _ => []) {u : HO} (eD : H D = some u) {t : List Nat} (ht : t ∉ ks) {L : Addr} (nL : H L = none) :
    Ins D H0 (upd (upd H L (.lst [])) B (.dK (putK (fd ks fun t => .ref (ad t)) (skey t) (.ref L)))) (ks ++ [t]) (fup ad t L) B fun _ => [] := by
  have nLD : L ≠ D := fun q => by rw [q, eD] at nL; cases nL
  have nLB : L ≠ B := fun q => by rw [q, h.dict] at nL; cases nL
  have fL : H0 L = none := by
    cases e : H0 L with
    | none => rfl
    | some o => rw [h.same L o nLD e] at nL; cases nL
  have ne : ∀ s ∈ ks, s ≠ t := fun s hs q => ht (q ▸ hs)
  have nLa : ∀ s ∈ ks, ad s ≠ L := fun s hs => nonn nL (h.lst s hs)
  refine ⟨fun b o n e => ?_, h.newB, ?_, fun s hs => ?_, fun s hs => ?_, fun s hs r hr q => ?_, fun s hs => ?_⟩
  · have e1 := h.same b o n e
    exact updn (nonn h.newB e) (updn (nonn nL e1) e1)
  · rw [upd_same, fd_put, if_neg ht]
    exact congrArg (fun z => some (HO.dK z)) (fd_congr fun s hs => by unfold fup; split <;> rfl)
  · rcases List.mem_append.mp hs with hs | hs
    · rw [fup_ne (ne s hs)]
      exact updn (h.offB s hs) (updn (nLa s hs) (h.lst s hs))
    · rw [List.mem_singleton.mp hs, fup_at]
      exact updn nLB upd_same
  · rcases List.mem_append.mp hs with hs | hs
    · rw [fup_ne (ne s hs)]
      exact h.new s hs
    · rw [List.mem_singleton.mp hs, fup_at]
      exact fL
  · rcases List.mem_append.mp hs with hs | hs <;> rcases List.mem_append.mp hr with hr | hr
    · rw [fup_ne (ne s hs), fup_ne (ne r hr)] at q
      exact h.inj s hs r hr q
    · rw [List.mem_singleton.mp hr, fup_at, fup_ne (ne s hs)] at q
      exact absurd q (nLa s hs)
    · rw [List.mem_singleton.mp hs, fup_at, fup_ne (ne r hr)] at q
      exact absurd q.symm (nLa r hr)
    · rw [List.mem_singleton.mp hs, List.mem_singleton.mp hr]
  · rcases List.mem_append.mp hs with hs | hs
    · rw [fup_ne (ne s hs)]
      exact h.offB s hs
    · rw [List.mem_singleton.mp hs, fup_at]
      exact nLB
end
def vsAt (ks : List (List Nat)) (i : Nat) (s : List Nat) : List (List Nat) := (ks.take i).filter fun t => decide (t ≠ [] ∧ M.par ks t = s)
theorem vs_len (ks : List (List Nat)) (i : Nat) (s : List Nat) : (vsAt ks i s).length ≤ ks.length := by
  unfold vsAt
  refine Nat.le_trans (List.length_filter_le _ _) ?_
  rw [List.length_take]
  omega
theorem vs_skip {ks : List (List Nat)} {i : Nat} (h : ks[i]? = some []) (s : List Nat) : vsAt ks (i + 1) s = vsAt ks i s := by
  unfold vsAt
  rw [List.take_add_one, h, List.filter_append]
  simp
theorem vs_more {ks : List (List Nat)} {i : Nat} {t : List Nat} (h : ks[i]? = some t) (ht : t ≠ []) (s : List Nat) : fup (vsAt ks i) (M.par ks t) (vsAt ks i (M.par ks t) ++ [t]) s = vsAt ks (i + 1) s := by
  by_cases e : s = M.par ks t
  · subst e
    rw [fup_at]
    unfold vsAt
    rw [List.take_add_one, h, List.filter_append]
    simp [ht]
  · rw [fup_ne e]
    unfold vsAt
    rw [List.take_add_one, h, List.filter_append]
    simp [Ne.symm e]
theorem nd_of_ord {ks : List (List Nat)} (h : ks.Pairwise (· < ·)) : ks.Nodup := h.imp fun {a b} l => by rintro rfl; exact List.lt_irrefl _ l
theorem take_new {ks : List (List Nat)} (h : ks.Nodup) {i : Nat} {t : List Nat} (e : ks[i]? = some t) : t ∉ ks.take i := by
  intro hin
  have hn : (ks.take (i + 1)).Nodup := (List.take_sublist _ _).nodup h
  rw [List.take_add_one, e] at hn
  exact (List.nodup_append.mp hn).2.2 t hin t (List.mem_singleton.mpr rfl) rfl
theorem key_at {ks : List (List Nat)} {g : List Nat → V} {i : Nat} {k : Key} {v : V} (h : (fd ks g)[i]? = some (k, v)) : ∃ t, ks[i]? = some t ∧ k = skey t ∧ v = g t := by
  rw [fd_get] at h
  cases e : ks[i]? with
  | none => rw [e] at h; cases h
  | some t =>
    rw [e] at h
    cases Option.some.inj h
    exact ⟨t, rfl, rfl, rfl⟩
@[irreducible] def spWI : Sp := fun vs H Q _ => ∃ (n : Nat) (D : Addr) (ks : List (List Nat)), vs = [.ref D] ∧ H D = some (.dK (fd ks fun _ => .bl true)) ∧ M.Known n ks ∧ n ≤ 100 ∧ ks.length ≤ 1001 ∧
  ∀ B ad H', Ins D H H' ks ad B (M.ch ks) → H' D = some (.dK (fd ks fun _ => .bl true)) → Q (.ref B) H'
theorem wi_go {n : Nat} {D : Addr} {ks : List (List Nat)} {H : Hp} {Q : VK} {E : XK} (hD : H D = some (.dK (fd ks fun _ => .bl true))) (kn : M.Known n ks) (hn : n ≤ 100) (hl : ks.length ≤ 1001)
    (k : ∀ B ad H', Ins D H H' ks ad B (M.ch ks) → H' D = some (.dK (fd ks fun _ => .bl true)) → Q (.ref B) H') : spWI [.ref D] H Q E := by
  unfold spWI
  exact ⟨n, D, ks, rfl, hD, kn, hn, hl, k⟩
section
variable {P : Program} {w : World} {K : PySem.W.Frag} {mg : Str → Option Value} {base : Heap} {f : Addr} {fd' : FuncData}
theorem ok_widest (F : Fun K "_widest_inside" "_widest_inside" s_widest_inside f fd') (hm : mg "_widest_inside" = some (.ref f)) (T : Txt K mg) (c_longest_beginning : Nm P w K mg base CX0 1 "longest_beginning" s_longest_beginning ["known", "bits"] (spLB)) : Nm P w K mg base CX0 2 "_widest_inside" s_widest_inside ["known"] (spWI) := by
  refine nm_of0 F hm sc_widest_inside (fun vs H Q E h => ?_) fun cdv A outer s H vs Q E hr h => ?_
  · unfold spWI at h
    obtain ⟨n, D, ks, rfl, hD, kn, hn, hl, k⟩ := h
    subst_vars
    rfl
  unfold spWI at h
  obtain ⟨n, D, ks, rfl, hD, kn, hn, hl, k⟩ := h
  refine ⟨_, (pss_cons (ps_lock (ps_setDc (i := 1) (own := [("stretch", 2)]) (g := (gName 2)) (by rfl) sc_widest_inside.nd rfl rfl (sw_trueD rfl rfl rfl (by decide +kernel)) (pi_keys (pv 0)) (blkOk_by (own := [("stretch", 2)]) (N := ["known", "inside", "stretch"]) (sc := defScope s_widest_inside) (by decide +kernel)) (fun _ _ _ _ _ => (pg_name (i := 2) sc_widest_inside.nd rfl (by first | exact Or.inl rfl | exact Or.inr rfl))) (fun _ _ _ _ _ => pts_nil) (fun _ _ _ _ _ => (pv 2)) (fun _ _ _ _ _ => (pe_lst pa_nil))))
      (pss_cons (ps_lock (ps_for PassesOwn.never rfl (pi_keys (pv 0)) (pg_name (i := 2) sc_widest_inside.nd rfl (by first | exact Or.inl rfl | exact Or.inr rfl)) (pss_one (ps_if (pt_cmpR op_ne (pv 2) pe_str (nomark _)) (pss_one (ps_expr (pe_bm PySem.F.plainAttrs_list PySem.F.slot_list_append PySem.F.type_list_append mt_append (pe_dget hr.u1 (pv 1) (pe_g c_longest_beginning hr (by decide) L2.pass0 bp_longest_beginning (by rfl) (pa_cons (pv 0) (pa_cons (pe_slice sl_str (pv 2) po_none (po_some (pe_un un_neg pe_int))) pa_nil))) (fun _ _ => rfl)) (pa_cons (pv 2) pa_nil)))) pss_nil))))
      (pss_one (ps_ret (pv 1))))), ?_⟩
  show ∃ d u, _
  refine ⟨D, _, hD, trivial, fun od => ?_⟩
  refine ⟨_, rfl, ?_⟩
  refine ⟨D, od, rfl, .inl ⟨_, upd_same, fun B nB => ?_⟩⟩
  have nd := nd_of_ord kn.ord
  have hBD : D ≠ B := nonn nB upd_same
  have nB0 : H B = none := by rw [upd_ne hBD.symm] at nB; exact nB
  refine dc_it walk_keys (fun i H' => (∃ ad, Ins D H H' (ks.take i) ad B fun _ => []) ∧ H' D = some (.frz od (.dK (fd ks fun _ => .bl true)))) ⟨⟨fun _ => 0, fun b o n e => updn (nonn nB0 e) (updn n e), nB0, upd_same, (fun t ht => by cases ht), (fun t ht => by cases ht), (fun t ht => by cases ht), (fun t ht => by cases ht)⟩, updn hBD upd_same⟩ (fun _ H' _ h => h.2) ?_ ?_
  · rintro i x H1 H2 hi ⟨⟨ad, g1⟩, e1⟩ ⟨rfl, key, v, hkv, rfl⟩
    obtain ⟨t, ht, rfl, rfl⟩ := key_at hkv
    refine ⟨rfl, ?_⟩
    dsimp only [tYes]
    rw [if_pos rfl]
    refine ⟨_, rfl, ?_⟩
    refine ⟨szl (Nat.zero_le _), fun L nL => ?_⟩
    have g2 := g1.more e1 (take_new nd ht) nL
    have nLB : B ≠ L := nonn nL g1.dict
    refine ⟨_, skey t, rfl, updn nLB g1.dict, szt (by rw [fd_len, List.length_take]; omega), ⟨fup ad t L, ?_⟩, updn hBD (updn (nonn nL e1) e1)⟩
    rw [List.take_add_one, ht]
    exact g2
  · rintro H1 ⟨⟨ad, g1⟩, e1⟩
    rw [fd_len, List.take_length] at g1
    refine ⟨e1, ?_⟩
    have g2 := (g1.updD hD (.dK (fd ks fun _ => .bl true))).congr (vs' := vsAt ks 0) fun t _ => by unfold vsAt; rfl
    have e2 : upd H1 D (.dK (fd ks fun _ => .bl true)) D = some (.dK (fd ks fun _ => .bl true)) := upd_same
    generalize upd H1 D (.dK (fd ks fun _ => .bl true)) = H2 at g2 e2 ⊢
    clear g1 e1
    show ∃ d u, _
    refine ⟨D, _, e2, trivial, fun od2 => ?_⟩
    refine ⟨_, rfl, ⟨D, od2, rfl, .inl ⟨_, upd_same, ?_⟩⟩⟩
    have g3 := g2.updD hD (.frz od2 (.dK (fd ks fun _ => .bl true)))
    have e3 : upd H2 D (.frz od2 (.dK (fd ks fun _ => .bl true))) D = some (.frz od2 (.dK (fd ks fun _ => .bl true))) := upd_same
    generalize upd H2 D (.frz od2 (.dK (fd ks fun _ => .bl true))) = H3 at g3 e3 ⊢
    clear g2 e2
    refine for_it walk_keys (fun i σ' H' => ∃ x2, σ' = [some (.ref D), some (.ref B), x2] ∧ Ins D H H' ks ad B (vsAt ks i) ∧ H' D = some (.frz od2 (.dK (fd ks fun _ => .bl true)))) ⟨_, rfl, g3, e3⟩ (fun i σ' H' _ h => let ⟨_, _, _, e⟩ := h; e) ?_ ?_
    · clear g3 e3
      rintro i x σ' H4 H5 hi ⟨x2, rfl, g4, e4⟩ ⟨rfl, key, v, hkv, rfl⟩
      obtain ⟨t, ht, rfl, rfl⟩ := key_at hkv
      have htm := List.mem_of_getElem? ht
      refine ⟨_, rfl, ?_⟩
      refine ⟨rfl, ?_⟩
      refine ⟨_, rfl, ?_⟩
      have et : decide (kV (skey t) = V.str "") = decide (t = []) := decide_eq_decide.mpr ⟨fun q => S_inj (V.str.inj q), fun q => by rw [q]; rfl⟩
      rw [et]
      by_cases c : t = []
      · subst c
        rw [decide_eq_true rfl]
        refine iteF ?_
        exact ⟨_, rfl, g4.congr fun s _ => (vs_skip ht s).symm, e4⟩
      · rw [decide_eq_false c]
        refine iteT ?_
        refine ⟨_, rfl, ⟨_, rfl, ⟨_, rfl, ?_⟩⟩⟩
        refine ⟨_, rfl, ?_⟩
        refine ⟨_, rfl, ?_⟩
        have hlt : t.length ≤ n := kn.fit t htm
        refine ⟨SX.S t, rfl, szl (by rw [sx_len]; omega), ?_⟩
        rw [show (-(1 : Int)) = -1 from rfl, cut_last t c]
        have hpar : M.par ks t ∈ ks := (M.lg_is kn.all).mem
        refine lb_go (g := fun _ => .bl true) (.inr ⟨_, e4⟩) kn.all (by rw [List.length_dropLast]; omega) fun H6 s6 => ?_
        have g6 := g4.to s6
        have e6 := s6 _ _ e4
        refine ⟨B, .ref (ad (M.par ks t)), rfl, .inl ⟨_, skey (M.par ks t), .inl g6.dict, rfl, by rw [fd_val, if_pos hpar]⟩, ?_⟩
        have g7 := g6.lst _ hpar
        refine ⟨.inl ⟨rfl, _, SqL.of g7⟩, ?_⟩
        refine ⟨_, rfl, ?_⟩
        refine ⟨_, _, _, rfl, rfl, g7, szt (by rw [List.length_map]; have := vs_len ks i (M.par ks t); omega), ?_⟩
        have g8 := (g6.push hpar (vsAt ks i (M.par ks t) ++ [t])).congr (vs' := vsAt ks (i + 1)) fun s _ => vs_more ht c s
        rw [List.map_append] at g8
        exact ⟨_, rfl, g8, updn (nonn (g6.new _ hpar) hD) e6⟩
    · rintro σ' H4 ⟨x2, rfl, g4, e4⟩
      refine ⟨e4, ?_⟩
      rw [fd_len] at g4
      have g5 := (g4.updD hD (.dK (fd ks fun _ => .bl true))).congr (vs' := M.ch ks) fun s _ => by
        unfold vsAt M.ch
        rw [List.take_length]
      refine ⟨_, rfl, ?_⟩
      exact k B ad _ g5 upd_same
end
namespace M
/-! ## numbers as texts of 0 and 1 -/
theorem dig2 : ∀ (fuel n : Nat) (ds : List Char), n < fuel → ∃ l : List Char, Nat.toDigitsCore 2 fuel n ds = l ++ ds ∧ BL (l.map Char.toNat) ∧ bn (l.map Char.toNat) = n ∧ ∀ w, 1 ≤ w → n < 2 ^ w → l.length ≤ w
  | 0, n, ds, h => absurd h (Nat.not_lt_zero _)
  | fuel + 1, n, ds, h => by
    have e2 : (Nat.digitChar (n % 2)).toNat = 48 + n % 2 := by
      rcases Nat.mod_two_eq_zero_or_one n with q | q <;> rw [q] <;> rfl
    have hb : BL [(Nat.digitChar (n % 2)).toNat] := fun c hc => by
      rw [List.mem_singleton.mp hc, e2]
      omega
    unfold Nat.toDigitsCore
    by_cases c : n / 2 = 0
    · refine ⟨[Nat.digitChar (n % 2)], ?_, hb, ?_, fun w hw _ => hw⟩
      · simp [c]
      · show ((Nat.digitChar (n % 2)).toNat - 48) * 2 ^ 0 + 0 = n
        rw [e2]
        omega
    · obtain ⟨l, h1, h2, h3, h4⟩ := dig2 fuel (n / 2) (Nat.digitChar (n % 2) :: ds) (by omega)
      refine ⟨l ++ [Nat.digitChar (n % 2)], ?_, ?_, ?_, fun w hw hn => ?_⟩
      · simp only [c, if_false]
        rw [h1, List.append_assoc]
        rfl
      · rw [List.map_append]
        exact h2.app hb
      · rw [List.map_append, bn_app, h3]
        show n / 2 * 2 ^ 1 + (((Nat.digitChar (n % 2)).toNat - 48) * 2 ^ 0 + 0) = n
        rw [e2]
        omega
      · rw [List.length_append]
        show l.length + 1 ≤ w
        match w, hw with
        | 1, _ =>
          exfalso
          apply c
          have : n < 2 := by simpa using hn
          omega
        | w + 2, _ =>
          have := h4 (w + 1) (by omega) (by rw [Nat.pow_succ] at hn; omega)
          omega
def dg (n : Nat) : List Nat := (Nat.toDigits 2 n).map Char.toNat
theorem dg_ok (n : Nat) : BL (dg n) ∧ bn (dg n) = n ∧ ∀ w, 1 ≤ w → n < 2 ^ w → (dg n).length ≤ w := by
  obtain ⟨l, h1, h2, h3, h4⟩ := dig2 (n + 1) n [] (Nat.lt_succ_self _)
  have e : Nat.toDigits 2 n = l := by
    unfold Nat.toDigits
    rw [h1, List.append_nil]
  unfold dg
  rw [e]
  exact ⟨h2, h3, fun w a b => by rw [List.length_map]; exact h4 w a b⟩
/-- the address at a place -/
def adr (w v : Nat) : List Nat := List.replicate (w - (dg v).length) 48 ++ dg v
theorem adr_ok {w v : Nat} (hw : 1 ≤ w) (hv : v < 2 ^ w) : BL (adr w v) ∧ (adr w v).length = w ∧ bn (adr w v) = v := by
  have h := dg_ok v
  have l := h.2.2 w hw hv
  unfold adr
  refine ⟨(BL.rep _).app h.1, ?_, ?_⟩
  · rw [List.length_append, List.length_replicate]; omega
  · rw [bn_app, bn_rep, h.2.1]; omega
/-- what a cell tells -/
def cellA (w : Nat) (ts : List (List Nat)) (s : List Nat) : Option (List Nat) := if many w ts s = 0 then none else some (adr w (place w ts s))
theorem find_is {w : Nat} {ts : List (List Nat)} {s : List Nat} (hw : 1 ≤ w) (k : Known w ts) (hs : s ∈ ts) : (addrs w).find? (fun a => decide (lg ts a = s)) = cellA w ts s := by
  unfold cellA
  have f := find_cell k hs
  by_cases c : many w ts s = 0
  · rw [if_pos c, f.1 c]
  · rw [if_neg c]
    obtain ⟨h1, h2⟩ := f.2 c
    have a := adr_ok hw h1
    exact h2 _ a.1 a.2.1 a.2.2
end M
open PySem PySem.Spec PyProof.Rows
open L2 hiding pass0
abbrev s_cell : Stmt := top 26
theorem sc_cell : FnScope ["width", "stretch", "inner", "many", "place", "part"] ["width", "stretch", "inner"] (defScope s_cell) := ⟨rfl, rfl, rfl, by decide +kernel, rfl, by decide +kernel, by decide +kernel⟩
theorem bp_cell : BndP "_cell" s_cell ["width", "stretch", "inner"] := fun _ _ _ _ _ _ us h => match us, h with | [_, _, _], _ => rfl
theorem num_bn (l : List Nat) : B2.num l = M.bn l := by
  unfold B2.num
  rw [M.bn_foldl, Nat.zero_mul, Nat.zero_add]
def oA : Option (List Nat) → V
  | some a => sx a
  | none => .non
def cellS (w : Nat) (s : List Nat) (cs : List (List Nat)) : List V :=
  [sx s, .int ((M.size w s - (cs.map (M.size w)).sum : Nat) : Int), oA (if M.size w s - (cs.map (M.size w)).sum = 0 then none else some (M.adr w (M.scan w (M.lo w s) cs)))]
@[irreducible] def spCell : Sp := fun vs H Q _ => ∃ (n : Nat) (s : List Nat) (a : Addr) (cs : List (List Nat)), vs = [.int n, sx s, .ref a] ∧ 1 ≤ n ∧ n ≤ 100 ∧ M.BL s ∧ s.length ≤ n ∧ H a = some (.lst (cs.map sx)) ∧ cs.length ≤ 1001 ∧ Fits n cs ∧ (cs.map (M.size n)).sum ≤ M.size n s ∧
  (M.size n s - (cs.map (M.size n)).sum ≠ 0 → M.scan n (M.lo n s) cs < 2 ^ n) ∧ ∀ t H', Same H H' → H t = none → H' t = some (.tup (cellS n s cs)) → Q (.ref t) H'
theorem cell_go {n : Nat} {s : List Nat} {a : Addr} {cs : List (List Nat)} {H : Hp} {Q : VK} {E : XK} (h0 : 1 ≤ n) (h1 : n ≤ 100) (hb : M.BL s) (hl : s.length ≤ n) (ha : H a = some (.lst (cs.map sx))) (hc : cs.length ≤ 1001) (hf : Fits n cs) (hs : (cs.map (M.size n)).sum ≤ M.size n s)
    (hp : M.size n s - (cs.map (M.size n)).sum ≠ 0 → M.scan n (M.lo n s) cs < 2 ^ n) (k : ∀ t H', Same H H' → H t = none → H' t = some (.tup (cellS n s cs)) → Q (.ref t) H') : spCell [.int n, sx s, .ref a] H Q E := by
  unfold spCell
  exact ⟨n, s, a, cs, rfl, h0, h1, hb, hl, ha, hc, hf, hs, hp, k⟩
theorem sum_cast {α : Type} (g : α → Nat) : ∀ l : List α, (l.map fun x => ((g x : Nat) : Int)).sum = (((l.map g).sum : Nat) : Int)
  | [] => rfl
  | x :: l => by rw [List.map_cons, List.sum_cons, sum_cast g l, List.map_cons, List.sum_cons]; omega
theorem zf_eq {n v : Nat} (h : (M.dg v).length ≤ n) : Txt.zfill ⟨(FB.dg v).toArray⟩ (n : Int) = SX.S (M.adr n v) := by
  have e : FB.dg v = M.dg v := rfl
  rw [e]
  have hb := (M.dg_ok v).1
  unfold Txt.zfill M.adr
  show (if (n : Int) ≤ (((M.dg v).toArray.size : Nat) : Int) then _ else _) = _
  rw [List.size_toArray]
  split
  · rename_i c
    rw [show n - (M.dg v).length = 0 by omega, List.replicate_zero, List.nil_append]
  · rename_i c
    rw [Int.toNat_natCast]
    show zfilled ⟨(M.dg v).toArray⟩ (n - (M.dg v).toArray.size) = _
    rw [List.size_toArray]
    generalize n - (M.dg v).length = m
    cases e2 : M.dg v with
    | nil =>
      unfold zfilled PySem.Builtin.Str.padded SX.S
      simp
    | cons d r =>
      rw [e2] at hb
      rcases hb.hd with q | q <;> (subst q; unfold zfilled PySem.Builtin.Str.padded SX.S; simp)
section
variable {P : Program} {w : World} {K : PySem.W.Frag} {mg : Str → Option Value} {base : Heap} {f : Addr} {fd' : FuncData}
theorem ok_cell (F : Fun K "_cell" "_cell" s_cell f fd') (hm : mg "_cell" = some (.ref f)) (T : Txt K mg) (c_number : Nm P w K mg base CX0 6 "number" s_number ["width", "stretch"] (spNum)) (c_first : Nm P w K mg base CX0 6 "first" s_first ["width", "stretch"] (spFirst)) : Nm P w K mg base CX0 7 "_cell" s_cell ["width", "stretch", "inner"] (spCell) := by
  refine nm_of0 F hm sc_cell (fun vs H Q E h => ?_) fun cdv A outer s H vs Q E hr h => ?_
  · unfold spCell at h
    obtain ⟨n, s0, a, cs, rfl, h0, h1, hb, hl, ha, hc, hf, hs, hp, k⟩ := h
    subst_vars
    rfl
  unfold spCell at h
  obtain ⟨n, s0, a, cs, rfl, h0, h1, hb, hl, ha, hc, hf, hs, hp, k⟩ := h
  refine ⟨_, (pss_cons (ps_set (i := 3) sc_cell.nd rfl (by first | exact Or.inl rfl | exact Or.inr rfl) (pe_op op_sub (pe_g c_number hr (by decide) L2.pass0 bp_number (by rfl) (pa_cons (pv 0) (pa_cons (pv 1) pa_nil))) (pe_callB (cr_sum rfl) (by rfl) T.b_sum (by decide +kernel) (pa_cons (pe_lc (own := [("part", 5)]) (g := (gName 5)) (by rfl) sc_cell.nd (pi_listK (K := K) rfl (pv 2)) (blkOk_by (own := [("part", 5)]) (N := ["width", "stretch", "inner", "many", "place", "part"]) (sc := defScope s_cell) (by decide +kernel)) (fun _ _ _ _ _ => (pg_name (i := 5) sc_cell.nd rfl (by first | exact Or.inl rfl | exact Or.inr rfl))) (fun _ _ _ _ _ => pts_nil) (fun _ _ _ _ _ => (pe_g c_number hr (by decide) L2.pass0 bp_number (by rfl) (pa_cons (pv 0) (pa_cons (pv 5) pa_nil))))) pa_nil))))
      (pss_cons (ps_if (pt_cmpR op_eq (pv 3) pe_int (nomark _)) (pss_one (ps_ret (pe_tup (pa_cons (pv 1) (pa_cons pe_int (pa_cons pe_non pa_nil)))))) pss_nil)
      (pss_cons (ps_set (i := 4) sc_cell.nd rfl (by first | exact Or.inl rfl | exact Or.inr rfl) (pe_callTy call_intB (by rfl) T.b_int (by decide +kernel) (pa_cons (pe_g c_first hr (by decide) L2.pass0 bp_first (by rfl) (pa_cons (pv 0) (pa_cons (pv 1) pa_nil))) (pa_cons pe_int pa_nil))))
      (C8.pss_cut (ps_for PassesOwn.never rfl (pi_listK (K := K) rfl (pv 2)) (pg_name (i := 5) sc_cell.nd rfl (by first | exact Or.inl rfl | exact Or.inr rfl)) (pss_cons (ps_if (pt_cmpR op_ne (pe_callTy call_intB (by rfl) T.b_int (by decide +kernel) (pa_cons (pe_g c_first hr (by decide) L2.pass0 bp_first (by rfl) (pa_cons (pv 0) (pa_cons (pv 5) pa_nil))) (pa_cons pe_int pa_nil))) (pv 4) (nomark _)) (pss_one ps_break) pss_nil)
      (pss_one (ps_set (i := 4) sc_cell.nd rfl (by first | exact Or.inl rfl | exact Or.inr rfl) (pe_op op_add (pv 4) (pe_g c_number hr (by decide) L2.pass0 bp_number (by rfl) (pa_cons (pv 0) (pa_cons (pv 5) pa_nil))))))))
      (pss_one (ps_ret (pe_tup (pa_cons (pv 1) (pa_cons (pv 3) (pa_cons (pe_bm PySem.F.plainAttrs_str PySem.F.slot_str_zfill PySem.F.type_str_zfill mt_zfill (pe_joined1 (pe_fmtB (pv 4))) (pa_cons (pv 0) pa_nil)) pa_nil)))))))))), ?_⟩
  refine ⟨_, rfl, ⟨_, rfl, ?_⟩⟩
  refine num_go h0 h1 hb hl fun H1 sm1 => ?_
  have ha1 := sm1 _ _ ha
  refine ⟨_, rfl, ⟨a, rfl, ⟨_, SqL.of ha1⟩, fun B nB => ?_⟩⟩
  refine lc_it (walk_list (xs := cs.map sx)) (fun i H' => H' B = some (.lst (((cs.take i).map fun c => ((M.size n c : Nat) : Int)).map V.int)) ∧ Same H1 H') ⟨upd_same, fun b o e => updn (nonn nB e) e⟩ (fun i H' _ h => SqL.of (h.2 _ _ ha1)) ?_ ?_
  · rintro i x H2 H3 hi ⟨hB, sm⟩ ⟨rfl, hx⟩
    obtain ⟨c, hcm, rfl⟩ : ∃ c, cs[i]? = some c ∧ x = sx c := by
      rw [List.getElem?_map] at hx
      cases e : cs[i]? with
      | none => rw [e] at hx; cases hx
      | some z => rw [e] at hx; exact ⟨z, rfl, (Option.some.inj hx).symm⟩
    obtain ⟨cb, cl⟩ := hf c (List.mem_of_getElem? hcm)
    refine ⟨rfl, ?_⟩
    dsimp only [tYes]
    rw [if_pos rfl]
    refine ⟨_, rfl, ⟨_, rfl, ?_⟩⟩
    refine num_go h0 h1 cb cl fun H4 s4 => ?_
    refine ⟨_, s4 _ _ hB, szt (by rw [List.length_map, List.length_map, List.length_take]; omega), ?_, fun b o e => updn (nonn nB e) (s4 _ _ (sm _ _ e))⟩
    rw [upd_same, List.take_add_one, hcm, List.map_append, List.map_append]
    rfl
  rintro H2 ⟨hB, sm2⟩
  rw [List.length_map, List.take_length] at hB
  refine ⟨B, _, rfl, SqL.of hB, ?_⟩
  rw [sum_cast (M.size n)]
  refine ⟨_, _, rfl, rfl, ?_⟩
  have sm : Same H H2 := sm1.trans sm2
  clear hB sm2 nB ha1 sm1
  rw [show ((fun i j : Int => V.int (i - j)) ((M.size n s0 : Nat) : Int) (((cs.map (M.size n)).sum : Nat) : Int)) = V.int ((M.size n s0 - (cs.map (M.size n)).sum : Nat) : Int) from congrArg V.int (by omega)]
  have k' := k
  unfold cellS at k'
  generalize M.size n s0 - (cs.map (M.size n)).sum = many at hp k' ⊢
  refine ⟨_, rfl, ⟨rfl, ⟨_, rfl, ?_⟩⟩⟩
  have em : decide (V.int (many : Int) = V.int 0) = decide (many = 0) := decide_eq_decide.mpr ⟨fun q => by have := V.int.inj q; omega, fun q => by rw [q]; rfl⟩
  rw [em]
  by_cases c0 : many = 0
  · subst c0
    rw [decide_eq_true rfl]
    refine iteT ?_
    refine ⟨_, rfl, ⟨szl (by show 3 ≤ 1000000; decide), fun t nT => ?_⟩⟩
    refine k' t _ (fun b o e => updn (nonn nT (sm b o e)) (sm b o e)) ?_ upd_same
    cases e : H t with
    | none => rfl
    | some o => rw [sm _ _ e] at nT; cases nT
  rw [decide_eq_false c0]
  refine iteF ?_
  rw [if_neg c0] at k'
  have hp' := hp c0
  refine ⟨_, rfl, ⟨_, rfl, ?_⟩⟩
  refine first_go h0 h1 hb hl fun H3 s3 => ?_
  have fb := hb.app (M.BL.rep (n - s0.length))
  have fl : (s0 ++ List.replicate (n - s0.length) 48).length = n := by rw [List.length_append, List.length_replicate]; omega
  refine ⟨SX.S (s0 ++ List.replicate (n - s0.length) 48), rfl, (by rw [tl_S]; intro q; rw [q] at fl; simp at fl; omega), by rw [sx_len]; omega, by rw [tl_S]; exact fb, ?_⟩
  rw [tl_S, num_bn, M.lo_first]
  have sm3 := sm.trans s3
  clear s3 sm hp fb fl em
  generalize hG : M.scan n (M.lo n s0) cs = G at hp' k'
  refine ⟨fun σ' H' => ∃ x5, σ' = [some (.int n), some (sx s0), some (.ref a), some (.int many), some (.int (G : Int)), x5] ∧ Same H H', ?_, ?_⟩
  · refine ⟨_, rfl, ⟨a, rfl, ⟨_, SqL.of (sm3 _ _ ha)⟩, ?_⟩⟩
    refine for_it (walk_list (xs := cs.map sx)) (fun i σ' H' => ∃ (p : Nat) (x5 : Option V), σ' = [some (.int n), some (sx s0), some (.ref a), some (.int many), some (.int p), x5] ∧ Same H H' ∧ M.scan n p (cs.drop i) = G) ⟨_, _, rfl, sm3, hG⟩ (fun i σ' H' _ h => let ⟨_, _, _, s, _⟩ := h; SqL.of (s _ _ ha)) ?_ ?_
    · clear sm3
      rintro i x σ' H4 H5 hi ⟨p, x5, rfl, sm, hsc⟩ ⟨rfl, hx⟩
      obtain ⟨c, hcm, rfl⟩ : ∃ c, cs[i]? = some c ∧ x = sx c := by
        rw [List.getElem?_map] at hx
        cases e : cs[i]? with
        | none => rw [e] at hx; cases hx
        | some z => rw [e] at hx; exact ⟨z, rfl, (Option.some.inj hx).symm⟩
      obtain ⟨cb, cl⟩ := hf c (List.mem_of_getElem? hcm)
      have ed : cs.drop i = c :: cs.drop (i + 1) := by
        obtain ⟨hlt, e⟩ := List.getElem?_eq_some_iff.mp hcm
        rw [List.drop_eq_getElem_cons hlt, e]
      rw [ed] at hsc
      unfold M.scan at hsc
      refine ⟨_, rfl, ⟨_, rfl, ?_⟩⟩
      refine first_go h0 h1 cb cl fun H6 s6 => ?_
      have fb := cb.app (M.BL.rep (n - c.length))
      have fl : (c ++ List.replicate (n - c.length) 48).length = n := by rw [List.length_append, List.length_replicate]; omega
      refine ⟨SX.S (c ++ List.replicate (n - c.length) 48), rfl, (by rw [tl_S]; intro q; rw [q] at fl; simp at fl; omega), by rw [sx_len]; omega, by rw [tl_S]; exact fb, ?_⟩
      rw [tl_S, num_bn, M.lo_first]
      refine ⟨_, rfl, ⟨rfl, ⟨_, rfl, ?_⟩⟩⟩
      have em : decide (V.int ((M.lo n c : Nat) : Int) = V.int (p : Int)) = decide (M.lo n c = p) := decide_eq_decide.mpr ⟨fun q => by have := V.int.inj q; omega, fun q => by rw [q]⟩
      rw [em]
      by_cases c1 : M.lo n c = p
      · rw [decide_eq_true c1]
        rw [if_pos c1] at hsc
        refine iteF ?_
        refine ⟨_, rfl, ⟨_, rfl, ⟨_, rfl, ?_⟩⟩⟩
        refine num_go h0 h1 cb cl fun H7 s7 => ?_
        refine ⟨_, _, rfl, rfl, ?_⟩
        rw [show ((fun i j : Int => V.int (i + j)) (p : Int) ((M.size n c : Nat) : Int)) = V.int ((p + M.size n c : Nat) : Int) from congrArg V.int (by omega)]
        exact ⟨_, _, rfl, (sm.trans s6).trans s7, hsc⟩
      · rw [decide_eq_false c1]
        rw [if_neg c1] at hsc
        refine iteT ?_
        refine ⟨some (sx c), ?_, sm.trans s6⟩
        rw [← hsc]
        rfl
    · rintro σ' H4 ⟨p, x5, rfl, sm, hsc⟩
      rw [List.length_map, List.drop_length] at hsc
      exact ⟨x5, by rw [← hsc]; rfl, sm⟩
  · rintro σ' H4 ⟨x5, rfl, sm⟩
    refine ⟨_, rfl, ⟨_, rfl, ?_⟩⟩
    have hd := (M.dg_ok G).2.2 n h0 hp'
    refine ⟨_, rfl, ⟨G, rfl, (by show (M.dg G).length ≤ 1000; omega), ?_⟩⟩
    refine ⟨rfl, ⟨_, rfl, ⟨_, n, rfl, rfl, pad_ok h1, ?_⟩⟩⟩
    rw [zf_eq hd]
    refine ⟨szl (by show 3 ≤ 1000000; decide), fun t nT => ?_⟩
    refine k' t _ (fun b o e => updn (nonn nT (sm b o e)) (sm b o e)) ?_ upd_same
    cases e : H t with
    | none => rfl
    | some o => rw [sm _ _ e] at nT; cases nT
end
open PySem PySem.Spec PyProof.Rows
open L2 hiding pass0
abbrev s_cells : Stmt := top 21
theorem sc_cells : FnScope ["width", "stretches", "inside", "stretch", "inner"] ["width", "stretches"] (defScope s_cells) := ⟨rfl, rfl, rfl, by decide +kernel, rfl, by decide +kernel, by decide +kernel⟩
theorem bp_cells : BndP "cells" s_cells ["width", "stretches"] := fun _ _ _ _ _ _ us h => match us, h with | [_, _], _ => rfl
abbrev s_cell_of : Stmt := top 22
theorem sc_cell_of : FnScope ["width", "stretches", "address"] ["width", "stretches", "address"] (defScope s_cell_of) := ⟨rfl, rfl, rfl, by decide +kernel, rfl, by decide +kernel, by decide +kernel⟩
theorem bp_cell_of : BndP "cell_of" s_cell_of ["width", "stretches", "address"] := fun _ _ _ _ _ _ us h => match us, h with | [_, _, _], _ => rfl
/-- the tuples of cells at these places -/
inductive Tc (H : Hp) (w : Nat) (ks : List (List Nat)) : List Addr → List (List Nat) → Prop
  | nil : Tc H w ks [] []
  | cons {a : Addr} {s : List Nat} {as : List Addr} {ss : List (List Nat)} : H a = some (.tup [sx s, .int ((M.many w ks s : Nat) : Int), oA (M.cellA w ks s)]) → Tc H w ks as ss → Tc H w ks (a :: as) (s :: ss)
theorem Tc.mono {H H' : Hp} {w : Nat} {ks : List (List Nat)} (k : ∀ a l, H a = some (.tup l) → H' a = some (.tup l)) : ∀ {as : List Addr} {ss : List (List Nat)}, Tc H w ks as ss → Tc H' w ks as ss
  | _, _, .nil => .nil
  | _, _, .cons h r => .cons (k _ _ h) (r.mono k)
theorem Tc.snoc {H : Hp} {w : Nat} {ks : List (List Nat)} {a : Addr} {s : List Nat} (u : H a = some (.tup [sx s, .int ((M.many w ks s : Nat) : Int), oA (M.cellA w ks s)])) : ∀ {as : List Addr} {ss : List (List Nat)}, Tc H w ks as ss → Tc H w ks (as ++ [a]) (ss ++ [s])
  | _, _, .nil => .cons u .nil
  | _, _, .cons h r => .cons h (r.snoc u)
theorem Tc.len {H : Hp} {w : Nat} {ks : List (List Nat)} : ∀ {as : List Addr} {ss : List (List Nat)}, Tc H w ks as ss → as.length = ss.length
  | _, _, .nil => rfl
  | _, _, .cons _ r => congrArg (· + 1) r.len
/-- the cells told at L -/
def Told (H : Hp) (w : Nat) (ks : List (List Nat)) (L : Addr) : Prop := ∃ as : List Addr, H L = some (.lst (as.map V.ref)) ∧ Tc H w ks as ks
@[irreducible] def spCells : Sp := fun vs H Q _ => ∃ (n : Nat) (a : Addr) (ts : List (List Nat)), vs = [.int n, .ref a] ∧ 1 ≤ n ∧ n ≤ 100 ∧ ArgAt H a ts ∧ Fits n ts ∧ ts.length ≤ 1000 ∧ ∀ L H', Same H H' → H L = none → Told H' n (ksOf ts) L → Q (.ref L) H'
@[irreducible] def spCellOf : Sp := fun vs H Q _ => ∃ (n : Nat) (a : Addr) (ts : List (List Nat)) (z : List Nat), vs = [.int n, .ref a, sx z] ∧ 1 ≤ n ∧ n ≤ 100 ∧ ArgAt H a ts ∧ Fits n ts ∧ ts.length ≤ 1000 ∧ M.BL z ∧ z.length = n ∧ ∀ H', Same H H' → Q (sx (M.lg (ksOf ts) z)) H'
theorem cells_go {n : Nat} {a : Addr} {ts : List (List Nat)} {H : Hp} {Q : VK} {E : XK} (h0 : 1 ≤ n) (h1 : n ≤ 100) (ha : ArgAt H a ts) (hf : Fits n ts) (hl : ts.length ≤ 1000) (k : ∀ L H', Same H H' → H L = none → Told H' n (ksOf ts) L → Q (.ref L) H') : spCells [.int n, .ref a] H Q E := by
  unfold spCells
  exact ⟨n, a, ts, rfl, h0, h1, ha, hf, hl, k⟩
theorem cellof_go {n : Nat} {a : Addr} {ts : List (List Nat)} {z : List Nat} {H : Hp} {Q : VK} {E : XK} (h0 : 1 ≤ n) (h1 : n ≤ 100) (ha : ArgAt H a ts) (hf : Fits n ts) (hl : ts.length ≤ 1000) (hz : M.BL z) (lz : z.length = n) (k : ∀ H', Same H H' → Q (sx (M.lg (ksOf ts) z)) H') : spCellOf [.int n, .ref a, sx z] H Q E := by
  unfold spCellOf
  exact ⟨n, a, ts, z, rfl, h0, h1, ha, hf, hl, hz, lz, k⟩
section
variable {P : Program} {w : World} {K : PySem.W.Frag} {mg : Str → Option Value} {base : Heap} {f : Addr} {fd' : FuncData}
theorem ok_cells (F : Fun K "cells" "cells" s_cells f fd') (hm : mg "cells" = some (.ref f)) (T : Txt K mg) (c_check_stretches : Nm P w K mg base CX0 5 "check_stretches" s_check_stretches ["width", "stretches"] (spCS)) (c_with_all : Nm P w K mg base CX0 1 "_with_all" s_with_all ["stretches"] (spWA)) (c_widest_inside : Nm P w K mg base CX0 2 "_widest_inside" s_widest_inside ["known"] (spWI)) (c_cell : Nm P w K mg base CX0 7 "_cell" s_cell ["width", "stretch", "inner"] (spCell)) : Nm P w K mg base CX0 8 "cells" s_cells ["width", "stretches"] (spCells) := by
  refine nm_of F hm sc_cells (fun vs H Q E h => ?_) fun cdv A outer s H vs Q E hr h => ?_
  · unfold spCells at h
    obtain ⟨n, a, ts, rfl, h0, h1, ha, hf, hl, k⟩ := h
    subst_vars
    rfl
  unfold spCells at h
  obtain ⟨n, a, ts, rfl, h0, h1, ha, hf, hl, k⟩ := h
  refine ⟨_, (pss_cons (ps_expr (pe_g c_check_stretches hr (by decide) L2.pass0 bp_check_stretches (by rfl) (pa_cons (pv 0) (pa_cons (pv 1) pa_nil))))
      (pss_cons (ps_set (i := 2) sc_cells.nd rfl (by first | exact Or.inl rfl | exact Or.inr rfl) (pe_g c_widest_inside hr (by decide) L2.pass0 bp_widest_inside (by rfl) (pa_cons (pe_g c_with_all hr (by decide) L2.pass0 bp_with_all (by rfl) (pa_cons (pv 1) pa_nil)) pa_nil)))
      (pss_one (ps_ret (pe_lock (pe_lc (own := [("stretch", 3), ("inner", 4)]) (g := (gTup K 2 (gCons (gName 3) (gCons (gName 4) gNil)))) (by rfl) sc_cells.nd (pi_items (pv 2)) (blkOk_by (own := [("stretch", 3), ("inner", 4)]) (N := ["width", "stretches", "inside", "stretch", "inner"]) (sc := defScope s_cells) (by decide +kernel)) (fun _ _ _ _ _ => (pg_tup (by rfl) (pgs_cons (pg_name (i := 3) sc_cells.nd rfl (by first | exact Or.inl rfl | exact Or.inr rfl)) (pgs_cons (pg_name (i := 4) sc_cells.nd rfl (by first | exact Or.inl rfl | exact Or.inr rfl)) pgs_nil)))) (fun _ _ _ _ _ => pts_nil) (fun _ _ _ _ _ => (pe_g c_cell hr (by decide) L2.pass0 bp_cell (by rfl) (pa_cons (pv 0) (pa_cons (pv 3) (pa_cons (pv 4) pa_nil))))))))))), ?_⟩
  refine ⟨_, rfl, ⟨_, rfl, ?_⟩⟩
  refine cs_go h0 h1 ha hf fun H1 sm1 => ?_
  refine ⟨_, rfl, ?_⟩
  refine wa_go (ha.same sm1) hl fun D H2 nD sm2 hD => ?_
  have kn := ks_known hf
  have kl := ks_len ts
  refine wi_go hD kn h1 (by omega) fun B ad H3 g3 hD3 => ?_
  have sm3 : Same H H3 := (sm1.trans sm2).trans (g3.all hD hD3)
  show ∃ d u, _
  refine ⟨B, _, g3.dict, trivial, fun od => ?_⟩
  refine ⟨_, rfl, ⟨B, od, _, rfl, upd_same, fun L nL => ?_⟩⟩
  have eB : upd H3 B (.frz od (.dK (fd (ksOf ts) fun t => .ref (ad t)))) B = some (.frz od (.dK (fd (ksOf ts) fun t => .ref (ad t)))) := upd_same
  have nLB : B ≠ L := nonn nL eB
  have nL3 : H3 L = none := by rw [upd_ne nLB.symm] at nL; exact nL
  have hB2 : H2 B = none := g3.newB
  have hB0 : H B = none := by
    cases e : H B with
    | none => rfl
    | some o => rw [(sm1.trans sm2) _ _ e] at hB2; cases hB2
  have lists : ∀ s ∈ ksOf ts, upd H3 B (.frz od (.dK (fd (ksOf ts) fun t => .ref (ad t)))) (ad s) = some (.lst ((M.ch (ksOf ts) s).map sx)) := fun s hs => updn (g3.offB s hs) (g3.lst s hs)
  have keep : ∀ b o, b ≠ B → H3 b = some o → upd H3 B (.frz od (.dK (fd (ksOf ts) fun t => .ref (ad t)))) b = some o := fun b o n e => updn n e
  have k0 : ∀ L H', Same H H' → H L = none → Told H' n (ksOf ts) L → Q (.ref L) H' := k
  generalize ksOf ts = ks at *
  generalize upd H3 B (.frz od (.dK (fd ks fun t => .ref (ad t)))) = H4 at nL eB lists keep ⊢
  refine lc_it walk_items (fun i H' => ∃ as : List Addr, H' L = some (.lst (as.map V.ref)) ∧ Tc H' n ks as (ks.take i) ∧ Same H4 H') ⟨[], upd_same, .nil, fun b o e => updn (nonn nL e) e⟩ (fun _ H' _ h => let ⟨_, _, _, s⟩ := h; s _ _ eB) ?_ ?_
  · rintro i x H5 H6 hi ⟨as, hL, hT, sm⟩ ⟨t, x1, x2, rfl, nt, rfl, e1, e2⟩
    obtain ⟨s0, hs0, rfl, rfl⟩ : ∃ s0, ks[i]? = some s0 ∧ x1 = sx s0 ∧ x2 = .ref (ad s0) := by
      dsimp only at e1 e2
      rw [fd_get] at e1 e2
      cases hx : ks[i]? with
      | none => rw [hx] at e1; cases e1
      | some s0 =>
        rw [hx] at e1 e2
        exact ⟨s0, rfl, (Option.some.inj e1).symm, (Option.some.inj e2).symm⟩
    have hm := List.mem_of_getElem? hs0
    have nLt : L ≠ t := nonn nt hL
    have smt : Same H4 (upd H5 t (.tup [sx s0, .ref (ad s0)])) := fun c o e => updn (nonn nt (sm c o e)) (sm c o e)
    refine ⟨t, [sx s0, .ref (ad s0)], rfl, SqT.of upd_same, rfl, ?_⟩
    refine ⟨_, _, rfl, ?_⟩
    refine ⟨_, _, rfl, ?_⟩
    refine ⟨rfl, rfl, ?_⟩
    dsimp only [tYes]
    rw [if_pos rfl]
    refine ⟨_, rfl, ⟨_, rfl, ⟨_, rfl, ?_⟩⟩⟩
    have cm := M.cnt_many kn hm
    have fc := M.find_cell kn hm
    refine cell_go h0 h1 (kn.bits _ hm) (kn.fit _ hm) (smt _ _ (lists s0 hm)) ?_ (fun c hc => ⟨kn.bits c (M.mem_ch.mp hc).1, kn.fit c (M.mem_ch.mp hc).1⟩) cm.2 (fun q => (fc.2 q).1) fun T H7 s7 nT hT7 => ?_
    · have : (M.ch ks s0).length ≤ ks.length := List.length_filter_le _ _
      omega
    have hL7 : H7 L = some (.lst (as.map V.ref)) := s7 _ _ (updn nLt hL)
    have la := hT.len
    refine ⟨_, hL7, szt (by rw [List.length_map, la, List.length_take]; omega), as ++ [T], ?_, ?_, fun b o e => updn (nonn nL e) (s7 _ _ (smt _ _ e))⟩
    · rw [upd_same, List.map_append]
      rfl
    · rw [List.take_add_one, hs0]
      have mono : ∀ b l, H5 b = some (.tup l) → upd H7 L (.lst (as.map V.ref ++ [.ref T])) b = some (.tup l) := fun b l e => by
        have e1 : H7 b = some (.tup l) := s7 _ _ (updn (nonn nt e) e)
        refine updn (fun q => ?_) e1
        rw [q, hL7] at e1
        cases e1
      refine (hT.mono mono).snoc (updn (fun q => ?_) hT7)
      rw [q, hL7] at hT7
      cases hT7
  · rintro H5 ⟨as, hL, hT, sm⟩
    rw [fd_len, List.take_length] at hT
    refine ⟨sm _ _ eB, ?_⟩
    refine k0 L _ (fun b o e => ?_) ?_ ⟨as, updn nLB.symm hL, hT.mono fun b l e => updn (fun q => ?_) e⟩
    · have nb : b ≠ B := fun q => by rw [q, hB0] at e; cases e
      exact updn nb (sm _ _ (keep b o nb (sm3 b o e)))
    · cases e : H L with
      | none => rfl
      | some o => rw [sm3 _ _ e] at nL3; cases nL3
    · rw [q, sm _ _ eB] at e
      cases e
theorem ok_cell_of (F : Fun K "cell_of" "cell_of" s_cell_of f fd') (hm : mg "cell_of" = some (.ref f)) (T : Txt K mg) (c_check_stretches : Nm P w K mg base CX0 5 "check_stretches" s_check_stretches ["width", "stretches"] (spCS)) (c_check_address : Nm P w K mg base CX0 6 "check_address" s_check_address ["width", "address"] (spCT adrB)) (c_with_all : Nm P w K mg base CX0 1 "_with_all" s_with_all ["stretches"] (spWA)) (c_longest_beginning : Nm P w K mg base CX0 1 "longest_beginning" s_longest_beginning ["known", "bits"] (spLB)) : Nm P w K mg base CX0 7 "cell_of" s_cell_of ["width", "stretches", "address"] (spCellOf) := by
  refine nm_of F hm sc_cell_of (fun vs H Q E h => ?_) fun cdv A outer s H vs Q E hr h => ?_
  · unfold spCellOf at h
    obtain ⟨n, a, ts, z, rfl, h0, h1, ha, hf, hl, hz, lz, k⟩ := h
    subst_vars
    rfl
  unfold spCellOf at h
  obtain ⟨n, a, ts, z, rfl, h0, h1, ha, hf, hl, hz, lz, k⟩ := h
  refine ⟨_, (pss_cons (ps_expr (pe_g c_check_stretches hr (by decide) L2.pass0 bp_check_stretches (by rfl) (pa_cons (pv 0) (pa_cons (pv 1) pa_nil))))
      (pss_cons (ps_expr (pe_g c_check_address hr (by decide) L2.pass0 bp_check_address (by rfl) (pa_cons (pv 0) (pa_cons (pv 2) pa_nil))))
      (pss_one (ps_ret (pe_g c_longest_beginning hr (by decide) L2.pass0 bp_longest_beginning (by rfl) (pa_cons (pe_g c_with_all hr (by decide) L2.pass0 bp_with_all (by rfl) (pa_cons (pv 1) pa_nil)) (pa_cons (pv 2) pa_nil))))))), ?_⟩
  refine ⟨_, rfl, ⟨_, rfl, ?_⟩⟩
  refine cs_go h0 h1 ha hf fun H1 sm1 => ?_
  refine ⟨_, rfl, ⟨_, rfl, ?_⟩⟩
  refine ct_go (by omega) (by omega) (by rw [sx_len]; omega) (by
    show (bitsB _ && decide (((SX.S z).length : Int) = n)) = true
    rw [bitsB_of (sx_bits hz), sx_len, decide_eq_true (by omega)]
    rfl) fun H2 sm2 => ?_
  refine ⟨_, rfl, ?_⟩
  refine wa_go ((ha.same sm1).same sm2) hl fun D H3 nD sm3 hD => ?_
  refine ⟨_, rfl, ?_⟩
  refine lb_go (g := fun _ => .bl true) (.inl hD) (ks_known hf).all (by omega) fun H4 sm4 => ?_
  exact k _ (((sm1.trans sm2).trans sm3).trans sm4)
end
open PySem PySem.Spec PyProof.Rows LamX
open L2 hiding pass0
/-! ## a lambda without parameters, handed to a def that calls it, where nothing is being shown -/
/-- a call of the lambda at f, from any state behind (H, s) -/
def LamRun (X : Cx) (s : Shared) (H : Hp) (f c' : Addr) (k : Nat) (tl : XK → Hp → VK → Prop) : Prop :=
  ∀ (A : Around) (outer : List Env) (s1 : Shared) (H1 : Hp) (Q : VK) (E : XK), RoomG (k + 1) A → Env0 X.prog X.w X.K X.mg X.base A outer s1 H1 → Un (frs X.stack) [] H H1 s.heap s1.heap → H1 c' = some (CodeO c' (X.env.qual ++ "<lambda>")) → tl E H1 Q →
    codeAny (model X.prog X.w) A (.call (.ref f) ⟨[], []⟩) (CR (L2.CX X.prog X.w) outer X.prog X.w H1 s1 Q E) s1
section
variable {X : Cx} {pins : List (Addr × Obj)} {σ : L2.St} {H : Hp} {s : Shared}
theorem lam_run {f c' : Addr} {pm ctv : Value} {params : Arguments} {body : Expr} {scope : Scope} {k : Nat} {t : XK → TE} (I : Inv X pins σ H s) (L : LamS X.env.scope scope)
    (hf : s.heap.get? f = some (PySem.W.kla_obj "<lambda>" (X.env.qual ++ "<lambda>") params body scope (cloFrom X.env.cells scope.names []) pm c' ctv)) (hn : H f = none) (hfr : f ∉ frs X.stack)
    (hbind : bindArgs (PySem.W.kla_fn "<lambda>" (X.env.qual ++ "<lambda>") params body scope (cloFrom X.env.cells scope.names []) pm (.ref c') ctv) ⟨[], []⟩ = pure [])
    (hb : ∀ (A : Around) (outer : List Env) (s1 : Shared) (H1 : Hp) (E : XK), RoomG k (A.deeper (lamEnv X scope s1.heap.objs.size f c')) → PE (lamCx X A outer s1 H1 E scope f c') body (t E)) :
    LamRun X s H f c' k fun E H1 Q => t E σ H1 Q := by
  intro A outer s1 H1 Q E hr e0 un hc ht
  have at1 : s1.heap.get? f = some _ := un.keep f _ hf hn hfr (fun z => absurd z (by simp))
  obtain ⟨⟨oc, vs, tk, k1, k2, k3⟩, _, _⟩ := e0.hok c' _ hc
  have lim : s1.heap.NoLimit := e0.mod.nolimit.keeps fun b o e => (e0.bs b o e).1
  refine PySem.W.kla_callFunE hr.r.depth at1 rfl L.co L.gen rfl ⟨c', oc, vs, tk, rfl, k1, k2, k3⟩ ?_
  rw [hbind]
  refine wpAny_pure (wpAny_newFunctionEnv (fun y hy => (L.own y hy).2) (fun y hy => absurd hy (by simp)) (fun h1 n1 b1 => ⟨lim.fresh _ b1, ?_⟩) L.kind)
  have kp : ∀ b o, s1.heap.get? b = some o → h1.get? b = some o := fun b o e => b1.extBut b o (Nat.ne_of_lt (Heap.lt_size e)) (Heap.get?_push_of_some _ e)
  have J : Inv (lamCx X A outer s1 H1 E scope f c') [] σ H1 { s1 with heap := h1, toks := s1.toks + ([] : List (Str × Value)).length } := lam_start2 I L e0 hr.r.hd un n1 kp
  refine PySem.W.kla_codeExpr (wpAny_mono ((hb A outer s1 H1 E (hr.deeper _)).run [] _ _ H1 Q J ht) (fun v s2 z => ?_) fun e s2 z => z)
  obtain ⟨v2, H2, J2, r2, q2⟩ := z
  exact ⟨v2, H2, J2.os, J2.bare, J2.base, J2.hok, r2, q2⟩
/-- a(), a the name of what was handed over: an error is wished for at the slots of that moment -/
theorem pe_lamE {Ng : List Str} {qg a : Str} {sg : Scope} {g f c' : Addr} {cdg : Value} {k i : Nat} {pn : List (Addr × Obj)} {xe : Value → Shared → Prop} {W : WX} {tl : XK → Hp → VK → Prop} {p1 p2 : Pos} {ob : Obj}
    (R : LamRun X s H f c' k tl) (hn : H f = none) (hfr : f ∉ frs X.stack) (hob : s.heap.get? f = some ob) (hfa : ∃ d fd sl, ob = ⟨.type "function", d, .func fd, sl⟩) (hr : RoomG (k + 1) (X.A.deeper (envOfC qg sg s.heap.objs.size g cdg)))
    (tk : Takes ((cxOf C8.CX0 X.prog X.w X.K X.mg X.base Ng qg sg g cdg X.A X.stack s H C8.E0).tr pn xe) W) (hN : Ng[i]? = some a) (hv : Vis sg a) (hd : (a == ("__debug__" : Str)) = false := by decide) (hcd : (a == ("__classdict__" : Str)) = false := by decide) :
    PE ((cxOf C8.CX0 X.prog X.w X.K X.mg X.base Ng qg sg g cdg X.A X.stack s H C8.E0).tr pn xe) (.Call (.Name a p1) [] [] p2) (fun σZ HZ Q => ∃ E : XK, (∀ cls d H', E cls d H' → W cls d σZ H') ∧ σZ[i]? = some (some (.ref f)) ∧ HZ c' = some (CodeO c' (X.env.qual ++ "<lambda>")) ∧ tl E HZ Q) := by
  refine ⟨fun pinsZ sZ σZ HZ Q IZ h => ?_⟩
  obtain ⟨E, hW, h1, h2, h3⟩ := h
  have go := (pe_var (pos := p1) (i := i) hN hv hd hcd).run pinsZ sZ σZ HZ (fun v H1 => v = .ref f ∧ H1 = HZ) IZ ⟨.ref f, h1, rfl, rfl⟩
  refine wpAny_Call_Name_kw (thn go fun u s1 z => ?_)
  obtain ⟨v, H1, I1, r1, rfl, rfl⟩ := z
  obtain rfl : u = Value.ref f := r1
  obtain ⟨d, fd, sl, rfl⟩ := hfa
  have at1 : s1.heap.get? f = some _ := I1.base.keep f _ hob hn hfr (fun z => absurd (show f ∈ ([] : List Addr) from z) (by simp))
  refine PySem.W.callWith_F0 ⟨_, _, _, _, at1⟩ ?_
  refine wpAny_call (codeAny_mono (R _ _ s1 _ Q E hr I1.env0 I1.base h2 h3) fun r s2 z => ?_)
  cases r with
  | error e => exact tk e s2 (XE.of_call I1 (fun cls d H' q => hW cls d H' q) z)
  | ok fl =>
    cases fl with
    | ret u => exact I1.after z
    | next => exact z.elim
    | brk => exact z.elim
    | cont => exact z.elim
/-- the def st of the name x, called with a lambda of the text: TT tells what it makes of the lambda's reading -/
def Given (X : Cx) (Ng : List Str) (x : Str) (st : Stmt) (g : Addr) (cdg : Value) (k : Nat) (TT : (XK → Hp → VK → Prop) → Hp → VK → Prop) : Prop :=
  ∀ (f c' : Addr) (s : Shared) (H : Hp) (Q : VK) (tl : XK → Hp → VK → Prop) (ob : Obj), LamRun X s H f c' k tl → H f = none → f ∉ frs X.stack → s.heap.get? f = some ob → (∃ d fd sl, ob = ⟨.type "function", d, .func fd, sl⟩) → H c' = some (CodeO c' (X.env.qual ++ "<lambda>")) →
    RoomG (k + 1) (X.A.deeper (envOfC x (defScope st) s.heap.objs.size g cdg)) → TT tl H Q →
    ∃ t, PSs (cxOf C8.CX0 X.prog X.w X.K X.mg X.base Ng x (defScope st) g cdg X.A X.stack s H C8.E0) (defBody st) t ∧ t { nx := fun _ H' => Q .non H', rt := Q } (L2.start Ng [.ref f]) H
theorem pe_given {T : List (Addr × Str)} {TT : (XK → Hp → VK → Prop) → Hp → VK → Prop} {x a : Str} {g c P : Addr} {k : Nat} {st : Stmt} {dV kV doc pm cdv ct oc : Value} {an od : Option Addr} {osl : Array (Option Value)} {Ng : List Str} {params : Arguments} {body : Expr} {scope : Scope} {t : XK → TE} {p lpos pos : Pos}
    (lk : X.K.lookup g = some ⟨oc, od, .func (PySem.W.fnOf x x (defArgs st) (defBody st) (defScope st) dV kV doc pm an cdv ct), osl⟩) (hcg : PySem.W.codeIn X.K cdv x = true) (hk : PySem.W.keepIn X.K (.ref g) = true) (hm : X.mg x = some (.ref g)) (hb : Binds X.K (PySem.W.fnOf x x (defArgs st) (defBody st) (defScope st) dV kV doc pm an cdv ct) [a] [])
    (Sg : FnScope Ng [a] (defScope st)) (G : Given X Ng x st g cdv k TT) (TB : TabB X.base X.mg c P) (hcode : X.env.code = .ref c) (hmT : (P, X.env.qual ++ "<lambda>") ∈ T) (hu : ∀ p ∈ T, p.1 = P → p.2 = X.env.qual ++ "<lambda>") (hr : RoomG (k + 2) X.A) (hg : Gl X x)
    (L : LamS X.env.scope scope) (hdef : defaultsOf params X.env = ([], [])) (hbind : ∀ (q : Str) (cl : List (Str × Addr)) (pm cv ctv : Value), bindArgs (PySem.W.kla_fn "<lambda>" q params body scope cl pm cv ctv) ⟨[], []⟩ = pure [])
    (hbody : ∀ (A : Around) (outer : List Env) (s1 : Shared) (H1 : Hp) (E : XK) (f c' : Addr), RoomG k (A.deeper (lamEnv X scope s1.heap.objs.size f c')) → PE (lamCx X A outer s1 H1 E scope f c') body (t E)) (hdb : (x == ("__debug__" : Str)) = false := by decide) :
    PE X (.Call (.Name x p) [.Lambda params body scope lpos] [] pos) (tLam T TT t) := by
  refine ⟨fun pins s σ H Q I z => ?_⟩
  obtain ⟨hT, h⟩ := z
  refine wpAny_Call_Name_kw (ld_glob I hg hm ?_ hdb)
  refine PySem.W.callWith_K (h₀ := X.base) I.ok.mod.kin hk ?_ rfl rfl
  show wpAny _ _ (spliced ((false, eval (.Lambda params body scope lpos) X.env) :: backTo pos (starEach [] X.env))) _ _ s
  refine Calls.spliced_cons (lam_make2 I TB hcode hmT hu hT hdef (L.has I.ok) fun f c' pm1 ctv H1 s1 I1 eN T1 e1 e2 e3 e4 => ?_)
  refine Calls.spliced_nil ⟨I1.kIn, ?_⟩
  have R : LamRun X s1 H1 f c' k fun E H2 Q => t E σ H2 Q := lam_run I1 L e1 e2 e3 (hbind _ _ _ _ _) fun A outer s2 H2 E hr2 => hbody A outer s2 H2 E f c' hr2
  have run := run_ofS (CX := C8.CX0) (E := C8.E0) (N := Ng) (ps := [a]) (us := [.ref f]) (vs := [.ref f]) lk hcg Sg (hr.r.mono (Nat.le_refl _)) I1.env0 (hb s1 [.ref f] I1.kIn rfl) (.cons rfl .nil) rfl fun _ => G f c' s1 H1 Q _ _ R e2 e3 e1 ⟨_, _, _, rfl⟩ e4 (hr.deeper _) (h H1 eN T1)
  refine wpAny_call (codeAny_mono run fun r s2 z => ?_)
  cases r with
  | error e => exact (show False from z).elim
  | ok fl =>
    cases fl with
    | ret u => exact I1.after z
    | next => exact z.elim
    | brk => exact z.elim
    | cont => exact z.elim
end
/-! ## isinstance(e, c) of a caught exception that has its dict -/
def rIsD (K : PySem.W.Frag) (cls : Value) (d : Option Addr) (a : Addr) : List V → Hp → VK → Prop := fun xs H Q => ∃ (D dd : Addr) (fs : List (Str × V)) (c : V) (cv : Value) (b : Bool), cls = .ref D ∧ d = some dd ∧ ExcC K D ∧ H dd = some (.xd fs) ∧ xs = [.ref a, c] ∧ (∀ u, RelV c u → u = cv) ∧ PySem.W.kitOne K (.ref D) cv = some b ∧ Q (.bl b) H
theorem call_isD {X : Cx} {a : Addr} {cls : Value} {d : Option Addr} {oe : Obj} {pn : List (Addr × Obj)} (hz : Zc cls d oe) (hf : ∃ vs, oe.data = .fields vs) : CallR (X.suite a ((a, oe) :: pn)) (.builtin "isinstance") (rIsD X.K cls d a) := by
  intro pins s σ H xs us Q I r h
  obtain ⟨D, dd, fs, c, cv, b, rfl, rfl, C, ed, rfl, hcv, e, q⟩ := h
  match r with
  | .cons rx (.cons rt .nil) =>
    cases rx
    obtain rfl := hcv _ rt
    obtain ⟨ha, _⟩ := I.pin (a, oe) (List.mem_append.mpr (.inl List.mem_cons_self))
    obtain ⟨vs, hv⟩ := hf
    have hx : ObjOk X.prog X.w H s.heap dd (.xd fs) := I.hok dd _ ed
    obtain ⟨mA, hns, _⟩ := hx
    obtain ⟨od, ho, _⟩ := lookIn_ns hns
    have J : PySem.W.InstAt s.heap a oe D (some od) := ⟨ha, hz.1, by unfold PySem.W.notCls; rw [hv] <;> rfl, by rw [hz.2]; exact ho⟩
    have hcl : (PySem.W.clsIn X.K D).isSome = true := by
      obtain ⟨cd, hc, _⟩ := PySem.W.any_some C.hd
      rw [hc]; rfl
    exact PySem.W.kia_one (PySem.W.kitx_exc hcl C.hg C.hk C.hs C.ha C.hn C.ht C.hm) I.kIn J e (fun z => nomatch z) fun tk => ⟨.bl b, H, I.kept (t' := tk) fun _ _ z => z, rfl, q⟩
theorem kitYes {K : PySem.W.Frag} {C D : Addr} (h1 : PySem.W.isClsIn K C = true) (h2 : PySem.W.typeIn K (.ref C) = some (.type "type")) (h3 : PySem.W.subIn K (.ref D) (.ref C) = some true) : PySem.W.kitOne K (.ref D) (.ref C) = some true := by
  have h4 : (PySem.W.clsIn K C).isSome = true := by
    unfold PySem.W.isClsIn at h1
    unfold PySem.W.clsIn
    first
      | exact h1
      | (split at h1 <;> simp_all)
  unfold PySem.W.kitOne
  by_cases q : (Value.ref D == Value.ref C) = true
  · rw [if_pos q]
  · rw [if_neg q]
    unfold PySem.W.kitCls
    dsimp only
    rw [if_pos (by rw [h4, h2]; exact Bool.and_eq_true_iff.mpr ⟨rfl, beq_self_eq_true _⟩)]
    exact h3
open PySem PySem.Spec PyProof.Rows
open L2 hiding pass0
/-! ## the errors' classes -/
abbrev s_InvalidWidth_init : Stmt := inClass (top 2) 0
theorem ns_InvalidWidth : NdefX.NScope ["self", "value", "__class__"] ["self", "value"] ["__class__"] (defScope s_InvalidWidth_init) := NdefX.nscope_by (by decide +kernel)
theorem err_InvalidWidth {P : Program} {w : World} {K : PySem.W.Frag} {mg : Str → Option Value} {base : Heap} {C fI cc cda : Addr} {oc kV doc pm ct : Value} {od an : Option Addr} {osl : Array (Option Value)}
    (lk : K.lookup fI = some ⟨oc, od, .func (PySem.W.fnX "__init__" "InvalidWidth.__init__" (defArgs s_InvalidWidth_init) (defBody s_InvalidWidth_init) (defScope s_InvalidWidth_init) [(("__class__" : Str), cc)] .none kV doc pm an (.ref cda) ct), osl⟩)
    (S : SupX.SupF K P C cc cda "InvalidWidth.__init__") (hmg : mg "super" = none) (no : PySem.W.findIn K (.ref C) "value" = some none)
    (iC : PySem.W.findIn K (.ref C) "__init__" = some (some (.ref fI))) (tI : PySem.W.typeIn K (.ref fI) = some (.type "function")) (hm : mg "InvalidWidth" = some (.ref C)) :
    ErrC P w K mg base "InvalidWidth" C "value" := by
  refine ⟨S.ox, hm, fI, _, iC, tI, SupX.fnok_super (N := ["self", "value", "__class__"]) (ps := ["self", "value"]) (k := 1) lk S hmg ns_InvalidWidth rfl rfl rfl rfl (by decide) ?_ (fun L => by rfl) (fun L => by rfl) (fun L => by rfl) ?_, ?_⟩
  · rintro vs H Q E ⟨a, y, rfl, _⟩
    rfl
  · rintro A outer s H vs Q E ⟨a, y, rfl, ha, k⟩
    refine ⟨a, [y], rfl, ha, _, pss_one (ps_ost (f := "value") (pv 0) (pv 1)), ?_⟩
    refine ⟨_, rfl, _, rfl, a, C, rfl, S.ox, no, .inl ⟨ha, fun dx n ne => k dx n ne⟩⟩
  · exact Binds.all fun us h => match us, h with | [_, _], _ => rfl
abbrev s_InvalidStretch_init : Stmt := inClass (top 3) 0
theorem ns_InvalidStretch : NdefX.NScope ["self", "value", "__class__"] ["self", "value"] ["__class__"] (defScope s_InvalidStretch_init) := NdefX.nscope_by (by decide +kernel)
theorem err_InvalidStretch {P : Program} {w : World} {K : PySem.W.Frag} {mg : Str → Option Value} {base : Heap} {C fI cc cda : Addr} {oc kV doc pm ct : Value} {od an : Option Addr} {osl : Array (Option Value)}
    (lk : K.lookup fI = some ⟨oc, od, .func (PySem.W.fnX "__init__" "InvalidStretch.__init__" (defArgs s_InvalidStretch_init) (defBody s_InvalidStretch_init) (defScope s_InvalidStretch_init) [(("__class__" : Str), cc)] .none kV doc pm an (.ref cda) ct), osl⟩)
    (S : SupX.SupF K P C cc cda "InvalidStretch.__init__") (hmg : mg "super" = none) (no : PySem.W.findIn K (.ref C) "value" = some none)
    (iC : PySem.W.findIn K (.ref C) "__init__" = some (some (.ref fI))) (tI : PySem.W.typeIn K (.ref fI) = some (.type "function")) (hm : mg "InvalidStretch" = some (.ref C)) :
    ErrC P w K mg base "InvalidStretch" C "value" := by
  refine ⟨S.ox, hm, fI, _, iC, tI, SupX.fnok_super (N := ["self", "value", "__class__"]) (ps := ["self", "value"]) (k := 1) lk S hmg ns_InvalidStretch rfl rfl rfl rfl (by decide) ?_ (fun L => by rfl) (fun L => by rfl) (fun L => by rfl) ?_, ?_⟩
  · rintro vs H Q E ⟨a, y, rfl, _⟩
    rfl
  · rintro A outer s H vs Q E ⟨a, y, rfl, ha, k⟩
    refine ⟨a, [y], rfl, ha, _, pss_one (ps_ost (f := "value") (pv 0) (pv 1)), ?_⟩
    refine ⟨_, rfl, _, rfl, a, C, rfl, S.ox, no, .inl ⟨ha, fun dx n ne => k dx n ne⟩⟩
  · exact Binds.all fun us h => match us, h with | [_, _], _ => rfl
abbrev s_InvalidAddress_init : Stmt := inClass (top 5) 0
theorem ns_InvalidAddress : NdefX.NScope ["self", "value", "__class__"] ["self", "value"] ["__class__"] (defScope s_InvalidAddress_init) := NdefX.nscope_by (by decide +kernel)
theorem err_InvalidAddress {P : Program} {w : World} {K : PySem.W.Frag} {mg : Str → Option Value} {base : Heap} {C fI cc cda : Addr} {oc kV doc pm ct : Value} {od an : Option Addr} {osl : Array (Option Value)}
    (lk : K.lookup fI = some ⟨oc, od, .func (PySem.W.fnX "__init__" "InvalidAddress.__init__" (defArgs s_InvalidAddress_init) (defBody s_InvalidAddress_init) (defScope s_InvalidAddress_init) [(("__class__" : Str), cc)] .none kV doc pm an (.ref cda) ct), osl⟩)
    (S : SupX.SupF K P C cc cda "InvalidAddress.__init__") (hmg : mg "super" = none) (no : PySem.W.findIn K (.ref C) "value" = some none)
    (iC : PySem.W.findIn K (.ref C) "__init__" = some (some (.ref fI))) (tI : PySem.W.typeIn K (.ref fI) = some (.type "function")) (hm : mg "InvalidAddress" = some (.ref C)) :
    ErrC P w K mg base "InvalidAddress" C "value" := by
  refine ⟨S.ox, hm, fI, _, iC, tI, SupX.fnok_super (N := ["self", "value", "__class__"]) (ps := ["self", "value"]) (k := 1) lk S hmg ns_InvalidAddress rfl rfl rfl rfl (by decide) ?_ (fun L => by rfl) (fun L => by rfl) (fun L => by rfl) ?_, ?_⟩
  · rintro vs H Q E ⟨a, y, rfl, _⟩
    rfl
  · rintro A outer s H vs Q E ⟨a, y, rfl, ha, k⟩
    refine ⟨a, [y], rfl, ha, _, pss_one (ps_ost (f := "value") (pv 0) (pv 1)), ?_⟩
    refine ⟨_, rfl, _, rfl, a, C, rfl, S.ox, no, .inl ⟨ha, fun dx n ne => k dx n ne⟩⟩
  · exact Binds.all fun us h => match us, h with | [_, _], _ => rfl
abbrev s_InvalidStretches_init : Stmt := inClass (top 4) 0
theorem ns_InvalidStretches : NdefX.NScope ["self", "position", "__class__"] ["self", "position"] ["__class__"] (defScope s_InvalidStretches_init) := NdefX.nscope_by (by decide +kernel)
theorem err_InvalidStretches {P : Program} {w : World} {K : PySem.W.Frag} {mg : Str → Option Value} {base : Heap} {C fI cc cda : Addr} {oc kV doc pm ct : Value} {od an : Option Addr} {osl : Array (Option Value)}
    (lk : K.lookup fI = some ⟨oc, od, .func (PySem.W.fnX "__init__" "InvalidStretches.__init__" (defArgs s_InvalidStretches_init) (defBody s_InvalidStretches_init) (defScope s_InvalidStretches_init) [(("__class__" : Str), cc)] .none kV doc pm an (.ref cda) ct), osl⟩)
    (S : SupX.SupF K P C cc cda "InvalidStretches.__init__") (hmg : mg "super" = none) (no : PySem.W.findIn K (.ref C) "position" = some none)
    (iC : PySem.W.findIn K (.ref C) "__init__" = some (some (.ref fI))) (tI : PySem.W.typeIn K (.ref fI) = some (.type "function")) (hm : mg "InvalidStretches" = some (.ref C)) :
    ErrC P w K mg base "InvalidStretches" C "position" := by
  refine ⟨S.ox, hm, fI, _, iC, tI, SupX.fnok_super (N := ["self", "position", "__class__"]) (ps := ["self", "position"]) (k := 1) lk S hmg ns_InvalidStretches rfl rfl rfl rfl (by decide) ?_ (fun L => by rfl) (fun L => by rfl) (fun L => by rfl) ?_, ?_⟩
  · rintro vs H Q E ⟨a, y, rfl, _⟩
    rfl
  · rintro A outer s H vs Q E ⟨a, y, rfl, ha, k⟩
    refine ⟨a, [y], rfl, ha, _, pss_one (ps_ost (f := "position") (pv 0) (pv 1)), ?_⟩
    refine ⟨_, rfl, _, rfl, a, C, rfl, S.ox, no, .inl ⟨ha, fun dx n ne => k dx n ne⟩⟩
  · exact Binds.all fun us h => match us, h with | [_, _], _ => rfl
open PySem PySem.Spec PyProof.Rows LamX
open L2 hiding pass0
abbrev s_law_heard : Stmt := top 32
theorem sc_law_heard : FnScope ["_law_call", "_law_heard_here", "e"] ["_law_call"] (defScope s_law_heard) := ⟨rfl, rfl, rfl, by decide +kernel, rfl, by decide +kernel, by decide +kernel⟩
theorem bp_law_heard : BndP "_law_heard" s_law_heard ["_law_call"] := fun _ _ _ _ _ _ us h => match us, h with | [_], _ => rfl
/-! ## _law_heard(lambda: ..) -/
/-- what the written part says of an error's class C: its field f, its base B -/
structure ErrK (K : PySem.W.Frag) (C B : Addr) (f : Str) : Prop where
  xf : XfC K C
  no : PySem.W.findIn K (.ref C) f = some none
  ex : ExcC K C
  kit : PySem.W.kitOne K (.ref C) (.ref B) = some true
/-- the four classes -/
structure Errs (K : PySem.W.Frag) (mg : Str → Option Value) (B CW CS CA CP : Addr) : Prop where
  b : ∃ u, mg "CoverError" = some u ∧ RelV (.ref B) u
  mW : mg "InvalidWidth" = some (.ref CW)
  mS : mg "InvalidStretch" = some (.ref CS)
  mA : mg "InvalidAddress" = some (.ref CA)
  mP : mg "InvalidStretches" = some (.ref CP)
  w : ErrK K CW B "value"
  s : ErrK K CS B "value"
  a : ErrK K CA B "value"
  p : ErrK K CP B "position"
  ww : PySem.W.exmOne K (.ref CW) (.ref CW) = some true
  sw : PySem.W.exmOne K (.ref CS) (.ref CW) = some false
  ss : PySem.W.exmOne K (.ref CS) (.ref CS) = some true
  aw : PySem.W.exmOne K (.ref CA) (.ref CW) = some false
  as : PySem.W.exmOne K (.ref CA) (.ref CS) = some false
  aa : PySem.W.exmOne K (.ref CA) (.ref CA) = some true
  pw : PySem.W.exmOne K (.ref CP) (.ref CW) = some false
  ps : PySem.W.exmOne K (.ref CP) (.ref CS) = some false
  pa : PySem.W.exmOne K (.ref CP) (.ref CA) = some false
  pp : PySem.W.exmOne K (.ref CP) (.ref CP) = some true
/-- what is heard of an error -/
inductive Tag (CW CS CA CP : Addr) : Addr → Str → Str → Prop
  | w : Tag CW CS CA CP CW "width" "value"
  | s : Tag CW CS CA CP CS "stretch" "value"
  | a : Tag CW CS CA CP CA "address" "value"
  | p : Tag CW CS CA CP CP "place" "position"
/-- an error is heard: the list told of it -/
def HeardE (CW CS CA CP : Addr) (Q : VK) : XK := fun cls d H1 => ∃ (C : Addr) (tag f : Str) (dd : Addr) (v : V), Tag CW CS CA CP C tag f ∧ cls = .ref C ∧ d = some dd ∧ H1 dd = some (.xd [(f, v)]) ∧ ∀ L, H1 L = none → Q (.ref L) (upd H1 L (.lst [.str tag, v, .bl true]))
/-- the lambda's reading tl in the heap with one list more; then a list is told -/
def TH (CW CS CA CP : Addr) : (XK → Hp → VK → Prop) → Hp → VK → Prop := fun tl H Q => ∀ p, H p = none → ∀ Q' : VK, (∀ v H1, (∀ L, H1 L = none → Q (.ref L) (upd H1 L (.lst [.str "told", v]))) → Q' v H1) →
  tl (HeardE CW CS CA CP Q) (upd H p (.lst [.str "none"])) Q'
section
variable {X : Cx} {B CW CS CA CP : Addr}
theorem given_heard {g : Addr} {cdg : Value} {k : Nat} (M : Errs X.K X.mg B CW CS CA CP) (T : Txt X.K X.mg) : Given X ["_law_call", "_law_heard_here", "e"] "_law_heard" s_law_heard g cdg k (TH CW CS CA CP) := by
  intro f c' s H Q tl ob R hn hfr hob hfa hc hr h
  refine ⟨_, pss_cons (ps_set (i := 1) sc_law_heard.nd rfl (Or.inl rfl) (pe_lst (pa_cons pe_str pa_nil))) (pss_cons (ps_try_all rfl rfl sc_law_heard.nd takes0
    (fun W pn xe tk _ => pss_one (ps_set (i := 1) sc_law_heard.nd rfl (Or.inl rfl) (pe_lst (pa_cons pe_str (pa_cons (pe_lamE (i := 0) R hn hfr hob hfa hr tk rfl (Or.inl rfl)) pa_nil)))))
    (.cons (i := 2) (c := .ref CW) rfl rfl ⟨rfl, by decide, .inl M.mW⟩ (fun a oe cls d pn hz hf => pss_one (ps_set (i := 1) sc_law_heard.nd rfl (Or.inl rfl) (pe_lst (pa_cons pe_str (pa_cons (pe_xf M.w.xf M.w.no hz hf (pv 2)) (pa_cons (pe_callB (call_isD hz hf) (by rfl) T.b_isinstance (by decide +kernel) (pa_cons (pv 2) (pa_cons (pe_cst (by rfl) M.b) pa_nil))) pa_nil))))))
    (.cons (i := 2) (c := .ref CS) rfl rfl ⟨rfl, by decide, .inl M.mS⟩ (fun a oe cls d pn hz hf => pss_one (ps_set (i := 1) sc_law_heard.nd rfl (Or.inl rfl) (pe_lst (pa_cons pe_str (pa_cons (pe_xf M.s.xf M.s.no hz hf (pv 2)) (pa_cons (pe_callB (call_isD hz hf) (by rfl) T.b_isinstance (by decide +kernel) (pa_cons (pv 2) (pa_cons (pe_cst (by rfl) M.b) pa_nil))) pa_nil))))))
    (.cons (i := 2) (c := .ref CA) rfl rfl ⟨rfl, by decide, .inl M.mA⟩ (fun a oe cls d pn hz hf => pss_one (ps_set (i := 1) sc_law_heard.nd rfl (Or.inl rfl) (pe_lst (pa_cons pe_str (pa_cons (pe_xf M.a.xf M.a.no hz hf (pv 2)) (pa_cons (pe_callB (call_isD hz hf) (by rfl) T.b_isinstance (by decide +kernel) (pa_cons (pv 2) (pa_cons (pe_cst (by rfl) M.b) pa_nil))) pa_nil))))))
    (.cons (i := 2) (c := .ref CP) rfl rfl ⟨rfl, by decide, .inl M.mP⟩ (fun a oe cls d pn hz hf => pss_one (ps_set (i := 1) sc_law_heard.nd rfl (Or.inl rfl) (pe_lst (pa_cons pe_str (pa_cons (pe_xf M.p.xf M.p.no hz hf (pv 2)) (pa_cons (pe_callB (call_isD hz hf) (by rfl) T.b_isinstance (by decide +kernel) (pa_cons (pv 2) (pa_cons (pe_cst (by rfl) M.b) pa_nil))) pa_nil))))))
    .nil)))))
    (pss_one (ps_ret (pv 1)))), ?_⟩
  walk_at "s1"
  intro p np
  refine ⟨HeardE CW CS CA CP Q, ?_, rfl, updn (fun z => by rw [z, np] at hc; cases hc) hc, ?_⟩
  · rintro cls d H' ⟨C, tag, f', dd, v, tg, rfl, rfl, ed, q⟩
    cases tg with
    | w =>
      refine ⟨true, M.ww, fun _ a na => ?_, (fun z => nomatch z)⟩
      walk_at "s1"
      refine ⟨rfl, rfl, dd, _, v, rfl, ed, rfl, ?_⟩
      refine ⟨_, rfl, ?_⟩
      refine ⟨CW, dd, _, .ref B, .ref B, true, rfl, rfl, M.w.ex, ed, rfl, fun u r => r, M.w.kit, ?_⟩
      refine ⟨szl (Nat.le_of_ble_eq_true rfl), fun L nL => ⟨_, rfl, q L nL⟩⟩
    | s =>
      refine ⟨false, M.sw, (fun z => nomatch z), fun _ => ?_⟩
      refine ⟨true, M.ss, fun _ a na => ?_, (fun z => nomatch z)⟩
      walk_at "s1"
      refine ⟨rfl, rfl, dd, _, v, rfl, ed, rfl, ?_⟩
      refine ⟨_, rfl, ?_⟩
      refine ⟨CS, dd, _, .ref B, .ref B, true, rfl, rfl, M.s.ex, ed, rfl, fun u r => r, M.s.kit, ?_⟩
      refine ⟨szl (Nat.le_of_ble_eq_true rfl), fun L nL => ⟨_, rfl, q L nL⟩⟩
    | a =>
      refine ⟨false, M.aw, (fun z => nomatch z), fun _ => ?_⟩
      refine ⟨false, M.as, (fun z => nomatch z), fun _ => ?_⟩
      refine ⟨true, M.aa, fun _ a na => ?_, (fun z => nomatch z)⟩
      walk_at "s1"
      refine ⟨rfl, rfl, dd, _, v, rfl, ed, rfl, ?_⟩
      refine ⟨_, rfl, ?_⟩
      refine ⟨CA, dd, _, .ref B, .ref B, true, rfl, rfl, M.a.ex, ed, rfl, fun u r => r, M.a.kit, ?_⟩
      refine ⟨szl (Nat.le_of_ble_eq_true rfl), fun L nL => ⟨_, rfl, q L nL⟩⟩
    | p =>
      refine ⟨false, M.pw, (fun z => nomatch z), fun _ => ?_⟩
      refine ⟨false, M.ps, (fun z => nomatch z), fun _ => ?_⟩
      refine ⟨false, M.pa, (fun z => nomatch z), fun _ => ?_⟩
      refine ⟨true, M.pp, fun _ a na => ?_, (fun z => nomatch z)⟩
      walk_at "s1"
      refine ⟨rfl, rfl, dd, _, v, rfl, ed, rfl, ?_⟩
      refine ⟨_, rfl, ?_⟩
      refine ⟨CP, dd, _, .ref B, .ref B, true, rfl, rfl, M.p.ex, ed, rfl, fun u r => r, M.p.kit, ?_⟩
      refine ⟨szl (Nat.le_of_ble_eq_true rfl), fun L nL => ⟨_, rfl, q L nL⟩⟩
  · refine h p np _ ?_
    intro v H1 q
    refine ⟨szl (Nat.le_of_ble_eq_true rfl), fun L nL => ⟨_, rfl, q L nL⟩⟩
end
open PySem PySem.Spec PyProof.Rows L2
/-! ## dicts of flat values compared, equal or not -/
def allEq (ks ls : List (Key × V)) : Bool := ks.all fun p => match valV ls p.1 with
  | some v => eqV p.2 v
  | none => false
theorem hits_any {A : Around} {s : Shared} {ls : List (Key × V)} {vb : List (Key × Value)} (rb : KV ls vb) (fl : ∀ p ∈ ls, flatV p.2 = true) {ks : List (Key × V)} {va : List (Key × Value)} (ra : KV ks va) :
    (∀ p ∈ ks, flatV p.2 = true) → PySem.W.KeqHits A s vb va (allEq ks ls) := by
  unfold KV at ra
  induction ra with
  | nil => intro _; exact .nil
  | @cons p q ps qs h t ih =>
    intro hp
    obtain ⟨h1, h2⟩ := h
    obtain ⟨k, v⟩ := q
    have h1' : p.1 = k := h1
    have hv := rb.val p.1
    have ih' := ih fun p' hm => hp p' (List.mem_cons_of_mem _ hm)
    have e : allEq (p :: ps) ls = ((match valV ls p.1 with | some v => eqV p.2 v | none => false) && allEq ps ls) := rfl
    rw [e]
    cases hl : valV ls p.1 with
    | none =>
      rw [hl, h1'] at hv
      have hn : valueAt vb k = none := by
        cases hx : valueAt vb k with
        | none => rfl
        | some y => rw [hx] at hv; cases hv
      exact .miss hn
    | some x =>
      have rr : RelO (some x) (valueAt vb p.1) := by rw [← hl]; exact hv
      obtain ⟨y, hy, ry⟩ := rr.some_of
      rw [h1'] at hy
      have fx : flatV x = true := by
        have hm : ∃ p' ∈ ls, p'.2 = x := by
          unfold valV at hl
          cases hf : ls.find? (fun kv => decide (kv.1 = p.1)) with
          | none => rw [hf] at hl; cases hl
          | some p' =>
            rw [hf] at hl
            exact ⟨p', List.mem_of_find?_eq_some hf, Option.some.inj hl⟩
        obtain ⟨p', hp', rfl⟩ := hm
        exact fl p' hp'
      exact .hit hy (eqAt_V h2 ry (hp p List.mem_cons_self) fx) ih'
section
variable {X : Cx}
def rEqDT : R2 := fun x y H Q => ∃ a b ks ls, x = .ref a ∧ y = .ref b ∧ H a = some (.dK ks) ∧ H b = some (.dK ls) ∧ (∀ p ∈ ks, flatV p.2 = true) ∧ (∀ p ∈ ls, flatV p.2 = true) ∧ Q (.bl (ks.length == ls.length && allEq ks ls)) H
theorem op_eq_dictT (hu : X.A.units < cLine) : OpR X (compareOp .Eq) rEqDT := by
  intro pins s σ H x y v u Q I rx ry h
  obtain ⟨a, b, ks, ls, rfl, rfl, ea, eb, fa, fb, q⟩ := h
  obtain rfl : v = Value.ref a := rx
  obtain rfl : u = Value.ref b := ry
  obtain ⟨_, ya, va, ra, da⟩ := (show ObjOk X.prog X.w H s.heap a (.dK ks) from I.hok a _ ea)
  obtain ⟨_, yb, vb, rb, db⟩ := (show ObjOk X.prog X.w H s.heap b (.dK ls) from I.hok b _ eb)
  have l1 : ks.length = va.length := ra.length
  have l2 : ls.length = vb.length := rb.length
  exact PySem.W.keq_eq (knd := mixKind X.prog X.w) (r := allEq ks ls) ya yb da db hu (fun _ => hits_any rb fb ra fa) (fin_bl I q (by rw [l1, l2]))
end
open PySem PySem.Spec PyProof.Rows L2
/-! ## != of two of a class that has == alone -/
section
variable {M : Model} {prog : Program} {w : World} {A : Around} {E : Value → Shared → Prop} {s : Shared} {K : PySem.W.Frag} {x C f : Addr} {b : Value} {ox : Obj} {od : Option Obj}
theorem entry_ownNe (X : K.In s.heap) (I : PySem.W.InstAt s.heap x ox C od) (hu : A.units < cLine) (he : PySem.W.findIn K (.ref C) "__eq__" = some (some (.ref f))) (hf : PySem.W.isFn K (.ref f) = true) {Q : Fin → Shared → Prop}
    (h : wpAny (model prog w) A (call (.ref f) [.ref x, b]) (fun v s' => ∃ c, v = .bool c ∧ Q (.done (.ret (.bool (!c)))) s') E s) : wpAny (model prog w) A (Builtin.«object.__ne__» ⟨[.ref x, b], []⟩) Q E s := by
  unfold Builtin.«object.__ne__»
  repeat (first
    | with_reducible refine wpAny_cRoomFor hu ?_
    | (refine wpAny_bind (m := callSpecialIfBound? (.ref x) (Str.ofString "__eq__") [b])
        (PySem.W.ifBound_K X I he hf (wpAny_mono h (fun r s' hr => by
          obtain ⟨c, rfl, hq⟩ := hr
          repeat (first | exact hq | exact wpAny_pure hq | exact wpAny_truthy_bool hq | (refine wpAny_bind (m := truthy (.bool _)) (wpAny_truthy_bool ?_)) | wp_step)) fun _ _ e => e)))
    | wp_step)
theorem ifBound_objNe {args : List Value} {Q : Option Value → Shared → Prop} (X : K.In s.heap) (I : PySem.W.InstAt s.heap x ox C od) (hs : PySem.W.findIn K (.ref C) "__ne__" = some (some (.builtin "object.__ne__")))
    (h : wpAny M A (call (.builtin "object.__ne__") (.ref x :: args)) (fun v => Q (some v)) E s) : wpAny M A (callSpecialIfBound? (.ref x) "__ne__" args) Q E s := by
  simp only [callSpecialIfBound?, bindSpecialIfBound?]
  refine wpAny_holding (wpAny_bind (wpAny_bind (wpAny_bind (I.type.here ((PySem.W.looks_findIn X hs).here ?_)))))
  refine wpAny_bind (wpAny_askSetting (wpAny_ite ?_))
  have fin : wpAny M A (call (.builtin "object.__ne__") ([.ref x] ++ args) >>= fun v => pure (some v)) Q E s := wpAny_bind (wpAny_mono h (fun v s' h' => wpAny_pure h') fun _ _ h' => h')
  split
  · exact wpAny_bind (wpAny_of_eq (F.cmp_object.ne.bind _) (wpAny_pure (by exact fin)))
  · exact wpAny_tryCatch (wpAny_bind (wpAny_of_eq (F.cmp_object.ne.bind _) (wpAny_pure (by exact fin))))
theorem neO {tb : Value} {Q : Value → Shared → Prop} (hu : A.units + 1 < cLine) (X : K.In s.heap) (I : PySem.W.InstAt s.heap x ox C od) (hb : PySem.W.Looks (model prog w) s.heap (typeOf b) tb) (hn : PySem.W.notFirst K C tb = true) (hm : PySem.W.mroIn K C (.type "object") = some true)
    (hs : PySem.W.findIn K (.ref C) "__ne__" = some (some (.builtin "object.__ne__"))) (he : PySem.W.findIn K (.ref C) "__eq__" = some (some (.ref f))) (hf : PySem.W.isFn K (.ref f) = true)
    (h : wpAny (model prog w) A.in1 (call (.ref f) [.ref x, b]) (fun v s' => ∃ c, v = .bool c ∧ Q (.bool (!c)) s') E s) : wpAny (model prog w) A (richCompare .NotEq (.ref x) b) Q E s := by
  have one : wpAny (model prog w) A (tryCompare (.ref x) "__ne__" b) (fun r s' => ∃ v, r = some v ∧ Q v s') E s := by
    unfold tryCompare
    refine wpAny_bind (ifBound_objNe X I hs (wpAny_call (codeAny_call_builtin F.cmp_object.ne.plain F.cmpEntry_ne (PySem.W.check_slot F.cmpKind_ne F.cmpSplit_ne (I.type.andThen (PySem.W.looks_mroIn X hm)) (F.cmpArgs_ne _ _)
      (entry_ownNe X I (by exact hu) he hf (wpAny_mono h (fun v s' hv => ?_) fun _ _ e => e))))))
    obtain ⟨c, rfl, hq⟩ := hv
    first | exact ⟨c, rfl, wpAny_pure ⟨_, rfl, hq⟩⟩ | exact ⟨c, rfl, wpAny_pure (wpAny_pure ⟨_, rfl, hq⟩)⟩ | exact ⟨c, rfl, _, rfl, hq⟩
  unfold richCompare
  simp only [oneThing_ref]
  refine wpAny_holding (wpAny_bind (wpAny_cRoomFor (Nat.lt_of_succ_lt hu) ?_))
  rw [cmpInfo_NotEq]
  dsimp only
  refine wpAny_bind (I.type.here (wpAny_bind (hb.here ?_)))
  split
  · rename_i q
    have e : PySem.W.subIn K tb (.ref C) = some false := by
      rcases Bool.or_eq_true_iff.mp hn with e | e
      · rw [beq_iff_eq.mp e] at q; simp at q
      · exact beq_iff_eq.mp e
    refine wpAny_bind ((PySem.W.looks_subIn X e).here ?_)
    simp only [Bool.false_eq_true, if_false]
    refine wpAny_bind (wpAny_mono one (fun r s' z => ?_) fun _ _ e => e)
    obtain ⟨v, rfl, hq⟩ := z
    exact wpAny_pure hq
  · refine wpAny_bind (wpAny_pure ?_)
    simp only [Bool.false_eq_true, if_false]
    refine wpAny_bind (wpAny_mono one (fun r s' z => ?_) fun _ _ e => e)
    obtain ⟨v, rfl, hq⟩ := z
    exact wpAny_pure hq
end
section
variable {X : Cx} {CX : CXT} {k j : Nat} {C : Addr} {q : Str} {st : Stmt} {ps : List Str} {sp : Sp} {E : XK}
def rNeS (C : Addr) (sp : Sp) (E : XK) : R2 := fun x y H Q => IsI H C x ∧ IsI H C y ∧ sp [x, y] H (fun v H' => ∃ c, v = .bl c ∧ Q (.bl (!c)) H') E
theorem op_neS (c : Mth X.prog X.w X.K X.mg X.base CX k C "__eq__" q st ps sp) (hr : RoomG j X.A) (hk : k + 1 ≤ j) (hx : Passes CX X E) (b : BndMP "__eq__" q st ps) (hs : PySem.W.findIn X.K (.ref C) "__ne__" = some (some (.builtin "object.__ne__"))) (ho : PySem.W.mroIn X.K C (.type "object") = some true) :
    OpR X (compareOp .NotEq) (rNeS C sp E) := by
  intro pins s σ H x y v u Q I rx ry h
  obtain ⟨⟨a, dx, fs, rfl, ea⟩, ⟨a', dx', fs', rfl, ea'⟩, q⟩ := h
  obtain rfl : v = Value.ref a := rx
  obtain rfl : u = Value.ref a' := ry
  obtain ⟨f, fd, F, hm, hfi, G⟩ := c.ex
  obtain ⟨oc, od, kV, doc, pm, an, cdv, ct, osl, rfl, lk, hcd⟩ := F.ex
  obtain ⟨od, J⟩ := ins_at I ea
  obtain ⟨od', J'⟩ := ins_at I ea'
  have hn : PySem.W.notFirst X.K C (.ref C) = true := by
    unfold PySem.W.notFirst
    rw [beq_self_eq_true, Bool.true_or]
  have h1 := G.len _ _ _ _ q
  unfold compareOp
  refine neO hr.u1 I.kIn J J'.type hn ho hs hm.at_ hm.fn (run_in1 G (hr.mono hk) (.of_eq (b kV doc pm cdv ct an [.ref a, .ref a'] h1)) hx I (.cons rfl (.cons rfl .nil) : Vals [.ref a, .ref a'] [.ref a, .ref a']) q fun u s' z => ?_)
  obtain ⟨v, H', I3, rv, c, rfl, q3⟩ := z
  cases rv
  exact ⟨c, rfl, .bl (!c), H', I3, rfl, q3⟩
end
section
variable {X : Cx}
def rNeDT : R2 := fun x y H Q => ∃ a b ks ls, x = .ref a ∧ y = .ref b ∧ H a = some (.dK ks) ∧ H b = some (.dK ls) ∧ (∀ p ∈ ks, flatV p.2 = true) ∧ (∀ p ∈ ls, flatV p.2 = true) ∧ Q (.bl (!(ks.length == ls.length && allEq ks ls))) H
theorem op_ne_dictT (hu : X.A.units < cLine) : OpR X (compareOp .NotEq) rNeDT := by
  intro pins s σ H x y v u Q I rx ry h
  obtain ⟨a, b, ks, ls, rfl, rfl, ea, eb, fa, fb, q⟩ := h
  obtain rfl : v = Value.ref a := rx
  obtain rfl : u = Value.ref b := ry
  obtain ⟨_, ya, va, ra, da⟩ := (show ObjOk X.prog X.w H s.heap a (.dK ks) from I.hok a _ ea)
  obtain ⟨_, yb, vb, rb, db⟩ := (show ObjOk X.prog X.w H s.heap b (.dK ls) from I.hok b _ eb)
  have l1 : ks.length = va.length := ra.length
  have l2 : ls.length = vb.length := rb.length
  exact PySem.W.keq_ne (knd := mixKind X.prog X.w) (r := allEq ks ls) ya yb da db hu (fun _ => hits_any rb fb ra fa) (fin_bl I q (by rw [l1, l2]))
end
open PySem PySem.Spec PyProof.Rows L2
/-! ## sorted(d.items()), d a dict of texts -/
def pLt (p q : Str × Str) : Bool := if p.1 = q.1 then tLt p.2 q.2 else tLt p.1 q.1
theorem pLe_tr {a b c : Str × Str} (h1 : pLt b a = false) (h2 : pLt c b = false) : pLt c a = false := by
  unfold pLt at *
  by_cases e1 : b.1 = a.1
  · rw [if_pos e1] at h1
    by_cases e2 : c.1 = b.1
    · rw [if_pos e2] at h2
      rw [if_pos (e2.trans e1)]
      exact tLe_tr h1 h2
    · rw [if_neg e2] at h2
      rw [if_neg (fun e => e2 (e.trans e1.symm)), ← e1]
      exact h2
  · rw [if_neg e1] at h1
    by_cases e2 : c.1 = b.1
    · rw [if_neg (fun e => e1 (e2.symm.trans e)), e2]
      exact h1
    · rw [if_neg e2] at h2
      by_cases e3 : c.1 = a.1
      · rw [e3] at h2
        exact absurd (tLt_tot h1 h2) e1
      · rw [if_neg e3]
        exact tLe_tr h1 h2
theorem pLe_tot (a b : Str × Str) : (!pLt b a || !pLt a b) = true := by
  have as : ∀ x y : Str, tLt x y = true → tLt y x = false := fun x y h => by
    cases e : tLt y x with
    | false => rfl
    | true => exact absurd (tLt_tr h e) (by rw [tLt_irr]; decide)
  unfold pLt
  by_cases e1 : b.1 = a.1
  · rw [if_pos e1, if_pos e1.symm]
    cases e : tLt b.2 a.2 with
    | false => rfl
    | true => rw [as _ _ e]; rfl
  · rw [if_neg e1, if_neg (Ne.symm e1)]
    cases e : tLt b.1 a.1 with
    | false => rfl
    | true => rw [as _ _ e]; rfl
def encP (b : Addr × Str × Str) : PyData := .tuple [.str b.2.1, .str b.2.2]
theorem dle_pair (a b : Addr × Str × Str) : PySem.W.dataLe false encP a b = !pLt b.2 a.2 := by
  rw [PySem.W.dataLe_eq]
  show (!PySem.W.dataLt (.tuple [.str b.2.1, .str b.2.2]) (.tuple [.str a.2.1, .str a.2.2])) = _
  rw [PySem.W.dataLt_pair (by rfl) (by rfl)]
  unfold pLt tLt
  have ev : ∀ x y : Str, PyData.eqv (.str x) (.str y) = decide (x = y) := fun x y => by
    show (x == y) = _
    rw [Bool.eq_iff_iff, beq_iff_eq, decide_eq_true_iff]
  rw [ev, ev, PySem.W.dataLt_str, PySem.W.dataLt_str]
  by_cases e1 : b.2.1 = a.2.1
  · rw [if_pos (decide_eq_true e1), if_pos e1]
    by_cases e2 : b.2.2 = a.2.2
    · rw [if_pos (decide_eq_true e2), e2]
      have := tLt_irr a.2.2
      unfold tLt at this
      rw [this]
    · rw [if_neg (by rw [decide_eq_false e2]; decide)]
  · rw [if_neg (by rw [decide_eq_false e1]; decide), if_neg e1]
theorem sort_pairs (zs : List (Addr × Str × Str)) : (zs.mergeSort (PySem.W.dataLe false encP)).Pairwise (fun a b => pLt b.2 a.2 = false) := by
  have h := List.pairwise_mergeSort (le := PySem.W.dataLe false encP) (fun a b c h1 h2 => by
    rw [dle_pair] at *
    have h1' : pLt b.2 a.2 = false := by simpa using h1
    have h2' : pLt c.2 b.2 = false := by simpa using h2
    rw [pLe_tr h1' h2']
    rfl) (fun a b => by
    rw [dle_pair, dle_pair]
    exact pLe_tot a.2 b.2) zs
  refine h.imp fun {a b} z => ?_
  rw [dle_pair] at z
  simpa using z
theorem each_of {P : Value → Addr × Str × Str → Prop} : ∀ {as : List Addr} {m : List (Str × Str)}, as.length = m.length → (∀ z ∈ as.zip m, P (.ref z.1) z) → PySem.W.EachIs P (as.map Value.ref) (as.zip m)
  | [], [], _, _ => .nil
  | a :: as, q :: m, hl, h => .cons (h (a, q) (List.mem_cons_self ..)) (each_of (by simpa using hl) fun z hz => h z (List.mem_cons_of_mem _ hz))
  | [], _ :: _, hl, _ => by simp at hl
  | _ :: _, [], hl, _ => by simp at hl
theorem each_out : ∀ {out : List Value} {zs : List (Addr × Str × Str)}, PySem.W.EachIs (fun v b => v = Value.ref b.1) out zs → out = zs.map fun z => Value.ref z.1
  | _, _, .nil => rfl
  | _, _, .cons h r => by rw [h, each_out r]; rfl
theorem pairs_at2 {P : Program} {w : World} : ∀ {es : List DictEntry} {kvs : List (Key × Value)}, Pairs (mixKind P w) es kvs → ∀ {j : Nat} {e : DictEntry}, es[j]? = some e → ∃ kv, kvs[j]? = some kv ∧ (mixKind P w).is kv.1 e.key = true ∧ e.val = kv.2
  | _, _, .nil, j, e, h => by simp at h
  | _, _, .cons h1 h2 r, 0, e, h => by cases h; exact ⟨_, rfl, h1, h2⟩
  | _, _, .cons h1 h2 r, j + 1, e, h => pairs_at2 r (by simpa using h)
section
variable {X : Cx}
def rItemsK : V → List V → Hp → VK → Prop := fun x xs H Q => ∃ (a : Addr) (kvs : List (Key × V)), x = .ref a ∧ xs = [] ∧ H a = some (.dK kvs) ∧ ∀ p, H p = none → Q (.ref p) (upd H p (DX.itemsO p a))
theorem mt_itemsK : MtR X "dict.items" rItemsK := by
  intro pins s σ H x xs v us Q I rx rxs h
  obtain ⟨a, kvs, rfl, rfl, ha, q⟩ := h
  cases rx
  cases rxs
  obtain ⟨hz, hs0, vs, kv, hdo⟩ := I.hok a _ ha
  obtain ⟨o, es, ep, ho, hx, hdat, _⟩ := hdo
  refine DT.callItems (es := es) (ep := ep) hs0 ⟨o, ho, hx, hdat⟩ ?_
  have hf : H s.heap.objs.size = none := I.hok.fresh (Nat.le_refl _)
  exact ⟨.ref s.heap.objs.size, upd H s.heap.objs.size (DX.itemsO s.heap.objs.size a), I.laid (t' := s.toks) (fun b u e => Heap.get?_push_of_some _ e) (Nat.le_refl _) (DX.itemsO_ok (Heap.get?_push_size _ rfl)), rfl, q _ hf⟩
def tkP (m : List (Str × Str)) : List (Key × V) := m.map fun p => (Sum.inr p.1, V.str p.2)
def rSortIt2 : List V → Hp → VK → Prop := fun vs H Q => ∃ (p a : Addr) (m : List (Str × Str)), vs = [.ref p] ∧ H p = some (DX.itemsO p a) ∧ H a = some (.dK (tkP m)) ∧ m.length ≤ 1000 ∧
  ∀ (H' : Hp) (l : Addr) (zs : List (Addr × Str × Str)), (∀ b o, H b = some o → H' b = some o) → H l = none → (zs.map (·.2)).Perm m → zs.Pairwise (fun a b => pLt b.2 a.2 = false) → H' l = some (.lst (zs.map fun z => V.ref z.1)) →
    (∀ z ∈ zs, H' z.1 = some (.tup [.str z.2.1, .str z.2.2])) → Q (.ref l) H'
theorem cr_sortedIt (hc : X.calm = true) (hu : X.A.units + 64 < cLine) : CallR X (.builtin "sorted") rSortIt2 := by
  intro pins s σ H xs us Q I r h
  obtain ⟨p, a, m, rfl, hp, ha, hm, q⟩ := h
  obtain rfl := Vals.ref1 r
  have view : s.heap.IsItemsView p a := (show ObjOk X.prog X.w H s.heap p (DX.itemsO p a) from I.hok p _ hp).1
  obtain ⟨hz, hs0, kvs, kv, hdo⟩ := I.hok a _ ha
  obtain ⟨o, es, ep, ho, hx, hdat, _, hes, _⟩ := hdo
  have l1 : (tkP m).length = kvs.length := Paired.length kv
  have l1' : (tkP m).length = m.length := by unfold tkP; rw [List.length_map]
  have les : ∀ {es : List DictEntry} {kvs : List (Key × Value)}, Pairs (mixKind X.prog X.w) es kvs → es.length = kvs.length := fun {es kvs} h => by
    induction h with
    | nil => rfl
    | cons _ _ _ ih => exact congrArg Nat.succ ih
  have l2 : es.size = kvs.length := by rw [← Array.length_toList]; exact les hes
  have hh : X.A.handled = none := I.ok.hd hc
  refine DT.sortedI (es := es) (ep := ep) hh view ⟨o, ho, hx, hdat⟩ (by rw [sizeLine_eq]; omega) fun h' tk as hk hlt hl hG => ?_
  have lak : as.length = m.length := by omega
  have nd : as.Nodup := List.Pairwise.imp (fun h => Nat.ne_of_lt h) hG.rise
  have pr : ∀ (j : Nat) (b : Addr), as[j]? = some b → ∃ (q : Str × Str) (t1 t2 : Tok), m[j]? = some q ∧ h'.get? b = some { cls := .type "tuple", data := .seq #[Value.str q.1 t1, Value.str q.2 t2] } := by
    intro j b hj
    obtain ⟨en, he, hg⟩ := hG.pairs j b hj
    obtain ⟨kv0, k1, k2, k3⟩ := pairs_at2 hes (by rw [Array.getElem?_toList]; exact he)
    have hjl : j < m.length := by
      have := (List.getElem?_eq_some_iff.mp hj).1
      omega
    have hmj : m[j]? = some m[j] := by simp [hjl]
    have htk : (tkP m)[j]? = some (Sum.inr m[j].1, V.str m[j].2) := by
      unfold tkP
      rw [List.getElem?_map, hmj]
      rfl
    obtain ⟨y, g1, g2, g3⟩ := LiI.paired_get kv htk
    obtain rfl : y = kv0 := Option.some.inj (g1.symm.trans k1)
    have rk : RelV (kV (Sum.inr m[j].1)) en.key := by
      have g2' : (Sum.inr m[j].1 : Key) = y.1 := g2
      rw [← g2'] at k2
      exact relV_key k2
    obtain ⟨t1, ht1⟩ := rk
    obtain ⟨t2, ht2⟩ := g3
    refine ⟨m[j], t1, t2, hmj, ?_⟩
    rw [hg, ht1, k3, ht2]
  have hob : (h'.push { cls := .type "list", data := .seq (as.map Value.ref).toArray }).get? h'.objs.size = some (seqObj "list" (as.map Value.ref).toArray 0) := Heap.get?_push_size _ rfl
  have kb : ∀ b o, s.heap.get? b = some o → (h'.push { cls := .type "list", data := .seq (as.map Value.ref).toArray }).get? b = some o := fun b o e => Heap.get?_push_of_some _ (hk b o e)
  have ne0 : ∀ b o, h'.get? b = some o → b ≠ h'.objs.size := fun b o e => Nat.ne_of_lt (Heap.lt_size e)
  generalize hh2 : h'.push { cls := .type "list", data := .seq (as.map Value.ref).toArray } = h2 at hob kb ⊢
  have ka : ∀ b o, h'.get? b = some o → h2.get? b = some o := fun b o e => by rw [← hh2]; exact Heap.get?_push_of_some _ e
  have idx0 : ∀ z ∈ as.zip m, ∃ j : Nat, as[j]? = some z.1 ∧ m[j]? = some z.2 := by
    intro z' hz'
    obtain ⟨j, hj⟩ := List.mem_iff_getElem?.mp hz'
    exact ⟨j, List.getElem?_zip_eq_some.mp hj⟩
  refine PySem.W.list_sort_data (s := { s with heap := h2, toks := tk }) (vs := as.map Value.ref) (bs := as.zip m) (enc := encP) (R := fun v b => v = Value.ref b.1) hob (each_of lak fun _ _ => rfl) (each_of lak fun z hz => ?_)
    (PySem.W.AllAlike.of fun b b' => by rfl) (PySem.W.Sortable.tuples fun b => ⟨_, _, rfl⟩) ?_ (fun b _ => ?_) fun out o1 o2 => ?_
  · obtain ⟨j, j1, j2⟩ := idx0 z hz
    obtain ⟨q0, t1, t2, e1, e2⟩ := pr j z.1 j1
    have e3 : q0 = z.2 := Option.some.inj (e1.symm.trans j2)
    rw [e3] at e2
    exact ⟨[], .tuple (ka _ _ e2) rfl rfl (.cons (.str _ _) (.cons (.str _ _) .nil)), List.not_mem_nil⟩
  · rw [List.length_zip, sizeLine_eq]
    omega
  · have hd : (encP b).depth = 1 := by unfold encP; simp [PyData.depth, PyData.depthAll]
    rw [hd]
    show X.A.units + 1 + 1 + 1 < cLine
    omega
  · show EP X pins σ Q (.ref h'.objs.size) { s with heap := sortedHeap h2 h'.objs.size (as.map Value.ref) (List.toArray out), toks := tk }
    have hout : out = ((as.zip m).mergeSort (PySem.W.dataLe false encP)).map fun z => Value.ref z.1 := each_out o2
    have pz : ((as.zip m).mergeSort (PySem.W.dataLe false encP)).Perm (as.zip m) := List.mergeSort_perm _ _
    have hsort := sort_pairs (as.zip m)
    generalize (as.zip m).mergeSort (PySem.W.dataLe false encP) = zs at hout pz hsort
    have idx : ∀ z ∈ zs, ∃ j : Nat, as[j]? = some z.1 ∧ m[j]? = some z.2 := fun z hz => idx0 z (pz.mem_iff.mp hz)
    have hperm : (zs.map (·.2)).Perm m := by
      have e := pz.map (·.2)
      have m2 : (as.zip m).map (·.2) = m := List.map_snd_zip (by rw [lak]; exact Nat.le_refl _)
      rw [m2] at e
      exact e
    have kF : ∀ b o, b ≠ h'.objs.size → h2.get? b = some o → (sortedHeap h2 h'.objs.size (as.map Value.ref) (List.toArray out)).get? b = some o := fun b o hb e => (PyProof.Rows.sortedHeap_old hb (Heap.lt_size e)).trans e
    have kS : ∀ b o, s.heap.get? b = some o → (sortedHeap h2 h'.objs.size (as.map Value.ref) (List.toArray out)).get? b = some o := fun b o e => kF b o (ne0 _ _ (hk b o e)) (kb b o e)
    obtain ⟨eF, heF⟩ := PyProof.Rows.sortedHeap_at (vs := as.map Value.ref) (out := List.toArray out) hob
    have I1 : Inv X pins σ H { s with heap := sortedHeap h2 h'.objs.size (as.map Value.ref) (List.toArray out), toks := tk } := I.kept (t' := tk) kS
    have hn0 : H h'.objs.size = none := I.hok.fresh (Nat.le_of_lt hlt)
    have hlen : (zs.map fun z => V.ref z.1).length ≤ sizeLine := by
      have e := hperm.length_eq
      rw [List.length_map] at e
      rw [List.length_map, sizeLine_eq]
      omega
    have rv : Vals (zs.map fun z => V.ref z.1) out := by
      rw [hout]
      exact vals_maps (fun z : Addr × Str × Str => V.ref z.1) (fun z => Value.ref z.1) zs fun _ _ => rfl
    have I2 : Inv X pins σ (upd H h'.objs.size (.lst (zs.map fun z => V.ref z.1))) { s with heap := sortedHeap h2 h'.objs.size (as.map Value.ref) (List.toArray out), toks := tk } :=
      I1.take (h' := sortedHeap h2 h'.objs.size (as.map Value.ref) (List.toArray out)) (t' := tk) (fun b ob _ e => e) (I.fpOk (Nat.le_of_lt hlt) hn0) ⟨hlen, out, eF, rv, heF⟩
    obtain ⟨H2, I3, g, qt⟩ := DX.takeT (P := fun b vs => ∃ (j : Nat) (q0 : Str × Str), as[j]? = some b ∧ m[j]? = some q0 ∧ vs = [.str q0.1, .str q0.2]) I as _ I2 nd fun b hb => by
      obtain ⟨j, hj⟩ := List.mem_iff_getElem?.mp hb
      obtain ⟨q0, t1, t2, he, hg⟩ := pr j b hj
      have hbl : s.heap.objs.size ≤ b := Nat.le_of_lt (hG.above b hb)
      refine ⟨hbl, ?_, [.str q0.1, .str q0.2], ⟨j, q0, hj, he, rfl⟩, fun H3 => ⟨(by rw [sizeLine_eq]; show 2 ≤ 16777216; omega), [Value.str q0.1 t1, Value.str q0.2 t2], .cons ⟨t1, rfl⟩ (.cons ⟨t2, rfl⟩ .nil), ⟨_, kF _ _ (ne0 _ _ hg) (ka _ _ hg), rfl, 0, rfl⟩⟩⟩
      rw [upd_ne (ne0 _ _ hg)]
      exact I.hok.fresh hbl
    have gr : ∀ b o, H b = some o → H2 b = some o := fun b o e => g b o (by rw [upd_ne (ne_of_none e hn0)]; exact e)
    refine ⟨.ref h'.objs.size, H2, I3, rfl, q H2 h'.objs.size zs gr hn0 hperm hsort (g _ _ upd_same) fun z' hz' => ?_⟩
    obtain ⟨i, i1, i2⟩ := idx z' hz'
    obtain ⟨vs, ⟨j, q0, j1, j2, ev⟩, hH⟩ := qt z'.1 (List.mem_of_getElem? i1)
    have eij : i = j := (List.getElem?_inj (List.getElem?_eq_some_iff.mp i1).1 nd).mp (i1.trans j1.symm)
    subst eij
    have ee : q0 = z'.2 := Option.some.inj (j2.symm.trans i2)
    rw [ev, ee] at hH
    exact hH
end
/-! data that is small: shown and compared -/
open PySem PySem.Spec PyProof.Rows L2
/-- of bulk at most N, depth at most D -/
structure Fit (N D : Nat) (d : PyData) : Prop where
  lay : d.canLay0 = true
  sh : d.showable = true
  dp : d.depth ≤ D
  ls : d.leavesShort 13 = true
  bk : d.bulk ≤ N
theorem Fit.mono {N D N' D' : Nat} {d : PyData} (h : Fit N D d) (hN : N ≤ N') (hD : D ≤ D') : Fit N' D' d := ⟨h.lay, h.sh, Nat.le_trans h.dp hD, h.ls, Nat.le_trans h.bk hN⟩
theorem Fit.non {N D : Nat} : Fit N D .none := ⟨rfl, rfl, Nat.zero_le _, rfl, Nat.zero_le _⟩
theorem Fit.bool {N D : Nat} (b : Bool) : Fit N D (.bool b) := ⟨rfl, rfl, Nat.zero_le _, rfl, Nat.zero_le _⟩
theorem Fit.str {N D : Nat} {z : Str} (h : ∀ c ∈ z.cps.toList, c < 128) (l : z.length ≤ N) : Fit N D (.str z) := by
  refine ⟨?_, rfl, Nat.zero_le _, ?_, l⟩
  · show (z.cps.all fun c => decide (c < 0x110000)) = true
    refine Array.all_eq_true_iff_forall_mem.mpr fun c hc => decide_eq_true ?_
    have := h c (by simpa using hc)
    omega
  · show (z.cps.toList.all fun c => decide (c < 16 ^ 8)) = true
    exact List.all_eq_true.mpr fun c hc => decide_eq_true (by have := h c hc; have : (128 : Nat) ≤ 16 ^ 8 := by decide
                                                              omega)
theorem Fit.int {N D : Nat} {i : Int} (h : ((PyData.shown (.int i)).length ≤ 13 ∧ i.natAbs < 2 ^ 1000)) : Fit N D (.int i) := by
  refine ⟨rfl, ?_, Nat.zero_le _, decide_eq_true h.1, Nat.zero_le _⟩
  refine decide_eq_true ?_
  rcases Nat.eq_zero_or_pos i.natAbs with e | e
  · rw [e]; decide
  · have := (Nat.log2_lt (by omega)).mpr h.2
    omega
theorem fit_all {N D : Nat} : ∀ {ds : List PyData}, (∀ d ∈ ds, Fit N D d) → PyData.canLayAll0 ds = true ∧ PyData.showableAll ds = true ∧ PyData.depthAll ds ≤ D ∧ PyData.leavesShortAll 13 ds = true ∧ PyData.bulkAll ds ≤ (N + 1) * ds.length
  | [], _ => ⟨by simp only [PyData.canLayAll0], by simp only [PyData.showableAll], by simp only [PyData.depthAll]; omega, by simp only [PyData.leavesShortAll], by simp only [PyData.bulkAll]; omega⟩
  | d :: ds, h => by
    have h1 := h d (List.mem_cons_self ..)
    obtain ⟨a1, a2, a3, a4, a5⟩ := fit_all (ds := ds) fun x hx => h x (List.mem_cons_of_mem _ hx)
    have b3 := h1.dp
    have b5 := h1.bk
    refine ⟨?_, ?_, ?_, ?_, ?_⟩
    · simp only [PyData.canLayAll0, h1.lay, a1, Bool.and_self]
    · simp only [PyData.showableAll, h1.sh, a2, Bool.and_self]
    · simp only [PyData.depthAll]; omega
    · simp only [PyData.leavesShortAll, h1.ls, a4, Bool.and_self]
    · simp only [PyData.bulkAll, List.length_cons]
      rw [Nat.mul_add]
      omega
theorem Fit.list {N D : Nat} {ds : List PyData} (h : ∀ d ∈ ds, Fit N D d) : Fit ((N + 1) * ds.length) (D + 1) (.list ds) := by
  obtain ⟨a1, a2, a3, a4, a5⟩ := fit_all h
  exact ⟨by simpa only [PyData.canLay0] using a1, by simpa only [PyData.showable] using a2, by simp only [PyData.depth]; omega, by simpa only [PyData.leavesShort] using a4, by simpa only [PyData.bulk] using a5⟩
theorem Fit.tuple {N D : Nat} {ds : List PyData} (h : ∀ d ∈ ds, Fit N D d) : Fit ((N + 1) * ds.length) (D + 1) (.tuple ds) := by
  obtain ⟨a1, a2, a3, a4, a5⟩ := fit_all h
  exact ⟨by simpa only [PyData.canLay0] using a1, by simpa only [PyData.showable] using a2, by simp only [PyData.depth]; omega, by simpa only [PyData.leavesShort] using a4, by simpa only [PyData.bulk] using a5⟩
theorem Fit.rp {K : PySem.W.Frag} {H : Hp} {x : V} {d : PyData} {N D : Nat} (h : Fit N D d) (g : Dp K H x d) (hN : N ≤ 1048576) (hD : D ≤ 50) : Rp K H x d ∧ PyData.showable d = true ∧ PyData.depth d ≤ 50 ∧ d.shown.length ≤ sizeLine :=
  ⟨.dat g (PyData.hasDict_of_canLay d h.lay), h.sh, Nat.le_trans h.dp hD, PyData.shown_fits_bulk (by decide) (by decide) h.ls (Nat.le_trans h.bk (Nat.le_trans hN (by decide)))⟩
theorem Fit.shp {d : PyData} {N D : Nat} (h : Fit N D d) (hD : D ≤ 50) : SeqAt.shaped d = true := by
  show (d.canLay0 && decide (d.depth ≤ 64)) = true
  rw [h.lay, decide_eq_true (by have := h.dp; omega)]
  rfl
theorem Fit.eqv {d : PyData} {N D : Nat} (h : Fit N D d) : PyData.eqv d d = true := SeqAt.eqv_refl d h.lay
open PySem PySem.Spec PyProof.Rows L2
/-! ## repr of a list of a dict and two whole numbers -/
def d3 (ds : List (PyData × PyData)) (a b : Int) : PyData := .list [.dict ds, .int a, .int b]
@[irreducible] def rRepr3 : List V → Hp → VK → Prop := fun xs H Q => ∃ (L D : Addr) (kvs : List (Key × V)) (ds : List (PyData × PyData)) (a b : Int), xs = [.ref L] ∧ L ≠ sysModules ∧ H L = some (.lst [.ref D, .int a, .int b]) ∧ H D = some (.dK kvs) ∧ Flat kvs ds ∧
  PyData.showable (d3 ds a b) = true ∧ PyData.depth (d3 ds a b) ≤ 50 ∧ (d3 ds a b).shown.length ≤ sizeLine ∧ Q (.str (d3 ds a b).shown) H
section
variable {X : Cx} {pins : List (Addr × Obj)} {σ : L2.St} {H : Hp} {s : Shared}
theorem call_repr3 (hg : X.A.guards = some []) (hu : X.A.units + 60 < cLine) : CallR X (.builtin "repr") rRepr3 := by
  intro pins s σ H xs us Q I r h
  unfold rRepr3 at h
  obtain ⟨L, D, kvs, ds, a, b, rfl, hns, hL, hD, hf, hs, hd, hz, q⟩ := h
  obtain rfl := Vals.ref1 r
  obtain ⟨_, its, n, rv, ho⟩ := I.hok L _ hL
  obtain ⟨u1, u2, u3, rfl, r1, r2, r3⟩ : ∃ u1 u2 u3, its = [u1, u2, u3] ∧ RelV (.ref D) u1 ∧ RelV (.int a) u2 ∧ RelV (.int b) u3 := by
    cases rv with
    | cons p1 q1 =>
      cases q1 with
      | cons p2 q2 =>
        cases q2 with
        | cons p3 q3 => cases q3; exact ⟨_, _, _, rfl, p1, p2, p3⟩
  obtain ⟨as, rd, hm⟩ := Rp.reads (X := X) I (Rp.dct hD hf) r1
  obtain ⟨t2, rfl⟩ := r2
  obtain ⟨t3, rfl⟩ := r3
  have R := Reads.list (h := s.heap) ho rfl rfl (ReadsAll.cons rd (ReadsAll.cons (.int a t2) (ReadsAll.cons (.int b t3) .nil)))
  refine repr_of_reads' R hs (fun _ => ?_) hg (by show X.A.units + ((d3 ds a b).depth + 1) < cLine; omega) (fun _ _ e => e) (fun h' u tk hk => ⟨.str _, H, I.kept hk, ⟨_, rfl⟩, q⟩) hz
  intro hmem
  rcases List.mem_cons.mp hmem with e | e
  · exact hns e.symm
  · simp only [List.append_nil, List.nil_append] at e
    exact hm (by simp [PyData.hasDict]) e
/-- a list display; its place is not that of sys.modules -/
def tLstN (t : TA) : TE := fun σ H Q => t σ H fun xs H1 => xs.length ≤ sizeLine ∧ ∀ p, H1 p = none → p ≠ sysModules → Q (.ref p) (upd H1 p (.lst xs))
theorem pe_lstN {es : List Expr} {t : TA} {pos : Pos} (h : PA X es t) : PE X (.List es pos) (tLstN t) := by
  refine ⟨fun pins s σ H Q I hq => ?_⟩
  refine wpAny_List_spliced (thn (h.run pos pins s σ H _ I hq) fun us s1 ⟨xs, H1, I1, r, z, q⟩ => ⟨by rw [← r.length]; exact z, ?_⟩)
  have hf : H1 s1.heap.objs.size = none := I1.hok.fresh (Nat.le_refl _)
  refine ⟨.ref s1.heap.objs.size, upd H1 s1.heap.objs.size (.lst xs), I1.laid (t' := s1.toks) (fun b u e => Heap.get?_push_of_some _ e) (Nat.le_refl _) ?_, rfl, q _ hf (Ne.symm (Nat.ne_of_lt I1.big))⟩
  exact ⟨z, us, 0, r, Heap.get?_push_size _ rfl⟩
end
theorem flat_tk (m : List (Str × Str)) : Flat (m.map fun p => ((Sum.inr p.1 : Key), V.str p.2)) (m.map fun p => (PyData.str p.1, PyData.str p.2)) := by
  induction m with
  | nil => exact .nil
  | cons p m ih => exact .cons (k := Sum.inr p.1) rfl ih
theorem repr3_go {L D : Addr} {m : List (Str × Str)} {a b : Int} {H : Hp} {Q : VK} (hn : L ≠ sysModules) (hL : H L = some (.lst [.ref D, .int a, .int b])) (hD : H D = some (.dK (m.map fun p => ((Sum.inr p.1 : Key), V.str p.2)))) (ok : PyData.showable (d3 (m.map fun p => (PyData.str p.1, PyData.str p.2)) a b) = true ∧ PyData.depth (d3 (m.map fun p => (PyData.str p.1, PyData.str p.2)) a b) ≤ 50 ∧ (d3 (m.map fun p => (PyData.str p.1, PyData.str p.2)) a b).shown.length ≤ sizeLine)
    (q : Q (.str (d3 (m.map fun p => (PyData.str p.1, PyData.str p.2)) a b).shown) H) : rRepr3 [.ref L] H Q := by
  unfold rRepr3
  exact ⟨L, D, _, _, a, b, rfl, hn, hL, hD, flat_tk m, ok.1, ok.2.1, ok.2.2, q⟩
theorem fit_kv {N D : Nat} : ∀ {ds : List (PyData × PyData)}, (∀ p ∈ ds, Fit N D p.1 ∧ Fit N D p.2) → PyData.showableKv ds = true ∧ PyData.depthKv ds ≤ D ∧ PyData.leavesShortKv 13 ds = true ∧ PyData.bulkKv ds ≤ (2 * N + 2) * ds.length
  | [], _ => ⟨by simp only [PyData.showableKv], by simp only [PyData.depthKv]; omega, by simp only [PyData.leavesShortKv], by simp only [PyData.bulkKv]; omega⟩
  | (a, b) :: ds, h => by
    obtain ⟨h1, h2⟩ := h (a, b) (List.mem_cons_self ..)
    obtain ⟨a2, a3, a4, a5⟩ := fit_kv (ds := ds) fun x hx => h x (List.mem_cons_of_mem _ hx)
    have b3 := h1.dp
    have b5 := h1.bk
    have c3 := h2.dp
    have c5 := h2.bk
    simp only at b3 b5 c3 c5
    refine ⟨?_, ?_, ?_, ?_⟩
    · simp only [PyData.showableKv, h1.sh, h2.sh, a2, Bool.and_self]
    · simp only [PyData.depthKv]; omega
    · simp only [PyData.leavesShortKv, h1.ls, h2.ls, a4, Bool.and_self]
    · simp only [PyData.bulkKv, List.length_cons]
      rw [Nat.mul_add]
      omega
/-- such data is small -/
theorem d3_ok {m : List (Str × Str)} {a b : Int} (h : ∀ p ∈ m, (∀ c ∈ p.1.cps.toList, c < 128) ∧ (∀ c ∈ p.2.cps.toList, c < 128) ∧ p.1.length ≤ 200 ∧ p.2.length ≤ 200) (l : m.length ≤ 40) (ha : 0 ≤ a) (ha2 : a ≤ 1000) (hb : 0 ≤ b) (hb2 : b ≤ 1000) :
    PyData.showable (d3 (m.map fun p => (PyData.str p.1, PyData.str p.2)) a b) = true ∧ PyData.depth (d3 (m.map fun p => (PyData.str p.1, PyData.str p.2)) a b) ≤ 50 ∧ (d3 (m.map fun p => (PyData.str p.1, PyData.str p.2)) a b).shown.length ≤ sizeLine := by
  obtain ⟨k1, k2, k3, k4⟩ := fit_kv (N := 200) (D := 0) (ds := m.map fun p => (PyData.str p.1, PyData.str p.2)) (by
    intro p hp
    obtain ⟨q, hq, rfl⟩ := List.mem_map.mp hp
    obtain ⟨q1, q2, q3, q4⟩ := h q hq
    exact ⟨Fit.str q1 q3, Fit.str q2 q4⟩)
  have hi : ∀ i : Int, 0 ≤ i → i ≤ 1000 → Fit 0 0 (.int i) := fun i h0 h1 => Fit.int ⟨PyData.shown_int_le (Nat.lt_of_le_of_lt (m := 1000) (by omega) (by decide)), Nat.lt_of_le_of_lt (m := 1000) (by omega) (by decide)⟩
  have ia := hi a ha ha2
  have ib := hi b hb hb2
  have k5 : (m.map fun p => (PyData.str p.1, PyData.str p.2)).length ≤ 40 := by rw [List.length_map]; exact l
  generalize (m.map fun p => (PyData.str p.1, PyData.str p.2)) = ds at *
  refine ⟨?_, ?_, PyData.shown_fits_bulk (B := 13) (by decide) (by decide) ?_ ?_⟩
  · simp only [d3, PyData.showable, PyData.showableAll, k1, Bool.and_self, Bool.and_true, Bool.true_and, Bool.and_eq_true]
    exact ⟨by simpa only [PyData.showable] using ia.sh, by simpa only [PyData.showable] using ib.sh⟩
  · simp only [d3, PyData.depth, PyData.depthAll]
    omega
  · simp only [d3, PyData.leavesShort, PyData.leavesShortAll, k3, Bool.and_self, Bool.and_true, Bool.true_and, Bool.and_eq_true]
    exact ⟨by simpa only [PyData.leavesShort] using ia.ls, by simpa only [PyData.leavesShort] using ib.ls⟩
  · simp only [d3, PyData.bulk, PyData.bulkAll]
    have : 402 * ds.length ≤ 402 * 40 := Nat.mul_le_mul_left _ k5
    have e : (2 ^ 20 : Nat) = 1048576 := by decide
    omega
open PySem PySem.Spec PyProof.Rows L2
/-! ## repr of a list of numbers, texts, dicts of these -/
/-- an item of such a list -/
inductive Rf (H : Hp) : V → PyData → Prop
  | atom {v : V} {d : PyData} : vD v = some d → Rf H v d
  | dct {a : Addr} {kvs : List (Key × V)} {ds : List (PyData × PyData)} : H a = some (.dK kvs) → Flat kvs ds → Rf H (.ref a) (.dict ds)
@[irreducible] def rReprF : List V → Hp → VK → Prop := fun xs H Q => ∃ (L : Addr) (ys : List V) (ds : List PyData), xs = [.ref L] ∧ L ≠ sysModules ∧ H L = some (.lst ys) ∧ Paired (Rf H) ys ds ∧
  PyData.showable (.list ds) = true ∧ PyData.depth (.list ds) ≤ 50 ∧ (PyData.list ds).shown.length ≤ sizeLine ∧ Q (.str (PyData.list ds).shown) H
section
variable {X : Cx} {pins : List (Addr × Obj)} {σ : L2.St} {H : Hp} {s : Shared}
theorem Rf.reads (I : Inv X pins σ H s) {x : V} {d : PyData} {u : Value} (h : Rf H x d) (r : RelV x u) : ∃ as, Reads s.heap u d as ∧ sysModules ∉ as := by
  cases h with
  | atom h => exact ⟨[], vD_reads h r, by simp⟩
  | dct h1 h2 =>
    obtain ⟨as, rd, hm⟩ := Rp.reads (X := X) I (Rp.dct h1 h2) r
    exact ⟨as, rd, hm (by simp [PyData.hasDict])⟩
theorem Rf.readsAll (I : Inv X pins σ H s) : ∀ {xs : List V} {ds : List PyData} {us : List Value}, Paired (Rf H) xs ds → Vals xs us → ∃ as, ReadsAll s.heap us ds as ∧ sysModules ∉ as
  | _, _, _, .nil, .nil => ⟨[], .nil, by simp⟩
  | _, _, _, .cons h t, .cons r q => by
    obtain ⟨a1, r1, n1⟩ := h.reads I r
    obtain ⟨a2, r2, n2⟩ := Rf.readsAll I t q
    exact ⟨a1 ++ a2, .cons r1 r2, fun hm => (List.mem_append.mp hm).elim n1 n2⟩
theorem call_reprF (hg : X.A.guards = some []) (hu : X.A.units + 60 < cLine) : CallR X (.builtin "repr") rReprF := by
  intro pins s σ H xs us Q I r h
  unfold rReprF at h
  obtain ⟨L, ys, ds, rfl, hns, hL, hp, hs, hd, hz, q⟩ := h
  obtain rfl := Vals.ref1 r
  obtain ⟨_, its, n, rv, ho⟩ := I.hok L _ hL
  obtain ⟨as, rd, hm⟩ := Rf.readsAll I hp rv
  have R := Reads.list (h := s.heap) ho rfl rfl rd
  refine repr_of_reads' R hs (fun _ => ?_) hg (by omega) (fun _ _ e => e) (fun h' u tk hk => ⟨.str _, H, I.kept hk, ⟨_, rfl⟩, q⟩) hz
  intro hmem
  rcases List.mem_cons.mp hmem with e | e
  · exact hns e.symm
  · exact hm e
end
/-- small data, dicts too -/
structure FitR (N D : Nat) (d : PyData) : Prop where
  sh : d.showable = true
  dp : d.depth ≤ D
  ls : d.leavesShort 13 = true
  bk : d.bulk ≤ N
theorem Fit.r {N D : Nat} {d : PyData} (h : Fit N D d) : FitR N D d := ⟨h.sh, h.dp, h.ls, h.bk⟩
theorem FitR.mono {N D N' D' : Nat} {d : PyData} (h : FitR N D d) (hN : N ≤ N') (hD : D ≤ D') : FitR N' D' d := ⟨h.sh, Nat.le_trans h.dp hD, h.ls, Nat.le_trans h.bk hN⟩
theorem FitR.dict {N D : Nat} {ds : List (PyData × PyData)} (h : ∀ p ∈ ds, Fit N D p.1 ∧ Fit N D p.2) : FitR ((2 * N + 2) * ds.length) (D + 1) (.dict ds) := by
  obtain ⟨k1, k2, k3, k4⟩ := fit_kv h
  exact ⟨by simpa only [PyData.showable] using k1, by simp only [PyData.depth]; omega, by simpa only [PyData.leavesShort] using k3, by simpa only [PyData.bulk] using k4⟩
theorem fitR_all {N D : Nat} : ∀ {ds : List PyData}, (∀ d ∈ ds, FitR N D d) → PyData.showableAll ds = true ∧ PyData.depthAll ds ≤ D ∧ PyData.leavesShortAll 13 ds = true ∧ PyData.bulkAll ds ≤ (N + 1) * ds.length
  | [], _ => ⟨by simp only [PyData.showableAll], by simp only [PyData.depthAll]; omega, by simp only [PyData.leavesShortAll], by simp only [PyData.bulkAll]; omega⟩
  | d :: ds, h => by
    have h1 := h d (List.mem_cons_self ..)
    obtain ⟨a2, a3, a4, a5⟩ := fitR_all (ds := ds) fun x hx => h x (List.mem_cons_of_mem _ hx)
    have b3 := h1.dp
    have b5 := h1.bk
    refine ⟨?_, ?_, ?_, ?_⟩
    · simp only [PyData.showableAll, h1.sh, a2, Bool.and_self]
    · simp only [PyData.depthAll]; omega
    · simp only [PyData.leavesShortAll, h1.ls, a4, Bool.and_self]
    · simp only [PyData.bulkAll, List.length_cons]
      rw [Nat.mul_add]
      omega
theorem FitR.list {N D : Nat} {ds : List PyData} (h : ∀ d ∈ ds, FitR N D d) : FitR ((N + 1) * ds.length) (D + 1) (.list ds) := by
  obtain ⟨a2, a3, a4, a5⟩ := fitR_all h
  exact ⟨by simpa only [PyData.showable] using a2, by simp only [PyData.depth]; omega, by simpa only [PyData.leavesShort] using a4, by simpa only [PyData.bulk] using a5⟩
theorem FitR.ok {d : PyData} {N D : Nat} (h : FitR N D d) (hN : N ≤ 1048576) (hD : D ≤ 50) : PyData.showable d = true ∧ PyData.depth d ≤ 50 ∧ d.shown.length ≤ sizeLine :=
  ⟨h.sh, Nat.le_trans h.dp hD, PyData.shown_fits_bulk (by decide) (by decide) h.ls (Nat.le_trans h.bk (Nat.le_trans hN (by decide)))⟩
theorem reprF_go {L : Addr} {ys : List V} {ds : List PyData} {N D : Nat} {H : Hp} {Q : VK} (hn : L ≠ sysModules) (hL : H L = some (.lst ys)) (hp : Paired (Rf H) ys ds) (h : FitR N D (.list ds)) (hN : N ≤ 1048576) (hD : D ≤ 50) (q : Q (.str (PyData.list ds).shown) H) : rReprF [.ref L] H Q := by
  unfold rReprF
  obtain ⟨a, b, c⟩ := h.ok hN hD
  exact ⟨L, ys, ds, rfl, hn, hL, hp, a, b, c, q⟩
theorem fit_i {i : Int} (h0 : 0 ≤ i) (h1 : i ≤ 1000) : Fit 0 0 (.int i) := Fit.int ⟨PyData.shown_int_le (Nat.lt_of_le_of_lt (m := 1000) (by omega) (by decide)), Nat.lt_of_le_of_lt (m := 1000) (by omega) (by decide)⟩
theorem fitR_tk {m : List (Str × Str)} (h : ∀ p ∈ m, (∀ c ∈ p.1.cps.toList, c < 128) ∧ (∀ c ∈ p.2.cps.toList, c < 128) ∧ p.1.length ≤ 200 ∧ p.2.length ≤ 200) : FitR (402 * m.length) 1 (.dict (m.map fun p => (PyData.str p.1, PyData.str p.2))) := by
  have := FitR.dict (N := 200) (D := 0) (ds := m.map fun p => (PyData.str p.1, PyData.str p.2)) (by
    intro p hp
    obtain ⟨q, hq, rfl⟩ := List.mem_map.mp hp
    obtain ⟨q1, q2, q3, q4⟩ := h q hq
    exact ⟨Fit.str q1 q3, Fit.str q2 q4⟩)
  rw [List.length_map] at this
  exact this
open PySem PySem.Spec PyProof.Rows L2
/-! ## data with numbers of up to B signs -/
structure FitB (B N D : Nat) (d : PyData) : Prop where
  sh : d.showable = true
  dp : d.depth ≤ D
  ls : d.leavesShort B = true
  bk : d.bulk ≤ N
theorem FitB.str {B N D : Nat} {z : Str} (h : ∀ c ∈ z.cps.toList, c < 128) (l : z.length ≤ N) : FitB B N D (.str z) := by
  refine ⟨rfl, Nat.zero_le _, ?_, l⟩
  show (z.cps.toList.all fun c => decide (c < 16 ^ 8)) = true
  exact List.all_eq_true.mpr fun c hc => decide_eq_true (by
    have := h c hc
    have : (128 : Nat) ≤ 16 ^ 8 := by decide
    omega)
theorem FitB.int {B N D k : Nat} {i : Int} (hk : 0 < k) (hB : k + 1 ≤ B) (h : i.natAbs < 10 ^ k) (h2 : i.natAbs < 2 ^ 1900) : FitB B N D (.int i) := by
  refine ⟨?_, Nat.zero_le _, ?_, Nat.zero_le _⟩
  · refine decide_eq_true ?_
    rcases Nat.eq_zero_or_pos i.natAbs with e | e
    · rw [e]; decide
    · have := (Nat.log2_lt (by omega)).mpr h2
      omega
  · refine decide_eq_true ?_
    have e := int_text_length_le10 hk h
    show (Str.ofString (toString i)).length ≤ B
    rw [PySem.ofString_length]
    omega
theorem FitB.non {B N D : Nat} : FitB B N D .none := ⟨rfl, Nat.zero_le _, rfl, Nat.zero_le _⟩
theorem FitB.bool {B N D : Nat} (b : Bool) : FitB B N D (.bool b) := ⟨rfl, Nat.zero_le _, rfl, Nat.zero_le _⟩
theorem FitB.mono {B N D N' D' : Nat} {d : PyData} (h : FitB B N D d) (hN : N ≤ N') (hD : D ≤ D') : FitB B N' D' d := ⟨h.sh, Nat.le_trans h.dp hD, h.ls, Nat.le_trans h.bk hN⟩
theorem fitB_kv {B N D : Nat} : ∀ {ds : List (PyData × PyData)}, (∀ p ∈ ds, FitB B N D p.1 ∧ FitB B N D p.2) → PyData.showableKv ds = true ∧ PyData.depthKv ds ≤ D ∧ PyData.leavesShortKv B ds = true ∧ PyData.bulkKv ds ≤ (2 * N + 2) * ds.length
  | [], _ => ⟨by simp only [PyData.showableKv], by simp only [PyData.depthKv]; omega, by simp only [PyData.leavesShortKv], by simp only [PyData.bulkKv]; omega⟩
  | (a, b) :: ds, h => by
    obtain ⟨h1, h2⟩ := h (a, b) (List.mem_cons_self ..)
    obtain ⟨a2, a3, a4, a5⟩ := fitB_kv (ds := ds) fun x hx => h x (List.mem_cons_of_mem _ hx)
    have b3 := h1.dp
    have b5 := h1.bk
    have c3 := h2.dp
    have c5 := h2.bk
    simp only at b3 b5 c3 c5
    refine ⟨?_, ?_, ?_, ?_⟩
    · simp only [PyData.showableKv, h1.sh, h2.sh, a2, Bool.and_self]
    · simp only [PyData.depthKv]; omega
    · simp only [PyData.leavesShortKv, h1.ls, h2.ls, a4, Bool.and_self]
    · simp only [PyData.bulkKv, List.length_cons]
      rw [Nat.mul_add]
      omega
theorem fitB_all {B N D : Nat} : ∀ {ds : List PyData}, (∀ d ∈ ds, FitB B N D d) → PyData.showableAll ds = true ∧ PyData.depthAll ds ≤ D ∧ PyData.leavesShortAll B ds = true ∧ PyData.bulkAll ds ≤ (N + 1) * ds.length
  | [], _ => ⟨by simp only [PyData.showableAll], by simp only [PyData.depthAll]; omega, by simp only [PyData.leavesShortAll], by simp only [PyData.bulkAll]; omega⟩
  | d :: ds, h => by
    have h1 := h d (List.mem_cons_self ..)
    obtain ⟨a2, a3, a4, a5⟩ := fitB_all (ds := ds) fun x hx => h x (List.mem_cons_of_mem _ hx)
    have b3 := h1.dp
    have b5 := h1.bk
    refine ⟨?_, ?_, ?_, ?_⟩
    · simp only [PyData.showableAll, h1.sh, a2, Bool.and_self]
    · simp only [PyData.depthAll]; omega
    · simp only [PyData.leavesShortAll, h1.ls, a4, Bool.and_self]
    · simp only [PyData.bulkAll, List.length_cons]
      rw [Nat.mul_add]
      omega
theorem FitB.dict {B N D : Nat} {ds : List (PyData × PyData)} (h : ∀ p ∈ ds, FitB B N D p.1 ∧ FitB B N D p.2) : FitB B ((2 * N + 2) * ds.length) (D + 1) (.dict ds) := by
  obtain ⟨k1, k2, k3, k4⟩ := fitB_kv h
  exact ⟨by simpa only [PyData.showable] using k1, by simp only [PyData.depth]; omega, by simpa only [PyData.leavesShort] using k3, by simpa only [PyData.bulk] using k4⟩
theorem FitB.list {B N D : Nat} {ds : List PyData} (h : ∀ d ∈ ds, FitB B N D d) : FitB B ((N + 1) * ds.length) (D + 1) (.list ds) := by
  obtain ⟨a2, a3, a4, a5⟩ := fitB_all h
  exact ⟨by simpa only [PyData.showable] using a2, by simp only [PyData.depth]; omega, by simpa only [PyData.leavesShort] using a4, by simpa only [PyData.bulk] using a5⟩
theorem FitB.tuple {B N D : Nat} {ds : List PyData} (h : ∀ d ∈ ds, FitB B N D d) : FitB B ((N + 1) * ds.length) (D + 1) (.tuple ds) := by
  obtain ⟨a2, a3, a4, a5⟩ := fitB_all h
  exact ⟨by simpa only [PyData.showable] using a2, by simp only [PyData.depth]; omega, by simpa only [PyData.leavesShort] using a4, by simpa only [PyData.bulk] using a5⟩
theorem FitB.ok {B N D : Nat} {d : PyData} (h : FitB B N D d) (hB : 8 ≤ B) (hN : (B + 2) * N + B ≤ 1000000) (hD : D ≤ 50) : PyData.showable d = true ∧ PyData.depth d ≤ 50 ∧ d.shown.length ≤ sizeLine := by
  refine ⟨h.sh, Nat.le_trans h.dp hD, ?_⟩
  have e := PyData.shown_le_bulk B hB d h.ls
  have e2 : (B + 2) * d.bulk ≤ (B + 2) * N := Nat.mul_le_mul_left _ h.bk
  rw [sizeLine_eq]
  omega
open PySem PySem.Spec PyProof.Rows
open L2 hiding pass0
/-! ## repr of lists and tuples, nested, with dicts of flat values in them -/
/-- v shows as d: below n lists or tuples -/
def Tr (H : Hp) : Nat → V → PyData → Prop
  | 0 => fun v d => Rf H v d
  | n + 1 => fun v d => Rf H v d ∨ (∃ a xs ds, v = .ref a ∧ d = .list ds ∧ a ≠ sysModules ∧ H a = some (.lst xs) ∧ Paired (Tr H n) xs ds) ∨ ∃ a xs ds, v = .ref a ∧ d = .tuple ds ∧ a ≠ sysModules ∧ H a = some (.tup xs) ∧ Paired (Tr H n) xs ds
section
variable {X : Cx} {pins : List (Addr × Obj)} {σ : L2.St} {H : Hp} {s : Shared}
theorem tr_all {F : V → PyData → Prop} (ih : ∀ (v : V) (d : PyData) (u : Value), F v d → RelV v u → ∃ as, Reads s.heap u d as ∧ sysModules ∉ as) : ∀ {xs : List V} {ds : List PyData} {us : List Value}, Paired F xs ds → Vals xs us → ∃ as, ReadsAll s.heap us ds as ∧ sysModules ∉ as
  | _, _, _, .nil, .nil => ⟨[], .nil, by simp⟩
  | _, _, _, .cons h t, .cons r q => by
    obtain ⟨a1, r1, n1⟩ := ih _ _ _ h r
    obtain ⟨a2, r2, n2⟩ := tr_all ih t q
    exact ⟨a1 ++ a2, .cons r1 r2, fun hm => (List.mem_append.mp hm).elim n1 n2⟩
theorem tr_reads (I : Inv X pins σ H s) : ∀ (n : Nat) (v : V) (d : PyData) (u : Value), Tr H n v d → RelV v u → ∃ as, Reads s.heap u d as ∧ sysModules ∉ as := by
  intro n
  induction n with
  | zero => exact fun v d u h r => Rf.reads I h r
  | succ n ih =>
    intro v d u h r
    rcases h with h | ⟨a, xs, ds, rfl, rfl, na, ha, hp⟩ | ⟨a, xs, ds, rfl, rfl, na, ha, hp⟩
    · exact Rf.reads I h r
    · obtain rfl : u = Value.ref a := r
      obtain ⟨_, its, k, rv, ho⟩ := I.hok a _ ha
      obtain ⟨as, rd, hm⟩ := tr_all ih hp rv
      exact ⟨_, Reads.list ho rfl rfl rd, fun z => (List.mem_cons.mp z).elim (fun e => na e.symm) hm⟩
    · obtain rfl : u = Value.ref a := r
      obtain ⟨_, its, rv, o, ho, hc, k, hd⟩ := I.hok a _ ha
      obtain ⟨as, rd, hm⟩ := tr_all ih hp rv
      exact ⟨_, Reads.tuple ho hc hd (by simpa using rd), by first | exact hm | exact fun z => (List.mem_cons.mp z).elim (fun e => na e.symm) hm⟩
end
@[irreducible] def rReprT : List V → Hp → VK → Prop := fun xs H Q => ∃ (L : Addr) (ys : List V) (ds : List PyData) (n : Nat), xs = [.ref L] ∧ L ≠ sysModules ∧ H L = some (.lst ys) ∧ Paired (Tr H n) ys ds ∧
  PyData.showable (.list ds) = true ∧ PyData.depth (.list ds) ≤ 50 ∧ (PyData.list ds).shown.length ≤ sizeLine ∧ Q (.str (PyData.list ds).shown) H
section
variable {X : Cx}
theorem call_reprT (hg : X.A.guards = some []) (hu : X.A.units + 60 < cLine) : CallR X (.builtin "repr") rReprT := by
  intro pins s σ H xs us Q I r h
  unfold rReprT at h
  obtain ⟨L, ys, ds, n, rfl, hns, hL, hp, hs, hd, hz, q⟩ := h
  obtain rfl := Vals.ref1 r
  obtain ⟨_, its, k, rv, ho⟩ := I.hok L _ hL
  obtain ⟨as, rd, hm⟩ := tr_all (tr_reads I n) hp rv
  refine repr_of_reads' (Reads.list (h := s.heap) ho rfl rfl rd) hs (fun _ => ?_) hg (by omega) (fun _ _ e => e) (fun h' u tk hk => ⟨.str _, H, I.kept hk, ⟨_, rfl⟩, q⟩) hz
  exact fun z => (List.mem_cons.mp z).elim (fun e => hns e.symm) hm
/-- a tuple display; its place is not that of sys.modules -/
def tTupN (t : TA) : TE := fun σ H Q => t σ H fun xs H1 => xs.length ≤ sizeLine ∧ ∀ p, H1 p = none → p ≠ sysModules → Q (.ref p) (upd H1 p (.tup xs))
theorem pe_tupN {x1 : Nat} {es : List Expr} {t : TA} {pos : Pos} (h : PA X es t) : PE X (.Tuple es x1 pos) (tTupN t) := by
  refine ⟨fun pins s σ H Q I hq => ?_⟩
  refine wpAny_Tuple_spliced (thn (h.run pos pins s σ H _ I hq) fun us s1 z => ?_)
  obtain ⟨xs, H1, I1, r, l, q⟩ := z
  have big : s1.heap.objs.size ≠ sysModules := Ne.symm (Nat.ne_of_lt I1.big)
  have new : (s1.heap.push { cls := .type "tuple", data := .seq us.toArray } : Heap).get? s1.heap.objs.size = some ({ cls := .type "tuple", data := .seq us.toArray } : Obj) := Heap.get?_push_size _ rfl
  refine ⟨by rw [← r.length]; exact l, .ref s1.heap.objs.size, upd H1 s1.heap.objs.size (.tup xs), ?_, rfl, q _ (I1.hok.fresh (Nat.le_refl _)) big⟩
  exact I1.laid (t' := s1.toks) (fun b u e => Heap.get?_push_of_some _ e) (Nat.le_refl _) ⟨l, us, r, ⟨_, new, rfl, _, rfl⟩⟩
/-- list + list; its place is not that of sys.modules -/
def rCatN : R2 := fun x y H Q => ∃ l b xs zs, x = .ref l ∧ y = .ref b ∧ H l = some (.lst xs) ∧ H b = some (.lst zs) ∧ xs.length + zs.length ≤ sizeLine ∧ ∀ p, H p = none → p ≠ sysModules → Q (.ref p) (upd H p (.lst (xs ++ zs)))
theorem op_catN : OpR X (binaryOp .Add) rCatN := by
  intro pins s σ H x y v u Q I rx ry h
  obtain ⟨l, b, xs, zs, rfl, rfl, h1, h2, hz, q⟩ := h
  obtain rfl : v = Value.ref l := rx
  obtain rfl : u = Value.ref b := ry
  obtain ⟨_, i1, _, r1, l1, e1⟩ := I.lstM h1
  obtain ⟨_, i2, _, r2, l2, e2⟩ := I.lstM h2
  have new := I.lnew (t' := s.toks) (r1.append r2) (by rw [List.length_append]; omega)
  have big : s.heap.objs.size ≠ sysModules := Ne.symm (Nat.ne_of_lt I.big)
  refine PySem.P.add_list e1 e2 ?_ (by simp only [List.size_toArray]; omega)
  rw [show i1.toArray ++ i2.toArray = (i1 ++ i2).toArray by simp]
  exact ⟨.ref _, _, new, rfl, q _ I.fresh big⟩
end
open PySem PySem.Spec PyProof.Rows
open L2 hiding pass0
/-! ### odd values -/
inductive FlatV : V → PyData → Prop
  | int {i : Int} (h : i.natAbs < 100) : FlatV (.int i) (.int i)
  | str {z : Str} (h : Low z) (l : z.length ≤ 10) : FlatV (.str z) (.str z)
inductive OddD (H : Hp) : V → PyData → Prop
  | int {i : Int} (h : i.natAbs < 10000000000000000000000000000000) : OddD H (.int i) (.int i)
  | bl (b : Bool) : OddD H (.bl b) (.bool b)
  | non : OddD H .non .none
  | str {z : Str} (h : Low z) (l : z.length ≤ 1000) : OddD H (.str z) (.str z)
  | lst {a : Addr} {x : V} {d : PyData} (n : a ≠ sysModules) (e : H a = some (.lst [x])) (f : FlatV x d) : OddD H (.ref a) (.list [d])
  | tup {a : Addr} {x : V} {d : PyData} (n : a ≠ sysModules) (e : H a = some (.tup [x])) (f : FlatV x d) : OddD H (.ref a) (.tuple [d])
  | dct0 {a : Addr} (e : H a = some (.dK [])) : OddD H (.ref a) (.dict [])
  | dct1 {a : Addr} (e : H a = some (.dK [(Sum.inr "0", .int 1)])) : OddD H (.ref a) (.dict [(.str "0", .int 1)])
/-! ### kinds -/
def tyN : PyData → String
  | .none => "NoneType"
  | .bool _ => "bool"
  | .int _ => "int"
  | .str _ => "str"
  | .list _ => "list"
  | .tuple _ => "tuple"
  | .dict _ => "dict"
theorem OddD.ty {K : PySem.W.Frag} {H : Hp} {x : V} {d : PyData} (g : OddD H x d) : TyX K H x (.type (tyN d)) := by
  cases g with
  | int h => exact .base (.int _)
  | bl b => exact .base (.bl b)
  | non => exact .base .non
  | str h l => exact .base (.str _)
  | lst n e f => exact .base (.lst e)
  | tup n e f => exact .base (.tup e)
  | dct0 e => exact .base (.dK e)
  | dct1 e => exact .base (.dK e)
theorem oisi_go {K : PySem.W.Frag} {H : Hp} {Q : VK} {x : V} {d : PyData} {T : String} {b : Bool} (g : OddD H x d) (h : kitB (tyN d) T = some b) (q : Q (.bl b) H) : rIsi K [x, .ty T] H Q :=
  ⟨x, .ty T, _, _, b, rfl, .ty T, g.ty, kit_ty h, q⟩
/-- of which kind -/
inductive KindO (x : V) (d : PyData) : Prop
  | int {i : Int} (e : x = .int i) (f : d = .int i)
  | bl {b : Bool} (e : x = .bl b) (f : d = .bool b)
  | str {z : Str} (e : x = .str z) (f : d = .str z) (h : Low z) (l : z.length ≤ 1000)
  | oth (e : x = .non ∨ ∃ a, x = .ref a) (h1 : kitB (tyN d) "int" = some false) (h2 : kitB (tyN d) "bool" = some false) (h3 : kitB (tyN d) "str" = some false)
theorem OddD.kind {H : Hp} {x : V} {d : PyData} (g : OddD H x d) : KindO x d := by
  cases g with
  | int h => exact .int rfl rfl
  | bl b => exact .bl rfl rfl
  | non => exact .oth (.inl rfl) (by decide +kernel) (by decide +kernel) (by decide +kernel)
  | str h l => exact .str rfl rfl h l
  | lst n e f => exact .oth (.inr ⟨_, rfl⟩) (show kitB "list" _ = _ by decide +kernel) (show kitB "list" _ = _ by decide +kernel) (show kitB "list" _ = _ by decide +kernel)
  | tup n e f => exact .oth (.inr ⟨_, rfl⟩) (show kitB "tuple" _ = _ by decide +kernel) (show kitB "tuple" _ = _ by decide +kernel) (show kitB "tuple" _ = _ by decide +kernel)
  | dct0 e => exact .oth (.inr ⟨_, rfl⟩) (by decide +kernel) (by decide +kernel) (by decide +kernel)
  | dct1 e => exact .oth (.inr ⟨_, rfl⟩) (by decide +kernel) (by decide +kernel) (by decide +kernel)
theorem kb_ii (i : Int) : kitB (tyN (.int i)) "int" = some true := by show kitB "int" "int" = _; decide +kernel
theorem kb_ib (i : Int) : kitB (tyN (.int i)) "bool" = some false := by show kitB "int" "bool" = _; decide +kernel
theorem kb_is (i : Int) : kitB (tyN (.int i)) "str" = some false := by show kitB "int" "str" = _; decide +kernel
theorem kb_bi (b : Bool) : kitB (tyN (.bool b)) "int" = some true := by show kitB "bool" "int" = _; decide +kernel
theorem kb_bb (b : Bool) : kitB (tyN (.bool b)) "bool" = some true := by show kitB "bool" "bool" = _; decide +kernel
theorem kb_bs (b : Bool) : kitB (tyN (.bool b)) "str" = some false := by show kitB "bool" "str" = _; decide +kernel
theorem kb_si (b : Str) : kitB (tyN (.str b)) "int" = some false := by show kitB "str" "int" = _; decide +kernel
theorem kb_ss (b : Str) : kitB (tyN (.str b)) "str" = some true := by show kitB "str" "str" = _; decide +kernel
theorem lowOf {z : Str} (h : (z.cps.toList.all fun c => decide (c < 128)) = true) : Low z := fun c hc => of_decide_eq_true (List.all_eq_true.mp h c hc)
theorem FlatV.vd {x : V} {d : PyData} (f : FlatV x d) : vD x = some d := by cases f <;> rfl
theorem FlatV.fit {x : V} {d : PyData} (f : FlatV x d) : FitB 40 10 0 d := by
  cases f with
  | int h => exact FitB.int (k := 31) (by decide) (by decide) (Nat.lt_of_lt_of_le h (by decide)) (Nat.lt_of_lt_of_le h (Nat.le_trans (show 100 ≤ 2 ^ 7 by decide) (Nat.pow_le_pow_right (by decide) (by decide))))
  | str h l => exact FitB.str h (by omega)
theorem OddD.tr {H : Hp} {x : V} {d : PyData} (g : OddD H x d) : Tr H 1 x d := by
  cases g with
  | int h => exact .inl (.atom rfl)
  | bl b => exact .inl (.atom rfl)
  | non => exact .inl (.atom rfl)
  | str h l => exact .inl (.atom rfl)
  | lst n e f => exact .inr (.inl ⟨_, _, _, rfl, rfl, n, e, .cons (Rf.atom f.vd) .nil⟩)
  | tup n e f => exact .inr (.inr ⟨_, _, _, rfl, rfl, n, e, .cons (Rf.atom f.vd) .nil⟩)
  | dct0 e => exact .inl (.dct e .nil)
  | dct1 e => exact .inl (.dct e (.cons (k := Sum.inr "0") rfl .nil))
theorem OddD.fit {H : Hp} {x : V} {d : PyData} (g : OddD H x d) : FitB 40 1000 1 d := by
  cases g with
  | int h => exact FitB.int (k := 31) (by decide) (by decide) (Nat.lt_of_lt_of_le h (by decide)) (Nat.lt_of_lt_of_le h (Nat.le_trans (show 10000000000000000000000000000000 ≤ 2 ^ 110 by decide) (Nat.pow_le_pow_right (by decide) (by decide))))
  | bl b => exact FitB.bool b
  | non => exact FitB.non
  | str h l => exact FitB.str h (by omega)
  | lst n e f => exact (FitB.list (ds := [_]) (N := 10) (D := 0) fun d hd => by
      rw [List.mem_singleton] at hd
      exact hd ▸ f.fit).mono (by simp) (by decide)
  | tup n e f => exact (FitB.tuple (ds := [_]) (N := 10) (D := 0) fun d hd => by
      rw [List.mem_singleton] at hd
      exact hd ▸ f.fit).mono (by simp) (by decide)
  | dct0 e => exact (FitB.dict (ds := []) (N := 10) (D := 0) fun d hd => by cases hd).mono (by simp) (by decide)
  | dct1 e => exact (FitB.dict (ds := [(.str "0", .int 1)]) (N := 10) (D := 0) fun d hd => by
      rw [List.mem_singleton] at hd
      subst hd
      exact ⟨(FlatV.str (z := "0") (lowOf (by decide)) (by decide)).fit, (FlatV.int (i := 1) (by decide)).fit⟩).mono (by simp) (by decide)
theorem OddD.same {H H' : Hp} {x : V} {d : PyData} (g : OddD H x d) (s : Same H H') : OddD H' x d := by
  cases g with
  | int h => exact .int h
  | bl b => exact .bl b
  | non => exact .non
  | str h l => exact .str h l
  | lst n e f => exact .lst n (s _ _ e) f
  | tup n e f => exact .tup n (s _ _ e) f
  | dct0 e => exact .dct0 (s _ _ e)
  | dct1 e => exact .dct1 (s _ _ e)
/-! ### what is told of a value -/
def cV : V → Bool
  | .int i => decide (0 ≤ i)
  | _ => false
def wV : V → Bool
  | .int i => decide (1 ≤ i) && decide (i ≤ 100)
  | _ => false
def bV : V → Bool
  | .str z => z.cps.toList.all fun c => decide (c ∈ ("01" : Str).cps.toList)
  | _ => false
def aV (w : Int) : V → Bool
  | .str z => bV (.str z) && decide ((z.length : Int) = w)
  | _ => false
def sV (w : Int) : V → Bool
  | .str z => bV (.str z) && decide ((z.length : Int) ≤ w)
  | _ => false
@[irreducible] def oB (g : V → Bool) : Sp := fun vs H Q _ => ∃ x d, vs = [x] ∧ OddD H x d ∧ ∀ H', Same H H' → Q (.bl (g x)) H'
@[irreducible] def oW (g : Int → V → Bool) : Sp := fun vs H Q _ => ∃ w x d, vs = [.int w, x] ∧ 1 ≤ w ∧ w ≤ 100 ∧ OddD H x d ∧ ∀ H', Same H H' → Q (.bl (g w x)) H'
@[irreducible] def oC : Sp := fun vs H Q _ => ∃ w : Int, vs = [.int w] ∧ 1 ≤ w ∧ w ≤ 100 ∧ ∀ H', Same H H' → Q .non H'
section
variable {g : V → Bool} {g2 : Int → V → Bool} {x : V} {d : PyData} {w : Int} {H : Hp} {Q : VK} {E : XK}
theorem ob_go (h : OddD H x d) (q : ∀ H', Same H H' → Q (.bl (g x)) H') : oB g [x] H Q E := by
  unfold oB
  exact ⟨x, d, rfl, h, q⟩
theorem ow_go (h0 : 1 ≤ w) (h1 : w ≤ 100) (h : OddD H x d) (q : ∀ H', Same H H' → Q (.bl (g2 w x)) H') : oW g2 [.int w, x] H Q E := by
  unfold oW
  exact ⟨w, x, d, rfl, h0, h1, h, q⟩
theorem oc_go (h0 : 1 ≤ w) (h1 : w ≤ 100) (q : ∀ H', Same H H' → Q .non H') : oC [.int w] H Q E := by
  unfold oC
  exact ⟨w, rfl, h0, h1, q⟩
end
section
variable {P : Program} {w : World} {K : PySem.W.Frag} {mg : Str → Option Value} {base : Heap} {f : Addr} {fd : FuncData}
theorem oo_is_count (F : Fun K "is_count" "is_count" s_is_count f fd) (hm : mg "is_count" = some (.ref f)) (T : Txt K mg) : Nm P w K mg base CX0 1 "is_count" s_is_count ["value"] (oB cV) := by
  refine nm_of F hm sc_is_count (fun vs H Q E h => ?_) fun cdv A outer s H vs Q E hr h => ?_
  · unfold oB at h
    obtain ⟨x, d, rfl, _⟩ := h
    rfl
  · unfold oB at h
    obtain ⟨x, d, rfl, hg, k⟩ := h
    refine ⟨_, (pss_one (ps_ret (pe_and (pe_callB (call_isiK' (K := K) rfl) (by rfl) T.b_isinstance (by decide +kernel) (pa_cons (pv 0) (pa_cons (pe_ty "int" (by rfl) T.b_int (by decide +kernel)) pa_nil))) (pe_and (pe_not (pe_callB (call_isiK' (K := K) rfl) (by rfl) T.b_isinstance (by decide +kernel) (pa_cons (pv 0) (pa_cons (pe_ty "bool" (by rfl) T.b_bool (by decide +kernel)) pa_nil)))) (pe_one (pe_cmpR op_ge (pv 0) pe_int (nomark _))))))), ?_⟩
    repeat walk_at "s1"
    cases hg.kind with
    | int e f =>
      subst e f
      refine ⟨_, _, _, _, _, rfl, .ty _, hg.ty, kit_ty (kb_ii _), ?_⟩
      refine ⟨_, rfl, ?_⟩
      rw [if_pos rfl]
      repeat walk_at "s1"
      refine ⟨_, _, _, _, _, rfl, .ty _, hg.ty, kit_ty (kb_ib _), ?_⟩
      repeat walk_at "s1"
      exact k H (Same.refl H)
    | bl e f =>
      subst e f
      refine ⟨_, _, _, _, _, rfl, .ty _, hg.ty, kit_ty (kb_bi _), ?_⟩
      refine ⟨_, rfl, ?_⟩
      rw [if_pos rfl]
      repeat walk_at "s1"
      refine ⟨_, _, _, _, _, rfl, .ty _, hg.ty, kit_ty (kb_bb _), ?_⟩
      repeat walk_at "s1"
      rw [if_neg (by decide)]
      exact k H (Same.refl H)
    | str e f _ _ =>
      subst e f
      refine ⟨_, _, _, _, _, rfl, .ty _, hg.ty, kit_ty (kb_si _), ?_⟩
      refine ⟨_, rfl, ?_⟩
      rw [if_neg Bool.false_ne_true]
      exact k H (Same.refl H)
    | oth e h1 h2 h3 =>
      refine ⟨_, _, _, _, _, rfl, .ty _, hg.ty, kit_ty h1, ?_⟩
      refine ⟨_, rfl, ?_⟩
      rw [if_neg Bool.false_ne_true]
      rcases e with rfl | ⟨a, rfl⟩ <;> exact k H (Same.refl H)
theorem oo_is_width (F : Fun K "is_width" "is_width" s_is_width f fd) (hm : mg "is_width" = some (.ref f)) (T : Txt K mg) (C : Cst K mg) (c_is_count : Nm P w K mg base CX0 1 "is_count" s_is_count ["value"] (oB cV)) : Nm P w K mg base CX0 2 "is_width" s_is_width ["value"] (oB wV) := by
  refine nm_of F hm sc_is_width (fun vs H Q E h => ?_) fun cdv A outer s H vs Q E hr h => ?_
  · unfold oB at h
    obtain ⟨x, d, rfl, _⟩ := h
    rfl
  · unfold oB at h
    obtain ⟨x, d, rfl, hg, k⟩ := h
    refine ⟨_, (pss_one (ps_ret (pe_and (pe_g c_is_count hr (by decide) L2.pass0 bp_is_count (by rfl) (pa_cons (pv 0) pa_nil)) (pe_one (pe_chain op_le op_le pe_int (pv 0) (pe_cst (by rfl) C.c_MOST_WIDTH)))))), ?_⟩
    repeat walk_at "s1"
    refine ob_go hg fun H1 sm => ?_
    have hk := k H1 sm
    refine ⟨_, rfl, ?_⟩
    cases hg.kind with
    | @int z e f =>
      subst e f
      refine ite2 (fun c => ?_) fun c => ?_
      · repeat walk_at "s1"
        refine ite2 (fun c1 => ?_) fun c1 => ?_
        · repeat walk_at "s1"
          have e : wV (V.int _) = _ := show (decide _ && decide _) = _ by rw [decide_eq_true (of_decide_eq_true c1), Bool.true_and]
          rw [e] at hk
          exact hk
        · have e : wV (V.int _) = _ := show (decide _ && decide _) = _ by rw [Bool.eq_false_iff.mpr c1, Bool.false_and]
          rw [e] at hk
          exact hk
      · have c' : ¬ 0 ≤ z := fun q => c (decide_eq_true q)
        have e : wV (V.int z) = false := by show (decide _ && decide _) = false; rw [decide_eq_false (show ¬ 1 ≤ z by omega)]; rfl
        have e2 : cV (V.int z) = false := decide_eq_false c'
        rw [e] at hk
        exact hk
    | bl e f => subst e f; exact iteF hk
    | str e f _ _ => subst e f; exact iteF hk
    | oth e h1 h2 h3 => rcases e with rfl | ⟨a, rfl⟩ <;> exact iteF hk
theorem oo_check_width (F : Fun K "check_width" "check_width" s_check_width f fd) (hm : mg "check_width" = some (.ref f)) (T : Txt K mg) (C : Cst K mg) (c_is_width : Nm P w K mg base CX0 2 "is_width" s_is_width ["value"] (oB wV)) : Nm P w K mg base CX0 3 "check_width" s_check_width ["width"] oC := by
  refine nm_of F hm sc_check_width (fun vs H Q E h => ?_) fun cdv A outer s H vs Q E hr h => ?_
  · unfold oC at h
    obtain ⟨x, rfl, _⟩ := h
    rfl
  · unfold oC at h
    obtain ⟨x, rfl, h0, h1, k⟩ := h
    refine ⟨_, (pss_one (ps_if (pt_not (pt_val (pe_g c_is_width hr (by decide) L2.pass0 bp_is_width (by rfl) (pa_cons (pv 0) pa_nil)))) (pss_one ps_never) pss_nil)), ?_⟩
    repeat walk_at "s1"
    refine ob_go (d := .int x) (.int (by omega)) fun H1 sm => ?_
    repeat walk_at "s1"
    have e : wV (V.int x) = true := by simp [wV, h0, h1]
    rw [e]
    refine iteF ?_
    exact k H1 sm
theorem oo_is_bits (F : Fun K "is_bits" "is_bits" s_is_bits f fd) (hm : mg "is_bits" = some (.ref f)) (T : Txt K mg) (C : Cst K mg) : Nm P w K mg base CX0 1 "is_bits" s_is_bits ["value"] (oB bV) := by
  refine nm_of F hm sc_is_bits (fun vs H Q E h => ?_) fun cdv A outer s H vs Q E hr h => ?_
  · unfold oB at h
    obtain ⟨x, d, rfl, _⟩ := h
    rfl
  · unfold oB at h
    obtain ⟨x, d, rfl, hg, k⟩ := h
    refine ⟨_, (pss_one (ps_ret (pe_and (pe_callB (call_isiK' (K := K) rfl) (by rfl) T.b_isinstance (by decide +kernel) (pa_cons (pv 0) (pa_cons (pe_ty "str" (by rfl) T.b_str (by decide +kernel)) pa_nil))) (pe_one (pe_callB (call_allK (K := K) rfl rfl) (by rfl) T.b_all (by decide +kernel) (pa_cons (pe_lc (own := [("bit", 1)]) (g := (gName 1)) (by rfl) sc_is_bits.nd (pi_str (pv 0)) (blkOk_by (own := [("bit", 1)]) (N := ["value", "bit"]) (sc := defScope s_is_bits) (by decide +kernel)) (fun _ _ _ _ _ => (pg_name (i := 1) sc_is_bits.nd rfl (by first | exact Or.inl rfl | exact Or.inr rfl))) (fun _ _ _ _ _ => pts_nil) (fun _ _ _ _ _ => (pe_cmpR op_in_sign (pv 1) pe_str rfl))) pa_nil)))))), ?_⟩
    repeat walk_at "s1"
    cases hg.kind with
    | int e f =>
      subst e f
      refine ⟨_, _, _, _, _, rfl, .ty _, hg.ty, kit_ty (kb_is _), ?_⟩
      refine ⟨_, rfl, ?_⟩
      rw [if_neg Bool.false_ne_true]
      exact k H (Same.refl H)
    | bl e f =>
      subst e f
      refine ⟨_, _, _, _, _, rfl, .ty _, hg.ty, kit_ty (kb_bs _), ?_⟩
      refine ⟨_, rfl, ?_⟩
      rw [if_neg Bool.false_ne_true]
      exact k H (Same.refl H)
    | oth e h1 h2 h3 =>
      refine ⟨_, _, _, _, _, rfl, .ty _, hg.ty, kit_ty h3, ?_⟩
      refine ⟨_, rfl, ?_⟩
      rw [if_neg Bool.false_ne_true]
      rcases e with rfl | ⟨a, rfl⟩ <;> exact k H (Same.refl H)
    | @str z e f hl hz =>
      subst e f
      refine ⟨_, _, _, _, _, rfl, .ty _, hg.ty, kit_ty (kb_ss _), ?_⟩
      refine ⟨_, rfl, ?_⟩
      rw [if_pos rfl]
      repeat walk_at "s1"
      rename_i D nD
      have hz' : z.cps.size ≤ 1000 := hz
      refine lc_it walk_str (fun i H1 => H1 D = some (.lst (((z.cps.toList.take i).map fun c => decide (c ∈ ("01" : Str).cps.toList)).map V.bl)) ∧ Same H H1) ⟨upd_same, fun b o e => updn (nonn nD e) e⟩ (fun _ _ _ _ => trivial) ?_ ?_
      · rintro i x H1 H2 hi ⟨hD, sm⟩ ⟨rfl, c, hc, rfl⟩
        refine ⟨rfl, ?_⟩
        dsimp only [tYes]
        rw [if_pos rfl]
        repeat walk_at "s1"
        refine ⟨_, hD, szt (by rw [List.length_map, List.length_map, List.length_take]; omega), ?_, fun b o e => updn (nonn nD e) (sm b o e)⟩
        rw [upd_same, List.take_add_one, Array.getElem?_toList, hc, List.map_append, List.map_append]
        rfl
      · rintro H1 ⟨hD, sm⟩
        rw [List.take_of_length_le (by rw [Array.length_toList]; exact Nat.le_refl _)] at hD
        refine ⟨_, _, rfl, SqL.of hD, ?_⟩
        have hk := k H1 sm
        have e : bV (V.str z) = ((z.cps.toList.map fun c => decide (c ∈ ("01" : Str).cps.toList)).all id) := by rw [List.all_map]; rfl
        rw [e] at hk
        exact hk
theorem oo_is_stretch (F : Fun K "is_stretch" "is_stretch" s_is_stretch f fd) (hm : mg "is_stretch" = some (.ref f)) (T : Txt K mg) (C : Cst K mg) (c_check_width : Nm P w K mg base CX0 3 "check_width" s_check_width ["width"] oC) (c_is_bits : Nm P w K mg base CX0 1 "is_bits" s_is_bits ["value"] (oB bV)) : Nm P w K mg base CX0 4 "is_stretch" s_is_stretch ["width", "value"] (oW sV) := by
  refine nm_of F hm sc_is_stretch (fun vs H Q E h => ?_) fun cdv A outer s H vs Q E hr h => ?_
  · unfold oW at h
    obtain ⟨n, x, d, rfl, _⟩ := h
    rfl
  · unfold oW at h
    obtain ⟨n, x, d, rfl, h0, h1, hg, k⟩ := h
    refine ⟨_, (pss_cons (ps_expr (pe_g c_check_width hr (by decide) L2.pass0 bp_check_width (by rfl) (pa_cons (pv 0) pa_nil)))
      (pss_one (ps_ret (pe_and (pe_g c_is_bits hr (by decide) L2.pass0 bp_is_bits (by rfl) (pa_cons (pv 1) pa_nil)) (pe_one (pe_cmpR op_le (pe_callB (call_lenK (K := K) rfl) (by rfl) T.b_len PySem.boot_len (pa_cons (pv 1) pa_nil)) (pv 0) (nomark _))))))), ?_⟩
    repeat walk_at "s1"
    refine oc_go h0 h1 fun H1 sm => ?_
    have hg1 := hg.same sm
    repeat walk_at "s1"
    refine ob_go hg1 fun H2 sm2 => ?_
    have hk := k H2 (sm.trans sm2)
    refine ⟨_, rfl, ?_⟩
    cases hg.kind with
    | int e f =>
      subst e f
      exact iteF hk
    | bl e f =>
      subst e f
      exact iteF hk
    | oth e h1 h2 h3 =>
      rcases e with rfl | ⟨a, rfl⟩ <;> exact iteF hk
    | @str z e f hl hz =>
      subst e f
      cases c : bV (V.str z) with
      | true =>
        refine iteT ?_
        repeat walk_at "s1"
        have e : sV n (V.str z) = decide ((z.length : Int) ≤ n) := by show (bV _ && _) = _; rw [c]; rfl
        rw [e] at hk
        exact hk
      | false =>
        have e : sV n (V.str z) = false := by show (bV _ && _) = _; rw [c]; rfl
        rw [e] at hk
        exact iteF hk
theorem oo_is_address (F : Fun K "is_address" "is_address" s_is_address f fd) (hm : mg "is_address" = some (.ref f)) (T : Txt K mg) (C : Cst K mg) (c_is_stretch : Nm P w K mg base CX0 4 "is_stretch" s_is_stretch ["width", "value"] (oW sV)) : Nm P w K mg base CX0 5 "is_address" s_is_address ["width", "value"] (oW aV) := by
  refine nm_of F hm sc_is_address (fun vs H Q E h => ?_) fun cdv A outer s H vs Q E hr h => ?_
  · unfold oW at h
    obtain ⟨n, x, d, rfl, _⟩ := h
    rfl
  · unfold oW at h
    obtain ⟨n, x, d, rfl, h0, h1, hg, k⟩ := h
    refine ⟨_, (pss_one (ps_ret (pe_and (pe_g c_is_stretch hr (by decide) L2.pass0 bp_is_stretch (by rfl) (pa_cons (pv 0) (pa_cons (pv 1) pa_nil))) (pe_one (pe_cmpR op_eq (pe_callB (call_lenK (K := K) rfl) (by rfl) T.b_len PySem.boot_len (pa_cons (pv 1) pa_nil)) (pv 0) (nomark _)))))), ?_⟩
    repeat walk_at "s1"
    refine ow_go h0 h1 hg fun H2 sm2 => ?_
    have hk := k H2 sm2
    refine ⟨_, rfl, ?_⟩
    cases hg.kind with
    | int e f =>
      subst e f
      exact iteF hk
    | bl e f =>
      subst e f
      exact iteF hk
    | oth e h1 h2 h3 =>
      rcases e with rfl | ⟨a, rfl⟩ <;> exact iteF hk
    | @str z e f hl hz =>
      subst e f
      cases c : sV n (V.str z) with
      | true =>
        refine iteT ?_
        repeat walk_at "s1"
        have c' : (bV (V.str z) && decide ((z.length : Int) ≤ n)) = true := c
        have e : aV n (V.str z) = decide (V.int (z.length : Int) = V.int n) := by
          show (bV (V.str z) && decide ((z.length : Int) = n)) = _
          rw [Bool.and_eq_true] at c'
          rw [c'.1, Bool.true_and]
          exact decide_eq_decide.mpr ⟨fun q => by rw [q], fun q => V.int.inj q⟩
        rw [e] at hk
        exact hk
      | false =>
        have e : aV n (V.str z) = false := by
          have c' : (bV (V.str z) && decide ((z.length : Int) ≤ n)) = false := c
          show (bV (V.str z) && decide ((z.length : Int) = n)) = false
          cases b : bV (V.str z) with
          | false => rfl
          | true =>
            rw [b, Bool.true_and] at c'
            have := of_decide_eq_false c'
            rw [Bool.true_and]
            exact decide_eq_false (by omega)
        rw [e] at hk
        exact iteF hk
end
open PySem PySem.Spec PyProof.Rows
open L2 hiding pass0
/-! ### refusals -/
abbrev Rx := Hp → List V → Addr → Str → V → Prop
/-- an error of the class C is raised, its field f holding v -/
@[irreducible] def spX (R : Rx) : Sp := fun vs H _ E => ∃ C f v, R H vs C f v ∧ ∀ H1 dd, Same H H1 → H1 dd = none → E (.ref C) (some dd) (upd H1 dd (.xd [(f, v)]))
theorem x_go {R : Rx} {vs : List V} {H : Hp} {Q : VK} {E : XK} {C : Addr} {f : Str} {v : V} (r : R H vs C f v) (q : ∀ H1 dd, Same H H1 → H1 dd = none → E (.ref C) (some dd) (upd H1 dd (.xd [(f, v)]))) : spX R vs H Q E := by
  unfold spX
  exact ⟨C, f, v, r, q⟩
/-- a bad width, m more arguments -/
def rW (CW : Addr) (m : Nat) : Rx := fun H vs C f v => ∃ x d ys, vs = x :: ys ∧ ys.length = m ∧ OddD H x d ∧ wV x = false ∧ C = CW ∧ f = "value" ∧ v = x
/-- a good width, a bad stretch (address: g = aV) -/
def rV (g : Int → V → Bool) (CS : Addr) : Rx := fun H vs C f v => ∃ n x d, vs = [.int n, x] ∧ 1 ≤ n ∧ n ≤ 100 ∧ OddD H x d ∧ g n x = false ∧ C = CS ∧ f = "value" ∧ v = x
def rOr (R R2 : Rx) : Rx := fun H vs C f v => R H vs C f v ∨ R2 H vs C f v
section
variable {P : Program} {w : World} {K : PySem.W.Frag} {mg : Str → Option Value} {base : Heap} {f : Addr} {fd : FuncData} {CW CS CA CP : Addr}
theorem xx_check_width (F : Fun K "check_width" "check_width" s_check_width f fd) (hm : mg "check_width" = some (.ref f)) (T : Txt K mg) (e_InvalidWidth : ErrC P w K mg base "InvalidWidth" CW "value") (c_is_width : Nm P w K mg base CX0 2 "is_width" s_is_width ["value"] (oB wV)) : Nm P w K mg base (L2.CX P w) 4 "check_width" s_check_width ["width"] (spX (rW CW 0)) := by
  refine nm_of F hm sc_check_width (fun vs H Q E h => ?_) fun cdv A outer s H vs Q E hr h => ?_
  · unfold spX at h
    obtain ⟨C, f, v, ⟨x, d, ys, rfl, hy, _⟩, _⟩ := h
    show ys.length + 1 = 1
    rw [hy]
  · unfold spX at h
    obtain ⟨C, f, v, ⟨x, d, ys, rfl, hy, ho, hw, rfl, rfl, rfl⟩, k⟩ := h
    obtain rfl := List.length_eq_zero_iff.mp hy
    refine ⟨_, (pss_one (ps_if (pt_not (pt_val (pe_g c_is_width hr (by decide) L2.pass0 bp_is_width (by rfl) (pa_cons (pv 0) pa_nil)))) (pss_one (ps_raise1 e_InvalidWidth hr.r (by decide) rfl (takes_of rfl rfl rfl rfl) (by rfl) (pv 0))) pss_nil)), ?_⟩
    repeat walk_at "s1"
    refine ob_go ho fun H1 sm => ?_
    rw [hw]
    refine ⟨_, rfl, ?_⟩
    refine iteT ?_
    refine ⟨_, rfl, ?_⟩
    exact err_go fun dd nd => k H1 dd sm nd
theorem xx_is_stretch (F : Fun K "is_stretch" "is_stretch" s_is_stretch f fd) (hm : mg "is_stretch" = some (.ref f)) (T : Txt K mg) (x_check_width : Nm P w K mg base (L2.CX P w) 4 "check_width" s_check_width ["width"] (spX (rW CW 0))) (c_is_bits : Nm P w K mg base CX0 1 "is_bits" s_is_bits ["value"] (oB bV)) : Nm P w K mg base (L2.CX P w) 5 "is_stretch" s_is_stretch ["width", "value"] (spX (rW CW 1)) := by
  refine nm_of F hm sc_is_stretch (fun vs H Q E h => ?_) fun cdv A outer s H vs Q E hr h => ?_
  · unfold spX at h
    obtain ⟨C, f, v, ⟨x, d, ys, rfl, hy, _⟩, _⟩ := h
    show ys.length + 1 = 2
    rw [hy]
  · unfold spX at h
    obtain ⟨C, f, v, ⟨x, d, ys, rfl, hy, ho, hw, rfl, rfl, rfl⟩, k⟩ := h
    obtain ⟨y, rfl⟩ := List.length_eq_one_iff.mp hy
    refine ⟨_, (pss_cons (ps_expr (pe_g x_check_width hr (by decide) (passes_call (takes_of rfl rfl rfl rfl) fun _ _ _ _ z => z) bp_check_width (by rfl) (pa_cons (pv 0) pa_nil)))
      (pss_one (ps_ret (pe_and (pe_g c_is_bits hr (by decide) L2.pass0 bp_is_bits (by rfl) (pa_cons (pv 1) pa_nil)) (pe_one (pe_cmpR op_le (pe_callB (call_lenK (K := K) rfl) (by rfl) T.b_len PySem.boot_len (pa_cons (pv 1) pa_nil)) (pv 0) (nomark _))))))), ?_⟩
    refine ⟨_, rfl, ?_⟩
    exact x_go ⟨_, d, [], rfl, rfl, ho, hw, rfl, rfl, rfl⟩ k
theorem xx_check_stretch (F : Fun K "check_stretch" "check_stretch" s_check_stretch f fd) (hm : mg "check_stretch" = some (.ref f)) (T : Txt K mg) (x_is_stretch : Nm P w K mg base (L2.CX P w) 5 "is_stretch" s_is_stretch ["width", "value"] (spX (rW CW 1))) (e_InvalidStretch : ErrC P w K mg base "InvalidStretch" CS "value") : Nm P w K mg base (L2.CX P w) 6 "check_stretch" s_check_stretch ["width", "stretch"] (spX (rW CW 1)) := by
  refine nm_of F hm sc_check_stretch (fun vs H Q E h => ?_) fun cdv A outer s H vs Q E hr h => ?_
  · unfold spX at h
    obtain ⟨C, f, v, ⟨x, d, ys, rfl, hy, _⟩, _⟩ := h
    show ys.length + 1 = 2
    rw [hy]
  · unfold spX at h
    obtain ⟨C, f, v, ⟨x, d, ys, rfl, hy, ho, hw, rfl, rfl, rfl⟩, k⟩ := h
    obtain ⟨y, rfl⟩ := List.length_eq_one_iff.mp hy
    refine ⟨_, (pss_one (ps_if (pt_not (pt_val (pe_g x_is_stretch hr (by decide) (passes_call (takes_of rfl rfl rfl rfl) fun _ _ _ _ z => z) bp_is_stretch (by rfl) (pa_cons (pv 0) (pa_cons (pv 1) pa_nil))))) (pss_one (ps_raise1 e_InvalidStretch hr.r (by decide) rfl (takes_of rfl rfl rfl rfl) (by rfl) (pv 1))) pss_nil)), ?_⟩
    refine ⟨_, rfl, _, rfl, ?_⟩
    exact x_go ⟨_, d, [y], rfl, rfl, ho, hw, rfl, rfl, rfl⟩ k
theorem xv_check_stretch (F : Fun K "check_stretch" "check_stretch" s_check_stretch f fd) (hm : mg "check_stretch" = some (.ref f)) (T : Txt K mg) (c_is_stretch : Nm P w K mg base CX0 4 "is_stretch" s_is_stretch ["width", "value"] (oW sV)) (e_InvalidStretch : ErrC P w K mg base "InvalidStretch" CS "value") : Nm P w K mg base (L2.CX P w) 6 "check_stretch" s_check_stretch ["width", "stretch"] (spX (rV sV CS)) := by
  refine nm_of F hm sc_check_stretch (fun vs H Q E h => ?_) fun cdv A outer s H vs Q E hr h => ?_
  · unfold spX at h
    obtain ⟨C, f, v, ⟨n, x, d, rfl, _⟩, _⟩ := h
    rfl
  · unfold spX at h
    obtain ⟨C, f, v, ⟨n, x, d, rfl, h0, h1, ho, hw, rfl, rfl, rfl⟩, k⟩ := h
    refine ⟨_, (pss_one (ps_if (pt_not (pt_val (pe_g c_is_stretch hr (by decide) L2.pass0 bp_is_stretch (by rfl) (pa_cons (pv 0) (pa_cons (pv 1) pa_nil))))) (pss_one (ps_raise1 e_InvalidStretch hr.r (by decide) rfl (takes_of rfl rfl rfl rfl) (by rfl) (pv 1))) pss_nil)), ?_⟩
    refine ⟨_, rfl, _, rfl, ?_⟩
    refine ow_go h0 h1 ho fun H1 sm => ?_
    rw [hw]
    refine ⟨_, rfl, ?_⟩
    refine iteT ?_
    refine ⟨_, rfl, ?_⟩
    exact err_go fun dd nd => k H1 dd sm nd
theorem xx_is_address (F : Fun K "is_address" "is_address" s_is_address f fd) (hm : mg "is_address" = some (.ref f)) (T : Txt K mg) (x_is_stretch : Nm P w K mg base (L2.CX P w) 5 "is_stretch" s_is_stretch ["width", "value"] (spX (rW CW 1))) : Nm P w K mg base (L2.CX P w) 6 "is_address" s_is_address ["width", "value"] (spX (rW CW 1)) := by
  refine nm_of F hm sc_is_address (fun vs H Q E h => ?_) fun cdv A outer s H vs Q E hr h => ?_
  · unfold spX at h
    obtain ⟨C, f, v, ⟨x, d, ys, rfl, hy, _⟩, _⟩ := h
    show ys.length + 1 = 2
    rw [hy]
  · unfold spX at h
    obtain ⟨C, f, v, ⟨x, d, ys, rfl, hy, ho, hw, rfl, rfl, rfl⟩, k⟩ := h
    obtain ⟨y, rfl⟩ := List.length_eq_one_iff.mp hy
    refine ⟨_, (pss_one (ps_ret (pe_and (pe_g x_is_stretch hr (by decide) (passes_call (takes_of rfl rfl rfl rfl) fun _ _ _ _ z => z) bp_is_stretch (by rfl) (pa_cons (pv 0) (pa_cons (pv 1) pa_nil))) (pe_one (pe_cmpR op_eq (pe_callB (call_lenK (K := K) rfl) (by rfl) T.b_len PySem.boot_len (pa_cons (pv 1) pa_nil)) (pv 0) (nomark _)))))), ?_⟩
    refine ⟨_, rfl, _, rfl, ?_⟩
    exact x_go ⟨_, d, [y], rfl, rfl, ho, hw, rfl, rfl, rfl⟩ k
theorem xv_check_address (F : Fun K "check_address" "check_address" s_check_address f fd) (hm : mg "check_address" = some (.ref f)) (T : Txt K mg) (c_is_address : Nm P w K mg base CX0 5 "is_address" s_is_address ["width", "value"] (oW aV)) (e_InvalidAddress : ErrC P w K mg base "InvalidAddress" CA "value") : Nm P w K mg base (L2.CX P w) 6 "check_address" s_check_address ["width", "address"] (spX (rV aV CA)) := by
  refine nm_of F hm sc_check_address (fun vs H Q E h => ?_) fun cdv A outer s H vs Q E hr h => ?_
  · unfold spX at h
    obtain ⟨C, f, v, ⟨n, x, d, rfl, _⟩, _⟩ := h
    rfl
  · unfold spX at h
    obtain ⟨C, f, v, ⟨n, x, d, rfl, h0, h1, ho, hw, rfl, rfl, rfl⟩, k⟩ := h
    refine ⟨_, (pss_one (ps_if (pt_not (pt_val (pe_g c_is_address hr (by decide) L2.pass0 bp_is_address (by rfl) (pa_cons (pv 0) (pa_cons (pv 1) pa_nil))))) (pss_one (ps_raise1 e_InvalidAddress hr.r (by decide) rfl (takes_of rfl rfl rfl rfl) (by rfl) (pv 1))) pss_nil)), ?_⟩
    refine ⟨_, rfl, _, rfl, ?_⟩
    refine ow_go h0 h1 ho fun H1 sm => ?_
    rw [hw]
    refine ⟨_, rfl, ?_⟩
    refine iteT ?_
    refine ⟨_, rfl, ?_⟩
    exact err_go fun dd nd => k H1 dd sm nd
end
open PySem PySem.Spec PyProof.Rows
open L2 hiding pass0
abbrev s_last : Stmt := top 19
theorem sc_last : FnScope ["width", "stretch"] ["width", "stretch"] (defScope s_last) := ⟨rfl, rfl, rfl, by decide +kernel, rfl, by decide +kernel, by decide +kernel⟩
theorem bp_last : BndP "last" s_last ["width", "stretch"] := fun _ _ _ _ _ _ us h => match us, h with | [_, _], _ => rfl
/-- what is wrong with the stretches: no list -/
def rN (CP : Addr) : Rx := fun H vs C f v => ∃ (n : Int) (x : V) (d : PyData), vs = [.int n, x] ∧ 1 ≤ n ∧ n ≤ 100 ∧ OddD H x d ∧ kitB (tyN d) "list" = some false ∧ kitB (tyN d) "tuple" = some false ∧ C = CP ∧ f = "position" ∧ v = .non
/-- .. an item -/
def rI (CP : Addr) : Rx := fun H vs C f v => ∃ (n : Nat) (a : Addr) (ts : List (List Nat)) (x : V) (d : PyData) (r : List V), vs = [.int n, .ref a] ∧ 1 ≤ n ∧ n ≤ 100 ∧ (H a = some (.lst (ts.map sx ++ x :: r)) ∨ H a = some (.tup (ts.map sx ++ x :: r))) ∧ Fits n ts ∧ OddD H x d ∧ sV n x = false ∧
  C = CP ∧ f = "position" ∧ v = .int (ts.length : Nat)
theorem odd_sx {H : Hp} {n : Nat} {t : List Nat} (hb : M.BL t) (hl : t.length ≤ n) (h1 : n ≤ 1000) : OddD H (sx t) (.str (SX.S t)) ∧ sV n (sx t) = true := by
  have e := str_ok hb hl
  refine ⟨.str (Bits.of (Bool.and_eq_true_iff.mp e).1).low (by rw [sx_len]; omega), e⟩
section
variable {P : Program} {w : World} {K : PySem.W.Frag} {mg : Str → Option Value} {base : Heap} {f : Addr} {fd : FuncData} {CW CS CA CP : Addr}
theorem xn_check_stretches (F : Fun K "check_stretches" "check_stretches" s_check_stretches f fd) (hm : mg "check_stretches" = some (.ref f)) (T : Txt K mg) (e_InvalidStretches : ErrC P w K mg base "InvalidStretches" CP "position") (c_check_width : Nm P w K mg base CX0 3 "check_width" s_check_width ["width"] (spCW)) (c_is_stretch : Nm P w K mg base CX0 4 "is_stretch" s_is_stretch ["width", "value"] (oW sV)) : Nm P w K mg base (L2.CX P w) 6 "check_stretches" s_check_stretches ["width", "stretches"] (spX (rN CP)) := by
  refine nm_of F hm sc_check_stretches (fun vs H Q E h => ?_) fun cdv A outer s H vs Q E hr h => ?_
  · unfold spX at h
    obtain ⟨C, f, v, ⟨n, x, d, rfl, _⟩, _⟩ := h
    rfl
  · unfold spX at h
    obtain ⟨C, f, v, ⟨n, x, d, rfl, h0, h1, ho, hk1, hk2, rfl, rfl, rfl⟩, k⟩ := h
    refine ⟨_, (pss_cons (ps_expr (pe_g c_check_width hr (by decide) L2.pass0 bp_check_width (by rfl) (pa_cons (pv 0) pa_nil)))
      (pss_cons (ps_if (pt_not (pt_val (pe_callB call_isiT (by rfl) T.b_isinstance (by decide +kernel) (pa_cons (pv 1) (pa_cons (pe_tup (pa_cons (pe_ty "list" (by rfl) T.b_list (by decide +kernel)) (pa_cons (pe_ty "tuple" (by rfl) T.b_tuple (by decide +kernel)) pa_nil))) pa_nil))))) (pss_one (ps_raise1 e_InvalidStretches hr.r (by decide) rfl (takes_of rfl rfl rfl rfl) (by rfl) pe_non)) pss_nil)
      (pss_one (ps_for (passes_of rfl) rfl (pi_enumA (by rfl) T.b_enumerate (pa_cons (pv 1) pa_nil)) (pg_tup (by rfl) (pgs_cons (pg_name (i := 2) sc_check_stretches.nd rfl (by first | exact Or.inl rfl | exact Or.inr rfl)) (pgs_cons (pg_name (i := 3) sc_check_stretches.nd rfl (by first | exact Or.inl rfl | exact Or.inr rfl)) pgs_nil))) (pss_one (ps_if (pt_not (pt_val (pe_g c_is_stretch hr (by decide) L2.pass0 bp_is_stretch (by rfl) (pa_cons (pv 0) (pa_cons (pv 3) pa_nil))))) (pss_one (ps_raise1 e_InvalidStretches hr.r (by decide) rfl (takes_of rfl rfl rfl rfl) (by rfl) (pv 2))) pss_nil)))))), ?_⟩
    refine ⟨_, rfl, ?_⟩
    refine cw_go h0 h1 fun H1 sm1 => ?_
    refine ⟨_, rfl, ?_⟩
    refine ⟨szl (by show 2 ≤ 1000000; decide), fun T nT => ?_⟩
    have sm2 : Same H (upd H1 T (.tup [.ty "list", .ty "tuple"])) := fun b o e => updn (nonn nT (sm1 b o e)) (sm1 b o e)
    refine ⟨_, T, _, _, _, false, rfl, upd_same, .cons (.ty _) (.cons (.ty _) .nil), (ho.same sm2).ty, kitAny_cons (kit_ty hk1) (fun _ => kitAny_cons (kit_ty hk2) (fun _ => rfl) fun z => nomatch z) (fun z => nomatch z), ?_⟩
    refine ⟨_, rfl, ?_⟩
    refine iteT ?_
    exact err_go fun dd nd => k _ dd sm2 nd
theorem xw_check_stretches (F : Fun K "check_stretches" "check_stretches" s_check_stretches f fd) (hm : mg "check_stretches" = some (.ref f)) (T : Txt K mg) (e_InvalidStretches : ErrC P w K mg base "InvalidStretches" CP "position") (x_check_width : Nm P w K mg base (L2.CX P w) 4 "check_width" s_check_width ["width"] (spX (rW CW 0))) (c_is_stretch : Nm P w K mg base CX0 4 "is_stretch" s_is_stretch ["width", "value"] (oW sV)) : Nm P w K mg base (L2.CX P w) 6 "check_stretches" s_check_stretches ["width", "stretches"] (spX (rW CW 1)) := by
  refine nm_of F hm sc_check_stretches (fun vs H Q E h => ?_) fun cdv A outer s H vs Q E hr h => ?_
  · unfold spX at h
    obtain ⟨C, f, v, ⟨x, d, ys, rfl, hy, _⟩, _⟩ := h
    show ys.length + 1 = 2
    rw [hy]
  · unfold spX at h
    obtain ⟨C, f, v, ⟨x, d, ys, rfl, hy, ho, hw, rfl, rfl, rfl⟩, k⟩ := h
    obtain ⟨y, rfl⟩ := List.length_eq_one_iff.mp hy
    refine ⟨_, (pss_cons (ps_expr (pe_g x_check_width hr (by decide) (passes_call (takes_of rfl rfl rfl rfl) fun _ _ _ _ z => z) bp_check_width (by rfl) (pa_cons (pv 0) pa_nil)))
      (pss_cons (ps_if (pt_not (pt_val (pe_callB call_isiT (by rfl) T.b_isinstance (by decide +kernel) (pa_cons (pv 1) (pa_cons (pe_tup (pa_cons (pe_ty "list" (by rfl) T.b_list (by decide +kernel)) (pa_cons (pe_ty "tuple" (by rfl) T.b_tuple (by decide +kernel)) pa_nil))) pa_nil))))) (pss_one (ps_raise1 e_InvalidStretches hr.r (by decide) rfl (takes_of rfl rfl rfl rfl) (by rfl) pe_non)) pss_nil)
      (pss_one (ps_for (passes_of rfl) rfl (pi_enumA (by rfl) T.b_enumerate (pa_cons (pv 1) pa_nil)) (pg_tup (by rfl) (pgs_cons (pg_name (i := 2) sc_check_stretches.nd rfl (by first | exact Or.inl rfl | exact Or.inr rfl)) (pgs_cons (pg_name (i := 3) sc_check_stretches.nd rfl (by first | exact Or.inl rfl | exact Or.inr rfl)) pgs_nil))) (pss_one (ps_if (pt_not (pt_val (pe_g c_is_stretch hr (by decide) L2.pass0 bp_is_stretch (by rfl) (pa_cons (pv 0) (pa_cons (pv 3) pa_nil))))) (pss_one (ps_raise1 e_InvalidStretches hr.r (by decide) rfl (takes_of rfl rfl rfl rfl) (by rfl) (pv 2))) pss_nil)))))), ?_⟩
    refine ⟨_, rfl, ?_⟩
    exact x_go ⟨_, d, [], rfl, rfl, ho, hw, rfl, rfl, rfl⟩ k
theorem xi_check_stretches (F : Fun K "check_stretches" "check_stretches" s_check_stretches f fd) (hm : mg "check_stretches" = some (.ref f)) (T : Txt K mg) (e_InvalidStretches : ErrC P w K mg base "InvalidStretches" CP "position") (c_check_width : Nm P w K mg base CX0 3 "check_width" s_check_width ["width"] (spCW)) (c_is_stretch : Nm P w K mg base CX0 4 "is_stretch" s_is_stretch ["width", "value"] (oW sV)) : Nm P w K mg base (L2.CX P w) 6 "check_stretches" s_check_stretches ["width", "stretches"] (spX (rI CP)) := by
  refine nm_of F hm sc_check_stretches (fun vs H Q E h => ?_) fun cdv A outer s H vs Q E hr h => ?_
  · unfold spX at h
    obtain ⟨C, f, v, ⟨n, a, ts, x, d, r, rfl, _⟩, _⟩ := h
    rfl
  · unfold spX at h
    obtain ⟨C, f, v, ⟨n, a, ts, x, d, r, rfl, h0, h1, ha, hf, ho, hx, rfl, rfl, rfl⟩, k⟩ := h
    refine ⟨_, (pss_cons (ps_expr (pe_g c_check_width hr (by decide) L2.pass0 bp_check_width (by rfl) (pa_cons (pv 0) pa_nil)))
      (pss_cons (ps_if (pt_not (pt_val (pe_callB call_isiT (by rfl) T.b_isinstance (by decide +kernel) (pa_cons (pv 1) (pa_cons (pe_tup (pa_cons (pe_ty "list" (by rfl) T.b_list (by decide +kernel)) (pa_cons (pe_ty "tuple" (by rfl) T.b_tuple (by decide +kernel)) pa_nil))) pa_nil))))) (pss_one (ps_raise1 e_InvalidStretches hr.r (by decide) rfl (takes_of rfl rfl rfl rfl) (by rfl) pe_non)) pss_nil)
      (pss_one (ps_for (passes_of rfl) rfl (pi_enumA (by rfl) T.b_enumerate (pa_cons (pv 1) pa_nil)) (pg_tup (by rfl) (pgs_cons (pg_name (i := 2) sc_check_stretches.nd rfl (by first | exact Or.inl rfl | exact Or.inr rfl)) (pgs_cons (pg_name (i := 3) sc_check_stretches.nd rfl (by first | exact Or.inl rfl | exact Or.inr rfl)) pgs_nil))) (pss_one (ps_if (pt_not (pt_val (pe_g c_is_stretch hr (by decide) L2.pass0 bp_is_stretch (by rfl) (pa_cons (pv 0) (pa_cons (pv 3) pa_nil))))) (pss_one (ps_raise1 e_InvalidStretches hr.r (by decide) rfl (takes_of rfl rfl rfl rfl) (by rfl) (pv 2))) pss_nil)))))), ?_⟩
    refine ⟨_, rfl, ?_⟩
    refine cw_go (by omega) (by omega) fun H1 sm1 => ?_
    have ha1 : H1 a = some (.lst (ts.map sx ++ x :: r)) ∨ H1 a = some (.tup (ts.map sx ++ x :: r)) := ha.elim (fun e => .inl (sm1 _ _ e)) fun e => .inr (sm1 _ _ e)
    refine ⟨_, rfl, ?_⟩
    refine ⟨szl (by show 2 ≤ 1000000; decide), fun T nT => ?_⟩
    have e2 : kitB "tuple" "list" = some false := by decide +kernel
    have e3 : kitB "tuple" "tuple" = some true := by decide +kernel
    have e1 : kitB "list" "list" = some true := by decide +kernel
    have ty : ∃ t, TyX K (upd H1 T (.tup [.ty "list", .ty "tuple"])) (.ref a) t ∧ PySem.W.kitAny K t [.type "list", .type "tuple"] = some true := by
      rcases ha1 with e | e
      · exact ⟨_, .base (.lst (updn (nonn nT e) e)), kitAny_cons (kit_ty e1) (fun z => nomatch z) fun _ => rfl⟩
      · exact ⟨_, .base (.tup (updn (nonn nT e) e)), kitAny_cons (kit_ty e2) (fun _ => kitAny_cons (kit_ty e3) (fun z => nomatch z) fun _ => rfl) fun z => nomatch z⟩
    obtain ⟨ty, hty, hk⟩ := ty
    refine ⟨_, T, _, ty, _, true, rfl, upd_same, .cons (.ty _) (.cons (.ty _) .nil), hty, hk, ?_⟩
    refine ⟨_, rfl, ?_⟩
    refine iteF ?_
    have sm2 : Same H (upd H1 T (.tup [.ty "list", .ty "tuple"])) := fun b o e => updn (nonn nT (sm1 b o e)) (sm1 b o e)
    generalize upd H1 T (.tup [.ty "list", .ty "tuple"]) = H2 at sm2 ⊢
    clear hty hk nT ha1
    have ha2 : H2 a = some (.lst (ts.map sx ++ x :: r)) ∨ H2 a = some (.tup (ts.map sx ++ x :: r)) := ha.elim (fun e => .inl (sm2 _ _ e)) fun e => .inr (sm2 _ _ e)
    refine ⟨_, rfl, ?_⟩
    have item : ∀ {i : Nat} {z : V}, (ts.map sx ++ x :: r)[i]? = some z → i ≤ ts.length → (∃ t ∈ ts, z = sx t ∧ i < ts.length) ∨ (i = ts.length ∧ z = x) := fun {i z} e hi => by
      rcases Nat.lt_or_eq_of_le hi with q | q
      · rw [List.getElem?_append_left (by rw [List.length_map]; exact q), List.getElem?_map] at e
        cases e3 : ts[i]? with
        | none => rw [e3] at e; cases e
        | some t => rw [e3] at e; exact .inl ⟨t, List.mem_of_getElem? e3, (Option.some.inj e).symm, q⟩
      · subst q
        rw [List.getElem?_append_right (by rw [List.length_map]; exact Nat.le_refl _), List.length_map, Nat.sub_self] at e
        exact .inr ⟨rfl, (Option.some.inj e).symm⟩
    rcases ha2 with e | e
    · refine ⟨a, ts.map sx ++ x :: r, rfl, .inl ⟨SqL.of e, ?_⟩⟩
      refine for_it (walk_enum (xs := ts.map sx ++ x :: r)) (fun i σ' H' => ∃ x2 x3, σ' = [some (.int n), some (.ref a), x2, x3] ∧ Same H2 H' ∧ i ≤ ts.length) ⟨_, _, rfl, Same.refl H2, Nat.zero_le _⟩ (fun i σ' H' _ h => let ⟨_, _, _, s, _⟩ := h; SqL.of (s _ _ e)) ?_ ?_
      · rintro i y0 σ' H3 H4 hi ⟨x2, x3, rfl, sm, hle⟩ ⟨T2, y, z, rfl, nT2, rfl, e5, e6⟩
        obtain rfl : y = .int (i : Nat) := (Option.some.inj e5).symm
        have sm3 : Same H2 (upd H3 T2 (.tup [.int (i : Nat), z])) := fun b o q => updn (nonn nT2 (sm b o q)) (sm b o q)
        refine ⟨T2, [.int (i : Nat), z], rfl, SqT.of upd_same, rfl, ?_⟩
        refine ⟨_, _, rfl, ?_⟩
        refine ⟨_, _, rfl, ?_⟩
        refine ⟨rfl, ?_⟩
        refine ⟨_, rfl, ?_⟩
        refine ⟨_, rfl, ?_⟩
        rcases item e6 hle with ⟨t, ht, rfl, hlt⟩ | ⟨rfl, rfl⟩
        · obtain ⟨hb, hl⟩ := hf t ht
          have od := odd_sx (H := upd H3 T2 (.tup [.int (i : Nat), sx t])) hb hl (by omega)
          refine ow_go (by omega) (by omega) od.1 fun H5 sm5 => ?_
          rw [od.2]
          refine ⟨_, rfl, iteF ?_⟩
          exact ⟨_, _, rfl, fun b o q => sm5 b o (sm3 b o q), hlt⟩
        · refine ow_go (by omega) (by omega) (ho.same fun b o q => sm3 b o (sm2 b o q)) fun H5 sm5 => ?_
          rw [hx]
          refine ⟨_, rfl, iteT ?_⟩
          refine ⟨_, rfl, ?_⟩
          exact err_go fun dd nd => k _ dd (fun b o q => sm5 b o (sm3 b o (sm2 b o q))) nd
      · rintro σ' H3 ⟨x2, x3, rfl, sm, hle⟩
        exfalso
        rw [List.length_append, List.length_map, List.length_cons] at hle
        omega
    · refine ⟨a, ts.map sx ++ x :: r, rfl, .inr ⟨SqT.of e, ?_⟩⟩
      refine for_it (walk_enumT (xs := ts.map sx ++ x :: r)) (fun i σ' H' => ∃ x2 x3, σ' = [some (.int n), some (.ref a), x2, x3] ∧ Same H2 H' ∧ i ≤ ts.length) ⟨_, _, rfl, Same.refl H2, Nat.zero_le _⟩ (fun i σ' H' _ h => let ⟨_, _, _, s, _⟩ := h; SqT.of (s _ _ e)) ?_ ?_
      · rintro i y0 σ' H3 H4 hi ⟨x2, x3, rfl, sm, hle⟩ ⟨T2, y, z, rfl, nT2, rfl, e5, e6⟩
        obtain rfl : y = .int (i : Nat) := (Option.some.inj e5).symm
        have sm3 : Same H2 (upd H3 T2 (.tup [.int (i : Nat), z])) := fun b o q => updn (nonn nT2 (sm b o q)) (sm b o q)
        refine ⟨T2, [.int (i : Nat), z], rfl, SqT.of upd_same, rfl, ?_⟩
        refine ⟨_, _, rfl, ?_⟩
        refine ⟨_, _, rfl, ?_⟩
        refine ⟨rfl, ?_⟩
        refine ⟨_, rfl, ?_⟩
        refine ⟨_, rfl, ?_⟩
        rcases item e6 hle with ⟨t, ht, rfl, hlt⟩ | ⟨rfl, rfl⟩
        · obtain ⟨hb, hl⟩ := hf t ht
          have od := odd_sx (H := upd H3 T2 (.tup [.int (i : Nat), sx t])) hb hl (by omega)
          refine ow_go (by omega) (by omega) od.1 fun H5 sm5 => ?_
          rw [od.2]
          refine ⟨_, rfl, iteF ?_⟩
          exact ⟨_, _, rfl, fun b o q => sm5 b o (sm3 b o q), hlt⟩
        · refine ow_go (by omega) (by omega) (ho.same fun b o q => sm3 b o (sm2 b o q)) fun H5 sm5 => ?_
          rw [hx]
          refine ⟨_, rfl, iteT ?_⟩
          refine ⟨_, rfl, ?_⟩
          exact err_go fun dd nd => k _ dd (fun b o q => sm5 b o (sm3 b o (sm2 b o q))) nd
      · rintro σ' H3 ⟨x2, x3, rfl, sm, hle⟩
        exfalso
        rw [List.length_append, List.length_map, List.length_cons] at hle
        omega
theorem xg_number {R : Rx} (h2 : ∀ H vs C f v, R H vs C f v → ∃ x y, vs = [x, y]) (F : Fun K "number" "number" s_number f fd) (hm : mg "number" = some (.ref f)) (T : Txt K mg) (x_check_stretch : Nm P w K mg base (L2.CX P w) 6 "check_stretch" s_check_stretch ["width", "stretch"] (spX R)) : Nm P w K mg base (L2.CX P w) 7 "number" s_number ["width", "stretch"] (spX R) := by
  refine nm_of F hm sc_number (fun vs H Q E h => ?_) fun cdv A outer s H vs Q E hr h => ?_
  · unfold spX at h
    obtain ⟨C, f, v, r, _⟩ := h
    obtain ⟨x, y, rfl⟩ := h2 _ _ _ _ _ r
    rfl
  · unfold spX at h
    obtain ⟨C, f, v, r, k⟩ := h
    obtain ⟨x, y, rfl⟩ := h2 _ _ _ _ _ r
    refine ⟨_, (pss_cons (ps_expr (pe_g x_check_stretch hr (by decide) (passes_call (takes_of rfl rfl rfl rfl) fun _ _ _ _ z => z) bp_check_stretch (by rfl) (pa_cons (pv 0) (pa_cons (pv 1) pa_nil))))
      (pss_cons (ps_set (i := 2) sc_number.nd rfl (by first | exact Or.inl rfl | exact Or.inr rfl) pe_int)
      (pss_cons (ps_for (passes_of rfl) rfl (pi_range1 (by rfl) T.b_range (pa_cons (pe_op op_sub (pv 0) (pe_callB (call_lenK (K := K) rfl) (by rfl) T.b_len PySem.boot_len (pa_cons (pv 1) pa_nil))) pa_nil)) (pg_name (i := 3) sc_number.nd rfl (by first | exact Or.inl rfl | exact Or.inr rfl)) (pss_one (ps_set (i := 2) sc_number.nd rfl (by first | exact Or.inl rfl | exact Or.inr rfl) (pe_op op_mul (pv 2) pe_int))))
      (pss_one (ps_ret (pv 2)))))), ?_⟩
    refine ⟨_, rfl, _, rfl, ?_⟩
    exact x_go r k
theorem xg_first {R : Rx} (h2 : ∀ H vs C f v, R H vs C f v → ∃ x y, vs = [x, y]) (F : Fun K "first" "first" s_first f fd) (hm : mg "first" = some (.ref f)) (T : Txt K mg) (x_check_stretch : Nm P w K mg base (L2.CX P w) 6 "check_stretch" s_check_stretch ["width", "stretch"] (spX R)) : Nm P w K mg base (L2.CX P w) 7 "first" s_first ["width", "stretch"] (spX R) := by
  refine nm_of F hm sc_first (fun vs H Q E h => ?_) fun cdv A outer s H vs Q E hr h => ?_
  · unfold spX at h
    obtain ⟨C, f, v, r, _⟩ := h
    obtain ⟨x, y, rfl⟩ := h2 _ _ _ _ _ r
    rfl
  · unfold spX at h
    obtain ⟨C, f, v, r, k⟩ := h
    obtain ⟨x, y, rfl⟩ := h2 _ _ _ _ _ r
    refine ⟨_, (pss_cons (ps_expr (pe_g x_check_stretch hr (by decide) (passes_call (takes_of rfl rfl rfl rfl) fun _ _ _ _ z => z) bp_check_stretch (by rfl) (pa_cons (pv 0) (pa_cons (pv 1) pa_nil))))
      (pss_one (ps_ret (pe_bm PySem.F.plainAttrs_str PySem.F.slot_str_ljust PySem.F.type_str_ljust mt_ljust2 (pv 1) (pa_cons (pv 0) (pa_cons pe_str pa_nil)))))), ?_⟩
    refine ⟨_, rfl, _, rfl, ?_⟩
    exact x_go r k
theorem xg_last {R : Rx} (h2 : ∀ H vs C f v, R H vs C f v → ∃ x y, vs = [x, y]) (F : Fun K "last" "last" s_last f fd) (hm : mg "last" = some (.ref f)) (T : Txt K mg) (x_check_stretch : Nm P w K mg base (L2.CX P w) 6 "check_stretch" s_check_stretch ["width", "stretch"] (spX R)) : Nm P w K mg base (L2.CX P w) 7 "last" s_last ["width", "stretch"] (spX R) := by
  refine nm_of F hm sc_last (fun vs H Q E h => ?_) fun cdv A outer s H vs Q E hr h => ?_
  · unfold spX at h
    obtain ⟨C, f, v, r, _⟩ := h
    obtain ⟨x, y, rfl⟩ := h2 _ _ _ _ _ r
    rfl
  · unfold spX at h
    obtain ⟨C, f, v, r, k⟩ := h
    obtain ⟨x, y, rfl⟩ := h2 _ _ _ _ _ r
    refine ⟨_, (pss_cons (ps_expr (pe_g x_check_stretch hr (by decide) (passes_call (takes_of rfl rfl rfl rfl) fun _ _ _ _ z => z) bp_check_stretch (by rfl) (pa_cons (pv 0) (pa_cons (pv 1) pa_nil))))
      (pss_one (ps_ret (pe_bm PySem.F.plainAttrs_str PySem.F.slot_str_ljust PySem.F.type_str_ljust mt_ljust2 (pv 1) (pa_cons (pv 0) (pa_cons pe_str pa_nil)))))), ?_⟩
    refine ⟨_, rfl, _, rfl, ?_⟩
    exact x_go r k
theorem xg_cells {R : Rx} (h2 : ∀ H vs C f v, R H vs C f v → ∃ x y, vs = [x, y]) (F : Fun K "cells" "cells" s_cells f fd) (hm : mg "cells" = some (.ref f)) (T : Txt K mg) (x_check_stretches : Nm P w K mg base (L2.CX P w) 6 "check_stretches" s_check_stretches ["width", "stretches"] (spX R)) (c_with_all : Nm P w K mg base CX0 1 "_with_all" s_with_all ["stretches"] (spWA)) (c_widest_inside : Nm P w K mg base CX0 2 "_widest_inside" s_widest_inside ["known"] (spWI)) (c_cell : Nm P w K mg base CX0 7 "_cell" s_cell ["width", "stretch", "inner"] (spCell)) : Nm P w K mg base (L2.CX P w) 9 "cells" s_cells ["width", "stretches"] (spX R) := by
  refine nm_of F hm sc_cells (fun vs H Q E h => ?_) fun cdv A outer s H vs Q E hr h => ?_
  · unfold spX at h
    obtain ⟨C, f, v, r, _⟩ := h
    obtain ⟨x, y, rfl⟩ := h2 _ _ _ _ _ r
    rfl
  · unfold spX at h
    obtain ⟨C, f, v, r, k⟩ := h
    obtain ⟨x, y, rfl⟩ := h2 _ _ _ _ _ r
    refine ⟨_, (pss_cons (ps_expr (pe_g x_check_stretches hr (by decide) (passes_call (takes_of rfl rfl rfl rfl) fun _ _ _ _ z => z) bp_check_stretches (by rfl) (pa_cons (pv 0) (pa_cons (pv 1) pa_nil))))
      (pss_cons (ps_set (i := 2) sc_cells.nd rfl (by first | exact Or.inl rfl | exact Or.inr rfl) (pe_g c_widest_inside hr (by decide) L2.pass0 bp_widest_inside (by rfl) (pa_cons (pe_g c_with_all hr (by decide) L2.pass0 bp_with_all (by rfl) (pa_cons (pv 1) pa_nil)) pa_nil)))
      (pss_one (ps_ret (pe_lock (pe_lc (own := [("stretch", 3), ("inner", 4)]) (g := (gTup K 2 (gCons (gName 3) (gCons (gName 4) gNil)))) (by rfl) sc_cells.nd (pi_items (pv 2)) (blkOk_by (own := [("stretch", 3), ("inner", 4)]) (N := ["width", "stretches", "inside", "stretch", "inner"]) (sc := defScope s_cells) (by decide +kernel)) (fun _ _ _ _ _ => (pg_tup (by rfl) (pgs_cons (pg_name (i := 3) sc_cells.nd rfl (by first | exact Or.inl rfl | exact Or.inr rfl)) (pgs_cons (pg_name (i := 4) sc_cells.nd rfl (by first | exact Or.inl rfl | exact Or.inr rfl)) pgs_nil)))) (fun _ _ _ _ _ => pts_nil) (fun _ _ _ _ _ => (pe_g c_cell hr (by decide) L2.pass0 bp_cell (by rfl) (pa_cons (pv 0) (pa_cons (pv 3) (pa_cons (pv 4) pa_nil))))))))))), ?_⟩
    refine ⟨_, rfl, _, rfl, ?_⟩
    exact x_go r k
/-- one argument more behind -/
def rB (R : Rx) : Rx := fun H vs C f v => ∃ x y z, vs = [x, y, z] ∧ R H [x, y] C f v
theorem xg_cell_of {R : Rx} (F : Fun K "cell_of" "cell_of" s_cell_of f fd) (hm : mg "cell_of" = some (.ref f)) (T : Txt K mg) (x_check_stretches : Nm P w K mg base (L2.CX P w) 6 "check_stretches" s_check_stretches ["width", "stretches"] (spX R)) (c_check_address : Nm P w K mg base CX0 6 "check_address" s_check_address ["width", "address"] (spCT adrB)) (c_with_all : Nm P w K mg base CX0 1 "_with_all" s_with_all ["stretches"] (spWA)) (c_longest_beginning : Nm P w K mg base CX0 1 "longest_beginning" s_longest_beginning ["known", "bits"] (spLB)) : Nm P w K mg base (L2.CX P w) 8 "cell_of" s_cell_of ["width", "stretches", "address"] (spX (rB R)) := by
  refine nm_of F hm sc_cell_of (fun vs H Q E h => ?_) fun cdv A outer s H vs Q E hr h => ?_
  · unfold spX at h
    obtain ⟨C, f, v, ⟨x, y, z, rfl, _⟩, _⟩ := h
    rfl
  · unfold spX at h
    obtain ⟨C, f, v, ⟨x, y, z, rfl, r⟩, k⟩ := h
    refine ⟨_, (pss_cons (ps_expr (pe_g x_check_stretches hr (by decide) (passes_call (takes_of rfl rfl rfl rfl) fun _ _ _ _ z => z) bp_check_stretches (by rfl) (pa_cons (pv 0) (pa_cons (pv 1) pa_nil))))
      (pss_cons (ps_expr (pe_g c_check_address hr (by decide) L2.pass0 bp_check_address (by rfl) (pa_cons (pv 0) (pa_cons (pv 2) pa_nil))))
      (pss_one (ps_ret (pe_g c_longest_beginning hr (by decide) L2.pass0 bp_longest_beginning (by rfl) (pa_cons (pe_g c_with_all hr (by decide) L2.pass0 bp_with_all (by rfl) (pa_cons (pv 1) pa_nil)) (pa_cons (pv 2) pa_nil))))))), ?_⟩
    refine ⟨_, rfl, _, rfl, ?_⟩
    exact x_go r k
/-- good stretches, a bad address -/
def rZ (CA : Addr) : Rx := fun H vs C f v => ∃ (n : Nat) (a : Addr) (ts : List (List Nat)) (x : V) (d : PyData), vs = [.int n, .ref a, x] ∧ 1 ≤ n ∧ n ≤ 100 ∧ ArgAt H a ts ∧ Fits n ts ∧ OddD H x d ∧ aV n x = false ∧ C = CA ∧ f = "value" ∧ v = x
theorem xa_cell_of (F : Fun K "cell_of" "cell_of" s_cell_of f fd) (hm : mg "cell_of" = some (.ref f)) (T : Txt K mg) (c_check_stretches : Nm P w K mg base CX0 5 "check_stretches" s_check_stretches ["width", "stretches"] (spCS)) (x_check_address : Nm P w K mg base (L2.CX P w) 6 "check_address" s_check_address ["width", "address"] (spX (rV aV CA))) (c_with_all : Nm P w K mg base CX0 1 "_with_all" s_with_all ["stretches"] (spWA)) (c_longest_beginning : Nm P w K mg base CX0 1 "longest_beginning" s_longest_beginning ["known", "bits"] (spLB)) : Nm P w K mg base (L2.CX P w) 8 "cell_of" s_cell_of ["width", "stretches", "address"] (spX (rZ CA)) := by
  refine nm_of F hm sc_cell_of (fun vs H Q E h => ?_) fun cdv A outer s H vs Q E hr h => ?_
  · unfold spX at h
    obtain ⟨C, f, v, ⟨n, a, ts, x, d, rfl, _⟩, _⟩ := h
    rfl
  · unfold spX at h
    obtain ⟨C, f, v, ⟨n, a, ts, x, d, rfl, h0, h1, ha, hf, ho, hx, rfl, rfl, rfl⟩, k⟩ := h
    refine ⟨_, (pss_cons (ps_expr (pe_g c_check_stretches hr (by decide) L2.pass0 bp_check_stretches (by rfl) (pa_cons (pv 0) (pa_cons (pv 1) pa_nil))))
      (pss_cons (ps_expr (pe_g x_check_address hr (by decide) (passes_call (takes_of rfl rfl rfl rfl) fun _ _ _ _ z => z) bp_check_address (by rfl) (pa_cons (pv 0) (pa_cons (pv 2) pa_nil))))
      (pss_one (ps_ret (pe_g c_longest_beginning hr (by decide) L2.pass0 bp_longest_beginning (by rfl) (pa_cons (pe_g c_with_all hr (by decide) L2.pass0 bp_with_all (by rfl) (pa_cons (pv 1) pa_nil)) (pa_cons (pv 2) pa_nil))))))), ?_⟩
    refine ⟨_, rfl, _, rfl, ?_⟩
    refine cs_go h0 h1 ha hf fun H1 sm1 => ?_
    refine ⟨_, rfl, _, rfl, ?_⟩
    exact x_go ⟨n, _, d, rfl, by omega, by omega, ho.same sm1, hx, rfl, rfl, rfl⟩ fun H2 dd sm2 nd => k H2 dd (sm1.trans sm2) nd
end
open PySem PySem.Spec PyProof.Rows
open L2 hiding pass0
abbrev s_common : Stmt := top 20
theorem sc_common : FnScope ["one", "other", "bits", "length", "left", "right"] ["one", "other"] (defScope s_common) := ⟨rfl, rfl, rfl, by decide +kernel, rfl, by decide +kernel, by decide +kernel⟩
theorem bp_common : BndP "common" s_common ["one", "other"] := fun _ _ _ _ _ _ us h => match us, h with | [_, _], _ => rfl
abbrev s_law_common : Stmt := top 35
theorem sc_law_common : FnScope ["_law_here", "_law_there", "_law_found", "_law_this", "_law_that"] ["_law_here", "_law_there"] (defScope s_law_common) := ⟨rfl, rfl, rfl, by decide +kernel, rfl, by decide +kernel, by decide +kernel⟩
theorem bp_law_common : BndP "_law_common" s_law_common ["_law_here", "_law_there"] := fun _ _ _ _ _ _ us h => match us, h with | [_, _], _ => rfl
def cpl : List Nat → List Nat → Nat
  | c :: z, d :: e => if c = d then cpl z e + 1 else 0
  | [], _ => 0
  | _ :: _, [] => 0
theorem cpl_le : ∀ z e, cpl z e ≤ z.length ∧ cpl z e ≤ e.length
  | [], _ => ⟨Nat.zero_le _, Nat.zero_le _⟩
  | _ :: _, [] => ⟨Nat.zero_le _, Nat.zero_le _⟩
  | c :: z, d :: e => by
    have h := cpl_le z e
    show (if c = d then cpl z e + 1 else 0) ≤ z.length + 1 ∧ (if c = d then cpl z e + 1 else 0) ≤ e.length + 1
    split <;> omega
theorem take_cpl : ∀ (z e : List Nat) (k : Nat), k ≤ z.length → k ≤ e.length → (z.take k = e.take k ↔ k ≤ cpl z e)
  | _, _, 0, _, _ => by simp
  | c :: z, d :: e, k + 1, h1, h2 => by
    have h := take_cpl z e k (Nat.le_of_succ_le_succ h1) (Nat.le_of_succ_le_succ h2)
    show c :: z.take k = d :: e.take k ↔ k + 1 ≤ (if c = d then cpl z e + 1 else 0)
    rw [List.cons.injEq, h]
    split <;> rename_i q <;> simp [q]
  | [], _, k + 1, h1, _ => by cases h1
  | _ :: _, [], k + 1, _, h2 => by cases h2
theorem cpl_step : ∀ {z e : List Nat} {i c d : Nat}, i ≤ cpl z e → z[i]? = some c → e[i]? = some d → (c = d → i + 1 ≤ cpl z e) ∧ (c ≠ d → cpl z e = i)
  | x :: z, y :: e, 0, c, d, _, hc, hd => by
    cases hc; cases hd
    show (x = y → 0 + 1 ≤ (if x = y then cpl z e + 1 else 0)) ∧ (x ≠ y → (if x = y then cpl z e + 1 else 0) = 0)
    exact ⟨fun q => by rw [if_pos q]; omega, fun q => if_neg q⟩
  | x :: z, y :: e, i + 1, c, d, h, hc, hd => by
    have h' : i + 1 ≤ (if x = y then cpl z e + 1 else 0) := h
    show (c = d → i + 1 + 1 ≤ (if x = y then cpl z e + 1 else 0)) ∧ (c ≠ d → (if x = y then cpl z e + 1 else 0) = i + 1)
    by_cases q : x = y
    · rw [if_pos q] at h' ⊢
      have r := cpl_step (z := z) (e := e) (i := i) (c := c) (d := d) (by omega) (by simpa using hc) (by simpa using hd)
      exact ⟨fun a => by have := r.1 a; omega, fun a => by have := r.2 a; omega⟩
    · rw [if_neg q] at h'
      omega
  | [], _, _, _, _, _, hc, _ => by simp at hc
  | _ :: _, [], _, _, _, _, _, hd => by simp at hd
theorem cpl_comm : ∀ z e, cpl z e = cpl e z
  | [], [] => rfl
  | [], _ :: _ => rfl
  | _ :: _, [] => rfl
  | c :: z, d :: e => by
    show (if c = d then cpl z e + 1 else 0) = (if d = c then cpl e z + 1 else 0)
    rw [cpl_comm z e]
    by_cases q : c = d
    · rw [if_pos q, if_pos q.symm]
    · rw [if_neg q, if_neg (Ne.symm q)]
theorem cpl_self : ∀ z, cpl z z = z.length
  | [] => rfl
  | c :: z => by
    show (if c = c then cpl z z + 1 else 0) = z.length + 1
    rw [if_pos rfl, cpl_self z]
def tk (z : Str) (k : Nat) : Str := SX.S (z.cps.toList.take k)
def cpS (z e : Str) : Nat := cpl z.cps.toList e.cps.toList
theorem cut_tk (z : Str) {d : Int} {k : Nat} (h : d = k) : cutS z none (some d) = tk z k := by
  subst h
  show SX.S _ = SX.S _
  refine congrArg SX.S ?_
  show (z.cps.toList.drop 0).take (HT.sIx z.length z.length (some (k : Int)) - 0) = z.cps.toList.take k
  rw [HT.sIx_nat, List.drop_zero, Nat.sub_zero]
  have hl : z.cps.toList.length = z.length := Array.length_toList
  by_cases c : k ≤ z.length
  · rw [Nat.min_eq_left c]
  · rw [List.take_of_length_le (by omega), List.take_of_length_le (by omega)]
theorem tk_len (z : Str) (k : Nat) : (tk z k).length = min k z.length := by
  unfold tk
  rw [SX.S_len, List.length_take, Array.length_toList]
  rfl
theorem cpS_le (z e : Str) : cpS z e ≤ z.length ∧ cpS z e ≤ e.length := by
  have h := cpl_le z.cps.toList e.cps.toList
  rw [Array.length_toList, Array.length_toList] at h
  exact h
@[irreducible] def spCommon : Sp := fun vs H Q _ => ∃ a b : Str, vs = [.str a, .str b] ∧ Bits a ∧ Bits b ∧ a.length ≤ 1000 ∧ b.length ≤ 1000 ∧ ∀ H', Same H H' → Q (.str (tk a (cpS a b))) H'
section
variable {H : Hp} {Q : VK} {E : XK} {a b e : Str} {x : V} {w : Nat}
theorem common_go (ha : Bits a) (hb : Bits b) (h0 : a.length ≤ 1000) (h1 : b.length ≤ 1000) (q : ∀ H', Same H H' → Q (.str (tk a (cpS a b))) H') : spCommon [.str a, .str b] H Q E := by
  unfold spCommon
  exact ⟨a, b, rfl, ha, hb, h0, h1, q⟩
end
theorem nd_t {p : Prop} [Decidable p] (h : (!decide p) = true) : ¬ p := fun q => by rw [decide_eq_true q] at h; cases h
theorem nd_f {p : Prop} [Decidable p] (h : ¬ (!decide p) = true) : p := by
  by_cases q : p
  · exact q
  · exact absurd (by rw [decide_eq_false q]; rfl) h
theorem str_ne {a b : Str} : (V.str a = V.str b) ↔ a = b := ⟨fun h => by injection h, fun h => by rw [h]⟩
section
variable {P : Program} {w : World} {K : PySem.W.Frag} {mg : Str → Option Value} {base : Heap} {f : Addr} {fd : FuncData} {CW CS CA CP : Addr}
theorem ok_common (F : Fun K "common" "common" s_common f fd) (hm : mg "common" = some (.ref f)) (T : Txt K mg) (c_is_bits : Nm P w K mg base CX0 1 "is_bits" s_is_bits ["value"] (spT bitsB)) : Nm P w K mg base CX0 2 "common" s_common ["one", "other"] (spCommon) := by
  refine nm_of0 F hm sc_common (fun vs H Q E h => ?_) fun cdv A outer s H vs Q E hr h => ?_
  · unfold spCommon at h
    obtain ⟨a, b, rfl, ha, hb, h0, h1, k⟩ := h
    subst_vars
    rfl
  unfold spCommon at h
  obtain ⟨a, b, rfl, ha, hb, h0, h1, k⟩ := h
  refine ⟨_, (pss_cons (ps_for PassesOwn.never rfl (pi_tup (pe_tup (pa_cons (pv 0) (pa_cons (pv 1) pa_nil)))) (pg_name (i := 2) sc_common.nd rfl (by first | exact Or.inl rfl | exact Or.inr rfl)) (pss_one (ps_if (pt_not (pt_val (pe_g c_is_bits hr (by decide) L2.pass0 bp_is_bits (by rfl) (pa_cons (pv 2) pa_nil)))) (pss_one ps_never) pss_nil)))
      (pss_cons (ps_set (i := 3) sc_common.nd rfl (by first | exact Or.inl rfl | exact Or.inr rfl) pe_int)
      (pss_cons (ps_for PassesOwn.never rfl (pi_zipS (by rfl) T.b_zip (pa_cons (pv 0) (pa_cons (pv 1) pa_nil))) (pg_tup (by rfl) (pgs_cons (pg_name (i := 4) sc_common.nd rfl (by first | exact Or.inl rfl | exact Or.inr rfl)) (pgs_cons (pg_name (i := 5) sc_common.nd rfl (by first | exact Or.inl rfl | exact Or.inr rfl)) pgs_nil))) (pss_cons (ps_if (pt_cmpR op_ne (pv 4) (pv 5) (nomark _)) (pss_one ps_break) pss_nil)
      (pss_one (ps_set (i := 3) sc_common.nd rfl (by first | exact Or.inl rfl | exact Or.inr rfl) (pe_op op_add (pv 3) pe_int)))))
      (pss_one (ps_ret (pe_slice sl_str (pv 0) po_none (po_some (pv 3)))))))), ?_⟩
  repeat walk_at "s1"
  rename_i t nt
  have sm0 : Same H (upd H t (.tup [.str a, .str b])) := fun c o e => updn (nonn nt e) e
  refine ⟨⟨_, SqT.of upd_same⟩, for_it (walk_tup (xs := [.str a, .str b])) (fun i σ H1 => (∃ x2, σ = [some (.str a), some (.str b), x2, none, none, none]) ∧ Same (upd H t (.tup [.str a, .str b])) H1) ⟨⟨_, rfl⟩, Same.refl _⟩ (fun i σ H1 _ h => SqT.of (h.2 _ _ upd_same)) ?_ ?_⟩
  · rintro i x σ H1 H2 hi ⟨⟨x2, rfl⟩, sm⟩ ⟨rfl, hx⟩
    have hx' : x = .str a ∨ x = .str b := by
      have := List.mem_of_getElem? hx
      simpa using this
    refine ⟨_, rfl, ?_⟩
    rcases hx' with rfl | rfl
    · refine t_go h0 fun H3 sm3 => ?_
      rw [bitsB_of ha]
      refine ⟨_, rfl, iteF ?_⟩
      exact ⟨⟨_, rfl⟩, sm.trans sm3⟩
    · refine t_go h1 fun H3 sm3 => ?_
      rw [bitsB_of hb]
      refine ⟨_, rfl, iteF ?_⟩
      exact ⟨⟨_, rfl⟩, sm.trans sm3⟩
  · rintro σ H1 ⟨⟨x2, rfl⟩, sm⟩
    have lea := cpl_le a.cps.toList b.cps.toList
    have la : a.cps.toList.length = a.length := Array.length_toList
    have lb : b.cps.toList.length = b.length := Array.length_toList
    have fin : ∀ (H2 : Hp) (i : Nat), Same H1 H2 → cpS a b = i → Q (.str (cutS a none (some (i : Int)))) H2 := fun H2 i s2 e => by
      rw [cut_tk a rfl, ← e]
      exact k H2 (sm0.trans (sm.trans s2))
    repeat walk_at "s1"
    refine ⟨ha.low.small, hb.low.small, for_it walk_zipS (fun i σ H2 => (∃ x4 x5, σ = [some (.str a), some (.str b), x2, some (.int i), x4, x5]) ∧ Same H1 H2 ∧ i ≤ cpS a b) ⟨⟨_, _, rfl⟩, Same.refl _, Nat.zero_le _⟩ (fun _ _ _ _ _ => trivial) ?_ ?_⟩
    · rintro i x σ H2 H3 hi ⟨⟨x4, x5, rfl⟩, sm2, hle⟩ ⟨t1, c, d, rfl, nT, rfl, hc, hd⟩
      have sm3 : Same H1 (upd H2 t1 (.tup [.str ⟨#[c]⟩, .str ⟨#[d]⟩])) := fun c o e => updn (nonn nT (sm2 c o e)) (sm2 c o e)
      refine ⟨t1, _, rfl, SqT.of upd_same, rfl, ⟨_, _, rfl, ⟨_, _, rfl, ⟨rfl, ?_⟩⟩⟩⟩
      have st := cpl_step hle hc hd
      repeat walk_at "s1"
      refine ite2 (fun hq => ?_) fun hq => ?_
      · have hne : c ≠ d := fun q => by subst q; simp at hq
        repeat walk_at "s1"
        refine fin _ i sm3 (st.2 hne)
      · have heq : c = d := by
          have h5 : (V.str ⟨#[c]⟩ : V) = V.str ⟨#[d]⟩ := by
            by_cases q : (V.str ⟨#[c]⟩ : V) = V.str ⟨#[d]⟩
            · exact q
            · exact absurd (by rw [decide_eq_false q]; rfl) hq
          injection h5 with h5
          injection h5 with h5
          simpa using h5
        repeat walk_at "s1"
        exact ⟨⟨_, _, rfl⟩, sm3, st.1 heq⟩
    · rintro σ H2 ⟨⟨x4, x5, rfl⟩, sm2, hle⟩
      repeat walk_at "s1"
      have hle' : min a.length b.length ≤ cpl a.cps.toList b.cps.toList := hle
      refine fin _ _ sm2 ?_
      show cpl a.cps.toList b.cps.toList = _
      omega
/-- one of them is no text of 0 and 1: the first such one -/
def rC (CS : Addr) : Rx := fun H vs C f v => ∃ x y d, vs = [x, y] ∧ ((OddD H x d ∧ bV x = false ∧ v = x) ∨ ((∃ a : Str, x = .str a ∧ Bits a ∧ a.length ≤ 1000) ∧ OddD H y d ∧ bV y = false ∧ v = y)) ∧ C = CS ∧ f = "value"
theorem xx_common (F : Fun K "common" "common" s_common f fd) (hm : mg "common" = some (.ref f)) (T : Txt K mg) (e_InvalidStretch : ErrC P w K mg base "InvalidStretch" CS "value") (c_is_bits : Nm P w K mg base CX0 1 "is_bits" s_is_bits ["value"] (oB bV)) : Nm P w K mg base (L2.CX P w) 4 "common" s_common ["one", "other"] (spX (rC CS)) := by
  refine nm_of F hm sc_common (fun vs H Q E h => ?_) fun cdv A outer s H vs Q E hr h => ?_
  · unfold spX at h
    obtain ⟨C, f, v, ⟨x, y, d, rfl, _⟩, _⟩ := h
    rfl
  · unfold spX at h
    obtain ⟨C, f, v, ⟨x, y, d, rfl, ho, rfl, rfl⟩, k⟩ := h
    refine ⟨_, (pss_cons (ps_for (passes_of rfl) rfl (pi_tup (pe_tup (pa_cons (pv 0) (pa_cons (pv 1) pa_nil)))) (pg_name (i := 2) sc_common.nd rfl (by first | exact Or.inl rfl | exact Or.inr rfl)) (pss_one (ps_if (pt_not (pt_val (pe_g c_is_bits hr (by decide) L2.pass0 bp_is_bits (by rfl) (pa_cons (pv 2) pa_nil)))) (pss_one (ps_raise1 e_InvalidStretch hr.r (by decide) rfl (takes_of rfl rfl rfl rfl) (by rfl) (pv 2))) pss_nil)))
      (pss_cons (ps_set (i := 3) sc_common.nd rfl (by first | exact Or.inl rfl | exact Or.inr rfl) pe_int)
      (pss_cons (ps_for (passes_of rfl) rfl (pi_zipS (by rfl) T.b_zip (pa_cons (pv 0) (pa_cons (pv 1) pa_nil))) (pg_tup (by rfl) (pgs_cons (pg_name (i := 4) sc_common.nd rfl (by first | exact Or.inl rfl | exact Or.inr rfl)) (pgs_cons (pg_name (i := 5) sc_common.nd rfl (by first | exact Or.inl rfl | exact Or.inr rfl)) pgs_nil))) (pss_cons (ps_if (pt_cmpR op_ne (pv 4) (pv 5) (nomark _)) (pss_one ps_break) pss_nil)
      (pss_one (ps_set (i := 3) sc_common.nd rfl (by first | exact Or.inl rfl | exact Or.inr rfl) (pe_op op_add (pv 3) pe_int)))))
      (pss_one (ps_ret (pe_slice sl_str (pv 0) po_none (po_some (pv 3)))))))), ?_⟩
    refine ⟨_, rfl, ⟨_, rfl, ?_⟩⟩
    refine ⟨szl (by show 2 ≤ 1000000; decide), fun t nt => ?_⟩
    have sm0 : Same H (upd H t (.tup [x, y])) := fun c o e => updn (nonn nt e) e
    refine ⟨t, rfl, ⟨_, SqT.of upd_same⟩, for_it (walk_tup (xs := [x, y])) (fun i σ H1 => (∃ x2, σ = [some x, some y, x2, none, none, none]) ∧ Same (upd H t (.tup [x, y])) H1 ∧ (i = 0 ∨ (i = 1 ∧ (∃ a : Str, x = .str a ∧ Bits a ∧ a.length ≤ 1000) ∧ OddD H y d ∧ bV y = false ∧ v = y)))
      ⟨⟨_, rfl⟩, Same.refl _, .inl rfl⟩ (fun i σ H1 _ h => SqT.of (h.2.1 _ _ upd_same)) ?_ ?_⟩
    · rintro i z σ H1 H2 hi ⟨⟨x2, rfl⟩, sm, hI⟩ ⟨rfl, hx⟩
      have smA : Same H H2 := sm0.trans sm
      refine ⟨_, rfl, ?_⟩
      rcases hI with rfl | ⟨rfl, ⟨a, rfl, ba, la⟩, o, b, rfl⟩
      · obtain rfl : x = z := Option.some.inj hx
        rcases ho with ⟨o, b, rfl⟩ | ⟨⟨a, rfl, ba, la⟩, o, b, rfl⟩
        · refine ob_go (o.same smA) fun H3 s3 => ?_
          rw [b]
          refine ⟨_, rfl, iteT ?_⟩
          refine ⟨_, rfl, ?_⟩
          exact err_go fun dd nd => k _ dd (smA.trans s3) nd
        · refine ob_go (.str ba.low la) fun H3 s3 => ?_
          have e : bV (V.str a) = true := bitsB_of ba
          rw [e]
          refine ⟨_, rfl, iteF ?_⟩
          exact ⟨⟨_, rfl⟩, sm.trans s3, .inr ⟨rfl, ⟨a, rfl, ba, la⟩, o, b, rfl⟩⟩
      · obtain rfl : v = z := Option.some.inj hx
        refine ob_go (o.same smA) fun H3 s3 => ?_
        rw [b]
        refine ⟨_, rfl, iteT ?_⟩
        refine ⟨_, rfl, ?_⟩
        exact err_go fun dd nd => k _ dd (smA.trans s3) nd
    · rintro σ H1 ⟨⟨x2, rfl⟩, sm, hI⟩
      exfalso
      rcases hI with z | ⟨z, _⟩
      · cases z
      · cases z
@[irreducible] def spLast : Sp := fun vs H Q _ => ∃ (n : Nat) (t : List Nat), vs = [.int n, sx t] ∧ 1 ≤ n ∧ n ≤ 100 ∧ M.BL t ∧ t.length ≤ n ∧ ∀ H', Same H H' → Q (sx (t ++ List.replicate (n - t.length) 49)) H'
theorem last_go {n : Nat} {t : List Nat} {H : Hp} {Q : VK} {E : XK} (h0 : 1 ≤ n) (h1 : n ≤ 100) (hb : M.BL t) (hl : t.length ≤ n) (k : ∀ H', Same H H' → Q (sx (t ++ List.replicate (n - t.length) 49)) H') : spLast [.int n, sx t] H Q E := by
  unfold spLast
  exact ⟨n, t, rfl, h0, h1, hb, hl, k⟩
theorem lj_eq1 {n : Nat} {t : List Nat} (hl : t.length ≤ n) : Txt.ljustF (SX.S t) (n : Int) 49 = SX.S (t ++ List.replicate (n - t.length) 49) := by
  unfold Txt.ljustF
  rw [sx_len]
  split
  · rename_i h
    have : n - t.length = 0 := by omega
    rw [this, List.replicate_zero, List.append_nil]
  · rw [Int.toNat_natCast]
    unfold PySem.Builtin.Str.padded SX.S
    simp
theorem S_app (a b : List Nat) : SX.S a ++ SX.S b = SX.S (a ++ b) := by
  show (⟨a.toArray ++ b.toArray⟩ : Str) = ⟨(a ++ b).toArray⟩
  simp
theorem ok_last (F : Fun K "last" "last" s_last f fd) (hm : mg "last" = some (.ref f)) (T : Txt K mg) (c_check_stretch : Nm P w K mg base CX0 5 "check_stretch" s_check_stretch ["width", "stretch"] (spCT strB)) : Nm P w K mg base CX0 6 "last" s_last ["width", "stretch"] (spLast) := by
  refine nm_of F hm sc_last (fun vs H Q E h => ?_) fun cdv A outer s H vs Q E hr h => ?_
  · unfold spLast at h
    obtain ⟨n, t, rfl, h0, h1, hb, hl, k⟩ := h
    subst_vars
    rfl
  unfold spLast at h
  obtain ⟨n, t, rfl, h0, h1, hb, hl, k⟩ := h
  refine ⟨_, (pss_cons (ps_expr (pe_g c_check_stretch hr (by decide) L2.pass0 bp_check_stretch (by rfl) (pa_cons (pv 0) (pa_cons (pv 1) pa_nil))))
      (pss_one (ps_ret (pe_bm PySem.F.plainAttrs_str PySem.F.slot_str_ljust PySem.F.type_str_ljust mt_ljust2 (pv 1) (pa_cons (pv 0) (pa_cons pe_str pa_nil)))))), ?_⟩
  refine ⟨_, rfl, ?_⟩
  refine ⟨_, rfl, ?_⟩
  refine ct_go (by omega) (by omega) (by rw [sx_len]; omega) (str_ok hb hl) fun H1 sm1 => ?_
  refine ⟨_, rfl, ?_⟩
  have hp : PadOk (n : Int) = true := pad_ok h1
  refine ⟨rfl, ⟨_, rfl, ⟨SX.S t, n, "1", rfl, rfl, hp, rfl, ?_⟩⟩⟩
  have hk := k _ sm1
  unfold sx at hk
  rw [← lj_eq1 hl] at hk
  exact hk
@[irreducible] def spLC : Sp := fun vs H Q _ => ∃ a b : Str, vs = [.str a, .str b] ∧ Bits a ∧ Bits b ∧ a.length ≤ 1000 ∧ b.length ≤ 1000 ∧ ∀ H', Same H H' → Q (.str (tk a (cpS a b))) H'
theorem lc_go {H : Hp} {Q : VK} {E : XK} {a b : Str} (ha : Bits a) (hb : Bits b) (h0 : a.length ≤ 1000) (h1 : b.length ≤ 1000) (q : ∀ H', Same H H' → Q (.str (tk a (cpS a b))) H') : spLC [.str a, .str b] H Q E := by
  unfold spLC
  exact ⟨a, b, rfl, ha, hb, h0, h1, q⟩
theorem tk_zero (a : Str) : tk a 0 = "" := by
  unfold tk
  rw [List.take_zero]
  rfl
theorem tk_succ {a : Str} {i c : Nat} (h : a.cps.toList[i]? = some c) : tk a i ++ (⟨#[c]⟩ : Str) = tk a (i + 1) := by
  unfold tk
  rw [List.take_add_one, h]
  exact S_app _ [c]
theorem ok_law_common (F : Fun K "_law_common" "_law_common" s_law_common f fd) (hm : mg "_law_common" = some (.ref f)) (T : Txt K mg) : Nm P w K mg base CX0 1 "_law_common" s_law_common ["_law_here", "_law_there"] (spLC) := by
  refine nm_of0 F hm sc_law_common (fun vs H Q E h => ?_) fun cdv A outer s H vs Q E hr h => ?_
  · unfold spLC at h
    obtain ⟨a, b, rfl, ha, hb, h0, h1, k⟩ := h
    subst_vars
    rfl
  unfold spLC at h
  obtain ⟨a, b, rfl, ha, hb, h0, h1, k⟩ := h
  refine ⟨_, (pss_cons (ps_set (i := 2) sc_law_common.nd rfl (by first | exact Or.inl rfl | exact Or.inr rfl) pe_str)
      (pss_cons (ps_for PassesOwn.never rfl (pi_zipS (by rfl) T.b_zip (pa_cons (pv 0) (pa_cons (pv 1) pa_nil))) (pg_tup (by rfl) (pgs_cons (pg_name (i := 3) sc_law_common.nd rfl (by first | exact Or.inl rfl | exact Or.inr rfl)) (pgs_cons (pg_name (i := 4) sc_law_common.nd rfl (by first | exact Or.inl rfl | exact Or.inr rfl)) pgs_nil))) (pss_cons (ps_if (pt_cmpR op_ne (pv 3) (pv 4) (nomark _)) (pss_one (ps_ret (pv 2))) pss_nil)
      (pss_one (ps_set (i := 2) sc_law_common.nd rfl (by first | exact Or.inl rfl | exact Or.inr rfl) (pe_op op_add_str (pv 2) (pv 3))))))
      (pss_one (ps_ret (pv 2))))), ?_⟩
  repeat walk_at "s1"
  refine ⟨ha.low.small, hb.low.small, for_it walk_zipS (fun i σ H2 => (∃ x4 x5, σ = [some (.str a), some (.str b), some (.str (tk a i)), x4, x5]) ∧ Same H H2 ∧ i ≤ cpS a b) ⟨⟨_, _, by rw [tk_zero]; rfl⟩, Same.refl _, Nat.zero_le _⟩ (fun _ _ _ _ _ => trivial) ?_ ?_⟩
  · rintro i x σ H2 H3 hi ⟨⟨x4, x5, rfl⟩, sm2, hle⟩ ⟨t1, c, d, rfl, nT, rfl, hc, hd⟩
    have sm3 : Same H (upd H2 t1 (.tup [.str ⟨#[c]⟩, .str ⟨#[d]⟩])) := fun c o e => updn (nonn nT (sm2 c o e)) (sm2 c o e)
    refine ⟨t1, _, rfl, SqT.of upd_same, rfl, ⟨_, _, rfl, ⟨_, _, rfl, ⟨rfl, ?_⟩⟩⟩⟩
    have st := cpl_step hle hc hd
    repeat walk_at "s1"
    refine ite2 (fun hq => ?_) fun hq => ?_
    · have hne : c ≠ d := fun q => by subst q; simp at hq
      repeat walk_at "s1"
      have e : cpS a b = i := st.2 hne
      have hk := k _ sm3
      rw [e] at hk
      exact hk
    · have heq : c = d := by
        have h5 : (V.str ⟨#[c]⟩ : V) = V.str ⟨#[d]⟩ := by
          by_cases q : (V.str ⟨#[c]⟩ : V) = V.str ⟨#[d]⟩
          · exact q
          · exact absurd (by rw [decide_eq_false q]; rfl) hq
        injection h5 with h5
        injection h5 with h5
        simpa using h5
      subst heq
      refine ⟨_, rfl, ?_⟩
      refine ⟨_, rfl, ?_⟩
      have l1 := tk_len a i
      have l2 : (⟨#[c]⟩ : Str).length = 1 := rfl
      refine ⟨tk a i, ⟨#[c]⟩, rfl, rfl, by rw [l1, l2, sizeLine_eq]; omega, ?_⟩
      rw [tk_succ hc]
      exact ⟨⟨_, _, rfl⟩, sm3, st.1 rfl⟩
  · rintro σ H2 ⟨⟨x4, x5, rfl⟩, sm2, hle⟩
    repeat walk_at "s1"
    have hle' : min a.length b.length ≤ cpl a.cps.toList b.cps.toList := hle
    have lea := cpl_le a.cps.toList b.cps.toList
    have la : a.cps.toList.length = a.length := Array.length_toList
    have lb : b.cps.toList.length = b.length := Array.length_toList
    have hk := k _ sm2
    have e : cpS a b = min a.length b.length := by show cpl a.cps.toList b.cps.toList = _; omega
    rw [e] at hk
    exact hk
end
open PySem PySem.Spec PyProof.Rows
open L2 hiding pass0
abbrev s_law_bad_span : Stmt := top 33
theorem sc_law_bad_span : FnScope ["_law_pot_here"] ["_law_pot_here"] (defScope s_law_bad_span) := ⟨rfl, rfl, rfl, by decide +kernel, rfl, by decide +kernel, by decide +kernel⟩
theorem bp_law_bad_span : BndP "_law_bad_span" s_law_bad_span ["_law_pot_here"] := fun _ _ _ _ _ _ us h => match us, h with | [_], _ => rfl
abbrev s_law_bad_bits : Stmt := top 34
theorem sc_law_bad_bits : FnScope ["_law_pot_here", "_law_span", "_law_row", "_law_at"] ["_law_pot_here", "_law_span"] (defScope s_law_bad_bits) := ⟨rfl, rfl, rfl, by decide +kernel, rfl, by decide +kernel, by decide +kernel⟩
theorem bp_law_bad_bits : BndP "_law_bad_bits" s_law_bad_bits ["_law_pot_here", "_law_span"] := fun _ _ _ _ _ _ us h => match us, h with | [_, _], _ => rfl
/-- a value that is no width -/
@[irreducible] def spBS : Sp := fun vs H Q _ => ∃ p, vs = [.ref p] ∧ PotAt H p ∧ ∀ v d H', OddD H' v d → wV v = false → Go p H H' → Q v H'
/-- a value that is no text of 0 and 1 -/
@[irreducible] def spBB : Sp := fun vs H Q _ => ∃ (p : Addr) (n : Int), vs = [.ref p, .int n] ∧ PotAt H p ∧ 0 ≤ n ∧ n ≤ 100 ∧ ∀ v d H', OddD H' v d → bV v = false → Go p H H' → Q v H'
theorem bs_go {p : Addr} {H : Hp} {Q : VK} {E : XK} (hp : PotAt H p) (q : ∀ v d H', OddD H' v d → wV v = false → Go p H H' → Q v H') : spBS [.ref p] H Q E := by
  unfold spBS
  exact ⟨p, rfl, hp, q⟩
theorem bb_go {p : Addr} {n : Int} {H : Hp} {Q : VK} {E : XK} (hp : PotAt H p) (h0 : 0 ≤ n) (h1 : n ≤ 100) (q : ∀ v d H', OddD H' v d → bV v = false → Go p H H' → Q v H') : spBB [.ref p, .int n] H Q E := by
  unfold spBB
  exact ⟨p, n, rfl, hp, h0, h1, q⟩
theorem cutS_mem {z : Str} {lo hi : Option Int} {c : Nat} (h : c ∈ (cutS z lo hi).cps.toList) : c ∈ z.cps.toList := by
  have h' : c ∈ (SX.S _).cps.toList := h
  rw [tl_S] at h'
  exact List.mem_of_mem_drop (List.mem_of_mem_take h')
theorem cutS_len (z : Str) (lo hi : Option Int) : (cutS z lo hi).length ≤ z.length := by
  show (SX.S _).length ≤ z.length
  rw [SX.S_len, List.length_take, List.length_drop, Array.length_toList]
  have : z.cps.size = z.length := rfl
  omega
theorem app_list (a b : Str) : (a ++ b).cps.toList = a.cps.toList ++ b.cps.toList := by
  show (a.cps ++ b.cps).toList = _
  simp
theorem app_len (a b : Str) : (a ++ b).length = a.length + b.length := by
  show (a.cps ++ b.cps).size = _
  simp
  rfl
section
variable {P : Program} {w : World} {K : PySem.W.Frag} {mg : Str → Option Value} {base : Heap} {f : Addr} {fd : FuncData}
theorem ok_bad_span (F : Fun K "_law_bad_span" "_law_bad_span" s_law_bad_span f fd) (hm : mg "_law_bad_span" = some (.ref f)) (T : Txt K mg) (c_law_among : Nm P w K mg base CX0 2 "_law_among" s_law_among ["_law_pot_here", "_law_some"] (spAmong K)) : Nm P w K mg base CX0 3 "_law_bad_span" s_law_bad_span ["_law_pot_here"] (spBS) := by
  refine nm_of F hm sc_law_bad_span (fun vs H Q E h => ?_) fun cdv A outer s H vs Q E hr h => ?_
  · unfold spBS at h
    obtain ⟨p, rfl, hp, k⟩ := h
    subst_vars
    rfl
  unfold spBS at h
  obtain ⟨p, rfl, hp, k⟩ := h
  refine ⟨_, (pss_one (ps_ret (pe_g c_law_among hr (by decide) L2.pass0 bp_law_among (by rfl) (pa_cons (pv 0) (pa_cons (pe_lst (pa_cons pe_int (pa_cons pe_int (pa_cons (pe_un un_neg pe_int) (pa_cons pe_bl (pa_cons pe_bl (pa_cons pe_non (pa_cons pe_str (pa_cons pe_str (pa_cons (pe_lstN (pa_cons pe_int pa_nil)) (pa_cons (pe_tupN (pa_cons pe_int pa_nil)) (pa_cons pe_dnewK (pa_cons (pe_op op_pow pe_int pe_int) (pa_cons (pe_op op_sub pe_int (pe_op op_pow pe_int pe_int)) pa_nil)))))))))))))) pa_nil))))), ?_⟩
  have k' : ∀ {v d H'}, OddD H' v d → wV v = false → Go p H H' → Q v H' := fun {v d H'} a b c => k v d H' a b c
  have cp : CPow 10 30 := ⟨by decide, by decide, by decide⟩
  refine ⟨_, rfl, ?_⟩
  refine ⟨_, rfl, ?_⟩
  refine ⟨szl (Nat.le_of_ble_eq_true rfl), fun q1 n1 m1 => ?_⟩
  refine ⟨szl (Nat.le_of_ble_eq_true rfl), fun q2 n2 m2 => ?_⟩
  refine fun q3 n3 => ?_
  refine ⟨10, 30, rfl, rfl, cp, ?_⟩
  refine ⟨10, 30, rfl, rfl, cp, ?_⟩
  refine ⟨0, _, rfl, rfl, ?_⟩
  refine ⟨szl (Nat.le_of_ble_eq_true rfl), fun q4 n4 => ?_⟩
  have e30 : (10 : Int) ^ Int.toNat 30 = 1000000000000000000000000000000 := by decide
  have a1 := Go.new (o := HO.lst [V.int 4]) (Go.refl hp) n1
  have a2 := Go.new (o := HO.tup [V.int 4]) a1 n2
  have a3 := Go.new (o := HO.dK []) a2 n3
  have e1 := hp.ne n1
  have e2 := a1.pot.ne n2
  have e3 := a2.pot.ne n3
  have e4 := a3.pot.ne n4
  refine among_l (a3.new n4).pot e4 (SqL.of upd_same) (Nat.le_of_ble_eq_true rfl) (Nat.le_of_ble_eq_true rfl) fun v hv H3 g3 => ?_
  have gg : Go p H H3 := (a3.new n4).trans g3
  clear a1 a2 a3
  simp only [List.mem_cons, List.not_mem_nil, or_false] at hv
  rcases hv with rfl | rfl | rfl | rfl | rfl | rfl | rfl | rfl | rfl | rfl | rfl | rfl | rfl
  · exact k' (.int (by decide)) rfl gg
  · exact k' (.int (by decide)) rfl gg
  · exact k' (.int (by decide)) rfl gg
  · exact k' (.bl true) rfl gg
  · exact k' (.bl false) rfl gg
  · exact k' .non rfl gg
  · exact k' (.str (lowOf (by decide)) (by decide)) rfl gg
  · exact k' (.str (lowOf (by decide)) (by decide)) rfl gg
  · exact k' (.lst m1 (g3.kp (by walk_at "hp") e1) (.int (by decide))) rfl gg
  · exact k' (.tup m2 (g3.kp (by walk_at "hp") e2) (.int (by decide))) rfl gg
  · exact k' (.dct0 (g3.kp (by walk_at "hp") e3)) rfl gg
  · rw [e30] at *
    exact k' (.int (by decide)) (by decide) gg
  · rw [e30] at *
    exact k' (.int (by decide)) (by decide) gg
theorem ok_bad_bits (F : Fun K "_law_bad_bits" "_law_bad_bits" s_law_bad_bits f fd) (hm : mg "_law_bad_bits" = some (.ref f)) (T : Txt K mg) (c_law_among : Nm P w K mg base CX0 2 "_law_among" s_law_among ["_law_pot_here", "_law_some"] (spAmong K)) (c_law_bits : Nm P w K mg base CX0 3 "_law_bits" s_law_bits ["_law_pot_here", "_law_least", "_law_most"] (spBits)) (c_law_draw : Nm P w K mg base CX0 1 "_law_draw" s_law_draw ["_law_pot_here", "_law_many"] (spDraw)) : Nm P w K mg base CX0 4 "_law_bad_bits" s_law_bad_bits ["_law_pot_here", "_law_span"] (spBB) := by
  refine nm_of F hm sc_law_bad_bits (fun vs H Q E h => ?_) fun cdv A outer s H vs Q E hr h => ?_
  · unfold spBB at h
    obtain ⟨p, n, rfl, hp, h0, h1, k⟩ := h
    subst_vars
    rfl
  unfold spBB at h
  obtain ⟨p, n, rfl, hp, h0, h1, k⟩ := h
  refine ⟨_, (pss_cons (ps_set (i := 2) sc_law_bad_bits.nd rfl (by first | exact Or.inl rfl | exact Or.inr rfl) (pe_g c_law_bits hr (by decide) L2.pass0 bp_law_bits (by rfl) (pa_cons (pv 0) (pa_cons (pv 1) (pa_cons (pv 1) pa_nil)))))
      (pss_cons (ps_set (i := 3) sc_law_bad_bits.nd rfl (by first | exact Or.inl rfl | exact Or.inr rfl) (pe_g c_law_draw hr (by decide) L2.pass0 bp_law_draw (by rfl) (pa_cons (pv 0) (pa_cons (pe_op op_add (pe_callB (call_lenK (K := K) rfl) (by rfl) T.b_len PySem.boot_len (pa_cons (pv 2) pa_nil)) pe_int) pa_nil))))
      (pss_one (ps_ret (pe_g c_law_among hr (by decide) L2.pass0 bp_law_among (by rfl) (pa_cons (pv 0) (pa_cons (pe_lst (pa_cons pe_non (pa_cons pe_int (pa_cons pe_int (pa_cons pe_bl (pa_cons (pe_lstN (pa_cons pe_str pa_nil)) (pa_cons (pe_tupN (pa_cons pe_str pa_nil)) (pa_cons pe_dnewK (pa_cons pe_str (pa_cons pe_str (pa_cons pe_str (pa_cons pe_str (pa_cons (pe_op op_add_str (pe_op op_add_str (pe_slice sl_str (pv 2) po_none (po_some (pv 3))) pe_str) (pe_slice sl_str (pv 2) (po_some (pv 3)) po_none)) (pa_cons pe_str pa_nil)))))))))))))) pa_nil))))))), ?_⟩
  have k' : ∀ {v d H'}, OddD H' v d → bV v = false → Go p H H' → Q v H' := fun {v d H'} a b c => k v d H' a b c
  refine ⟨_, rfl, ⟨_, rfl, ⟨_, rfl, ?_⟩⟩⟩
  refine bits_go hp (by omega) (by omega) (by omega) fun z H1 hz hl0 hl g1 => ?_
  repeat walk_at "s1"
  refine draw_go g1.pot (by omega) (by omega) fun d H2 d0 d1 g2 => ?_
  refine ⟨_, rfl, ?_⟩
  refine ⟨szl (Nat.le_of_ble_eq_true rfl), fun q1 n1 m1 => ?_⟩
  refine ⟨szl (Nat.le_of_ble_eq_true rfl), fun q2 n2 m2 => ?_⟩
  refine fun q3 n3 => ?_
  refine ⟨_, rfl, ?_⟩
  refine ⟨_, rfl, ?_⟩
  have c1 := cutS_len z none (some d)
  have c2 := cutS_len z (some d) none
  have c3 : ("2" : Str).length = 1 := rfl
  refine ⟨d, rfl, ⟨z, rfl, szl (by omega), ?_⟩⟩
  refine ⟨_, _, rfl, rfl, szl (by omega), ?_⟩
  refine ⟨_, rfl, ?_⟩
  refine ⟨_, rfl, ⟨d, rfl, ⟨z, rfl, szl (by omega), ?_⟩⟩⟩
  refine ⟨_, _, rfl, rfl, szl (by rw [app_len]; omega), ?_⟩
  refine ⟨szl (Nat.le_of_ble_eq_true rfl), fun q4 n4 => ?_⟩
  have l2 : (cutS z none (some d) ++ ("2" : Str) ++ cutS z (some d) none).length ≤ 1000 := by rw [app_len, app_len]; omega
  have w2 : Low (cutS z none (some d) ++ ("2" : Str) ++ cutS z (some d) none) := fun c hc => by
    rw [app_list, app_list, List.mem_append, List.mem_append] at hc
    rcases hc with (h | h) | h
    · exact hz.low c (cutS_mem h)
    · have h' : c ∈ [50] := h
      rw [List.mem_singleton] at h'
      omega
    · exact hz.low c (cutS_mem h)
  have b2 : bV (.str (cutS z none (some d) ++ ("2" : Str) ++ cutS z (some d) none)) = false := by
    show (List.all _ _) = false
    rw [app_list, app_list, List.all_append, List.all_append]
    have h : (("2" : Str).cps.toList.all fun c => decide (c ∈ ("01" : Str).cps.toList)) = false := by decide
    rw [h, Bool.and_false, Bool.false_and]
  have g12 := g1.trans g2
  have a1 := Go.new (o := HO.lst [V.str "0"]) g12 n1
  have a2 := Go.new (o := HO.tup [V.str "0"]) a1 n2
  have a3 := Go.new (o := HO.dK []) a2 n3
  have e1 := g12.pot.ne n1
  have e2 := a1.pot.ne n2
  have e3 := a2.pot.ne n3
  have e4 := a3.pot.ne n4
  refine among_l (a3.new n4).pot e4 (SqL.of upd_same) (Nat.le_of_ble_eq_true rfl) (Nat.le_of_ble_eq_true rfl) fun v hv H3 g3 => ?_
  have gg : Go p H H3 := (a3.new n4).trans g3
  clear a1 a2 a3
  simp only [List.mem_cons, List.not_mem_nil, or_false] at hv
  rcases hv with rfl | rfl | rfl | rfl | rfl | rfl | rfl | rfl | rfl | rfl | rfl | rfl | rfl
  · exact k' .non rfl gg
  · exact k' (.int (by decide)) rfl gg
  · exact k' (.int (by decide)) rfl gg
  · exact k' (.bl true) rfl gg
  · exact k' (.lst m1 (g3.kp (by walk_at "hp") e1) (.str (lowOf (by decide)) (by decide))) rfl gg
  · exact k' (.tup m2 (g3.kp (by walk_at "hp") e2) (.str (lowOf (by decide)) (by decide))) rfl gg
  · exact k' (.dct0 (g3.kp (by walk_at "hp") e3)) rfl gg
  · exact k' (.str (lowOf (by decide)) (by decide)) rfl gg
  · exact k' (.str (lowOf (by decide)) (by decide)) rfl gg
  · exact k' (.str (lowOf (by decide)) (by decide)) rfl gg
  · exact k' (.str (lowOf (by decide)) (by decide)) rfl gg
  · exact k' (.str w2 l2) b2 gg
  · exact k' (.str (lowOf (by decide)) (by decide)) rfl gg
end
open PySem PySem.Spec PyProof.Rows
open L2 hiding pass0
/-! ## == and != of lists whose items are alike: the same flat value, the same object, or lists of such -/
def Alk (K : PySem.W.Frag) (H : Hp) : Nat → V → V → Prop
  | 0 => fun x y => (x = y ∧ flatB x = true) ∨ ∃ a, x = .ref a ∧ y = .ref a
  | n + 1 => fun x y => ((x = y ∧ flatB x = true) ∨ ∃ a, x = .ref a ∧ y = .ref a) ∨ ∃ a b xs ys, x = .ref a ∧ y = .ref b ∧ SqL K H a xs ∧ SqL K H b ys ∧ Paired (Alk K H n) xs ys
theorem vals_pos : ∀ {xs : List V} {us : List Value} {j : Nat} {u : Value}, Vals xs us → us[j]? = some u → ∃ x, xs[j]? = some x ∧ RelV x u
  | _, _, _, _, .nil, e => by simp at e
  | _, _, 0, _, .cons h _, e => by
    cases e
    exact ⟨_, rfl, h⟩
  | _, _, j + 1, _, .cons _ r, e => vals_pos (j := j) r e
theorem pair_pos {F : V → V → Prop} : ∀ {xs ys : List V} {j : Nat} {x y : V}, Paired F xs ys → xs[j]? = some x → ys[j]? = some y → F x y
  | _, _, _, _, _, .nil, e, _ => by simp at e
  | _, _, 0, _, _, .cons h _, e1, e2 => by
    cases e1
    cases e2
    exact h
  | _, _, j + 1, _, _, .cons _ r, e1, e2 => pair_pos (j := j) r e1 e2
section
variable {X : Cx} {pins : List (Addr × Obj)} {σ : L2.St} {H : Hp} {s : Shared}
theorem alk_items (I : Inv X pins σ H s) {n : Nat} {A : Around} {a b : Addr} {xs ys : List V} (ih : ∀ (x y : V) (v u : Value), Alk X.K H n x y → RelV x v → RelV y u → SeqAt.EqAt A s v u true) (ha : SqL X.K H a xs) (hb : SqL X.K H b ys) (hp : Paired (Alk X.K H n) xs ys) :
    ∃ us ws : Array Value, s.heap.IsList a us ∧ s.heap.IsList b ws ∧ us.size = ws.size ∧ ∀ j (h1 : j < us.size) (h2 : j < ws.size), SeqAt.EqAt A s us[j] ws[j] true := by
  obtain ⟨us, r1, p1, _⟩ := I.list ha
  obtain ⟨ws, r2, p2, _⟩ := I.list hb
  refine ⟨us.toArray, ws.toArray, p1.isList, p2.isList, ?_, fun j h1 h2 => ?_⟩
  · rw [List.size_toArray, List.size_toArray, ← r1.length, ← r2.length]
    exact Paired.length hp
  · have h1' : j < us.length := by simpa using h1
    have h2' : j < ws.length := by simpa using h2
    obtain ⟨x, e1, q1⟩ := vals_pos r1 (List.getElem?_eq_getElem h1')
    obtain ⟨y, e2, q2⟩ := vals_pos r2 (List.getElem?_eq_getElem h2')
    have k := ih x y _ _ (pair_pos hp e1 e2) q1 q2
    simpa using k
theorem all_true (n : Nat) : ((List.range n).all fun _ => true) = true := List.all_eq_true.mpr fun _ _ => rfl
theorem alk_at (I : Inv X pins σ H s) : ∀ (n : Nat) (A : Around), A.units + n < cLine → ∀ (x y : V) (v u : Value), Alk X.K H n x y → RelV x v → RelV y u → SeqAt.EqAt A s v u true := by
  have leaf : ∀ {A : Around} {x y : V} {v u : Value}, ((x = y ∧ flatB x = true) ∨ ∃ a, x = .ref a ∧ y = .ref a) → RelV x v → RelV y u → SeqAt.EqAt A s v u true := fun {A x y v u} h rx ry => by
    rcases h with ⟨rfl, f⟩ | ⟨a, rfl, rfl⟩
    · exact eqAt_same rx ry f
    · cases (show v = Value.ref a from rx)
      cases (show u = Value.ref a from ry)
      exact SeqAt.EqAt.same _
  intro n
  induction n with
  | zero => exact fun A _ x y v u h rx ry => leaf h rx ry
  | succ n ih =>
    intro A hu x y v u h rx ry
    rcases h with h | ⟨a, b, xs, ys, rfl, rfl, ha, hb, hp⟩
    · exact leaf h rx ry
    · cases (show v = Value.ref a from rx)
      cases (show u = Value.ref b from ry)
      by_cases e : a = b
      · subst e
        exact SeqAt.EqAt.same _
      · obtain ⟨us, ws, p1, p2, hz, he⟩ := alk_items I (A := A.in1) (ih A.in1 (by show A.units + 1 + n < cLine; omega)) ha hb hp
        have r := SeqAt.RcAt.lists (e := fun _ => true) p1 p2 hz (by omega) he
        rw [all_true] at r
        exact SeqAt.EqAt.of_refs e r
end
def rEqW (K : PySem.W.Frag) : R2 := fun x y H Q => ∃ n a b xs ys, n ≤ 50 ∧ x = .ref a ∧ y = .ref b ∧ SqL K H a xs ∧ SqL K H b ys ∧ Paired (Alk K H n) xs ys ∧ Q (.bl true) H
def rNeW (K : PySem.W.Frag) : R2 := fun x y H Q => ∃ n a b xs ys, n ≤ 50 ∧ x = .ref a ∧ y = .ref b ∧ SqL K H a xs ∧ SqL K H b ys ∧ Paired (Alk K H n) xs ys ∧ Q (.bl false) H
section
variable {X : Cx} {K : PySem.W.Frag}
theorem op_eqW (eK : X.K = K) (hu : X.A.units + 64 < cLine) : OpR X (compareOp .Eq) (rEqW K) := by
  subst eK
  intro pins s σ H x y v u Q I rx ry h
  obtain ⟨n, a, b, xs, ys, hn, rfl, rfl, ha, hb, hp, q⟩ := h
  cases (show v = Value.ref a from rx)
  cases (show u = Value.ref b from ry)
  obtain ⟨us, ws, p1, p2, hz, he⟩ := alk_items I (A := X.A.in1) (alk_at I n X.A.in1 (by show X.A.units + 1 + n < cLine; omega)) ha hb hp
  have r := SeqAt.RcAt.lists (e := fun _ => true) p1 p2 hz (by omega) he
  rw [all_true] at r
  exact r _ _ _ _ ⟨.bl true, H, I, rfl, q⟩
theorem op_neW (eK : X.K = K) (hu : X.A.units + 64 < cLine) : OpR X (compareOp .NotEq) (rNeW K) := by
  subst eK
  intro pins s σ H x y v u Q I rx ry h
  obtain ⟨n, a, b, xs, ys, hn, rfl, rfl, ha, hb, hp, q⟩ := h
  cases (show v = Value.ref a from rx)
  cases (show u = Value.ref b from ry)
  obtain ⟨us, ws, p1, p2, hz, he⟩ := alk_items I (A := X.A.in1) (alk_at I n X.A.in1 (by show X.A.units + 1 + n < cLine; omega)) ha hb hp
  have r := SeqAt.RcNeAt.lists (e := fun _ => true) p1 p2 hz (by omega) he
  rw [all_true] at r
  exact r _ _ _ _ ⟨.bl false, H, I, rfl, q⟩
end
open PySem PySem.Spec PyProof.Rows
open L2 hiding pass0
abbrev s_law_told_right : Stmt := top 36
theorem sc_law_told_right : FnScope ["_law_pot_here", "_law_span", "_law_turn", "_law_part", "_law_left", "_law_told", "_law_due", "_law_named", "_law_head", "_law_here", "_law_two"] ["_law_pot_here", "_law_span"] (defScope s_law_told_right) := ⟨rfl, rfl, rfl, by decide +kernel, rfl, by decide +kernel, by decide +kernel⟩
theorem bp_law_told_right : BndP "_law_told_right" s_law_told_right ["_law_pot_here", "_law_span"] := fun _ _ _ _ _ _ us h => match us, h with | [_, _], _ => rfl
theorem bk_number_0_stretch_width : Bnd "number" s_number ["width", "stretch"] 0 ["stretch", "width"] [1, 0] := fun _ _ _ _ _ _ us ws h1 h2 => match us, ws, h1, h2 with | [], [_, _], _, _ => rfl
theorem bk_first_0_stretch_width : Bnd "first" s_first ["width", "stretch"] 0 ["stretch", "width"] [1, 0] := fun _ _ _ _ _ _ us ws h1 h2 => match us, ws, h1, h2 with | [], [_, _], _, _ => rfl
theorem bk_last_0_stretch_width : Bnd "last" s_last ["width", "stretch"] 0 ["stretch", "width"] [1, 0] := fun _ _ _ _ _ _ us ws h1 h2 => match us, ws, h1, h2 with | [], [_, _], _, _ => rfl
theorem bk_common_0_other_one : Bnd "common" s_common ["one", "other"] 0 ["other", "one"] [1, 0] := fun _ _ _ _ _ _ us ws h1 h2 => match us, ws, h1, h2 with | [], [_, _], _, _ => rfl
theorem sx_tl (z : Str) : sx z.cps.toList = V.str z := by unfold sx; rw [SX.S_tl]
theorem bits_BL {z : Str} (h : Bits z) : M.BL z.cps.toList := h
@[irreducible] def spTR : Sp := fun vs H Q _ => ∃ (p : Addr) (n : Int), vs = [.ref p, .int n] ∧ PotAt H p ∧ 1 ≤ n ∧ n ≤ 100 ∧ ∀ H', Go p H H' → Q (.bl true) H'
theorem tr_go {p : Addr} {n : Int} {H : Hp} {Q : VK} {E : XK} (hp : PotAt H p) (h0 : 1 ≤ n) (h1 : n ≤ 100) (q : ∀ H', Go p H H' → Q (.bl true) H') : spTR [.ref p, .int n] H Q E := by
  unfold spTR
  exact ⟨p, n, rfl, hp, h0, h1, q⟩
theorem cpl_app : ∀ (h : List Nat) {c d : Nat} (z e : List Nat), c ≠ d → cpl (h ++ c :: z) (h ++ d :: e) = h.length
  | [], c, d, z, e, q => by
    show (if c = d then cpl z e + 1 else 0) = 0
    rw [if_neg q]
  | x :: h, c, d, z, e, q => by
    show (if x = x then cpl (h ++ c :: z) (h ++ d :: e) + 1 else 0) = h.length + 1
    rw [if_pos rfl, cpl_app h z e q]
theorem cpl_pre : ∀ h e : List Nat, cpl h (h ++ e) = h.length
  | [], [] => rfl
  | [], _ :: _ => rfl
  | x :: h, e => by
    show (if x = x then cpl h (h ++ e) + 1 else 0) = h.length + 1
    rw [if_pos rfl, cpl_pre h e]
theorem cpl_take : ∀ (l : List Nat) (k : Nat), k ≤ l.length → cpl l (l.take k) = k
  | [], 0, _ => rfl
  | _ :: _, 0, _ => rfl
  | [], k + 1, h => by cases h
  | x :: l, k + 1, h => by
    show (if x = x then cpl l (l.take k) + 1 else 0) = k + 1
    rw [if_pos rfl, cpl_take l k (Nat.le_of_succ_le_succ h)]
theorem tk_all (z : Str) : tk z z.length = z := by
  unfold tk
  rw [List.take_of_length_le (by rw [Array.length_toList]; exact Nat.le_refl _), SX.S_tl]
theorem rep_one (m c : Nat) : (List.replicate m [c]).flatten = List.replicate m c := by
  induction m with
  | zero => rfl
  | succ m ih => rw [List.replicate_succ, List.flatten_cons, ih]; rfl
theorem Bits.app {a b : Str} (ha : Bits a) (hb : Bits b) : Bits (a ++ b) := fun c hc => by
  rw [app_list, List.mem_append] at hc
  exact hc.elim (ha c) (hb c)
theorem Go.of_same {p : Addr} {H H' : Hp} (h : PotAt H p) (s : Same H H') : Go p H H' := by
  obtain ⟨a, b, e, r⟩ := h
  exact ⟨⟨a, b, s _ _ e, r⟩, fun c o e _ => s c o e⟩
theorem tk_comm (a b : Str) : tk b (cpS b a) = tk a (cpS a b) := by
  have e : cpS b a = cpS a b := cpl_comm _ _
  have l := cpl_le a.cps.toList b.cps.toList
  rw [e]
  unfold tk
  exact congrArg SX.S ((take_cpl a.cps.toList b.cps.toList (cpS a b) l.1 l.2).mpr (Nat.le_refl _)).symm
theorem tk_self (a : Str) : tk a (cpS a a) = a := by
  have e : cpS a a = a.length := (cpl_self _).trans Array.length_toList
  rw [e, tk_all]
theorem tk_pre (a b : Str) : tk a (cpS a (a ++ b)) = a := by
  have e : cpS a (a ++ b) = a.length := by
    unfold cpS
    rw [app_list, cpl_pre, Array.length_toList]
    rfl
  rw [e, tk_all]
theorem tk_fork (a : Str) : tk (a ++ ("0" : Str)) (cpS (a ++ ("0" : Str)) (a ++ ("1" : Str))) = a := by
  have e : cpS (a ++ ("0" : Str)) (a ++ ("1" : Str)) = a.length := by
    unfold cpS
    rw [app_list, app_list, show ("0" : Str).cps.toList = [48] from rfl, show ("1" : Str).cps.toList = [49] from rfl, cpl_app _ [] [] (by decide), Array.length_toList]
    rfl
  rw [e]
  unfold tk
  have l : a.cps.toList.length = a.length := Array.length_toList
  rw [app_list, List.take_append_of_le_length (Nat.le_of_eq l.symm), List.take_of_length_le (Nat.le_of_eq l), SX.S_tl]
theorem tk_cut (a : Str) (h : 0 < a.length) : tk a (cpS a (cutS a none (some (-1)))) = cutS a none (some (-1)) := by
  have l : a.cps.toList.length = a.length := Array.length_toList
  have ne : a.cps.toList ≠ [] := fun z => by rw [z] at l; simp at l; omega
  have c : cutS a none (some (-1)) = SX.S (a.cps.toList.take (a.length - 1)) := by
    have q := cut_last a.cps.toList ne
    rw [SX.S_tl, List.dropLast_eq_take, l] at q
    exact q
  have e : cpS a (cutS a none (some (-1))) = a.length - 1 := by
    unfold cpS
    rw [c, tl_S, cpl_take _ _ (Nat.le_trans (Nat.sub_le _ _) (Nat.le_of_eq l.symm))]
  rw [e, c]
  rfl
/-- the three values of a stretch -/
def triV (n : Nat) (t : List Nat) : List V := [.int ((M.size n t : Nat) : Int), sx (t ++ List.replicate (n - t.length) 48), sx (t ++ List.replicate (n - t.length) 49)]
def triD (n : Nat) (t : List Nat) : PyData := .list [.int ((M.size n t : Nat) : Int), .str (SX.S (t ++ List.replicate (n - t.length) 48)), .str (SX.S (t ++ List.replicate (n - t.length) 49))]
def triD2 (n : Nat) (t : List Nat) : PyData := .list [triD n t, triD n t]
theorem size_le (n : Nat) (t : List Nat) (h : n ≤ 100) : M.size n t ≤ 2 ^ 100 := Nat.pow_le_pow_right (by decide) (by omega)
theorem tri_dp {K : PySem.W.Frag} {H : Hp} {a : Addr} {n : Nat} {t : List Nat} (e : H a = some (.lst (triV n t))) : Dp K H (.ref a) (triD n t) := .lst (SqL.of e) (.cons (.int _) (.cons (.str _) (.cons (.str _) .nil)))
theorem tri_fit {n : Nat} {t : List Nat} (h : n ≤ 100) (hb : M.BL t) (hl : t.length ≤ n) : FitB 40 2412 2 (triD2 n t) := by
  have low : ∀ c, c < 128 → ∀ x ∈ (SX.S (t ++ List.replicate (n - t.length) c)).cps.toList, x < 128 := fun c hc x hx => by
    rw [tl_S, List.mem_append] at hx
    rcases hx with q | q
    · rcases hb x q with e | e <;> omega
    · rw [(List.mem_replicate.mp q).2]; exact hc
  have len : ∀ c, (SX.S (t ++ List.replicate (n - t.length) c)).length ≤ 400 := fun c => by
    rw [SX.S_len, List.length_append, List.length_replicate]; omega
  have i1 : FitB 40 400 0 (.int ((M.size n t : Nat) : Int)) := FitB.int (k := 31) (by decide) (by decide) (Nat.lt_of_le_of_lt (show _ ≤ 2 ^ 100 from size_le n t h) (by decide)) (Nat.lt_of_le_of_lt (show _ ≤ 2 ^ 100 from size_le n t h) (Nat.pow_lt_pow_right (by decide) (by decide)))
  have one : FitB 40 1203 1 (triD n t) := (FitB.list (ds := [_, _, _]) (N := 400) (D := 0) fun d hd => by
    simp only [List.mem_cons, List.not_mem_nil, or_false] at hd
    rcases hd with rfl | rfl | rfl
    · exact i1
    · exact FitB.str (low 48 (by decide)) (len 48)
    · exact FitB.str (low 49 (by decide)) (len 49)).mono (by simp) (by decide)
  exact (FitB.list (N := 1203) (D := 1) (ds := [triD n t, triD n t]) fun d hd => by
    simp only [List.mem_cons, List.not_mem_nil, or_false, or_self] at hd
    exact hd ▸ one).mono (by simp) (by decide)
theorem tri2_rp {K : PySem.W.Frag} {H : Hp} {L a b : Addr} {n : Nat} {t : List Nat} (h : n ≤ 100) (hb : M.BL t) (hl : t.length ≤ n) (eL : H L = some (.lst [.ref a, .ref b])) (e1 : H a = some (.lst (triV n t))) (e2 : H b = some (.lst (triV n t))) :
    Rp K H (.ref L) (triD2 n t) ∧ PyData.showable (triD2 n t) = true ∧ PyData.depth (triD2 n t) ≤ 50 ∧ (triD2 n t).shown.length ≤ sizeLine :=
  ⟨.dat (.lst (SqL.of eL) (.cons (tri_dp e1) (.cons (tri_dp e2) .nil))) rfl, (tri_fit h hb hl).ok (by decide) (by decide) (by decide)⟩
section
variable {P : Program} {w : World} {K : PySem.W.Frag} {mg : Str → Option Value} {base : Heap} {f : Addr} {fd : FuncData}
theorem ok_told_right (F : Fun K "_law_told_right" "_law_told_right" s_law_told_right f fd) (hm : mg "_law_told_right" = some (.ref f)) (T : Txt K mg) (c_law_bits : Nm P w K mg base CX0 3 "_law_bits" s_law_bits ["_law_pot_here", "_law_least", "_law_most"] (spBits)) (c_number : Nm P w K mg base CX0 6 "number" s_number ["width", "stretch"] (spNum)) (c_first : Nm P w K mg base CX0 6 "first" s_first ["width", "stretch"] (spFirst)) (c_last : Nm P w K mg base CX0 6 "last" s_last ["width", "stretch"] (spLast)) (c_common : Nm P w K mg base CX0 2 "common" s_common ["one", "other"] (spCommon)) (c_law_common : Nm P w K mg base CX0 1 "_law_common" s_law_common ["_law_here", "_law_there"] (spLC)) : Nm P w K mg base CX0 7 "_law_told_right" s_law_told_right ["_law_pot_here", "_law_span"] (spTR) := by
  refine nm_of0 F hm sc_law_told_right (fun vs H Q E h => ?_) fun cdv A outer s H vs Q E hr h => ?_
  · unfold spTR at h
    obtain ⟨p, n, rfl, hp, h0, h1, k⟩ := h
    subst_vars
    rfl
  unfold spTR at h
  obtain ⟨p, n, rfl, hp, h0, h1, k⟩ := h
  refine ⟨_, (pss_cons (ps_for PassesOwn.never rfl (pi_range1 (by rfl) T.b_range (pa_cons pe_int pa_nil)) (pg_name (i := 2) sc_law_told_right.nd rfl (by first | exact Or.inl rfl | exact Or.inr rfl)) (pss_cons (ps_set (i := 3) sc_law_told_right.nd rfl (by first | exact Or.inl rfl | exact Or.inr rfl) (pe_g c_law_bits hr (by decide) L2.pass0 bp_law_bits (by rfl) (pa_cons (pv 0) (pa_cons pe_int (pa_cons (pv 1) pa_nil)))))
      (pss_cons (ps_set (i := 4) sc_law_told_right.nd rfl (by first | exact Or.inl rfl | exact Or.inr rfl) (pe_op op_sub (pv 1) (pe_callB (call_lenK (K := K) rfl) (by rfl) T.b_len PySem.boot_len (pa_cons (pv 3) pa_nil))))
      (pss_cons (ps_set (i := 5) sc_law_told_right.nd rfl (by first | exact Or.inl rfl | exact Or.inr rfl) (pe_lst (pa_cons (pe_g c_number hr (by decide) L2.pass0 bp_number (by rfl) (pa_cons (pv 1) (pa_cons (pv 3) pa_nil))) (pa_cons (pe_g c_first hr (by decide) L2.pass0 bp_first (by rfl) (pa_cons (pv 1) (pa_cons (pv 3) pa_nil))) (pa_cons (pe_g c_last hr (by decide) L2.pass0 bp_last (by rfl) (pa_cons (pv 1) (pa_cons (pv 3) pa_nil))) pa_nil)))))
      (pss_cons (ps_set (i := 6) sc_law_told_right.nd rfl (by first | exact Or.inl rfl | exact Or.inr rfl) (pe_lst (pa_cons (pe_op op_oneShl pe_int (pv 4)) (pa_cons (pe_op op_add_str (pv 3) (pe_op op_mul_str pe_str (pv 4))) (pa_cons (pe_op op_add_str (pv 3) (pe_op op_mul_str pe_str (pv 4))) pa_nil)))))
      (pss_cons (ps_set (i := 7) sc_law_told_right.nd rfl (by first | exact Or.inl rfl | exact Or.inr rfl) (pe_lst (pa_cons (pe_gK0 c_number hr (by decide) L2.pass0 bk_number_0_stretch_width (by rfl) (pk_cons (pv 3) (pk_cons (pv 1) pk_nil))) (pa_cons (pe_gK0 c_first hr (by decide) L2.pass0 bk_first_0_stretch_width (by rfl) (pk_cons (pv 3) (pk_cons (pv 1) pk_nil))) (pa_cons (pe_gK0 c_last hr (by decide) L2.pass0 bk_last_0_stretch_width (by rfl) (pk_cons (pv 3) (pk_cons (pv 1) pk_nil))) pa_nil)))))
      (pss_one (ps_if (pt_cmpR op_ne (pe_callB (call_reprK (K := K) rfl hr.g hr.u) (by rfl) T.b_repr (by decide +kernel) (pa_cons (pe_lst (pa_cons (pv 5) (pa_cons (pv 7) pa_nil))) pa_nil)) (pe_callB (call_reprK (K := K) rfl hr.g hr.u) (by rfl) T.b_repr (by decide +kernel) (pa_cons (pe_lst (pa_cons (pv 6) (pa_cons (pv 6) pa_nil))) pa_nil)) (nomark _)) (pss_one (ps_ret pe_bl)) pss_nil))))))))
      (pss_cons (ps_set (i := 8) sc_law_told_right.nd rfl (by first | exact Or.inl rfl | exact Or.inr rfl) (pe_g c_law_bits hr (by decide) L2.pass0 bp_law_bits (by rfl) (pa_cons (pv 0) (pa_cons pe_int (pa_cons pe_int pa_nil)))))
      (pss_cons (ps_par (i := 9) (j := 10) (by rfl) sc_law_told_right.nd rfl rfl (by decide) rfl rfl (pa_cons (pe_op op_add_str (pv 8) (pe_g c_law_bits hr (by decide) L2.pass0 bp_law_bits (by rfl) (pa_cons (pv 0) (pa_cons pe_int (pa_cons pe_int pa_nil))))) (pa_cons (pe_op op_add_str (pv 8) (pe_g c_law_bits hr (by decide) L2.pass0 bp_law_bits (by rfl) (pa_cons (pv 0) (pa_cons pe_int (pa_cons pe_int pa_nil))))) pa_nil)) (by rfl))
      (pss_cons (ps_set (i := 6) sc_law_told_right.nd rfl (by first | exact Or.inl rfl | exact Or.inr rfl) (pe_g c_law_common hr (by decide) L2.pass0 bp_law_common (by rfl) (pa_cons (pv 9) (pa_cons (pv 10) pa_nil))))
      (pss_cons (ps_set (i := 5) sc_law_told_right.nd rfl (by first | exact Or.inl rfl | exact Or.inr rfl) (pe_lst (pa_cons (pe_g c_common hr (by decide) L2.pass0 bp_common (by rfl) (pa_cons (pv 9) (pa_cons (pv 10) pa_nil))) (pa_cons (pe_g c_common hr (by decide) L2.pass0 bp_common (by rfl) (pa_cons (pv 10) (pa_cons (pv 9) pa_nil))) (pa_cons (pe_gK0 c_common hr (by decide) L2.pass0 bk_common_0_other_one (by rfl) (pk_cons (pv 10) (pk_cons (pv 9) pk_nil))) (pa_cons (pe_g c_common hr (by decide) L2.pass0 bp_common (by rfl) (pa_cons (pv 9) (pa_cons (pv 9) pa_nil))) (pa_cons (pe_g c_common hr (by decide) L2.pass0 bp_common (by rfl) (pa_cons (pv 9) (pa_cons (pe_op op_add_str (pv 9) (pv 10)) pa_nil))) pa_nil)))))))
      (pss_cons (ps_if (pt_cmpR (op_neW (K := K) rfl hr.u64) (pv 5) (pe_lst (pa_cons (pv 6) (pa_cons (pv 6) (pa_cons (pv 6) (pa_cons (pv 9) (pa_cons (pv 9) pa_nil)))))) (nomark _)) (pss_one (ps_ret pe_bl)) pss_nil)
      (pss_cons (ps_set (i := 8) sc_law_told_right.nd rfl (by first | exact Or.inl rfl | exact Or.inr rfl) (pe_slice sl_str (pe_op op_mul_str (pe_g c_law_bits hr (by decide) L2.pass0 bp_law_bits (by rfl) (pa_cons (pv 0) (pa_cons pe_int (pa_cons pe_int pa_nil)))) pe_int) po_none (po_some pe_int)))
      (pss_one (ps_ret (pe_cmpR (op_eqW (K := K) rfl hr.u64) (pe_lst (pa_cons (pe_g c_common hr (by decide) L2.pass0 bp_common (by rfl) (pa_cons (pe_op op_add_str (pv 8) pe_str) (pa_cons (pe_op op_add_str (pv 8) pe_str) pa_nil))) (pa_cons (pe_g c_common hr (by decide) L2.pass0 bp_common (by rfl) (pa_cons (pv 8) (pa_cons (pe_slice sl_str (pv 8) po_none (po_some (pe_un un_neg pe_int))) pa_nil))) pa_nil))) (pe_lst (pa_cons (pv 8) (pa_cons (pe_slice sl_str (pv 8) po_none (po_some (pe_un un_neg pe_int))) pa_nil))) (nomark _))))))))))), ?_⟩
  refine ⟨_, rfl, by decide, by decide, ?_⟩
  refine for_it walk_range (fun i σ' H1 => (∃ x2 x3 x4 x5 x6 x7, σ' = [some (.ref p), some (.int n), x2, x3, x4, x5, x6, x7, none, none, none]) ∧ Go p H H1) ⟨⟨_, _, _, _, _, _, rfl⟩, Go.refl hp⟩ (fun _ _ _ _ _ => trivial) ?_ ?_
  · rintro i x σ' H1 H2 hi ⟨⟨x2, x3, x4, x5, x6, x7, rfl⟩, g1⟩ ⟨rfl, rfl⟩
    refine ⟨_, rfl, ⟨_, rfl, ?_⟩⟩
    refine bits_go g1.pot (by decide) (by omega) (by omega) fun z H2 hz hl0 hl g2 => ?_
    have g12 := g1.trans g2
    clear g1 g2
    obtain ⟨N, rfl⟩ : ∃ N : Nat, n = (N : Int) := ⟨n.toNat, by omega⟩
    have hb := bits_BL hz
    rw [← sx_tl z]
    have hlz : z.cps.toList.length = z.length := Array.length_toList
    generalize z.cps.toList = t at hb hlz ⊢
    have htl : t.length ≤ N := by omega
    have l1 := sx_len t
    have el : ((N : Int) - ((SX.S t).length : Int)) = ((N - t.length : Nat) : Int) := by rw [l1]; omega
    refine ⟨_, rfl, ⟨_, rfl, ⟨_, (SX.S t).length, rfl, ⟨szl (by omega), rfl⟩, ⟨(N : Int), ((SX.S t).length : Int), rfl, rfl, ?_⟩⟩⟩⟩
    have et : ((N : Int) - ((SX.S t).length : Int)).toNat = N - t.length := by rw [l1]; omega
    have en : (2 : Int) ^ (N - t.length) = ((M.size N t : Nat) : Int) := by unfold M.size; simp
    have e0 : SX.S t ++ (⟨(List.replicate ((N : Int) - ((SX.S t).length : Int)).toNat (("0" : Str).cps.toList)).flatten.toArray⟩ : Str) = SX.S (t ++ List.replicate (N - t.length) 48) := by
      rw [et, show ("0" : Str).cps.toList = [48] from rfl, rep_one]
      exact S_app _ _
    have e1 : SX.S t ++ (⟨(List.replicate ((N : Int) - ((SX.S t).length : Int)).toNat (("1" : Str).cps.toList)).flatten.toArray⟩ : Str) = SX.S (t ++ List.replicate (N - t.length) 49) := by
      rw [et, show ("1" : Str).cps.toList = [49] from rfl, rep_one]
      exact S_app _ _
    have len0 : (⟨(List.replicate ((N : Int) - ((SX.S t).length : Int)).toNat (("0" : Str).cps.toList)).flatten.toArray⟩ : Str).length ≤ 100 := by
      rw [et, show ("0" : Str).cps.toList = [48] from rfl, rep_one]
      show (SX.S _).length ≤ 100
      rw [SX.S_len, List.length_replicate]; omega
    have len1 : (⟨(List.replicate ((N : Int) - ((SX.S t).length : Int)).toNat (("1" : Str).cps.toList)).flatten.toArray⟩ : Str).length ≤ 100 := by
      rw [et, show ("1" : Str).cps.toList = [49] from rfl, rep_one]
      show (SX.S _).length ≤ 100
      rw [SX.S_len, List.length_replicate]; omega
    have h0' : 1 ≤ N := by omega
    have h1' : N ≤ 100 := by omega
    -- told
    refine ⟨_, rfl, ⟨_, rfl, num_go h0' h1' hb htl fun H3 s3 => ?_⟩⟩
    refine ⟨_, rfl, ⟨_, rfl, first_go h0' h1' hb htl fun H4 s4 => ?_⟩⟩
    refine ⟨_, rfl, ⟨_, rfl, last_go h0' h1' hb htl fun H5 s5 => ?_⟩⟩
    refine ⟨szl (Nat.le_of_ble_eq_true rfl), fun L1 n1 => ?_⟩
    -- due
    refine ⟨_, rfl, ⟨N - t.length, rfl, congrArg V.int el, by omega, ?_⟩⟩
    refine ⟨_, rfl, ⟨_, rfl, ⟨"0", _, rfl, rfl, by decide, by omega, by omega, ⟨SX.S t, _, rfl, rfl, szl (by omega), ?_⟩⟩⟩⟩
    refine ⟨_, rfl, ⟨_, rfl, ⟨"1", _, rfl, rfl, by decide, by omega, by omega, ⟨SX.S t, _, rfl, rfl, szl (by omega), ?_⟩⟩⟩⟩
    rw [en, e0, e1]
    refine ⟨szl (Nat.le_of_ble_eq_true rfl), fun L2 n2 => ?_⟩
    -- named
    refine ⟨_, rfl, ⟨_, rfl, ⟨rfl, rfl, num_go h0' h1' hb htl fun H6 s6 => ?_⟩⟩⟩
    refine ⟨_, rfl, ⟨_, rfl, ⟨rfl, rfl, first_go h0' h1' hb htl fun H7 s7 => ?_⟩⟩⟩
    refine ⟨_, rfl, ⟨_, rfl, ⟨rfl, rfl, last_go h0' h1' hb htl fun H8 s8 => ?_⟩⟩⟩
    refine ⟨szl (Nat.le_of_ble_eq_true rfl), fun L3 n3 => ?_⟩
    have q1 : H8 L1 = some (.lst (triV N t)) := s8 _ _ (s7 _ _ (s6 _ _ (updn (nonn n2 upd_same) upd_same)))
    have q2 : H8 L2 = some (.lst (triV N t)) := s8 _ _ (s7 _ _ (s6 _ _ upd_same))
    have sm : Same H2 H8 := fun b o e => s8 _ _ (s7 _ _ (s6 _ _ (updn (nonn n2 (updn (nonn n1 (s5 _ _ (s4 _ _ (s3 _ _ e)))) (s5 _ _ (s4 _ _ (s3 _ _ e))))) (updn (nonn n1 (s5 _ _ (s4 _ _ (s3 _ _ e)))) (s5 _ _ (s4 _ _ (s3 _ _ e)))))))
    clear s3 s4 s5 s6 s7 s8 n1 n2
    have p1 : upd H8 L3 (.lst (triV N t)) L1 = some (.lst (triV N t)) := updn (nonn n3 q1) q1
    have p2 : upd H8 L3 (.lst (triV N t)) L2 = some (.lst (triV N t)) := updn (nonn n3 q2) q2
    have p3 : upd H8 L3 (.lst (triV N t)) L3 = some (.lst (triV N t)) := upd_same
    have sm9 : Same H2 (upd H8 L3 (.lst (triV N t))) := fun b o e => updn (nonn n3 (sm b o e)) (sm b o e)
    change ∃ v, _
    refine ⟨_, rfl, ⟨_, rfl, ⟨szl (Nat.le_of_ble_eq_true rfl), fun R1 m1 => ?_⟩⟩⟩
    refine repr_go (tri2_rp h1' hb htl upd_same (updn (nonn m1 p1) p1) (updn (nonn m1 p3) p3)) ?_
    refine ⟨_, rfl, ⟨_, rfl, ⟨szl (Nat.le_of_ble_eq_true rfl), fun R2 m2 => ?_⟩⟩⟩
    refine repr_go (tri2_rp h1' hb htl upd_same (updn (nonn m2 (updn (nonn m1 p2) p2)) (updn (nonn m1 p2) p2)) (updn (nonn m2 (updn (nonn m1 p2) p2)) (updn (nonn m1 p2) p2))) ?_
    refine ⟨rfl, ⟨_, rfl, ?_⟩⟩
    rw [decide_eq_true rfl]
    refine iteF ?_
    refine ⟨⟨_, _, _, _, _, _, rfl⟩, g12.trans (Go.of_same g12.pot fun b o e => updn (nonn m2 (updn (nonn m1 (sm9 _ _ e)) (sm9 _ _ e))) (updn (nonn m1 (sm9 _ _ e)) (sm9 _ _ e)))⟩
  · rintro σ' H1 ⟨⟨x2, x3, x4, x5, x6, x7, rfl⟩, g1⟩
    refine ⟨_, rfl, ?_⟩
    refine bits_go g1.pot (by decide) (by decide) (by decide) fun h H2 bh _ lh g2 => ?_
    have g12 := g1.trans g2
    clear g1 g2
    refine ⟨_, rfl, ⟨_, rfl, ?_⟩⟩
    refine bits_go g12.pot (by decide) (by decide) (by decide) fun u H3 bu _ lu g3 => ?_
    have g13 := g12.trans g3
    clear g12 g3
    refine ⟨h, u, rfl, rfl, szl (by omega), ?_⟩
    refine ⟨_, rfl, ⟨_, rfl, ?_⟩⟩
    refine bits_go g13.pot (by decide) (by decide) (by decide) fun v H4 bv _ lv g4 => ?_
    have g14 := g13.trans g4
    clear g13 g4
    refine ⟨h, v, rfl, rfl, szl (by omega), ?_⟩
    refine ⟨_, _, rfl, ?_⟩
    have bA := bh.app bu
    have bB := bh.app bv
    have lA : (h ++ u).length ≤ 120 := by rw [app_len]; omega
    have lB : (h ++ v).length ≤ 120 := by rw [app_len]; omega
    generalize h ++ u = A at bA lA ⊢
    generalize h ++ v = B at bB lB ⊢
    clear bh lh bu lu bv lv
    have lAB : (A ++ B).length ≤ 240 := by rw [app_len]; omega
    refine ⟨_, rfl, ⟨_, rfl, lc_go bA bB (by omega) (by omega) fun H5 s5 => ?_⟩⟩
    refine ⟨_, rfl, ⟨_, rfl, common_go bA bB (by omega) (by omega) fun H6 s6 => ?_⟩⟩
    refine ⟨_, rfl, ⟨_, rfl, common_go bB bA (by omega) (by omega) fun H7 s7 => ?_⟩⟩
    rw [tk_comm A B]
    refine ⟨_, rfl, ⟨_, rfl, ⟨rfl, rfl, common_go bA bB (by omega) (by omega) fun H8 s8 => ?_⟩⟩⟩
    refine ⟨_, rfl, ⟨_, rfl, common_go bA bA (by omega) (by omega) fun H9 s9 => ?_⟩⟩
    rw [tk_self A]
    refine ⟨_, rfl, ⟨_, rfl, ⟨_, rfl, ⟨A, B, rfl, rfl, szl (by omega), ?_⟩⟩⟩⟩
    refine common_go bA (bA.app bB) (by omega) (by omega) fun H10 s10 => ?_
    rw [tk_pre A B]
    have sm : Same H4 H10 := fun b o e => s10 _ _ (s9 _ _ (s8 _ _ (s7 _ _ (s6 _ _ (s5 _ _ e)))))
    clear s5 s6 s7 s8 s9 s10
    refine ⟨szl (Nat.le_of_ble_eq_true rfl), fun L1 n1 => ?_⟩
    refine ⟨_, rfl, ⟨_, rfl, ⟨_, rfl, ⟨_, rfl, ⟨_, rfl, ⟨_, rfl, ?_⟩⟩⟩⟩⟩⟩
    refine ⟨szl (Nat.le_of_ble_eq_true rfl), fun L2 n2 => ?_⟩
    have fl : ∀ z : Str, Alk K (upd (upd H10 L1 (.lst [.str (tk A (cpS A B)), .str (tk A (cpS A B)), .str (tk A (cpS A B)), .str A, .str A])) L2 (.lst [.str (tk A (cpS A B)), .str (tk A (cpS A B)), .str (tk A (cpS A B)), .str A, .str A])) 0 (.str z) (.str z) := fun z => .inl ⟨rfl, rfl⟩
    refine ⟨0, L1, L2, _, _, by decide, rfl, rfl, SqL.of (updn (nonn n2 upd_same) upd_same), SqL.of upd_same, .cons (fl _) (.cons (fl _) (.cons (fl _) (.cons (fl _) (.cons (fl _) .nil)))), ?_⟩
    refine ⟨_, rfl, ?_⟩
    refine iteF ?_
    have sm12 : Same H4 (upd (upd H10 L1 (.lst [.str (tk A (cpS A B)), .str (tk A (cpS A B)), .str (tk A (cpS A B)), .str A, .str A])) L2 (.lst [.str (tk A (cpS A B)), .str (tk A (cpS A B)), .str (tk A (cpS A B)), .str A, .str A])) := fun b o e => updn (nonn n2 (updn (nonn n1 (sm _ _ e)) (sm _ _ e))) (updn (nonn n1 (sm _ _ e)) (sm _ _ e))
    generalize upd (upd H10 L1 _) L2 _ = H12 at sm12 ⊢
    have g15 := g14.trans (Go.of_same g14.pot sm12)
    clear g14 sm12 sm n1 n2
    refine ⟨_, rfl, ?_⟩
    refine bits_go g15.pot (by decide) (by decide) (by decide) fun z H13 bz lz0 lz1 g16 => ?_
    have g17 := g15.trans g16
    clear g15 g16
    refine ⟨z, 800, rfl, rfl, by omega, by decide, by decide, ?_⟩
    have big : ∀ c ∈ (⟨(List.replicate (800 : Int).toNat z.cps.toList).flatten.toArray⟩ : Str).cps.toList, c ∈ z.cps.toList := fun c hc => by
      have hc' : c ∈ (List.replicate (800 : Int).toNat z.cps.toList).flatten := by simpa using hc
      obtain ⟨l, hl, hcl⟩ := List.mem_flatten.mp hc'
      rw [(List.mem_replicate.mp hl).2] at hcl
      exact hcl
    have lz : z.cps.toList.length = z.length := Array.length_toList
    have lbig : (⟨(List.replicate (800 : Int).toNat z.cps.toList).flatten.toArray⟩ : Str).length = 800 * z.length := by
      show (List.toArray _).size = _
      rw [List.size_toArray, List.length_flatten, List.map_replicate, List.sum_replicate_nat, lz]
      rfl
    generalize (⟨(List.replicate (800 : Int).toNat z.cps.toList).flatten.toArray⟩ : Str) = Z at big lbig ⊢
    refine ⟨800, rfl, ⟨Z, rfl, szl (by omega), ?_⟩⟩
    have bC : Bits (cutS Z none (some 800)) := fun c hc => bz c (big c (cutS_mem hc))
    have lC : (cutS Z none (some 800)).length = 800 := by
      have ec : cutS Z none (some 800) = tk Z 800 := cut_tk Z (d := 800) (k := 800) rfl
      rw [ec, tk_len]
      omega
    generalize cutS Z none (some 800) = C at bC lC ⊢
    clear big lbig bz lz0 lz1 lz
    have b0 : Bits (C ++ ("0" : Str)) := bC.app fun c hc => .inl (List.mem_singleton.mp (show c ∈ [48] from hc))
    have b1 : Bits (C ++ ("1" : Str)) := bC.app fun c hc => .inr (List.mem_singleton.mp (show c ∈ [49] from hc))
    have l0 : (C ++ ("0" : Str)).length = 801 := by rw [app_len, lC]; rfl
    have l1 : (C ++ ("1" : Str)).length = 801 := by rw [app_len, lC]; rfl
    refine ⟨_, rfl, ⟨C, "0", rfl, rfl, szl (by rw [lC]; decide), ?_⟩⟩
    refine ⟨_, rfl, ⟨C, "1", rfl, rfl, szl (by rw [lC]; decide), ?_⟩⟩
    refine common_go b0 b1 (by omega) (by omega) fun H14 s14 => ?_
    rw [tk_fork C]
    have bD : Bits (cutS C none (some (-1))) := fun c hc => bC c (cutS_mem hc)
    have lD := cutS_len C none (some (-1))
    refine ⟨_, rfl, ⟨_, rfl, ⟨1, rfl, ?_⟩⟩⟩
    refine ⟨-1, rfl, ⟨C, rfl, szl (by omega), ?_⟩⟩
    refine common_go bC bD (by omega) (by omega) fun H15 s15 => ?_
    rw [tk_cut C (by omega)]
    refine ⟨szl (Nat.le_of_ble_eq_true rfl), fun L3 n3 => ?_⟩
    refine ⟨_, rfl, ⟨_, rfl, ⟨1, rfl, ⟨-1, rfl, ⟨C, rfl, szl (by omega), ?_⟩⟩⟩⟩⟩
    refine ⟨szl (Nat.le_of_ble_eq_true rfl), fun L4 n4 => ?_⟩
    refine ⟨0, L3, L4, _, _, by decide, rfl, rfl, SqL.of (updn (nonn n4 upd_same) upd_same), SqL.of upd_same, .cons (.inl ⟨rfl, rfl⟩) (.cons (.inl ⟨rfl, rfl⟩) .nil), ?_⟩
    exact k _ (g17.trans (Go.of_same g17.pot fun b o e => updn (nonn n4 (updn (nonn n3 (s15 _ _ (s14 _ _ e))) (s15 _ _ (s14 _ _ e)))) (updn (nonn n3 (s15 _ _ (s14 _ _ e))) (s15 _ _ (s14 _ _ e)))))
end
open PySem PySem.Spec PyProof.Rows LamX
open L2 hiding pass0
/-! ## a def that makes lambdas: its code object is known -/
section
variable {P : Program} {w : World} {K : PySem.W.Frag} {mg : Str → Option Value} {base : Heap} {CX : CXT}
theorem nm_ofL {x : Str} {st : Stmt} {f : Addr} {cdv kV doc pm ct oc : Value} {an od : Option Addr} {osl : Array (Option Value)} {N ps : List Str} {k : Nat} {sp : Sp} (lk : K.lookup f = some ⟨oc, od, .func (PySem.W.fnOf x x (defArgs st) (defBody st) (defScope st) .none kV doc pm an cdv ct), osl⟩)
    (hcd : PySem.W.codeIn K cdv x = true) (hk : PySem.W.keepIn K (.ref f) = true) (hm : mg x = some (.ref f)) (S : FnScope N ps (defScope st)) (len : ∀ vs H Q E, sp vs H Q E → vs.length = ps.length)
    (hb : ∀ (A : Around) (outer : List Env) (s : Shared) (H : Hp) (vs : List V) (Q : VK) (E : XK), RoomG k (A.deeper (envOfC x (defScope st) s.heap.objs.size f cdv)) → sp vs H Q E →
      ∃ t, PSs (cxOf CX P w K mg base N x (defScope st) f cdv A outer s H E) (defBody st) t ∧ t { nx := fun _ H' => Q .non H', rt := Q } (start N vs) H) : Nm P w K mg base CX (k + 1) x st ps sp := by
  refine ⟨f, _, fun_mk (st := st) lk hcd hk, hm, len, ?_⟩
  intro A outer s H args us vs Q E hr e0 bt rv hs
  have hl := len _ _ _ _ hs
  have kin : K.In s.heap := e0.mod.kin.keeps fun b o e => (e0.bs b o e).1
  have lim : s.heap.NoLimit := e0.mod.nolimit.keeps fun b o e => (e0.bs b o e).1
  refine codeAny_call_function hr.r.depth (kin _ _ lk) rfl S.co S.gen rfl (PySem.W.codeRec_of kin hcd) (bt _ _ _ _ ?_)
  refine wpAny_newFunctionEnv_cells S.kind (fun ⟨n, v⟩ hy => (S.par n (List.of_mem_zip hy).1).elim .inl fun q => .inr ⟨q, PySem.W.cellsFrom_some _ _ _ (.inl q)⟩) fun env he s1 x1 => ?_
  subst he
  refine ⟨lim.keeps x1.toInCall.keep, codeAny_func ?_⟩
  obtain ⟨t, ht, hq⟩ := hb A outer s H vs Q E (hr.deeper _) hs
  have I : Inv (cxOf CX P w K mg base N x (defScope st) f cdv A outer s H E) [] (start N vs) H s1 := inv_start S hr.r.hd e0 hl rv x1
  refine wpAny_mono (ht.run [] s1 _ H _ I hq) (fun fl s2 z => ?_) fun e s2 z => z
  match fl, z with
  | .ret u, ⟨v, σ', H', J, r2, q⟩ => exact ⟨v, H', J.os, J.bare, J.base, J.hok, r2, q⟩
  | .next, ⟨σ', H', J, q⟩ => exact ⟨.non, H', J.os, J.bare, J.base, J.hok, rfl, q⟩
  | .brk, ⟨_, _, _, q⟩ => exact q.elim
  | .cont, ⟨_, _, _, q⟩ => exact q.elim
end
open PySem PySem.Spec PyProof.Rows LamX
open L2 hiding pass0
/-! ## what stands but for the tables -/
theorem nt_lst {xs : List V} (ps : Array Value) : HO.lst xs ≠ .tbl ps := fun z => nomatch z
theorem nt_tup {xs : List V} (ps : Array Value) : HO.tup xs ≠ .tbl ps := fun z => nomatch z
theorem nt_dk {xs : List (Key × V)} (ps : Array Value) : HO.dK xs ≠ .tbl ps := fun z => nomatch z
theorem extN_same {H H' : Hp} (s : Same H H') : ExtN H H' := fun b o e _ => s b o e
theorem extN_new {H H1 : Hp} {L : Addr} {o : HO} (e : ExtN H H1) (n : H1 L = none) : ExtN H (upd H1 L o) := fun b u h q => updn (nonn n (e b u h q)) (e b u h q)
/-- lists that were heard, one behind the other, in a list of their own -/
structure Hrd (T : List (Addr × Str)) (H0 H : Hp) (D : Addr) (Ls : List Addr) (tag : Str) (r : List V) : Prop where
  ext : ExtN H0 H
  tabs : Tabs T H
  new : ∀ o, H0 D = some o → ∃ ps, o = .tbl ps
  at_ : H D = some (.lst (Ls.map V.ref))
  items : ∀ L ∈ Ls, H L = some (.lst (.str tag :: r))
theorem Hrd.ne {T : List (Addr × Str)} {H0 H : Hp} {D L : Addr} {Ls : List Addr} {tag : Str} {r : List V} (h : Hrd T H0 H D Ls tag r) (m : L ∈ Ls) : L ≠ D := fun z => by
  have e := h.items L m
  rw [z, h.at_] at e
  cases Ls with
  | nil => cases m
  | cons a l =>
    injection e with e
    injection e with e
    rw [List.map_cons] at e
    injection e with e _
    cases e
theorem Hrd.one {T : List (Addr × Str)} {H0 H1 : Hp} {D L : Addr} {tag : Str} {r : List V} (e : ExtN H0 H1) (t : Tabs T H1) (hL : H1 L = some (.lst (.str tag :: r))) (nD : H1 D = none) : Hrd T H0 (upd H1 D (.lst [.ref L])) D [L] tag r :=
  ⟨extN_new e nD, t.ext fun b o h => updn (nonn nD h) h, fun o h => by
    cases o with
    | tbl ps => exact ⟨ps, rfl⟩
    | _ => exact absurd (nD.symm.trans (e D _ h fun ps z => nomatch z)) (fun z => nomatch z), upd_same, fun L' m => by
    rw [List.mem_singleton] at m
    subst m
    exact updn (nonn nD hL) hL⟩
theorem Hrd.next {T : List (Addr × Str)} {H0 H H1 : Hp} {D L : Addr} {Ls : List Addr} {tag : Str} {r : List V} (h : Hrd T H0 H D Ls tag r) (e : ExtN H H1) (t : Tabs T H1) (hL : H1 L = some (.lst (.str tag :: r))) (ne : L ≠ D) :
    H1 D = some (.lst (Ls.map V.ref)) ∧ Hrd T H0 (upd H1 D (.lst (Ls.map V.ref ++ [.ref L]))) D (Ls ++ [L]) tag r := by
  have eD := e D _ h.at_ nt_lst
  have nDt : ∀ ps, H1 D ≠ some (.tbl ps) := fun ps z => by rw [eD] at z; cases z
  refine ⟨eD, ⟨fun b o q n => ?_, fun p hp => ?_, h.new, by rw [upd_same, List.map_append]; rfl, fun L' m => ?_⟩⟩
  · have nb : b ≠ D := fun z => by
      obtain ⟨ps, rfl⟩ := h.new o (z ▸ q)
      exact n ps rfl
    exact updn nb (e b o (h.ext b o q n) n)
  · obtain ⟨ps, q1, q2, q3⟩ := t p hp
    refine ⟨ps, updn (fun z => by rw [z, eD] at q1; cases q1) q1, q2, fun pos cv hc => ?_⟩
    obtain ⟨c, c1, c2⟩ := q3 pos cv hc
    exact ⟨c, c1, updn (fun z => by rw [z, eD] at c2; injection c2 with c2; cases c2) c2⟩
  · rcases List.mem_append.mp m with m | m
    · exact updn (h.ne m) (e L' _ (h.items L' m) nt_lst)
    · rw [List.mem_singleton] at m
      subst m
      exact updn ne hL
/-- a refusal is heard -/
theorem heard_x {T : List (Addr × Str)} {CW CS CA CP C : Addr} {tag f : Str} {tl : XK → Hp → VK → Prop} {H : Hp} {Q : VK} (tg : Tag CW CS CA CP C tag f) (v : V) (hT : Tabs T H)
    (i : ∀ E H2 Q', ExtN H H2 → (∀ H3 dd, Same H2 H3 → H3 dd = none → E (.ref C) (some dd) (upd H3 dd (.xd [(f, v)]))) → tl E H2 Q')
    (q : ∀ L H1 H2, ExtN H H1 → H1 L = none → ExtN H H2 → Tabs T H2 → H2 L = some (.lst [.str tag, v, .bl true]) → Q (.ref L) H2) : Tabs T H ∧ ∀ H1, ExtN H H1 → Tabs T H1 → TH CW CS CA CP tl H1 Q := by
  refine ⟨hT, fun H1 e1 t1 p np Q' _ => ?_⟩
  have e2 := extN_new (o := .lst [.str "none"]) e1 np
  refine i _ _ _ e2 fun H3 dd s3 nd => ?_
  refine ⟨C, tag, f, dd, v, tg, rfl, rfl, upd_same, fun L nL => ?_⟩
  have e3 : ExtN H H3 := fun b o h n => s3 b o (e2 b o h n)
  have e4 := extN_new (o := .xd [(f, v)]) e3 nd
  have t3 : Tabs T H3 := (t1.ext fun b o h => updn (nonn np h) h).ext s3
  have t4 : Tabs T (upd H3 dd (.xd [(f, v)])) := t3.ext fun b o h => updn (nonn nd h) h
  exact q L _ _ e4 nL (extN_new e4 nL) (t4.ext fun b o h => updn (nonn nL h) h) upd_same
/-- a value is heard: sp tells it -/
theorem heard_v {T : List (Addr × Str)} {CW CS CA CP : Addr} {V0 : V → Prop} {tl : XK → Hp → VK → Prop} {H : Hp} {Q : VK} (hT : Tabs T H) (i : ∀ E H2 Q', ExtN H H2 → (∀ v H3, V0 v → Same H2 H3 → Q' v H3) → tl E H2 Q')
    (q : ∀ L v H1 H2, V0 v → ExtN H H1 → H1 L = none → ExtN H H2 → Tabs T H2 → H2 L = some (.lst [.str "told", v]) → Q (.ref L) H2) : Tabs T H ∧ ∀ H1, ExtN H H1 → Tabs T H1 → TH CW CS CA CP tl H1 Q := by
  refine ⟨hT, fun H1 e1 t1 p np Q' hq => ?_⟩
  have e2 := extN_new (o := .lst [.str "none"]) e1 np
  refine i _ _ _ e2 fun v H3 hv s3 => hq v H3 fun L nL => ?_
  have e3 : ExtN H H3 := fun b o h n => s3 b o (e2 b o h n)
  have t3 : Tabs T H3 := (t1.ext fun b o h => updn (nonn np h) h).ext s3
  exact q L v _ _ hv e3 nL (extN_new e3 nL) (t3.ext fun b o h => updn (nonn nL h) h) upd_same
theorem Hrd.ne1 {T : List (Addr × Str)} {H0 H H1 : Hp} {D L : Addr} {Ls : List Addr} {tag : Str} {r : List V} (h : Hrd T H0 H D Ls tag r) (e : ExtN H H1) (n : H1 L = none) : L ≠ D := fun z => by
  have k := e D _ h.at_ nt_lst
  rw [z, k] at n
  cases n
theorem OddD.ext {H H' : Hp} {x : V} {d : PyData} (g : OddD H x d) (s : ExtN H H') : OddD H' x d := by
  cases g with
  | int h => exact .int h
  | bl b => exact .bl b
  | non => exact .non
  | str h l => exact .str h l
  | lst n e f => exact .lst n (s _ _ e nt_lst) f
  | tup n e f => exact .tup n (s _ _ e nt_tup) f
  | dct0 e => exact .dct0 (s _ _ e nt_dk)
  | dct1 e => exact .dct1 (s _ _ e nt_dk)
theorem OddD.go {H H' : Hp} {p : Addr} {x : V} {d : PyData} (g : OddD H x d) (hp : PotAt H p) (s : Go p H H') : OddD H' x d := by
  obtain ⟨i, j, ep, _⟩ := hp
  cases g with
  | int h => exact .int h
  | bl b => exact .bl b
  | non => exact .non
  | str h l => exact .str h l
  | lst n e f => exact .lst n (s.keep _ _ e fun z => by rw [z, ep] at e; injection e with e; injection e with e; injection e with _ e; cases e) f
  | tup n e f => exact .tup n (s.keep _ _ e fun z => by rw [z, ep] at e; injection e with e; cases e) f
  | dct0 e => exact .dct0 (s.keep _ _ e fun z => by rw [z, ep] at e; injection e with e; cases e)
  | dct1 e => exact .dct1 (s.keep _ _ e fun z => by rw [z, ep] at e; injection e with e; cases e)
theorem OddD.alk {K : PySem.W.Frag} {H H' : Hp} {x : V} {d : PyData} (g : OddD H x d) : Alk K H' 0 x x := by
  cases g with
  | int h => exact .inl ⟨rfl, rfl⟩
  | bl b => exact .inl ⟨rfl, rfl⟩
  | non => exact .inl ⟨rfl, rfl⟩
  | str h l => exact .inl ⟨rfl, rfl⟩
  | lst n e f => exact .inr ⟨_, rfl, rfl⟩
  | tup n e f => exact .inr ⟨_, rfl, rfl⟩
  | dct0 e => exact .inr ⟨_, rfl, rfl⟩
  | dct1 e => exact .inr ⟨_, rfl, rfl⟩
/-- told lists all alike beside one list told so often -/
theorem pair_rep {K : PySem.W.Frag} {H : Hp} {L0 : Addr} {item : List V} (h0 : H L0 = some (.lst item)) (al : Paired (Alk K H 0) item item) : ∀ {Ls : List Addr}, (∀ L ∈ Ls, H L = some (.lst item)) → Paired (Alk K H 1) (Ls.map V.ref) (List.replicate Ls.length (V.ref L0))
  | [], _ => .nil
  | L :: Ls, h => by
    rw [List.map_cons, List.length_cons, List.replicate_succ]
    exact .cons (.inr ⟨L, L0, item, item, rfl, rfl, SqL.of (h L List.mem_cons_self), SqL.of h0, al⟩) (pair_rep h0 al fun x hx => h x (List.mem_cons_of_mem _ hx))
/-- the pot, the tables; all else stands -/
structure GoN (T : List (Addr × Str)) (p : Addr) (H H' : Hp) : Prop where
  pot : PotAt H' p
  tabs : Tabs T H'
  keep : ∀ b o, H b = some o → (∀ ps, o ≠ .tbl ps) → b ≠ p → H' b = some o
theorem pot_ext {p : Addr} {H H' : Hp} (h : PotAt H p) (e : ExtN H H') : PotAt H' p := by
  obtain ⟨a, b, q, r⟩ := h
  exact ⟨a, b, e _ _ q nt_lst, r⟩
theorem GoN.refl {T : List (Addr × Str)} {p : Addr} {H : Hp} (h : PotAt H p) (t : Tabs T H) : GoN T p H H := ⟨h, t, fun _ _ e _ _ => e⟩
theorem tabs_go {T : List (Addr × Str)} {p : Addr} {H H' : Hp} (hp : PotAt H p) (t : Tabs T H) (g : Go p H H') : Tabs T H' := fun q hq => by
  obtain ⟨a, b, ep, _⟩ := hp
  obtain ⟨ps, q1, q2, q3⟩ := t q hq
  refine ⟨ps, g.keep _ _ q1 (fun z => by rw [z, ep] at q1; cases q1), q2, fun pos cv hc => ?_⟩
  obtain ⟨c, c1, c2⟩ := q3 pos cv hc
  exact ⟨c, c1, g.keep _ _ c2 (fun z => by rw [z, ep] at c2; injection c2 with c2; cases c2)⟩
theorem GoN.go {T : List (Addr × Str)} {p : Addr} {H H1 H2 : Hp} (g : GoN T p H H1) (h : Go p H1 H2) : GoN T p H H2 := ⟨h.pot, tabs_go g.pot g.tabs h, fun b o e n m => h.keep b o (g.keep b o e n m) m⟩
theorem GoN.ext {T : List (Addr × Str)} {p : Addr} {H H1 H2 : Hp} (g : GoN T p H H1) (e : ExtN H1 H2) (t : Tabs T H2) : GoN T p H H2 := ⟨pot_ext g.pot e, t, fun b o h n m => e b o (g.keep b o h n m) n⟩
theorem GoN.trans {T : List (Addr × Str)} {p : Addr} {H H1 H2 : Hp} (g : GoN T p H H1) (h : GoN T p H1 H2) : GoN T p H H2 := ⟨h.pot, h.tabs, fun b o e n m => h.keep b o (g.keep b o e n m) n m⟩
open PySem PySem.Spec PyProof.Rows LamX
open L2 hiding pass0
abbrev s_law_width_right : Stmt := top 37
theorem sc_law_width_right : FnScope ["_law_pot_here", "_law_span", "_law_bad", "_law_part", "_law_far", "_law_told"] ["_law_pot_here", "_law_span"] (defScope s_law_width_right) := ⟨rfl, rfl, rfl, by decide +kernel, rfl, by decide +kernel, by decide +kernel⟩
theorem bp_law_width_right : BndP "_law_width_right" s_law_width_right ["_law_pot_here", "_law_span"] := fun _ _ _ _ _ _ us h => match us, h with | [_, _], _ => rfl
@[irreducible] def spWR (TT : List (Addr × Str)) : Sp := fun vs H Q _ => ∃ (p : Addr) (n : Int), vs = [.ref p, .int n] ∧ PotAt H p ∧ Tabs TT H ∧ 1 ≤ n ∧ n ≤ 100 ∧ ∀ H', GoN TT p H H' → Q (.bl true) H'
theorem wr_go {TT : List (Addr × Str)} {p : Addr} {n : Int} {H : Hp} {Q : VK} {E : XK} (hp : PotAt H p) (ht : Tabs TT H) (h0 : 1 ≤ n) (h1 : n ≤ 100) (q : ∀ H', GoN TT p H H' → Q (.bl true) H') : spWR TT [.ref p, .int n] H Q E := by
  unfold spWR
  exact ⟨p, n, rfl, hp, ht, h0, h1, q⟩
section
variable {P : Program} {w : World} {K : PySem.W.Frag} {mg : Str → Option Value} {base : Heap}
theorem ok_width_right {f c TP g B CW CS CA CP : Addr} {cdg : Value} {TT : List (Addr × Str)} {ocf kVf docf pmf ctf : Value} {anf odf : Option Addr} {oslf : Array (Option Value)} (lkf : K.lookup f = some ⟨ocf, odf, .func (PySem.W.fnOf "_law_width_right" "_law_width_right" (defArgs s_law_width_right) (defBody s_law_width_right) (defScope s_law_width_right) .none kVf docf pmf anf (.ref c) ctf), oslf⟩) (hcf : PySem.W.codeIn K (.ref c) "_law_width_right" = true) (hkf : PySem.W.keepIn K (.ref f) = true) (hmf : mg "_law_width_right" = some (.ref f)) {ocg kVg docg pmg ctg : Value} {ang odg : Option Addr} {oslg : Array (Option Value)} (lkg : K.lookup g = some ⟨ocg, odg, .func (PySem.W.fnOf "_law_heard" "_law_heard" (defArgs s_law_heard) (defBody s_law_heard) (defScope s_law_heard) .none kVg docg pmg ang cdg ctg), oslg⟩) (hcg : PySem.W.codeIn K cdg "_law_heard" = true) (hkg : PySem.W.keepIn K (.ref g) = true) (hmg : mg "_law_heard" = some (.ref g)) (MM : Errs K mg B CW CS CA CP) (T : Txt K mg) (TB : TabB base mg c TP) (hmT : (TP, (("_law_width_right" : Str) ++ ".<locals>.") ++ "<lambda>") ∈ TT) (huT : ∀ p ∈ TT, p.1 = TP → p.2 = (("_law_width_right" : Str) ++ ".<locals>.") ++ "<lambda>") (c_law_bits : Nm P w K mg base CX0 3 "_law_bits" s_law_bits ["_law_pot_here", "_law_least", "_law_most"] (spBits)) (c_law_bad_span : Nm P w K mg base CX0 3 "_law_bad_span" s_law_bad_span ["_law_pot_here"] (spBS)) (c_law_bad_bits : Nm P w K mg base CX0 4 "_law_bad_bits" s_law_bad_bits ["_law_pot_here", "_law_span"] (spBB)) (c_number : Nm P w K mg base CX0 6 "number" s_number ["width", "stretch"] (spNum))
    (x_number : Nm P w K mg base (L2.CX P w) 7 "number" s_number ["width", "stretch"] (spX (rW CW 1))) (x_first : Nm P w K mg base (L2.CX P w) 7 "first" s_first ["width", "stretch"] (spX (rW CW 1))) (x_last : Nm P w K mg base (L2.CX P w) 7 "last" s_last ["width", "stretch"] (spX (rW CW 1)))
    (x_is_address : Nm P w K mg base (L2.CX P w) 6 "is_address" s_is_address ["width", "value"] (spX (rW CW 1))) (x_is_stretch : Nm P w K mg base (L2.CX P w) 5 "is_stretch" s_is_stretch ["width", "value"] (spX (rW CW 1)))
    (x_cells : Nm P w K mg base (L2.CX P w) 9 "cells" s_cells ["width", "stretches"] (spX (rW CW 1))) (x_cell_of : Nm P w K mg base (L2.CX P w) 8 "cell_of" s_cell_of ["width", "stretches", "address"] (spX (rB (rW CW 1)))) :
    Nm P w K mg base CX0 12 "_law_width_right" s_law_width_right ["_law_pot_here", "_law_span"] (spWR TT) := by
  refine nm_ofL lkf hcf hkf hmf sc_law_width_right (fun vs H Q E h => ?_) fun A outer s H vs Q E hr h => ?_
  · unfold spWR at h
    obtain ⟨p, n, rfl, _⟩ := h
    rfl
  unfold spWR at h
  obtain ⟨p, n, rfl, hp, ht, h0, h1, kk⟩ := h
  obtain ⟨N, rfl⟩ : ∃ N : Nat, n = (N : Int) := ⟨n.toNat, by omega⟩
  refine ⟨_, (pss_cons (ps_asg (pe_tup (pa_cons (pe_g c_law_bad_span hr (by decide) L2.pass0 bp_law_bad_span (by rfl) (pa_cons (pv 0) pa_nil)) (pa_cons (pe_g c_law_bits hr (by decide) L2.pass0 bp_law_bits (by rfl) (pa_cons (pv 0) (pa_cons pe_int (pa_cons (pv 1) pa_nil)))) (pa_cons (pe_g c_law_bad_bits hr (by decide) L2.pass0 bp_law_bad_bits (by rfl) (pa_cons (pv 0) (pa_cons pe_int pa_nil))) pa_nil)))) (pg_tup (by rfl) (pgs_cons (pg_name (i := 2) sc_law_width_right.nd rfl (by first | exact Or.inl rfl | exact Or.inr rfl)) (pgs_cons (pg_name (i := 3) sc_law_width_right.nd rfl (by first | exact Or.inl rfl | exact Or.inr rfl)) (pgs_cons (pg_name (i := 4) sc_law_width_right.nd rfl (by first | exact Or.inl rfl | exact Or.inr rfl)) pgs_nil)))))
      (pss_cons (ps_set (i := 5) sc_law_width_right.nd rfl (by first | exact Or.inl rfl | exact Or.inr rfl) (pe_lst (pa_cons (pe_given (k := 9) (cdv := cdg) (g := g) lkg hcg hkg hmg (Binds.all fun us h => match us, h with | [_], _ => rfl) sc_law_heard (given_heard MM T) TB rfl hmT huT (hr.mono (by decide)) (by rfl) (lamS_by (sc := defScope s_law_width_right) (by decide +kernel)) (by rfl) (fun _ _ _ _ _ => by rfl) (fun A1 outer1 s1 H1 E1 f1 c1 hr => (pe_g x_number hr (by decide) (passes_call (takes_of rfl rfl rfl rfl) fun _ _ _ _ z => z) bp_number (by rfl) (pa_cons (pv 2) (pa_cons (pv 3) pa_nil))))) pa_nil)))
      (pss_cons (ps_expr (pe_bm PySem.F.plainAttrs_list PySem.F.slot_list_append PySem.F.type_list_append mt_append (pv 5) (pa_cons (pe_given (k := 9) (cdv := cdg) (g := g) lkg hcg hkg hmg (Binds.all fun us h => match us, h with | [_], _ => rfl) sc_law_heard (given_heard MM T) TB rfl hmT huT (hr.mono (by decide)) (by rfl) (lamS_by (sc := defScope s_law_width_right) (by decide +kernel)) (by rfl) (fun _ _ _ _ _ => by rfl) (fun A1 outer1 s1 H1 E1 f1 c1 hr => (pe_g x_first hr (by decide) (passes_call (takes_of rfl rfl rfl rfl) fun _ _ _ _ z => z) bp_first (by rfl) (pa_cons (pv 2) (pa_cons (pv 4) pa_nil))))) pa_nil)))
      (pss_cons (ps_expr (pe_bm PySem.F.plainAttrs_list PySem.F.slot_list_append PySem.F.type_list_append mt_append (pv 5) (pa_cons (pe_given (k := 9) (cdv := cdg) (g := g) lkg hcg hkg hmg (Binds.all fun us h => match us, h with | [_], _ => rfl) sc_law_heard (given_heard MM T) TB rfl hmT huT (hr.mono (by decide)) (by rfl) (lamS_by (sc := defScope s_law_width_right) (by decide +kernel)) (by rfl) (fun _ _ _ _ _ => by rfl) (fun A1 outer1 s1 H1 E1 f1 c1 hr => (pe_g x_last hr (by decide) (passes_call (takes_of rfl rfl rfl rfl) fun _ _ _ _ z => z) bp_last (by rfl) (pa_cons (pv 2) (pa_cons (pv 4) pa_nil))))) pa_nil)))
      (pss_cons (ps_expr (pe_bm PySem.F.plainAttrs_list PySem.F.slot_list_append PySem.F.type_list_append mt_append (pv 5) (pa_cons (pe_given (k := 9) (cdv := cdg) (g := g) lkg hcg hkg hmg (Binds.all fun us h => match us, h with | [_], _ => rfl) sc_law_heard (given_heard MM T) TB rfl hmT huT (hr.mono (by decide)) (by rfl) (lamS_by (sc := defScope s_law_width_right) (by decide +kernel)) (by rfl) (fun _ _ _ _ _ => by rfl) (fun A1 outer1 s1 H1 E1 f1 c1 hr => (pe_g x_is_address hr (by decide) (passes_call (takes_of rfl rfl rfl rfl) fun _ _ _ _ z => z) bp_is_address (by rfl) (pa_cons (pv 2) (pa_cons (pv 3) pa_nil))))) pa_nil)))
      (pss_cons (ps_expr (pe_bm PySem.F.plainAttrs_list PySem.F.slot_list_append PySem.F.type_list_append mt_append (pv 5) (pa_cons (pe_given (k := 9) (cdv := cdg) (g := g) lkg hcg hkg hmg (Binds.all fun us h => match us, h with | [_], _ => rfl) sc_law_heard (given_heard MM T) TB rfl hmT huT (hr.mono (by decide)) (by rfl) (lamS_by (sc := defScope s_law_width_right) (by decide +kernel)) (by rfl) (fun _ _ _ _ _ => by rfl) (fun A1 outer1 s1 H1 E1 f1 c1 hr => (pe_g x_is_stretch hr (by decide) (passes_call (takes_of rfl rfl rfl rfl) fun _ _ _ _ z => z) bp_is_stretch (by rfl) (pa_cons (pv 2) (pa_cons (pv 4) pa_nil))))) pa_nil)))
      (pss_cons (ps_expr (pe_bm PySem.F.plainAttrs_list PySem.F.slot_list_append PySem.F.type_list_append mt_append (pv 5) (pa_cons (pe_given (k := 9) (cdv := cdg) (g := g) lkg hcg hkg hmg (Binds.all fun us h => match us, h with | [_], _ => rfl) sc_law_heard (given_heard MM T) TB rfl hmT huT (hr.mono (by decide)) (by rfl) (lamS_by (sc := defScope s_law_width_right) (by decide +kernel)) (by rfl) (fun _ _ _ _ _ => by rfl) (fun A1 outer1 s1 H1 E1 f1 c1 hr => (pe_g x_cells hr (by decide) (passes_call (takes_of rfl rfl rfl rfl) fun _ _ _ _ z => z) bp_cells (by rfl) (pa_cons (pv 2) (pa_cons (pe_lst (pa_cons (pv 4) pa_nil)) pa_nil))))) pa_nil)))
      (pss_cons (ps_expr (pe_bm PySem.F.plainAttrs_list PySem.F.slot_list_append PySem.F.type_list_append mt_append (pv 5) (pa_cons (pe_given (k := 9) (cdv := cdg) (g := g) lkg hcg hkg hmg (Binds.all fun us h => match us, h with | [_], _ => rfl) sc_law_heard (given_heard MM T) TB rfl hmT huT (hr.mono (by decide)) (by rfl) (lamS_by (sc := defScope s_law_width_right) (by decide +kernel)) (by rfl) (fun _ _ _ _ _ => by rfl) (fun A1 outer1 s1 H1 E1 f1 c1 hr => (pe_g x_cell_of hr (by decide) (passes_call (takes_of rfl rfl rfl rfl) fun _ _ _ _ z => z) bp_cell_of (by rfl) (pa_cons (pv 2) (pa_cons (pv 4) (pa_cons (pv 4) pa_nil)))))) pa_nil)))
      (pss_one (ps_ret (pe_and (pe_cmpR (op_eqW (K := K) rfl hr.u64) (pv 5) (pe_op op_rep (pe_lst (pa_cons (pe_lst (pa_cons pe_str (pa_cons (pv 2) (pa_cons pe_bl pa_nil)))) pa_nil)) pe_int) (nomark _)) (pe_one (pe_cmpR (op_eqW (K := K) rfl hr.u64) (pe_given (k := 9) (cdv := cdg) (g := g) lkg hcg hkg hmg (Binds.all fun us h => match us, h with | [_], _ => rfl) sc_law_heard (given_heard MM T) TB rfl hmT huT (hr.mono (by decide)) (by rfl) (lamS_by (sc := defScope s_law_width_right) (by decide +kernel)) (by rfl) (fun _ _ _ _ _ => by rfl) (fun A1 outer1 s1 H1 E1 f1 c1 hr => (pe_g c_number hr (by decide) L2.pass0 bp_number (by rfl) (pa_cons (pv 1) (pa_cons (pv 3) pa_nil))))) (pe_lst (pa_cons pe_str (pa_cons (pe_op op_oneShl pe_int (pe_op op_sub (pv 1) (pe_callB (call_lenK (K := K) rfl) (by rfl) T.b_len PySem.boot_len (pa_cons (pv 3) pa_nil)))) pa_nil))) (nomark _)))))))))))))), ?_⟩
  refine ⟨_, rfl, bs_go hp fun bad d H1 ob wb g1 => ?_⟩
  refine ⟨_, rfl, ⟨_, rfl, bits_go g1.pot (by decide) (by omega) (by omega) fun z0 H2 bz _ lz g2 => ?_⟩⟩
  refine ⟨_, rfl, bb_go g2.pot (by decide) (by decide) fun far d2 H3 of bf g3 => ?_⟩
  have gN : GoN TT p H H3 := (((GoN.refl hp ht).go g1).go g2).go g3
  have ob3 := (ob.go g1.pot g2).go g2.pot g3
  clear g1 g2 g3 ob
  refine ⟨szl (Nat.le_of_ble_eq_true rfl), fun U nU => ?_⟩
  refine ⟨U, [bad, .str z0, far], rfl, SqT.of upd_same, rfl, ⟨_, _, rfl, ⟨_, _, rfl, ⟨_, _, rfl, ⟨rfl, ?_⟩⟩⟩⟩⟩
  have eU := extN_new (o := .tup [bad, .str z0, far]) (ExtN.refl H3) nU
  have tU : Tabs TT (upd H3 U (.tup [bad, .str z0, far])) := gN.tabs.ext fun b o h => updn (nonn nU h) h
  have gU := gN.ext eU tU
  have obU := ob3.ext eU
  have ofU := of.ext eU
  generalize upd H3 U (.tup [bad, .str z0, far]) = H4 at gU obU ofU tU ⊢
  clear eU gN ob3 of nU
  refine heard_x .w bad tU (fun E H2 Q' e2 k => ⟨_, rfl, ⟨_, rfl, x_go ⟨bad, d, [.str z0], rfl, rfl, obU.ext e2, wb, rfl, rfl, rfl⟩ k⟩⟩) fun L1 H5 H6 e5 n5 e6 t6 q1 => ?_
  refine ⟨szl (Nat.le_of_ble_eq_true rfl), fun D nD => ?_⟩
  have h1 : Hrd TT H4 _ D [L1] "width" [bad, .bl true] := .one e6 t6 q1 nD
  clear e5 n5 e6 t6 q1 nD
  refine ⟨_, rfl, ⟨.inl ⟨rfl, _, SqL.of h1.at_⟩, ?_⟩⟩
  refine heard_x .w bad h1.tabs (fun E H2 Q' e2 k => ⟨_, rfl, ⟨_, rfl, x_go ⟨bad, d, [far], rfl, rfl, (obU.ext h1.ext).ext e2, wb, rfl, rfl, rfl⟩ k⟩⟩) fun L2 G2 F2 e2 n2 f2 t2 q2 => ?_
  have k2 := h1.next f2 t2 q2 (h1.ne1 e2 n2)
  refine ⟨D, _, _, rfl, rfl, k2.1, szl (Nat.le_of_ble_eq_true rfl), ?_⟩
  have h2 := k2.2
  clear k2 e2 n2 f2 t2 q2 h1
  refine ⟨_, rfl, ⟨.inl ⟨rfl, _, SqL.of h2.at_⟩, ?_⟩⟩
  refine heard_x .w bad h2.tabs (fun E H2 Q' e2 k => ⟨_, rfl, ⟨_, rfl, x_go ⟨bad, d, [far], rfl, rfl, (obU.ext h2.ext).ext e2, wb, rfl, rfl, rfl⟩ k⟩⟩) fun L3 G3 F3 e3 n3 f3 t3 q3 => ?_
  have k3 := h2.next f3 t3 q3 (h2.ne1 e3 n3)
  refine ⟨D, _, _, rfl, rfl, k3.1, szl (Nat.le_of_ble_eq_true rfl), ?_⟩
  have h3 := k3.2
  clear k3 e3 n3 f3 t3 q3 h2
  refine ⟨_, rfl, ⟨.inl ⟨rfl, _, SqL.of h3.at_⟩, ?_⟩⟩
  refine heard_x .w bad h3.tabs (fun E H2 Q' e2 k => ⟨_, rfl, ⟨_, rfl, x_go ⟨bad, d, [.str z0], rfl, rfl, (obU.ext h3.ext).ext e2, wb, rfl, rfl, rfl⟩ k⟩⟩) fun L4 G4 F4 e4 n4 f4 t4 q4 => ?_
  have k4 := h3.next f4 t4 q4 (h3.ne1 e4 n4)
  refine ⟨D, _, _, rfl, rfl, k4.1, szl (Nat.le_of_ble_eq_true rfl), ?_⟩
  have h4 := k4.2
  clear k4 e4 n4 f4 t4 q4 h3
  refine ⟨_, rfl, ⟨.inl ⟨rfl, _, SqL.of h4.at_⟩, ?_⟩⟩
  refine heard_x .w bad h4.tabs (fun E H2 Q' e2 k => ⟨_, rfl, ⟨_, rfl, x_go ⟨bad, d, [far], rfl, rfl, (obU.ext h4.ext).ext e2, wb, rfl, rfl, rfl⟩ k⟩⟩) fun L5 G5 F5 e5 n5 f5 t5 q5 => ?_
  have k5 := h4.next f5 t5 q5 (h4.ne1 e5 n5)
  refine ⟨D, _, _, rfl, rfl, k5.1, szl (Nat.le_of_ble_eq_true rfl), ?_⟩
  have h5 := k5.2
  clear k5 e5 n5 f5 t5 q5 h4
  refine ⟨_, rfl, ⟨.inl ⟨rfl, _, SqL.of h5.at_⟩, ?_⟩⟩
  refine heard_x .w bad h5.tabs (fun E H2 Q' e2 k => ⟨_, rfl, ⟨_, rfl, ⟨szl (Nat.le_of_ble_eq_true rfl), fun u nu => x_go ⟨bad, d, [.ref u], rfl, rfl, ((obU.ext h5.ext).ext e2).ext (extN_new (ExtN.refl _) nu), wb, rfl, rfl, rfl⟩ fun H3 dd s3 nd => k H3 dd (fun b o h => s3 b o (updn (nonn nu h) h)) nd⟩⟩⟩) fun L6 G6 F6 e6 n6 f6 t6 q6 => ?_
  have k6 := h5.next f6 t6 q6 (h5.ne1 e6 n6)
  refine ⟨D, _, _, rfl, rfl, k6.1, szl (Nat.le_of_ble_eq_true rfl), ?_⟩
  have h6 := k6.2
  clear k6 e6 n6 f6 t6 q6 h5
  refine ⟨_, rfl, ⟨.inl ⟨rfl, _, SqL.of h6.at_⟩, ?_⟩⟩
  refine heard_x .w bad h6.tabs (fun E H2 Q' e2 k => ⟨_, rfl, ⟨_, rfl, ⟨_, rfl, x_go ⟨bad, far, far, rfl, bad, d, [far], rfl, rfl, (obU.ext h6.ext).ext e2, wb, rfl, rfl, rfl⟩ k⟩⟩⟩) fun L7 G7 F7 e7 n7 f7 t7 q7 => ?_
  have k7 := h6.next f7 t7 q7 (h6.ne1 e7 n7)
  refine ⟨D, _, _, rfl, rfl, k7.1, szl (Nat.le_of_ble_eq_true rfl), ?_⟩
  have h7 := k7.2
  clear k7 e7 n7 f7 t7 q7 h6
  have hlen : ([L1] ++ [L2] ++ [L3] ++ [L4] ++ [L5] ++ [L6] ++ [L7] : List Addr).length = 7 := rfl
  revert h7 hlen
  generalize ([L1] ++ [L2] ++ [L3] ++ [L4] ++ [L5] ++ [L6] ++ [L7] : List Addr) = Ls
  generalize upd F7 D _ = G
  intro h7 hlen
  refine ⟨_, rfl, ?_⟩
  refine ⟨_, rfl, ⟨szl (Nat.le_of_ble_eq_true rfl), fun I nI => ?_⟩⟩
  refine ⟨szl (Nat.le_of_ble_eq_true rfl), fun O nO => ?_⟩
  refine ⟨O, 7, [.ref I], rfl, rfl, upd_same, by decide, by decide, szl (Nat.le_of_ble_eq_true rfl), fun W nW => ?_⟩
  have s1 : Same G (upd (upd (upd G I (.lst [.str "width", bad, .bl true])) O (.lst [.ref I])) W (.lst (List.replicate (7 : Int).toNat [V.ref I]).flatten)) := fun b o e => by
    have e1 := updn (o := .lst [.str "width", bad, .bl true]) (nonn nI e) e
    have e2 := updn (o := .lst [.ref I]) (nonn nO e1) e1
    exact updn (nonn nW e2) e2
  have eI : upd (upd (upd G I (.lst [.str "width", bad, .bl true])) O (.lst [.ref I])) W (.lst (List.replicate (7 : Int).toNat [V.ref I]).flatten) I = some (.lst [.str "width", bad, .bl true]) := by
    have e1 : upd G I (.lst [.str "width", bad, .bl true]) I = some (.lst [.str "width", bad, .bl true]) := upd_same
    have e2 := updn (o := .lst [.ref I]) (nonn nO e1) e1
    exact updn (nonn nW e2) e2
  have eW : upd (upd (upd G I (.lst [.str "width", bad, .bl true])) O (.lst [.ref I])) W (.lst (List.replicate (7 : Int).toNat [V.ref I]).flatten) W = some (.lst (List.replicate Ls.length (V.ref I))) := by
    rw [upd_same, hlen]
    rfl
  generalize upd (upd (upd G I (.lst [.str "width", bad, .bl true])) O (.lst [.ref I])) W (.lst (List.replicate (7 : Int).toNat [V.ref I]).flatten) = J at s1 eI eW ⊢
  have gJ : GoN TT p H J := gU.ext (fun b o e n => s1 b o (h7.ext b o e n)) (h7.tabs.ext s1)
  refine ⟨1, D, W, _, _, by decide, rfl, rfl, SqL.of (s1 _ _ h7.at_), SqL.of eW, pair_rep eI (.cons (.inl ⟨rfl, rfl⟩) (.cons obU.alk (.cons (.inl ⟨rfl, rfl⟩) .nil))) (fun L m => s1 _ _ (h7.items L m)), ?_⟩
  refine ⟨_, rfl, iteT ?_⟩
  clear h7 s1 eI eW nI nO nW hlen
  have hb := bits_BL bz
  have hlz : z0.cps.toList.length = z0.length := Array.length_toList
  have htl : z0.cps.toList.length ≤ N := by omega
  have en : (2 : Int) ^ (N - z0.length) = ((M.size N z0.cps.toList : Nat) : Int) := by unfold M.size; rw [hlz]; simp
  have el : ((N : Int) - (z0.length : Int)) = ((N - z0.length : Nat) : Int) := by omega
  refine heard_v (V0 := fun v => v = .int ((M.size N z0.cps.toList : Nat) : Int)) gJ.tabs (fun E H2 Q' e2 k => ⟨_, rfl, ⟨_, rfl, ?_⟩⟩) fun L v J1 J2 hv e1 n1 e2 t2 q1 => ?_
  · have g := num_go (n := N) (t := z0.cps.toList) (H := H2) (Q := Q') (E := C8.E0) (by omega) (by omega) hb htl fun H3 s3 => k _ H3 rfl s3
    rw [sx_tl] at g
    exact g
  subst hv
  refine ⟨_, rfl, ⟨_, rfl, ⟨_, z0.length, rfl, ⟨szl (by omega), rfl⟩, ⟨(N : Int), (z0.length : Int), rfl, rfl, ⟨N - z0.length, rfl, congrArg V.int el, by omega, ?_⟩⟩⟩⟩⟩
  rw [en]
  refine ⟨szl (Nat.le_of_ble_eq_true rfl), fun Y nY => ?_⟩
  have g2 := gJ.ext e2 t2
  refine ⟨0, L, Y, _, _, by decide, rfl, rfl, SqL.of (updn (nonn nY q1) q1), SqL.of upd_same, .cons (.inl ⟨rfl, rfl⟩) (.cons (.inl ⟨rfl, rfl⟩) .nil), ?_⟩
  exact kk _ (g2.ext (extN_new (ExtN.refl _) nY) (t2.ext fun b o h => updn (nonn nY h) h))
end
open PySem PySem.Spec PyProof.Rows LamX
open L2 hiding pass0
abbrev s_law_bits_right : Stmt := top 38
theorem sc_law_bits_right : FnScope ["_law_pot_here", "_law_span", "_law_bad", "_law_told", "_law_odd", "_law_good", "_law_two"] ["_law_pot_here", "_law_span"] (defScope s_law_bits_right) := ⟨rfl, rfl, rfl, by decide +kernel, rfl, by decide +kernel, by decide +kernel⟩
theorem bp_law_bits_right : BndP "_law_bits_right" s_law_bits_right ["_law_pot_here", "_law_span"] := fun _ _ _ _ _ _ us h => match us, h with | [_, _], _ => rfl
theorem sV_of {n : Int} {x : V} (h : bV x = false) : sV n x = false := by
  cases x <;> first | rfl | (show (bV _ && _) = false; rw [h]; rfl)
theorem aV_of {n : Int} {x : V} (h : bV x = false) : aV n x = false := by
  cases x <;> first | rfl | (show (bV _ && _) = false; rw [h]; rfl)
section
variable {P : Program} {w : World} {K : PySem.W.Frag} {mg : Str → Option Value} {base : Heap}
theorem ok_bits_right {f c TP g B CW CS CA CP : Addr} {cdg : Value} {TT : List (Addr × Str)} {ocf kVf docf pmf ctf : Value} {anf odf : Option Addr} {oslf : Array (Option Value)} (lkf : K.lookup f = some ⟨ocf, odf, .func (PySem.W.fnOf "_law_bits_right" "_law_bits_right" (defArgs s_law_bits_right) (defBody s_law_bits_right) (defScope s_law_bits_right) .none kVf docf pmf anf (.ref c) ctf), oslf⟩) (hcf : PySem.W.codeIn K (.ref c) "_law_bits_right" = true) (hkf : PySem.W.keepIn K (.ref f) = true) (hmf : mg "_law_bits_right" = some (.ref f)) {ocg kVg docg pmg ctg : Value} {ang odg : Option Addr} {oslg : Array (Option Value)} (lkg : K.lookup g = some ⟨ocg, odg, .func (PySem.W.fnOf "_law_heard" "_law_heard" (defArgs s_law_heard) (defBody s_law_heard) (defScope s_law_heard) .none kVg docg pmg ang cdg ctg), oslg⟩) (hcg : PySem.W.codeIn K cdg "_law_heard" = true) (hkg : PySem.W.keepIn K (.ref g) = true) (hmg : mg "_law_heard" = some (.ref g)) (MM : Errs K mg B CW CS CA CP) (T : Txt K mg) (TB : TabB base mg c TP) (hmT : (TP, (("_law_bits_right" : Str) ++ ".<locals>.") ++ "<lambda>") ∈ TT) (huT : ∀ p ∈ TT, p.1 = TP → p.2 = (("_law_bits_right" : Str) ++ ".<locals>.") ++ "<lambda>") (c_law_bits : Nm P w K mg base CX0 3 "_law_bits" s_law_bits ["_law_pot_here", "_law_least", "_law_most"] (spBits)) (c_law_among : Nm P w K mg base CX0 2 "_law_among" s_law_among ["_law_pot_here", "_law_some"] (spAmong K)) (c_law_bad_bits : Nm P w K mg base CX0 4 "_law_bad_bits" s_law_bad_bits ["_law_pot_here", "_law_span"] (spBB)) (c_common : Nm P w K mg base CX0 2 "common" s_common ["one", "other"] (spCommon))
    (x_number : Nm P w K mg base (L2.CX P w) 7 "number" s_number ["width", "stretch"] (spX (rV sV CS))) (x_first : Nm P w K mg base (L2.CX P w) 7 "first" s_first ["width", "stretch"] (spX (rV sV CS))) (x_last : Nm P w K mg base (L2.CX P w) 7 "last" s_last ["width", "stretch"] (spX (rV sV CS)))
    (x_common : Nm P w K mg base (L2.CX P w) 4 "common" s_common ["one", "other"] (spX (rC CS))) :
    Nm P w K mg base CX0 12 "_law_bits_right" s_law_bits_right ["_law_pot_here", "_law_span"] (spWR TT) := by
  refine nm_ofL lkf hcf hkf hmf sc_law_bits_right (fun vs H Q E h => ?_) fun A outer s H vs Q E hr h => ?_
  · unfold spWR at h
    obtain ⟨p, n, rfl, _⟩ := h
    rfl
  unfold spWR at h
  obtain ⟨p, n, rfl, hp, ht, w0, w1, kk⟩ := h
  refine ⟨_, (pss_cons (ps_set (i := 2) sc_law_bits_right.nd rfl (by first | exact Or.inl rfl | exact Or.inr rfl) (pe_g c_law_among hr (by decide) L2.pass0 bp_law_among (by rfl) (pa_cons (pv 0) (pa_cons (pe_lst (pa_cons (pe_g c_law_bad_bits hr (by decide) L2.pass0 bp_law_bad_bits (by rfl) (pa_cons (pv 0) (pa_cons (pv 1) pa_nil))) (pa_cons (pe_g c_law_bits hr (by decide) L2.pass0 bp_law_bits (by rfl) (pa_cons (pv 0) (pa_cons (pe_op op_add (pv 1) pe_int) (pa_cons (pe_op op_add (pv 1) pe_int) pa_nil)))) pa_nil))) pa_nil))))
      (pss_cons (ps_set (i := 3) sc_law_bits_right.nd rfl (by first | exact Or.inl rfl | exact Or.inr rfl) (pe_lst (pa_cons (pe_given (k := 9) (cdv := cdg) (g := g) lkg hcg hkg hmg (Binds.all fun us h => match us, h with | [_], _ => rfl) sc_law_heard (given_heard MM T) TB rfl hmT huT (hr.mono (by decide)) (by rfl) (lamS_by (sc := defScope s_law_bits_right) (by decide +kernel)) (by rfl) (fun _ _ _ _ _ => by rfl) (fun A1 outer1 s1 H1 E1 f1 c1 hr => (pe_g x_number hr (by decide) (passes_call (takes_of rfl rfl rfl rfl) fun _ _ _ _ z => z) bp_number (by rfl) (pa_cons (pv 1) (pa_cons (pv 2) pa_nil))))) pa_nil)))
      (pss_cons (ps_expr (pe_bm PySem.F.plainAttrs_list PySem.F.slot_list_append PySem.F.type_list_append mt_append (pv 3) (pa_cons (pe_given (k := 9) (cdv := cdg) (g := g) lkg hcg hkg hmg (Binds.all fun us h => match us, h with | [_], _ => rfl) sc_law_heard (given_heard MM T) TB rfl hmT huT (hr.mono (by decide)) (by rfl) (lamS_by (sc := defScope s_law_bits_right) (by decide +kernel)) (by rfl) (fun _ _ _ _ _ => by rfl) (fun A1 outer1 s1 H1 E1 f1 c1 hr => (pe_g x_first hr (by decide) (passes_call (takes_of rfl rfl rfl rfl) fun _ _ _ _ z => z) bp_first (by rfl) (pa_cons (pv 1) (pa_cons (pv 2) pa_nil))))) pa_nil)))
      (pss_cons (ps_expr (pe_bm PySem.F.plainAttrs_list PySem.F.slot_list_append PySem.F.type_list_append mt_append (pv 3) (pa_cons (pe_given (k := 9) (cdv := cdg) (g := g) lkg hcg hkg hmg (Binds.all fun us h => match us, h with | [_], _ => rfl) sc_law_heard (given_heard MM T) TB rfl hmT huT (hr.mono (by decide)) (by rfl) (lamS_by (sc := defScope s_law_bits_right) (by decide +kernel)) (by rfl) (fun _ _ _ _ _ => by rfl) (fun A1 outer1 s1 H1 E1 f1 c1 hr => (pe_g x_last hr (by decide) (passes_call (takes_of rfl rfl rfl rfl) fun _ _ _ _ z => z) bp_last (by rfl) (pa_cons (pv 1) (pa_cons (pv 2) pa_nil))))) pa_nil)))
      (pss_cons (ps_if (pt_cmpR (op_neW (K := K) rfl hr.u64) (pv 3) (pe_op op_rep (pe_lst (pa_cons (pe_lst (pa_cons pe_str (pa_cons (pv 2) (pa_cons pe_bl pa_nil)))) pa_nil)) pe_int) (nomark _)) (pss_one (ps_ret pe_bl)) pss_nil)
      (pss_cons (ps_asg (pe_tup (pa_cons (pe_g c_law_bad_bits hr (by decide) L2.pass0 bp_law_bad_bits (by rfl) (pa_cons (pv 0) (pa_cons (pv 1) pa_nil))) (pa_cons (pe_g c_law_bits hr (by decide) L2.pass0 bp_law_bits (by rfl) (pa_cons (pv 0) (pa_cons pe_int (pa_cons pe_int pa_nil)))) pa_nil))) (pg_tup (by rfl) (pgs_cons (pg_name (i := 4) sc_law_bits_right.nd rfl (by first | exact Or.inl rfl | exact Or.inr rfl)) (pgs_cons (pg_name (i := 5) sc_law_bits_right.nd rfl (by first | exact Or.inl rfl | exact Or.inr rfl)) pgs_nil))))
      (pss_cons (ps_set (i := 6) sc_law_bits_right.nd rfl (by first | exact Or.inl rfl | exact Or.inr rfl) (pe_lst (pa_cons (pe_given (k := 9) (cdv := cdg) (g := g) lkg hcg hkg hmg (Binds.all fun us h => match us, h with | [_], _ => rfl) sc_law_heard (given_heard MM T) TB rfl hmT huT (hr.mono (by decide)) (by rfl) (lamS_by (sc := defScope s_law_bits_right) (by decide +kernel)) (by rfl) (fun _ _ _ _ _ => by rfl) (fun A1 outer1 s1 H1 E1 f1 c1 hr => (pe_g x_common hr (by decide) (passes_call (takes_of rfl rfl rfl rfl) fun _ _ _ _ z => z) bp_common (by rfl) (pa_cons (pv 4) (pa_cons (pv 5) pa_nil))))) pa_nil)))
      (pss_cons (ps_expr (pe_bm PySem.F.plainAttrs_list PySem.F.slot_list_append PySem.F.type_list_append mt_append (pv 6) (pa_cons (pe_given (k := 9) (cdv := cdg) (g := g) lkg hcg hkg hmg (Binds.all fun us h => match us, h with | [_], _ => rfl) sc_law_heard (given_heard MM T) TB rfl hmT huT (hr.mono (by decide)) (by rfl) (lamS_by (sc := defScope s_law_bits_right) (by decide +kernel)) (by rfl) (fun _ _ _ _ _ => by rfl) (fun A1 outer1 s1 H1 E1 f1 c1 hr => (pe_g x_common hr (by decide) (passes_call (takes_of rfl rfl rfl rfl) fun _ _ _ _ z => z) bp_common (by rfl) (pa_cons (pv 5) (pa_cons (pv 4) pa_nil))))) pa_nil)))
      (pss_cons (ps_expr (pe_bm PySem.F.plainAttrs_list PySem.F.slot_list_append PySem.F.type_list_append mt_append (pv 6) (pa_cons (pe_given (k := 9) (cdv := cdg) (g := g) lkg hcg hkg hmg (Binds.all fun us h => match us, h with | [_], _ => rfl) sc_law_heard (given_heard MM T) TB rfl hmT huT (hr.mono (by decide)) (by rfl) (lamS_by (sc := defScope s_law_bits_right) (by decide +kernel)) (by rfl) (fun _ _ _ _ _ => by rfl) (fun A1 outer1 s1 H1 E1 f1 c1 hr => (pe_g x_common hr (by decide) (passes_call (takes_of rfl rfl rfl rfl) fun _ _ _ _ z => z) bp_common (by rfl) (pa_cons (pv 4) (pa_cons (pe_lst (pa_cons (pv 4) pa_nil)) pa_nil))))) pa_nil)))
      (pss_one (ps_ret (pe_and (pe_cmpR (op_eqW (K := K) rfl hr.u64) (pv 6) (pe_op op_rep (pe_lst (pa_cons (pe_lst (pa_cons pe_str (pa_cons (pv 4) (pa_cons pe_bl pa_nil)))) pa_nil)) pe_int) (nomark _)) (pe_one (pe_cmpR (op_eqW (K := K) rfl hr.u64) (pe_given (k := 9) (cdv := cdg) (g := g) lkg hcg hkg hmg (Binds.all fun us h => match us, h with | [_], _ => rfl) sc_law_heard (given_heard MM T) TB rfl hmT huT (hr.mono (by decide)) (by rfl) (lamS_by (sc := defScope s_law_bits_right) (by decide +kernel)) (by rfl) (fun _ _ _ _ _ => by rfl) (fun A1 outer1 s1 H1 E1 f1 c1 hr => (pe_g c_common hr (by decide) L2.pass0 bp_common (by rfl) (pa_cons (pv 5) (pa_cons (pv 5) pa_nil))))) (pe_lst (pa_cons pe_str (pa_cons (pv 5) pa_nil))) (nomark _))))))))))))))), ?_⟩
  -- bad
  refine ⟨_, rfl, ⟨_, rfl, ⟨_, rfl, bb_go hp (by omega) (by omega) fun v1 d1 H1 o1 b1 g1 => ?_⟩⟩⟩
  refine ⟨_, rfl, ⟨_, rfl, ⟨_, _, rfl, rfl, ⟨_, rfl, ⟨_, _, rfl, rfl, bits_go g1.pot (by omega) (by omega) (by omega) fun z H2 bz lz0 lz1 g2 => ?_⟩⟩⟩⟩⟩
  refine ⟨szl (Nat.le_of_ble_eq_true rfl), fun U nU => ?_⟩
  have g3 : Go p H (upd H2 U (.lst [v1, .str z])) := (g1.trans g2).new nU
  refine among_l g3.pot (g2.pot.ne nU) (SqL.of upd_same) (Nat.le_of_ble_eq_true rfl) (Nat.le_of_ble_eq_true rfl) fun bad hbad H4 g4 => ?_
  obtain ⟨d, ob, hs⟩ : ∃ d, OddD H4 bad d ∧ sV n bad = false := by
    simp only [List.mem_cons, List.not_mem_nil, or_false] at hbad
    rcases hbad with rfl | rfl
    · exact ⟨d1, (((o1.go g1.pot g2).same fun b o e => updn (nonn nU e) e).go g3.pot g4), sV_of b1⟩
    · refine ⟨_, .str bz.low (by omega), ?_⟩
      show (bV _ && decide _) = false
      rw [decide_eq_false (by omega), Bool.and_false]
  have gU : GoN TT p H H4 := (GoN.refl hp ht).go (g3.trans g4)
  clear g1 g2 g3 g4 o1 b1 hbad nU bz lz0 lz1
  refine heard_x .s bad gU.tabs (fun E H2 Q' e2 k => ⟨_, rfl, ⟨_, rfl, x_go ⟨n, bad, d, rfl, w0, w1, ob.ext e2, hs, rfl, rfl, rfl⟩ k⟩⟩) fun L1 H5 H6 e5 n5 e6 t6 q1 => ?_
  refine ⟨szl (Nat.le_of_ble_eq_true rfl), fun D nD => ?_⟩
  have h1 : Hrd TT H4 _ D [L1] "stretch" [bad, .bl true] := .one e6 t6 q1 nD
  clear e5 n5 e6 t6 q1 nD
  refine ⟨_, rfl, ⟨.inl ⟨rfl, _, SqL.of h1.at_⟩, ?_⟩⟩
  refine heard_x .s bad h1.tabs (fun E H2 Q' e2 k => ⟨_, rfl, ⟨_, rfl, x_go ⟨n, bad, d, rfl, w0, w1, (ob.ext h1.ext).ext e2, hs, rfl, rfl, rfl⟩ k⟩⟩) fun L2 G2 F2 e2 n2 f2 t2 q2 => ?_
  have k2 := h1.next f2 t2 q2 (h1.ne1 e2 n2)
  refine ⟨D, _, _, rfl, rfl, k2.1, szl (Nat.le_of_ble_eq_true rfl), ?_⟩
  have h2 := k2.2
  clear k2 e2 n2 f2 t2 q2 h1
  refine ⟨_, rfl, ⟨.inl ⟨rfl, _, SqL.of h2.at_⟩, ?_⟩⟩
  refine heard_x .s bad h2.tabs (fun E H2 Q' e2 k => ⟨_, rfl, ⟨_, rfl, x_go ⟨n, bad, d, rfl, w0, w1, (ob.ext h2.ext).ext e2, hs, rfl, rfl, rfl⟩ k⟩⟩) fun L3 G3 F3 e3 n3 f3 t3 q3 => ?_
  have k3 := h2.next f3 t3 q3 (h2.ne1 e3 n3)
  refine ⟨D, _, _, rfl, rfl, k3.1, szl (Nat.le_of_ble_eq_true rfl), ?_⟩
  have h3 := k3.2
  clear k3 e3 n3 f3 t3 q3 h2
  have hlen : ([L1] ++ [L2] ++ [L3] : List Addr).length = 3 := rfl
  revert h3 hlen
  generalize ([L1] ++ [L2] ++ [L3] : List Addr) = Ls
  generalize upd F3 D _ = G
  intro h3 hlen
  refine ⟨_, rfl, ?_⟩
  refine ⟨_, rfl, ⟨szl (Nat.le_of_ble_eq_true rfl), fun I nI => ?_⟩⟩
  refine ⟨szl (Nat.le_of_ble_eq_true rfl), fun O nO => ?_⟩
  refine ⟨O, 3, [.ref I], rfl, rfl, upd_same, by decide, by decide, szl (Nat.le_of_ble_eq_true rfl), fun W nW => ?_⟩
  have s1 : Same G (upd (upd (upd G I (.lst [.str "stretch", bad, .bl true])) O (.lst [.ref I])) W (.lst (List.replicate (3 : Int).toNat [V.ref I]).flatten)) := fun b o e => by
    have e1 := updn (o := .lst [.str "stretch", bad, .bl true]) (nonn nI e) e
    have e2 := updn (o := .lst [.ref I]) (nonn nO e1) e1
    exact updn (nonn nW e2) e2
  have eI : (upd (upd (upd G I (.lst [.str "stretch", bad, .bl true])) O (.lst [.ref I])) W (.lst (List.replicate (3 : Int).toNat [V.ref I]).flatten)) I = some (.lst [.str "stretch", bad, .bl true]) := by
    have e1 : upd G I (.lst [.str "stretch", bad, .bl true]) I = some (.lst [.str "stretch", bad, .bl true]) := upd_same
    have e2 := updn (o := .lst [.ref I]) (nonn nO e1) e1
    exact updn (nonn nW e2) e2
  have eW : (upd (upd (upd G I (.lst [.str "stretch", bad, .bl true])) O (.lst [.ref I])) W (.lst (List.replicate (3 : Int).toNat [V.ref I]).flatten)) W = some (.lst (List.replicate Ls.length (V.ref I))) := by
    rw [upd_same, hlen]
    rfl
  generalize upd (upd (upd G I (.lst [.str "stretch", bad, .bl true])) O (.lst [.ref I])) W (.lst (List.replicate (3 : Int).toNat [V.ref I]).flatten) = J at s1 eI eW ⊢
  have gJ : GoN TT p H J := gU.ext (fun b o e n => s1 b o (h3.ext b o e n)) (h3.tabs.ext s1)
  have xJ : ExtN _ J := fun b o e n => s1 b o (h3.ext b o e n)
  refine ⟨1, D, W, _, _, by decide, rfl, rfl, SqL.of (s1 _ _ h3.at_), SqL.of eW, pair_rep eI (.cons (.inl ⟨rfl, rfl⟩) (.cons ob.alk (.cons (.inl ⟨rfl, rfl⟩) .nil))) (fun L m => s1 _ _ (h3.items L m)), ?_⟩
  clear h3 s1 eI eW nI nO nW hlen
  refine ⟨_, rfl, iteF ?_⟩
  refine ⟨_, rfl, ⟨_, rfl, bb_go gJ.pot (by omega) (by omega) fun odd d2 K1 oo bo g1 => ?_⟩⟩
  refine ⟨_, rfl, bits_go g1.pot (by decide) (by decide) (by decide) fun y K2 by1 _ ly g2 => ?_⟩
  have oo2 := oo.go g1.pot g2
  have gN := (gJ.go g1).go g2
  clear g1 g2 oo gU
  refine ⟨szl (Nat.le_of_ble_eq_true rfl), fun U2 nU => ?_⟩
  refine ⟨U2, [odd, .str y], rfl, SqT.of upd_same, rfl, ⟨_, _, rfl, ⟨_, _, rfl, ⟨rfl, ?_⟩⟩⟩⟩
  have eU := extN_new (o := .tup [odd, .str y]) (ExtN.refl K2) nU
  have gV := gN.ext eU (gN.tabs.ext fun b o h => updn (nonn nU h) h)
  have oo3 := oo2.ext eU
  generalize upd K2 U2 (.tup [odd, .str y]) = K3 at gV oo3 ⊢
  clear eU gN oo2 nU gJ xJ
  refine heard_x .s odd gV.tabs (fun E H2 Q' e2 k => ⟨_, rfl, ⟨_, rfl, x_go ⟨odd, .str y, d2, rfl, .inl ⟨oo3.ext e2, bo, rfl⟩, rfl, rfl⟩ k⟩⟩) fun L1 H5 H6 e5 n5 e6 t6 q1 => ?_
  refine ⟨szl (Nat.le_of_ble_eq_true rfl), fun D2 nD => ?_⟩
  have h1 : Hrd TT K3 _ D2 [L1] "stretch" [odd, .bl true] := .one e6 t6 q1 nD
  clear e5 n5 e6 t6 q1 nD
  refine ⟨_, rfl, ⟨.inl ⟨rfl, _, SqL.of h1.at_⟩, ?_⟩⟩
  refine heard_x .s odd h1.tabs (fun E H2 Q' e2 k => ⟨_, rfl, ⟨_, rfl, x_go ⟨.str y, odd, d2, rfl, .inr ⟨⟨y, rfl, by1, by omega⟩, (oo3.ext h1.ext).ext e2, bo, rfl⟩, rfl, rfl⟩ k⟩⟩) fun L2 G2 F2 e2 n2 f2 t2 q2 => ?_
  have k2 := h1.next f2 t2 q2 (h1.ne1 e2 n2)
  refine ⟨D2, _, _, rfl, rfl, k2.1, szl (Nat.le_of_ble_eq_true rfl), ?_⟩
  have h2 := k2.2
  clear k2 e2 n2 f2 t2 q2 h1
  refine ⟨_, rfl, ⟨.inl ⟨rfl, _, SqL.of h2.at_⟩, ?_⟩⟩
  refine heard_x .s odd h2.tabs (fun E H2 Q' e2 k => ⟨_, rfl, ⟨_, rfl, ⟨szl (Nat.le_of_ble_eq_true rfl), fun u nu => x_go ⟨odd, .ref u, d2, rfl, .inl ⟨((oo3.ext h2.ext).ext e2).ext (extN_new (ExtN.refl _) nu), bo, rfl⟩, rfl, rfl⟩ fun H3 dd s3 nd => k H3 dd (fun b o h => s3 b o (updn (nonn nu h) h)) nd⟩⟩⟩) fun L3 G3 F3 e3 n3 f3 t3 q3 => ?_
  have k3 := h2.next f3 t3 q3 (h2.ne1 e3 n3)
  refine ⟨D2, _, _, rfl, rfl, k3.1, szl (Nat.le_of_ble_eq_true rfl), ?_⟩
  have h3 := k3.2
  clear k3 e3 n3 f3 t3 q3 h2
  have hlen : ([L1] ++ [L2] ++ [L3] : List Addr).length = 3 := rfl
  revert h3 hlen
  generalize ([L1] ++ [L2] ++ [L3] : List Addr) = Ls
  generalize upd F3 D2 _ = G
  intro h3 hlen
  refine ⟨_, rfl, ?_⟩
  refine ⟨_, rfl, ⟨szl (Nat.le_of_ble_eq_true rfl), fun I nI => ?_⟩⟩
  refine ⟨szl (Nat.le_of_ble_eq_true rfl), fun O nO => ?_⟩
  refine ⟨O, 3, [.ref I], rfl, rfl, upd_same, by decide, by decide, szl (Nat.le_of_ble_eq_true rfl), fun W nW => ?_⟩
  have s1 : Same G (upd (upd (upd G I (.lst [.str "stretch", odd, .bl true])) O (.lst [.ref I])) W (.lst (List.replicate (3 : Int).toNat [V.ref I]).flatten)) := fun b o e => by
    have e1 := updn (o := .lst [.str "stretch", odd, .bl true]) (nonn nI e) e
    have e2 := updn (o := .lst [.ref I]) (nonn nO e1) e1
    exact updn (nonn nW e2) e2
  have eI : (upd (upd (upd G I (.lst [.str "stretch", odd, .bl true])) O (.lst [.ref I])) W (.lst (List.replicate (3 : Int).toNat [V.ref I]).flatten)) I = some (.lst [.str "stretch", odd, .bl true]) := by
    have e1 : upd G I (.lst [.str "stretch", odd, .bl true]) I = some (.lst [.str "stretch", odd, .bl true]) := upd_same
    have e2 := updn (o := .lst [.ref I]) (nonn nO e1) e1
    exact updn (nonn nW e2) e2
  have eW : (upd (upd (upd G I (.lst [.str "stretch", odd, .bl true])) O (.lst [.ref I])) W (.lst (List.replicate (3 : Int).toNat [V.ref I]).flatten)) W = some (.lst (List.replicate Ls.length (V.ref I))) := by
    rw [upd_same, hlen]
    rfl
  generalize upd (upd (upd G I (.lst [.str "stretch", odd, .bl true])) O (.lst [.ref I])) W (.lst (List.replicate (3 : Int).toNat [V.ref I]).flatten) = J at s1 eI eW ⊢
  have gJ : GoN TT p H J := gV.ext (fun b o e n => s1 b o (h3.ext b o e n)) (h3.tabs.ext s1)
  have xJ : ExtN _ J := fun b o e n => s1 b o (h3.ext b o e n)
  refine ⟨1, D2, W, _, _, by decide, rfl, rfl, SqL.of (s1 _ _ h3.at_), SqL.of eW, pair_rep eI (.cons (.inl ⟨rfl, rfl⟩) (.cons oo3.alk (.cons (.inl ⟨rfl, rfl⟩) .nil))) (fun L m => s1 _ _ (h3.items L m)), ?_⟩
  clear h3 s1 eI eW nI nO nW hlen
  refine ⟨_, rfl, iteT ?_⟩
  refine heard_v (V0 := fun v => v = .str y) gJ.tabs (fun E H2 Q' e2 k => ⟨_, rfl, ⟨_, rfl, common_go by1 by1 (by omega) (by omega) fun H3 s3 => k _ H3 (congrArg V.str (tk_self y)) s3⟩⟩) fun L v J1 J2 hv e1 n1 e2 t2 q1 => ?_
  subst hv
  refine ⟨_, rfl, ⟨szl (Nat.le_of_ble_eq_true rfl), fun Y nY => ?_⟩⟩
  have g2 := gJ.ext e2 t2
  refine ⟨0, L, Y, _, _, by decide, rfl, rfl, SqL.of (updn (nonn nY q1) q1), SqL.of upd_same, .cons (.inl ⟨rfl, rfl⟩) (.cons (.inl ⟨rfl, rfl⟩) .nil), ?_⟩
  exact kk _ (g2.ext (extN_new (ExtN.refl _) nY) (t2.ext fun b o h => updn (nonn nY h) h))
end
open PySem PySem.Spec PyProof.Rows LamX
open L2 hiding pass0
abbrev s_law_lists_right : Stmt := top 39
theorem sc_law_lists_right : FnScope ["_law_pot_here", "_law_span", "_law_good", "_law_bad", "_law_some", "_law_place", "_law_whole", "_law_odd", "_law_kept", "_law_told", "_law_lets", "_law_turn"] ["_law_pot_here", "_law_span"] (defScope s_law_lists_right) := ⟨rfl, rfl, rfl, by decide +kernel, rfl, by decide +kernel, by decide +kernel⟩
theorem bp_law_lists_right : BndP "_law_lists_right" s_law_lists_right ["_law_pot_here", "_law_span"] := fun _ _ _ _ _ _ us h => match us, h with | [_, _], _ => rfl
theorem call_tupK {X : Cx} {K : PySem.W.Frag} (e : X.K = K) : CallR X (.type "tuple") (fun xs H Q => ∃ p ys, xs = [V.ref p] ∧ ((SqL K H p ys ∧ ∀ l, H l = none → Q (.ref l) (upd H l (.tup ys))) ∨ (SqT K H p ys ∧ Q (.ref p) H))) := by
  subst e
  exact call_tuple_of
theorem tr_up {H : Hp} : ∀ {n : Nat} {v : V} {d : PyData}, Tr H n v d → Tr H (n + 1) v d := by
  intro n
  induction n with
  | zero => exact fun {v d} h => .inl h
  | succ n ih =>
    intro v d h
    have up : ∀ {xs : List V} {ds : List PyData}, Paired (Tr H n) xs ds → Paired (Tr H (n + 1)) xs ds := fun {xs ds} p => by
      induction p with
      | nil => exact .nil
      | cons a _ k => exact .cons (ih a) k
    rcases h with h | ⟨a, xs, ds, e1, e2, e3, e4, p⟩ | ⟨a, xs, ds, e1, e2, e3, e4, p⟩
    · exact .inl h
    · exact .inr (.inl ⟨a, xs, ds, e1, e2, e3, e4, up p⟩)
    · exact .inr (.inr ⟨a, xs, ds, e1, e2, e3, e4, up p⟩)
theorem cut_one (z : Str) (h : 0 < z.length) : (cutS z (some 1) none).length = z.length - 1 := by
  have l : z.cps.toList.length = z.length := Array.length_toList
  have e : cutS z (some ((1 : Nat) : Int)) none = SX.S (z.cps.toList.drop 1) := by
    show SX.S _ = SX.S _
    refine congrArg SX.S ?_
    show (z.cps.toList.drop (HT.sIx z.length 0 (some ((1 : Nat) : Int)))).take (z.length - HT.sIx z.length 0 (some ((1 : Nat) : Int))) = z.cps.toList.drop 1
    rw [HT.sIx_nat, Nat.min_eq_left (by omega), List.take_of_length_le (by rw [List.length_drop]; omega)]
  have e' : cutS z (some 1) none = SX.S (z.cps.toList.drop 1) := e
  rw [e', SX.S_len, List.length_drop, l]
/-- the data of the list with a bad stretch in it -/
def dTs (ts : List (List Nat)) : List PyData := ts.map fun t => .str (SX.S t)
def dSm (ts : List (List Nat)) (d : PyData) : List PyData := dTs ts ++ d :: (dTs ts ++ [.none])
def vSm (ts : List (List Nat)) (x : V) : List V := ts.map sx ++ x :: (ts.map sx ++ [.non])
theorem pair_ts {H : Hp} {vs : List V} {ds : List PyData} (p : Paired (Tr H 1) vs ds) : ∀ ts : List (List Nat), Paired (Tr H 1) (ts.map sx ++ vs) (dTs ts ++ ds)
  | [] => p
  | t :: ts => .cons (.inl (.atom rfl)) (pair_ts p ts)
theorem pair_sm {H : Hp} {x : V} {d : PyData} (o : OddD H x d) (ts : List (List Nat)) : Paired (Tr H 1) (vSm ts x) (dSm ts d) := pair_ts (.cons o.tr (pair_ts (.cons (.inl (.atom rfl)) .nil) ts)) ts
def d2 (ts : List (List Nat)) (d dw : PyData) : List PyData := [.list (dSm ts d), dw]
theorem sm_fit {n : Nat} {ts : List (List Nat)} {H : Hp} {x y : V} {d dw : PyData} (hf : Fits n ts) (hn : n ≤ 100) (hl : ts.length ≤ 3) (o : OddD H x d) (ow : OddD H y dw) : FitB 40 16018 3 (.list (d2 ts d dw)) := by
  have one : ∀ e ∈ dSm ts d, FitB 40 1000 1 e := fun e he => by
    have tx : e ∈ dTs ts → FitB 40 1000 1 e := fun q => by
      obtain ⟨t, ht, rfl⟩ := List.mem_map.mp q
      obtain ⟨hb, h2⟩ := hf t ht
      exact FitB.str (fun c hc => by rw [tl_S] at hc; rcases hb c hc with z | z <;> omega) (by rw [sx_len]; omega)
    rcases List.mem_append.mp he with q | q
    · exact tx q
    · rcases List.mem_cons.mp q with rfl | q
      · exact o.fit
      · rcases List.mem_append.mp q with q | q
        · exact tx q
        · rw [List.mem_singleton] at q
          exact q ▸ FitB.non
  have len : (dSm ts d).length ≤ 8 := by
    unfold dSm dTs
    simp only [List.length_append, List.length_cons, List.length_map, List.length_nil]
    omega
  have a : FitB 40 8008 2 (.list (dSm ts d)) := (FitB.list one).mono (by have := Nat.mul_le_mul_left 1001 len; omega) (by decide)
  refine (FitB.list (N := 8008) (D := 2) (ds := d2 ts d dw) fun e he => ?_).mono (by show 8009 * 2 ≤ 16018; decide) (by decide)
  unfold d2 at he
  simp only [List.mem_cons, List.not_mem_nil, or_false] at he
  rcases he with rfl | rfl
  · exact a
  · exact ow.fit.mono (by decide) (by decide)
/-- repr of both -/
theorem sm_go {n : Nat} {ts : List (List Nat)} {H : Hp} {L S : Addr} {x y : V} {d dw : PyData} {Q : VK} (hf : Fits n ts) (hn : n ≤ 100) (hl : ts.length ≤ 3) (o : OddD H x d) (ow : OddD H y dw) (nL : L ≠ sysModules) (nS : S ≠ sysModules)
    (eL : H L = some (.lst [.ref S, y])) (eS : H S = some (.lst (vSm ts x))) (q : Q (.str (PyData.list (d2 ts d dw)).shown) H) : rReprT [.ref L] H Q := by
  unfold rReprT
  obtain ⟨f1, f2, f3⟩ := (sm_fit hf hn hl o ow).ok (by decide) (by decide) (by decide)
  exact ⟨L, _, d2 ts d dw, 2, rfl, nL, eL, .cons (.inr (.inl ⟨S, _, _, rfl, rfl, nS, eS, pair_sm o ts⟩)) (.cons (tr_up ow.tr) .nil), f1, f2, f3, q⟩
section
variable {P : Program} {w : World} {K : PySem.W.Frag} {mg : Str → Option Value} {base : Heap}
theorem ok_lists_right {f c TP g B CW CS CA CP : Addr} {cdg : Value} {TT : List (Addr × Str)} {ocf kVf docf pmf ctf : Value} {anf odf : Option Addr} {oslf : Array (Option Value)} (lkf : K.lookup f = some ⟨ocf, odf, .func (PySem.W.fnOf "_law_lists_right" "_law_lists_right" (defArgs s_law_lists_right) (defBody s_law_lists_right) (defScope s_law_lists_right) .none kVf docf pmf anf (.ref c) ctf), oslf⟩) (hcf : PySem.W.codeIn K (.ref c) "_law_lists_right" = true) (hkf : PySem.W.keepIn K (.ref f) = true) (hmf : mg "_law_lists_right" = some (.ref f)) {ocg kVg docg pmg ctg : Value} {ang odg : Option Addr} {oslg : Array (Option Value)} (lkg : K.lookup g = some ⟨ocg, odg, .func (PySem.W.fnOf "_law_heard" "_law_heard" (defArgs s_law_heard) (defBody s_law_heard) (defScope s_law_heard) .none kVg docg pmg ang cdg ctg), oslg⟩) (hcg : PySem.W.codeIn K cdg "_law_heard" = true) (hkg : PySem.W.keepIn K (.ref g) = true) (hmg : mg "_law_heard" = some (.ref g)) (MM : Errs K mg B CW CS CA CP) (T : Txt K mg) (TB : TabB base mg c TP) (hmT : (TP, (("_law_lists_right" : Str) ++ ".<locals>.") ++ "<lambda>") ∈ TT) (huT : ∀ p ∈ TT, p.1 = TP → p.2 = (("_law_lists_right" : Str) ++ ".<locals>.") ++ "<lambda>") (c_law_bits : Nm P w K mg base CX0 3 "_law_bits" s_law_bits ["_law_pot_here", "_law_least", "_law_most"] (spBits)) (c_law_among : Nm P w K mg base CX0 2 "_law_among" s_law_among ["_law_pot_here", "_law_some"] (spAmong K)) (c_law_bad_bits : Nm P w K mg base CX0 4 "_law_bad_bits" s_law_bad_bits ["_law_pot_here", "_law_span"] (spBB)) (c_law_draw : Nm P w K mg base CX0 1 "_law_draw" s_law_draw ["_law_pot_here", "_law_many"] (spDraw)) (c_cells : Nm P w K mg base CX0 8 "cells" s_cells ["width", "stretches"] (spCells)) (c_cell_of : Nm P w K mg base CX0 7 "cell_of" s_cell_of ["width", "stretches", "address"] (spCellOf))
    (xi_cells : Nm P w K mg base (L2.CX P w) 9 "cells" s_cells ["width", "stretches"] (spX (rI CP))) (xi_cell_of : Nm P w K mg base (L2.CX P w) 8 "cell_of" s_cell_of ["width", "stretches", "address"] (spX (rB (rI CP))))
    (xn_cells : Nm P w K mg base (L2.CX P w) 9 "cells" s_cells ["width", "stretches"] (spX (rN CP))) (xn_cell_of : Nm P w K mg base (L2.CX P w) 8 "cell_of" s_cell_of ["width", "stretches", "address"] (spX (rB (rN CP))))
    (xa_cell_of : Nm P w K mg base (L2.CX P w) 8 "cell_of" s_cell_of ["width", "stretches", "address"] (spX (rZ CA))) :
    Nm P w K mg base CX0 12 "_law_lists_right" s_law_lists_right ["_law_pot_here", "_law_span"] (spWR TT) := by
  refine nm_ofL lkf hcf hkf hmf sc_law_lists_right (fun vs H Q E h => ?_) fun A outer s H vs Q E hr h => ?_
  · unfold spWR at h
    obtain ⟨p, n, rfl, _⟩ := h
    rfl
  unfold spWR at h
  obtain ⟨p, n, rfl, hp, ht, w0, w1, kk⟩ := h
  obtain ⟨N, rfl⟩ : ∃ N : Nat, n = (N : Int) := ⟨n.toNat, by omega⟩
  refine ⟨_, (pss_cons (ps_set (i := 2) sc_law_lists_right.nd rfl (by first | exact Or.inl rfl | exact Or.inr rfl) (pe_lc (own := [("_law_turn", 11)]) (g := (gName 11)) (by rfl) sc_law_lists_right.nd (pi_range1 (by rfl) T.b_range (pa_cons (pe_g c_law_draw hr (by decide) L2.pass0 bp_law_draw (by rfl) (pa_cons (pv 0) (pa_cons pe_int pa_nil))) pa_nil)) (blkOk_by (own := [("_law_turn", 11)]) (N := ["_law_pot_here", "_law_span", "_law_good", "_law_bad", "_law_some", "_law_place", "_law_whole", "_law_odd", "_law_kept", "_law_told", "_law_lets", "_law_turn"]) (sc := defScope s_law_lists_right) (by decide +kernel)) (fun _ _ _ _ _ => (pg_name (i := 11) sc_law_lists_right.nd rfl (by first | exact Or.inl rfl | exact Or.inr rfl))) (fun _ _ _ _ _ => pts_nil) (fun _ _ _ _ _ => (pe_g c_law_bits hr (by decide) L2.pass0 bp_law_bits (by rfl) (pa_cons (pv 0) (pa_cons pe_int (pa_cons (pv 1) pa_nil)))))))
      (pss_cons (ps_set (i := 3) sc_law_lists_right.nd rfl (by first | exact Or.inl rfl | exact Or.inr rfl) (pe_g c_law_among hr (by decide) L2.pass0 bp_law_among (by rfl) (pa_cons (pv 0) (pa_cons (pe_lst (pa_cons (pe_g c_law_bad_bits hr (by decide) L2.pass0 bp_law_bad_bits (by rfl) (pa_cons (pv 0) (pa_cons (pv 1) pa_nil))) (pa_cons (pe_g c_law_bits hr (by decide) L2.pass0 bp_law_bits (by rfl) (pa_cons (pv 0) (pa_cons (pe_op op_add (pv 1) pe_int) (pa_cons (pe_op op_add (pv 1) pe_int) pa_nil)))) pa_nil))) pa_nil))))
      (pss_cons (ps_set (i := 4) sc_law_lists_right.nd rfl (by first | exact Or.inl rfl | exact Or.inr rfl) (pe_op op_catN (pe_op op_cat (pe_op op_cat (pv 2) (pe_lst (pa_cons (pv 3) pa_nil))) (pv 2)) (pe_lst (pa_cons pe_non pa_nil))))
      (pss_cons (ps_asg (pe_tup (pa_cons (pe_g c_law_bits hr (by decide) L2.pass0 bp_law_bits (by rfl) (pa_cons (pv 0) (pa_cons (pv 1) (pa_cons (pv 1) pa_nil)))) (pa_cons (pe_g c_law_among hr (by decide) L2.pass0 bp_law_among (by rfl) (pa_cons (pv 0) (pa_cons (pe_lst (pa_cons pe_non (pa_cons pe_int (pa_cons pe_str (pa_cons pe_bl (pa_cons pe_dnewK (pa_cons (pe_disp (pps_cons pe_str pe_int pps_nil) (by rfl) (by rfl) (fun z => by cases z) (by decide)) (pa_cons pe_str pa_nil)))))))) pa_nil))) pa_nil))) (pg_tup (by rfl) (pgs_cons (pg_name (i := 5) sc_law_lists_right.nd rfl (by first | exact Or.inl rfl | exact Or.inr rfl)) (pgs_cons (pg_name (i := 6) sc_law_lists_right.nd rfl (by first | exact Or.inl rfl | exact Or.inr rfl)) pgs_nil))))
      (pss_cons (ps_set (i := 7) sc_law_lists_right.nd rfl (by first | exact Or.inl rfl | exact Or.inr rfl) (pe_g c_law_among hr (by decide) L2.pass0 bp_law_among (by rfl) (pa_cons (pv 0) (pa_cons (pe_lst (pa_cons (pe_g c_law_bad_bits hr (by decide) L2.pass0 bp_law_bad_bits (by rfl) (pa_cons (pv 0) (pa_cons (pv 1) pa_nil))) (pa_cons (pe_op op_add_str (pv 5) pe_str) (pa_cons (pe_slice sl_str (pv 5) (po_some pe_int) po_none) (pa_cons pe_non pa_nil))))) pa_nil))))
      (pss_cons (ps_set (i := 8) sc_law_lists_right.nd rfl (by first | exact Or.inl rfl | exact Or.inr rfl) (pe_callB (call_reprT hr.g hr.u) (by rfl) T.b_repr (by decide +kernel) (pa_cons (pe_lstN (pa_cons (pv 4) (pa_cons (pv 6) pa_nil))) pa_nil)))
      (pss_cons (ps_set (i := 9) sc_law_lists_right.nd rfl (by first | exact Or.inl rfl | exact Or.inr rfl) (pe_lst (pa_cons (pe_given (k := 9) (cdv := cdg) (g := g) lkg hcg hkg hmg (Binds.all fun us h => match us, h with | [_], _ => rfl) sc_law_heard (given_heard MM T) TB rfl hmT huT (hr.mono (by decide)) (by rfl) (lamS_by (sc := defScope s_law_lists_right) (by decide +kernel)) (by rfl) (fun _ _ _ _ _ => by rfl) (fun A1 outer1 s1 H1 E1 f1 c1 hr => (pe_g xi_cells hr (by decide) (passes_call (takes_of rfl rfl rfl rfl) fun _ _ _ _ z => z) bp_cells (by rfl) (pa_cons (pv 1) (pa_cons (pv 4) pa_nil))))) pa_nil)))
      (pss_cons (ps_expr (pe_bm PySem.F.plainAttrs_list PySem.F.slot_list_append PySem.F.type_list_append mt_append (pv 9) (pa_cons (pe_given (k := 9) (cdv := cdg) (g := g) lkg hcg hkg hmg (Binds.all fun us h => match us, h with | [_], _ => rfl) sc_law_heard (given_heard MM T) TB rfl hmT huT (hr.mono (by decide)) (by rfl) (lamS_by (sc := defScope s_law_lists_right) (by decide +kernel)) (by rfl) (fun _ _ _ _ _ => by rfl) (fun A1 outer1 s1 H1 E1 f1 c1 hr => (pe_g xi_cell_of hr (by decide) (passes_call (takes_of rfl rfl rfl rfl) fun _ _ _ _ z => z) bp_cell_of (by rfl) (pa_cons (pv 1) (pa_cons (pe_callTy (call_tupK (K := K) rfl) (by rfl) T.b_tuple (by decide +kernel) (pa_cons (pv 4) pa_nil)) (pa_cons (pv 7) pa_nil)))))) pa_nil)))
      (pss_cons (ps_if (pt_cmpR (op_neW (K := K) rfl hr.u64) (pv 9) (pe_op op_rep (pe_lst (pa_cons (pe_lst (pa_cons pe_str (pa_cons (pe_callB (call_lenK (K := K) rfl) (by rfl) T.b_len PySem.boot_len (pa_cons (pv 2) pa_nil)) (pa_cons pe_bl pa_nil)))) pa_nil)) pe_int) (nomark _)) (pss_one (ps_ret pe_bl)) pss_nil)
      (pss_cons (ps_set (i := 9) sc_law_lists_right.nd rfl (by first | exact Or.inl rfl | exact Or.inr rfl) (pe_lst (pa_cons (pe_given (k := 9) (cdv := cdg) (g := g) lkg hcg hkg hmg (Binds.all fun us h => match us, h with | [_], _ => rfl) sc_law_heard (given_heard MM T) TB rfl hmT huT (hr.mono (by decide)) (by rfl) (lamS_by (sc := defScope s_law_lists_right) (by decide +kernel)) (by rfl) (fun _ _ _ _ _ => by rfl) (fun A1 outer1 s1 H1 E1 f1 c1 hr => (pe_g xn_cells hr (by decide) (passes_call (takes_of rfl rfl rfl rfl) fun _ _ _ _ z => z) bp_cells (by rfl) (pa_cons (pv 1) (pa_cons (pv 6) pa_nil))))) pa_nil)))
      (pss_cons (ps_expr (pe_bm PySem.F.plainAttrs_list PySem.F.slot_list_append PySem.F.type_list_append mt_append (pv 9) (pa_cons (pe_given (k := 9) (cdv := cdg) (g := g) lkg hcg hkg hmg (Binds.all fun us h => match us, h with | [_], _ => rfl) sc_law_heard (given_heard MM T) TB rfl hmT huT (hr.mono (by decide)) (by rfl) (lamS_by (sc := defScope s_law_lists_right) (by decide +kernel)) (by rfl) (fun _ _ _ _ _ => by rfl) (fun A1 outer1 s1 H1 E1 f1 c1 hr => (pe_g xn_cell_of hr (by decide) (passes_call (takes_of rfl rfl rfl rfl) fun _ _ _ _ z => z) bp_cell_of (by rfl) (pa_cons (pv 1) (pa_cons (pv 6) (pa_cons (pv 7) pa_nil)))))) pa_nil)))
      (pss_cons (ps_if (PW.pt (pw_or (pt_cmpR (op_neW (K := K) rfl hr.u64) (pv 9) (pe_op op_rep (pe_lst (pa_cons (pe_lst (pa_cons pe_str (pa_cons pe_non (pa_cons pe_bl pa_nil)))) pa_nil)) pe_int) (nomark _)) (pw_or1 (pt_cmpR (op_neW (K := K) rfl hr.u64) (pe_given (k := 9) (cdv := cdg) (g := g) lkg hcg hkg hmg (Binds.all fun us h => match us, h with | [_], _ => rfl) sc_law_heard (given_heard MM T) TB rfl hmT huT (hr.mono (by decide)) (by rfl) (lamS_by (sc := defScope s_law_lists_right) (by decide +kernel)) (by rfl) (fun _ _ _ _ _ => by rfl) (fun A1 outer1 s1 H1 E1 f1 c1 hr => (pe_g xa_cell_of hr (by decide) (passes_call (takes_of rfl rfl rfl rfl) fun _ _ _ _ z => z) bp_cell_of (by rfl) (pa_cons (pv 1) (pa_cons (pv 2) (pa_cons (pv 7) pa_nil)))))) (pe_lst (pa_cons pe_str (pa_cons (pv 7) (pa_cons pe_bl pa_nil)))) (nomark _))))) (pss_one (ps_ret pe_bl)) pss_nil)
      (pss_cons (ps_set (i := 10) sc_law_lists_right.nd rfl (by first | exact Or.inl rfl | exact Or.inr rfl) (pe_lst (pa_cons (pe_ix (ix_seqK (K := K) rfl) (pe_given (k := 9) (cdv := cdg) (g := g) lkg hcg hkg hmg (Binds.all fun us h => match us, h with | [_], _ => rfl) sc_law_heard (given_heard MM T) TB rfl hmT huT (hr.mono (by decide)) (by rfl) (lamS_by (sc := defScope s_law_lists_right) (by decide +kernel)) (by rfl) (fun _ _ _ _ _ => by rfl) (fun A1 outer1 s1 H1 E1 f1 c1 hr => (pe_g c_cells hr (by decide) L2.pass0 bp_cells (by rfl) (pa_cons (pv 1) (pa_cons (pv 2) pa_nil))))) pe_int (fun _ _ => rfl)) pa_nil)))
      (pss_cons (ps_expr (pe_bm PySem.F.plainAttrs_list PySem.F.slot_list_append PySem.F.type_list_append mt_append (pv 10) (pa_cons (pe_ix (ix_seqK (K := K) rfl) (pe_given (k := 9) (cdv := cdg) (g := g) lkg hcg hkg hmg (Binds.all fun us h => match us, h with | [_], _ => rfl) sc_law_heard (given_heard MM T) TB rfl hmT huT (hr.mono (by decide)) (by rfl) (lamS_by (sc := defScope s_law_lists_right) (by decide +kernel)) (by rfl) (fun _ _ _ _ _ => by rfl) (fun A1 outer1 s1 H1 E1 f1 c1 hr => (pe_g c_cell_of hr (by decide) L2.pass0 bp_cell_of (by rfl) (pa_cons (pv 1) (pa_cons (pv 2) (pa_cons (pv 5) pa_nil)))))) pe_int (fun _ _ => rfl)) pa_nil)))
      (pss_one (ps_ret (pe_and (pe_cmpR (op_eqW (K := K) rfl hr.u64) (pv 10) (pe_lst (pa_cons pe_str (pa_cons pe_str pa_nil))) (nomark _)) (pe_one (pe_cmpR op_eq (pe_callB (call_reprT hr.g hr.u) (by rfl) T.b_repr (by decide +kernel) (pa_cons (pe_lstN (pa_cons (pv 4) (pa_cons (pv 6) pa_nil))) pa_nil)) (pv 8) (nomark _)))))))))))))))))))), ?_⟩
  -- good
  refine ⟨_, rfl, draw_go hp (by decide) (by decide) fun d H1 dd0 dd1 g1 => ?_⟩
  refine ⟨d, rfl, by omega, by omega, ?_⟩
  refine fun D nD => ?_
  have nDp := g1.pot.ne nD
  refine lc_it walk_range (fun i H' => ∃ ts : List (List Nat), H' D = some (.lst (ts.map sx)) ∧ ts.length = i ∧ i ≤ 3 ∧ Fits N ts ∧ Go p H1 H') ⟨[], upd_same, rfl, Nat.zero_le _, (fun t ht => by cases ht), (Go.refl g1.pot).new nD⟩ (fun _ _ _ _ => trivial) ?_ ?_
  · rintro i x H2 H3 hi ⟨ts, hD, hl, h3, hf, g2⟩ ⟨rfl, rfl⟩
    refine ⟨rfl, ?_⟩
    dsimp only [tYes]
    rw [if_pos rfl]
    refine ⟨_, rfl, ⟨_, rfl, bits_go g2.pot (by decide) (by omega) (by omega) fun z H4 bz _ lz g3 => ?_⟩⟩
    refine ⟨_, g3.kp hD nDp, szt (by rw [List.length_map]; omega), ts ++ [z.cps.toList], ?_, by rw [List.length_append]; rw [hl]; rfl, by omega, fun t ht => ?_, (g2.trans g3).mut nD nDp⟩
    · rw [upd_same, List.map_append, List.map_cons, List.map_nil, sx_tl]
    · rcases List.mem_append.mp ht with q | q
      · exact hf t q
      · rw [List.mem_singleton] at q
        subst q
        exact ⟨bits_BL bz, by rw [Array.length_toList]; show z.length ≤ N; omega⟩
  rintro H2 ⟨ts, hD, hl, h3, hf, g2⟩
  rw [← hl] at h3
  clear hl dd0 dd1
  have g0 := g1.trans g2
  have xD := nD
  clear g1 g2
  -- bad
  refine ⟨_, rfl, ⟨_, rfl, ⟨_, rfl, bb_go g0.pot (by omega) (by omega) fun v1 d1 H3 o1 b1 g1 => ?_⟩⟩⟩
  refine ⟨_, rfl, ⟨_, rfl, ⟨_, _, rfl, rfl, ⟨_, rfl, ⟨_, _, rfl, rfl, bits_go g1.pot (by omega) (by omega) (by omega) fun z H4 bz lz0 lz1 g2 => ?_⟩⟩⟩⟩⟩
  refine ⟨szl (Nat.le_of_ble_eq_true rfl), fun U nU => ?_⟩
  have g3 : Go p H2 (upd H4 U (.lst [v1, .str z])) := (g1.trans g2).new nU
  refine among_l g3.pot (g2.pot.ne nU) (SqL.of upd_same) (Nat.le_of_ble_eq_true rfl) (Nat.le_of_ble_eq_true rfl) fun bad hbad H5 g4 => ?_
  obtain ⟨db, ob, hs⟩ : ∃ d, OddD H5 bad d ∧ sV (N : Int) bad = false := by
    simp only [List.mem_cons, List.not_mem_nil, or_false] at hbad
    rcases hbad with rfl | rfl
    · exact ⟨d1, (((o1.go g1.pot g2).same fun b o e => updn (nonn nU e) e).go g3.pot g4), sV_of b1⟩
    · refine ⟨_, .str bz.low (by omega), ?_⟩
      show (bV _ && decide _) = false
      rw [decide_eq_false (by omega), Bool.and_false]
  have g5 := g0.trans (g3.trans g4)
  have eD := (g3.trans g4).kp hD nDp
  clear g0 g1 g2 g3 g4 o1 b1 hbad nU bz lz0 lz1 hD
  -- some
  have lts : (ts.map sx).length ≤ 3 := by rw [List.length_map]; exact h3
  refine ⟨_, rfl, ⟨_, rfl, ⟨szl (Nat.le_of_ble_eq_true rfl), fun B1 nB1 => ?_⟩⟩⟩
  have s1 : Same H5 (upd H5 B1 (.lst [bad])) := fun b o e => updn (nonn nB1 e) e
  refine ⟨D, B1, _, _, rfl, rfl, s1 _ _ eD, upd_same, szl (by show _ + 1 ≤ 1000000; omega), fun C1 nC1 => ?_⟩
  have s2 : Same H5 (upd (upd H5 B1 (.lst [bad])) C1 (.lst (ts.map sx ++ [bad]))) := fun b o e => updn (nonn nC1 (s1 _ _ e)) (s1 _ _ e)
  refine ⟨_, rfl, ⟨C1, D, _, _, rfl, rfl, upd_same, s2 _ _ eD, szl (by rw [List.length_append]; show _ + 1 + _ ≤ 1000000; omega), fun C2 nC2 => ?_⟩⟩
  have s3 : Same H5 (upd (upd (upd H5 B1 (.lst [bad])) C1 (.lst (ts.map sx ++ [bad]))) C2 (.lst (ts.map sx ++ [bad] ++ ts.map sx))) := fun b o e => updn (nonn nC2 (s2 _ _ e)) (s2 _ _ e)
  have q2 : upd (upd (upd H5 B1 (.lst [bad])) C1 (.lst (ts.map sx ++ [bad]))) C2 (.lst (ts.map sx ++ [bad] ++ ts.map sx)) C2 = some (.lst (ts.map sx ++ [bad] ++ ts.map sx)) := upd_same
  generalize upd (upd (upd H5 B1 (.lst [bad])) C1 (.lst (ts.map sx ++ [bad]))) C2 (.lst (ts.map sx ++ [bad] ++ ts.map sx)) = H6 at s3 q2 ⊢
  clear nB1 nC1 nC2 s1 s2
  refine ⟨szl (Nat.le_of_ble_eq_true rfl), fun B2 nB2 => ?_⟩
  refine ⟨C2, B2, _, _, rfl, rfl, updn (nonn nB2 q2) q2, upd_same, szl (by rw [List.length_append, List.length_append]; show _ + 1 + _ + 1 ≤ 1000000; omega), fun S nS mS => ?_⟩
  have nSp : S ≠ p := (Go.of_same g5.pot (fun b o e => updn (nonn nB2 (s3 _ _ e)) (s3 _ _ e) : Same H5 (upd H6 B2 (.lst [.non])))).pot.ne nS
  have eS0 : ts.map sx ++ [bad] ++ ts.map sx ++ [V.non] = vSm ts bad := by unfold vSm; simp
  rw [eS0]
  have s4 : Same H5 (upd (upd H6 B2 (.lst [.non])) S (.lst (vSm ts bad))) := fun b o e => updn (nonn nS (updn (nonn nB2 (s3 _ _ e)) (s3 _ _ e))) (updn (nonn nB2 (s3 _ _ e)) (s3 _ _ e))
  have eS : upd (upd H6 B2 (.lst [.non])) S (.lst (vSm ts bad)) S = some (.lst (vSm ts bad)) := upd_same
  generalize upd (upd H6 B2 (.lst [.non])) S (.lst (vSm ts bad)) = H7 at s4 eS ⊢
  have g7 : Go p H H7 := g5.trans (Go.of_same g5.pot s4)
  have eD7 := s4 _ _ eD
  have ob7 := ob.same s4
  clear s3 q2 nB2 nS eS0 eD ob g5 s4
  -- place, whole
  refine ⟨_, rfl, ⟨_, rfl, ⟨_, rfl, bits_go g7.pot (by omega) (by omega) (by omega) fun z H8 bz lz0 lz1 g8 => ?_⟩⟩⟩
  refine ⟨_, rfl, ?_⟩
  refine fun q1 n1 => ?_
  refine fun q2 n2 => ?_
  refine ⟨upd_same, [(Sum.inr "0", .int 1)], rfl, by decide, ?_⟩
  rw [upd_upd]
  refine ⟨szl (Nat.le_of_ble_eq_true rfl), fun q3 n3 => ?_⟩
  have a1 := Go.new (o := HO.dK []) g8 n1
  have a2 := Go.new (o := HO.dK [(Sum.inr "0", .int 1)]) a1 n2
  have e1 := g8.pot.ne n1
  have e2 := a1.pot.ne n2
  have e3 := a2.pot.ne n3
  refine among_l (a2.new n3).pot e3 (SqL.of upd_same) (Nat.le_of_ble_eq_true rfl) (Nat.le_of_ble_eq_true rfl) fun whole hv H9 g9 => ?_
  have g10 : Go p H7 H9 := (a2.new n3).trans g9
  obtain ⟨dw, ow, kl, kt⟩ : ∃ d, OddD H9 whole d ∧ kitB (tyN d) "list" = some false ∧ kitB (tyN d) "tuple" = some false := by
    simp only [List.mem_cons, List.not_mem_nil, or_false] at hv
    rcases hv with rfl | rfl | rfl | rfl | rfl | rfl | rfl
    · exact ⟨_, .non, by show kitB "NoneType" _ = _; decide +kernel, by show kitB "NoneType" _ = _; decide +kernel⟩
    · exact ⟨_, .int (by decide), by show kitB "int" _ = _; decide +kernel, by show kitB "int" _ = _; decide +kernel⟩
    · exact ⟨_, .str (lowOf (by decide)) (by decide), by show kitB "str" _ = _; decide +kernel, by show kitB "str" _ = _; decide +kernel⟩
    · exact ⟨_, .bl true, by show kitB "bool" _ = _; decide +kernel, by show kitB "bool" _ = _; decide +kernel⟩
    · exact ⟨_, .dct0 (g9.kp (by walk_at "hp") e1), by show kitB "dict" _ = _; decide +kernel, by show kitB "dict" _ = _; decide +kernel⟩
    · exact ⟨_, .dct1 (g9.kp (by walk_at "hp") e2), by show kitB "dict" _ = _; decide +kernel, by show kitB "dict" _ = _; decide +kernel⟩
    · exact ⟨_, .str (lowOf (by decide)) (by decide), by show kitB "str" _ = _; decide +kernel, by show kitB "str" _ = _; decide +kernel⟩
  have eD9 := g10.kp eD7 nDp
  have eS9 := g10.kp eS nSp
  have ob9 := ob7.go g7.pot g10
  have gA := g7.trans g10
  clear a1 a2 e1 e2 e3 n1 n2 n3 hv g8 g9 g10 g7 eD7 eS ob7
  refine ⟨szl (Nat.le_of_ble_eq_true rfl), fun U2 nU => ?_⟩
  refine ⟨U2, [.str z, whole], rfl, SqT.of upd_same, rfl, ⟨_, _, rfl, ⟨_, _, rfl, ⟨rfl, ?_⟩⟩⟩⟩
  have sU : Same H9 (upd H9 U2 (.tup [.str z, whole])) := fun b o e => updn (nonn nU e) e
  have gB := gA.trans (Go.of_same gA.pot sU)
  have eD := sU _ _ eD9
  have eS := sU _ _ eS9
  have ob := ob9.same sU
  have ow1 := ow.same sU
  generalize upd H9 U2 (.tup [.str z, whole]) = K0 at gB eD eS ob ow1 ⊢
  clear sU eD9 eS9 ob9 ow nU gA
  -- odd
  refine ⟨_, rfl, ⟨_, rfl, ⟨_, rfl, bb_go gB.pot (by omega) (by omega) fun v2 d2' K1 o2 b2 g1 => ?_⟩⟩⟩
  have lc1 := cut_one z (by omega)
  refine ⟨_, rfl, ⟨z, "0", rfl, rfl, szl (by show z.length + 1 ≤ 1000000; omega), ?_⟩⟩
  refine ⟨_, rfl, ⟨1, rfl, ⟨z, rfl, szl (by omega), ?_⟩⟩⟩
  refine ⟨szl (Nat.le_of_ble_eq_true rfl), fun U3 n3 => ?_⟩
  refine among_l (g1.new n3).pot (g1.pot.ne n3) (SqL.of upd_same) (Nat.le_of_ble_eq_true rfl) (Nat.le_of_ble_eq_true rfl) fun odd hv K2 g2 => ?_
  have g3 := (g1.new n3).trans g2
  obtain ⟨dd, oo, ho⟩ : ∃ d, OddD K2 odd d ∧ aV (N : Int) odd = false := by
    simp only [List.mem_cons, List.not_mem_nil, or_false] at hv
    have l0 : (z ++ ("0" : Str)).length = z.length + 1 := app_len _ _
    have b0 : Bits (z ++ ("0" : Str)) := bz.app fun c hc => .inl (List.mem_singleton.mp (show c ∈ [48] from hc))
    have b1 : Bits (cutS z (some 1) none) := fun c hc => bz c (cutS_mem hc)
    rcases hv with rfl | rfl | rfl | rfl
    · exact ⟨_, ((o2.same fun b o e => updn (nonn n3 e) e).go (g1.new n3).pot g2), aV_of b2⟩
    · refine ⟨_, .str b0.low (by omega), ?_⟩
      show (bV _ && decide _) = false
      rw [decide_eq_false (by omega), Bool.and_false]
    · refine ⟨_, .str b1.low (by omega), ?_⟩
      show (bV _ && decide _) = false
      rw [decide_eq_false (by omega), Bool.and_false]
    · exact ⟨_, .non, rfl⟩
  have gC := gB.trans g3
  have eD2 := g3.kp eD nDp
  have eS2 := g3.kp eS nSp
  have ob2 := ob.go gB.pot g3
  have ow2 := ow1.go gB.pot g3
  clear g1 g2 g3 n3 hv o2 b2 lc1 eD eS ob ow1 gB
  -- kept
  refine ⟨_, rfl, ⟨_, rfl, ⟨szl (Nat.le_of_ble_eq_true rfl), fun R1 nR mR => ?_⟩⟩⟩
  have sR : Same K2 (upd K2 R1 (.lst [.ref S, whole])) := fun b o e => updn (nonn nR e) e
  refine sm_go hf (by omega) h3 (ob2.same sR) (ow2.same sR) mR mS upd_same (sR _ _ eS2) ?_
  have gV : GoN TT p H (upd K2 R1 (.lst [.ref S, whole])) := (((GoN.refl hp ht).go gC).ext (extN_same sR) (((GoN.refl hp ht).go gC).tabs.ext sR))
  have eD := sR _ _ eD2
  have eS := sR _ _ eS2
  have ob := ob2.same sR
  have ow := ow2.same sR
  have oo1 := oo.same sR
  generalize upd K2 R1 (.lst [.ref S, whole]) = K3 at gV eD eS ob ow oo1 ⊢
  clear sR nR mR eD2 eS2 ob2 ow2 oo gC
  have w0' : 1 ≤ N := by omega
  have w1' : N ≤ 100 := by omega
  refine heard_x .p (.int (ts.length : Nat)) gV.tabs (fun E H2 Q' e2 k => ⟨_, rfl, ⟨_, rfl, x_go ⟨N, S, ts, bad, db, ts.map sx ++ [V.non], rfl, w0', w1', .inl (e2 _ _ eS nt_lst), hf, ob.ext e2, hs, rfl, rfl, rfl⟩ k⟩⟩) fun L1 H5 H6 e5 n5 e6 t6 q1 => ?_
  refine ⟨szl (Nat.le_of_ble_eq_true rfl), fun D1 nD => ?_⟩
  have h1 : Hrd TT K3 _ D1 [L1] "place" [.int (ts.length : Nat), .bl true] := .one e6 t6 q1 nD
  clear e5 n5 e6 t6 q1 nD
  refine ⟨_, rfl, ⟨.inl ⟨rfl, _, SqL.of h1.at_⟩, ?_⟩⟩
  refine heard_x .p (.int (ts.length : Nat)) h1.tabs (fun E H2 Q' e2 k => ⟨_, rfl, ⟨_, rfl, ⟨S, vSm ts bad, rfl, .inl ⟨SqL.of (e2 _ _ (h1.ext _ _ eS nt_lst) nt_lst), fun tq ntq => ⟨_, rfl, x_go ⟨.int N, .ref tq, odd, rfl, N, tq, ts, bad, db, ts.map sx ++ [V.non], rfl, w0', w1', .inr upd_same, hf, ((ob.ext h1.ext).ext e2).ext (extN_new (ExtN.refl _) ntq), hs, rfl, rfl, rfl⟩ fun H3 dd1 s3 nd => k H3 dd1 (fun b o h => s3 b o (updn (nonn ntq h) h)) nd⟩⟩⟩⟩⟩) fun L2 G2 F2 e2 n2 f2 t2 q2 => ?_
  have k2 := h1.next f2 t2 q2 (h1.ne1 e2 n2)
  refine ⟨D1, _, _, rfl, rfl, k2.1, szl (Nat.le_of_ble_eq_true rfl), ?_⟩
  have h2 := k2.2
  clear k2 e2 n2 f2 t2 q2 h1
  have hlen : ([L1] ++ [L2] : List Addr).length = 2 := rfl
  revert h2 hlen
  generalize ([L1] ++ [L2] : List Addr) = Ls
  generalize upd F2 D1 _ = G
  intro h2 hlen
  refine ⟨_, rfl, ?_⟩
  have eDG := h2.ext _ _ eD nt_lst
  refine ⟨_, rfl, ⟨_, ts.length, rfl, .inl ⟨_, SqL.of eDG, (List.length_map ..).symm⟩, ⟨szl (Nat.le_of_ble_eq_true rfl), fun I nI => ?_⟩⟩⟩
  refine ⟨szl (Nat.le_of_ble_eq_true rfl), fun O nO => ?_⟩
  refine ⟨O, 2, [.ref I], rfl, rfl, upd_same, by decide, by decide, szl (Nat.le_of_ble_eq_true rfl), fun W nW => ?_⟩
  have s1 : Same G (upd (upd (upd G I (.lst [.str "place", .int (ts.length : Nat), .bl true])) O (.lst [.ref I])) W (.lst (List.replicate (2 : Int).toNat [V.ref I]).flatten)) := fun b o e => by
    have e1 := updn (o := .lst [.str "place", .int (ts.length : Nat), .bl true]) (nonn nI e) e
    have e2 := updn (o := .lst [.ref I]) (nonn nO e1) e1
    exact updn (nonn nW e2) e2
  have eI : (upd (upd (upd G I (.lst [.str "place", .int (ts.length : Nat), .bl true])) O (.lst [.ref I])) W (.lst (List.replicate (2 : Int).toNat [V.ref I]).flatten)) I = some (.lst [.str "place", .int (ts.length : Nat), .bl true]) := by
    have e1 : upd G I (.lst [.str "place", .int (ts.length : Nat), .bl true]) I = some (.lst [.str "place", .int (ts.length : Nat), .bl true]) := upd_same
    have e2 := updn (o := .lst [.ref I]) (nonn nO e1) e1
    exact updn (nonn nW e2) e2
  have eW : (upd (upd (upd G I (.lst [.str "place", .int (ts.length : Nat), .bl true])) O (.lst [.ref I])) W (.lst (List.replicate (2 : Int).toNat [V.ref I]).flatten)) W = some (.lst (List.replicate Ls.length (V.ref I))) := by
    rw [upd_same, hlen]
    rfl
  generalize upd (upd (upd G I (.lst [.str "place", .int (ts.length : Nat), .bl true])) O (.lst [.ref I])) W (.lst (List.replicate (2 : Int).toNat [V.ref I]).flatten) = J at s1 eI eW ⊢
  have gJ : GoN TT p H J := gV.ext (fun b o e n => s1 b o (h2.ext b o e n)) (h2.tabs.ext s1)
  have xJ : ExtN _ J := fun b o e n => s1 b o (h2.ext b o e n)
  refine ⟨1, D1, W, _, _, by decide, rfl, rfl, SqL.of (s1 _ _ h2.at_), SqL.of eW, pair_rep eI (.cons (.inl ⟨rfl, rfl⟩) (.cons (.inl ⟨rfl, rfl⟩) (.cons (.inl ⟨rfl, rfl⟩) .nil))) (fun L m => s1 _ _ (h2.items L m)), ?_⟩
  clear h2 s1 eI eW nI nO nW hlen
  refine ⟨_, rfl, iteF ?_⟩
  refine heard_x .p .non gJ.tabs (fun E H2 Q' e2 k => ⟨_, rfl, ⟨_, rfl, x_go ⟨N, whole, dw, rfl, by omega, by omega, (ow.ext xJ).ext e2, kl, kt, rfl, rfl, rfl⟩ k⟩⟩) fun L1 H5 H6 e5 n5 e6 t6 q1 => ?_
  refine ⟨szl (Nat.le_of_ble_eq_true rfl), fun D2 nD => ?_⟩
  have h1 : Hrd TT J _ D2 [L1] "place" [.non, .bl true] := .one e6 t6 q1 nD
  clear e5 n5 e6 t6 q1 nD
  refine ⟨_, rfl, ⟨.inl ⟨rfl, _, SqL.of h1.at_⟩, ?_⟩⟩
  refine heard_x .p .non h1.tabs (fun E H2 Q' e2 k => ⟨_, rfl, ⟨_, rfl, ⟨_, rfl, x_go ⟨.int N, whole, odd, rfl, N, whole, dw, rfl, by omega, by omega, ((ow.ext xJ).ext h1.ext).ext e2, kl, kt, rfl, rfl, rfl⟩ k⟩⟩⟩) fun L2 G2 F2 e2 n2 f2 t2 q2 => ?_
  have k2 := h1.next f2 t2 q2 (h1.ne1 e2 n2)
  refine ⟨D2, _, _, rfl, rfl, k2.1, szl (Nat.le_of_ble_eq_true rfl), ?_⟩
  have h2 := k2.2
  clear k2 e2 n2 f2 t2 q2 h1
  have eDJ := xJ _ _ eD nt_lst
  have eSJ := xJ _ _ eS nt_lst
  have obJ := ob.ext xJ
  have owJ := ow.ext xJ
  have ooJ := oo1.ext xJ
  clear eD eS ob ow oo1 xJ
  have gW := gJ
  clear gJ gV
  have hlen : ([L1] ++ [L2] : List Addr).length = 2 := rfl
  revert h2 hlen
  generalize ([L1] ++ [L2] : List Addr) = Ls
  generalize upd F2 D2 _ = G
  intro h2 hlen
  refine ⟨_, rfl, ?_⟩
  refine ⟨szl (Nat.le_of_ble_eq_true rfl), fun I nI => ?_⟩
  refine ⟨szl (Nat.le_of_ble_eq_true rfl), fun O nO => ?_⟩
  refine ⟨O, 2, [.ref I], rfl, rfl, upd_same, by decide, by decide, szl (Nat.le_of_ble_eq_true rfl), fun W nW => ?_⟩
  have s1 : Same G (upd (upd (upd G I (.lst [.str "place", .non, .bl true])) O (.lst [.ref I])) W (.lst (List.replicate (2 : Int).toNat [V.ref I]).flatten)) := fun b o e => by
    have e1 := updn (o := .lst [.str "place", .non, .bl true]) (nonn nI e) e
    have e2 := updn (o := .lst [.ref I]) (nonn nO e1) e1
    exact updn (nonn nW e2) e2
  have eI : (upd (upd (upd G I (.lst [.str "place", .non, .bl true])) O (.lst [.ref I])) W (.lst (List.replicate (2 : Int).toNat [V.ref I]).flatten)) I = some (.lst [.str "place", .non, .bl true]) := by
    have e1 : upd G I (.lst [.str "place", .non, .bl true]) I = some (.lst [.str "place", .non, .bl true]) := upd_same
    have e2 := updn (o := .lst [.ref I]) (nonn nO e1) e1
    exact updn (nonn nW e2) e2
  have eW : (upd (upd (upd G I (.lst [.str "place", .non, .bl true])) O (.lst [.ref I])) W (.lst (List.replicate (2 : Int).toNat [V.ref I]).flatten)) W = some (.lst (List.replicate Ls.length (V.ref I))) := by
    rw [upd_same, hlen]
    rfl
  generalize upd (upd (upd G I (.lst [.str "place", .non, .bl true])) O (.lst [.ref I])) W (.lst (List.replicate (2 : Int).toNat [V.ref I]).flatten) = J2 at s1 eI eW ⊢
  have gJ : GoN TT p H J2 := gW.ext (fun b o e n => s1 b o (h2.ext b o e n)) (h2.tabs.ext s1)
  have xJ : ExtN _ J2 := fun b o e n => s1 b o (h2.ext b o e n)
  refine ⟨1, D2, W, _, _, by decide, rfl, rfl, SqL.of (s1 _ _ h2.at_), SqL.of eW, pair_rep eI (.cons (.inl ⟨rfl, rfl⟩) (.cons (.inl ⟨rfl, rfl⟩) (.cons (.inl ⟨rfl, rfl⟩) .nil))) (fun L m => s1 _ _ (h2.items L m)), ?_⟩
  clear h2 s1 eI eW nI nO nW hlen
  refine ⟨_, rfl, iteF ?_⟩
  have eD := xJ _ _ eDJ nt_lst
  have eS := xJ _ _ eSJ nt_lst
  have ob := obJ.ext xJ
  have ow := owJ.ext xJ
  have oo2 := ooJ.ext xJ
  clear eDJ eSJ obJ owJ ooJ xJ gW
  refine heard_x .a odd gJ.tabs (fun E H2 Q' e2 k => ⟨_, rfl, ⟨_, rfl, ⟨_, rfl, x_go ⟨N, D, ts, odd, dd, rfl, w0', w1', .inl (e2 _ _ eD nt_lst), hf, oo2.ext e2, ho, rfl, rfl, rfl⟩ k⟩⟩⟩) fun L1 H5 H6 e5 n5 e6 t6 q1 => ?_
  refine ⟨_, rfl, ⟨szl (Nat.le_of_ble_eq_true rfl), fun Y nY => ?_⟩⟩
  have x6 : ExtN J2 (upd H6 Y (.lst [.str "address", odd, .bl true])) := extN_new e6 nY
  have g6 := gJ.ext x6 (t6.ext fun b o h => updn (nonn nY h) h)
  refine ⟨0, L1, Y, _, _, by decide, rfl, rfl, SqL.of (updn (nonn nY q1) q1), SqL.of upd_same, .cons (.inl ⟨rfl, rfl⟩) (.cons oo2.alk (.cons (.inl ⟨rfl, rfl⟩) .nil)), ?_⟩
  refine ⟨_, rfl, iteF ?_⟩
  have eD1 := x6 _ _ eD nt_lst
  have eS1 := x6 _ _ eS nt_lst
  have ob1 := ob.ext x6
  have ow3 := ow.ext x6
  generalize upd H6 Y (.lst [.str "address", odd, .bl true]) = J3 at g6 eD1 eS1 ob1 ow3 ⊢
  clear eD eS ob ow x6 q1 e5 n5 e6 t6 nY gJ oo2
  -- lets
  refine heard_v (V0 := fun _ => True) g6.tabs (fun E H2 Q' e2 k => ⟨_, rfl, ⟨_, rfl, cells_go w0' w1' (.inl (e2 _ _ eD1 nt_lst)) hf (by omega) fun L H' s nL told => k _ _ True.intro s⟩⟩) fun L1 v1 J4 J5 _ e4 n4 e5 t5 q5 => ?_
  refine Or.inl ⟨_, _, _, _, rfl, rfl, SqL.of q5, rfl, ?_⟩
  refine ⟨szl (Nat.le_of_ble_eq_true rfl), fun D3 nD3 => ?_⟩
  have x5 := extN_new (o := .lst [.str "told"]) e5 nD3
  have t5' : Tabs TT (upd J5 D3 (.lst [.str "told"])) := t5.ext fun b o h => updn (nonn nD3 h) h
  have q3 : upd J5 D3 (.lst [.str "told"]) D3 = some (.lst [.str "told"]) := upd_same
  generalize upd J5 D3 (.lst [.str "told"]) = J6 at x5 t5' q3 ⊢
  refine ⟨_, rfl, ⟨.inl ⟨rfl, _, SqL.of q3⟩, ?_⟩⟩
  refine heard_v (V0 := fun _ => True) t5' (fun E H2 Q' e2 k => ⟨_, rfl, ⟨_, rfl, ⟨_, rfl, ?_⟩⟩⟩) fun L2 v2 J7 J8 _ e7 n7 e8 t8 q8 => ?_
  · have g := cellof_go (n := N) (a := D) (ts := ts) (z := z.cps.toList) (H := H2) (Q := Q') (E := C8.E0) w0' w1' (.inl (e2 _ _ (x5 _ _ eD1 nt_lst) nt_lst)) hf (by omega) (bits_BL bz) (by rw [Array.length_toList]; show z.length = N; omega) fun H' s => k _ _ True.intro s
    rw [sx_tl] at g
    exact g
  refine Or.inl ⟨_, _, _, _, rfl, rfl, SqL.of q8, rfl, ?_⟩
  have q3' := e8 _ _ q3 nt_lst
  refine ⟨D3, _, _, rfl, rfl, q3', szl (Nat.le_of_ble_eq_true rfl), ?_⟩
  have x9 : ExtN J3 (upd J8 D3 (.lst ([V.str "told"] ++ [V.str "told"]))) := fun b o q n => updn (nonn nD3 (e5 b o q n)) (e8 b o (x5 b o q n) n)
  have nDt : ∀ ps, J8 D3 ≠ some (.tbl ps) := fun ps z => by rw [q3'] at z; cases z
  have t9 : Tabs TT (upd J8 D3 (.lst ([V.str "told"] ++ [V.str "told"]))) := fun p hp => by
    obtain ⟨ps, q1, q2, q4⟩ := t8 p hp
    refine ⟨ps, updn (fun z => by rw [z, q3'] at q1; cases q1) q1, q2, fun pos cv hc => ?_⟩
    obtain ⟨c, c1, c2⟩ := q4 pos cv hc
    exact ⟨c, c1, updn (fun z => by rw [z, q3'] at c2; injection c2 with c2; cases c2) c2⟩
  have eS := x9 _ _ eS1 nt_lst
  have ob2 := ob1.ext x9
  have ow2 := ow3.ext x9
  have g9 := g6.ext x9 t9
  have q9 : upd J8 D3 (.lst ([V.str "told"] ++ [V.str "told"])) D3 = some (.lst [V.str "told", V.str "told"]) := upd_same
  generalize upd J8 D3 (.lst ([V.str "told"] ++ [V.str "told"])) = J9 at g9 eS ob2 ow2 q9 ⊢
  clear x9 t9 nDt eS1 ob1 ow3 q3' t8 e8
  refine ⟨_, rfl, ⟨szl (Nat.le_of_ble_eq_true rfl), fun Y9 nY => ?_⟩⟩
  have sY : Same J9 (upd J9 Y9 (.lst [V.str "told", V.str "told"])) := fun b o e => updn (nonn nY e) e
  refine ⟨0, D3, Y9, _, _, by decide, rfl, rfl, SqL.of (sY _ _ q9), SqL.of upd_same, .cons (.inl ⟨rfl, rfl⟩) (.cons (.inl ⟨rfl, rfl⟩) .nil), ?_⟩
  refine ⟨_, rfl, iteT ?_⟩
  have eS2 := sY _ _ eS
  have ob3 := ob2.same sY
  have ow4 := ow2.same sY
  have gY := g9.ext (extN_same sY) (g9.tabs.ext sY)
  generalize upd J9 Y9 (.lst [V.str "told", V.str "told"]) = J10 at gY eS2 ob3 ow4 ⊢
  refine ⟨_, rfl, ⟨_, rfl, ⟨szl (Nat.le_of_ble_eq_true rfl), fun R9 nR mR => ?_⟩⟩⟩
  have sR : Same J10 (upd J10 R9 (.lst [.ref S, whole])) := fun b o e => updn (nonn nR e) e
  refine sm_go hf (by omega) h3 (ob3.same sR) (ow4.same sR) mR mS upd_same (sR _ _ eS2) ?_
  refine ⟨_, rfl, ⟨rfl, ?_⟩⟩
  rw [decide_eq_true rfl]
  exact kk _ (gY.ext (extN_same sR) (gY.tabs.ext sR))
end
open PySem PySem.Spec PyProof.Rows L2 LamX
/-! ## the law's own call where code objects have tables, all of them empty at its start -/
theorem law_gT {P : Program} {w : World} {K : PySem.W.Frag} {mg mb : Str → Option Value} {CX : CXT} {k : Nat} {a fa : Addr} {cs : List (Addr × Addr)} {fd : FuncData} {x : Str} {sp : Sp} {s₁ : Shared} {vs : List Value} {ns : List Int}
    (KX : K.In s₁.heap) (hG : s₁.heap.Ns mainGlobals mg) (hB : s₁.heap.Ns builtinsNs mb) (hBB : ∀ x : Str, x ≠ "__name__" → mb x = bootBuiltins x) (hL : s₁.heap.NoLimit) (hgen : s₁.gens = #[])
    (hbm : ∃ (bm : Addr) (ob : Obj), mg "__builtins__" = some (.ref bm) ∧ bm ≠ builtinsNs ∧ s₁.heap.get? bm = some ob ∧ ob.cls = .type "module" ∧ ob.dict = some builtinsNs ∧ ob.data = .plain)
    (hT : ∀ p ∈ cs, s₁.heap.get? p.2 = some (PySem.W.tabObj #[])) (nT : ∀ p ∈ cs, K.lookup p.2 = none) (hC : ∀ p ∈ cs, PySem.W.CodeHd s₁.heap p.1 p.2)
    (ha : s₁.heap.get? a = some { cls := .type "list", data := .seq vs.toArray }) (hi : IntsAre vs ns) (hl : ns.length ≤ sizeLine) (hr : RoomG k callerA)
    (F : ∀ base : Heap, K.In base → base.Ns mainGlobals mg → (∀ p ∈ cs, TabB base mg p.1 p.2) → FnG P w K mg base CX k fa fd [x] sp) (hbind : ∀ (s : Shared) (u : Value), BindsTo s fd ⟨[u], []⟩ [(x, u)])
    (hsp : ∀ H : Hp, SqL K H a (ns.map V.int) → (∀ p ∈ cs, H p.2 = some (.tbl #[])) → sp [.ref a] H (fun v _ => v = .bl true) fun _ _ _ => False)
    (hCX : ∀ H e s', CX [] H s₁ (fun _ _ _ => False) e s' → False) :
    codeAny (model P w) callerA (.call (.ref fa) ⟨[.ref a], []⟩) (fun r s' => r = .ok (.ret (.bool true)) ∧ OldK s₁.heap s'.heap ∧ s'.os = s₁.os ∧ AllBare s'.gens) s₁ := by
  let so : Obj := { cls := .type "list", data := .seq vs.toArray }
  have inT : ∀ b, (∃ p ∈ cs, p.2 = b) → s₁.heap.get? b = some (PySem.W.tabObj #[]) := fun b ⟨p, hp, e⟩ => e ▸ hT p hp
  have aT : ¬ ∃ p ∈ cs, p.2 = a := fun z => by
    have q := ha.symm.trans (inT a z)
    injection q with q
    injection q with _ _ q
    cases q
  have main : ∀ H : Hp, (∀ b, H b = none ∨ (b = a ∧ K.lookup a = none ∧ H b = some (.frz so (.lst (ns.map V.int)))) ∨ ((∃ p ∈ cs, p.2 = b) ∧ H b = some (.tbl #[]))) → (∀ p ∈ cs, H p.2 = some (.tbl #[])) → SqL K H a (ns.map V.int) → HOk P w H s₁.heap →
      codeAny (model P w) callerA (.call (.ref fa) ⟨[.ref a], []⟩) (fun r s' => r = .ok (.ret (.bool true)) ∧ OldK s₁.heap s'.heap ∧ s'.os = s₁.os ∧ AllBare s'.gens) s₁ := by
    intro H only hTb hS hok
    have isNone : ∀ {b : Addr} {o : Obj}, s₁.heap.get? b = some o → (b = a → K.lookup a = none → o = so → False) → ((∃ p ∈ cs, p.2 = b) → o = PySem.W.tabObj #[] → False) → H b = none := fun {b o} e n m => by
      rcases only b with q | ⟨q1, q2, q3⟩ | ⟨q1, q2⟩
      · exact q
      · refine (n q1 q2 ?_).elim
        subst q1
        exact Option.some.inj (e.symm.trans ha)
      · exact (m q1 (Option.some.inj (e.symm.trans (inT b q1)))).elim
    have at' : ∀ {b : Addr} {o : Obj}, s₁.heap.get? b = some o → o ≠ so → o ≠ PySem.W.tabObj #[] → (hidT s₁.heap H).get? b = some o := fun {b o} e n m => hidT_get e (isNone e (fun _ _ z => n z) fun _ z => m z)
    have nsOf : ∀ {b : Addr} {m : Str → Option Value}, s₁.heap.Ns b m → (hidT s₁.heap H).Ns b m := fun {b m} ⟨o, es, ep, e, d, r⟩ =>
      ⟨o, es, ep, at' e (fun z => by subst z; cases d) (fun z => by subst z; cases d), d, r⟩
    have hK : K.In (hidT s₁.heap H) := fun b o e => hidT_get (KX b o e) (isNone (KX b o e) (fun y z _ => by subst y; rw [z] at e; cases e) fun ⟨p, hp, y⟩ _ => by subst y; rw [nT p hp] at e; cases e)
    have hM : Mod K mg (hidT s₁.heap H) := ⟨hK, nsOf hG, ⟨mb, nsOf hB, hBB⟩, hL.elim fun mc z => ⟨mc, nsOf z.1, z.2⟩⟩
    have TB : ∀ p ∈ cs, TabB (hidT s₁.heap H) mg p.1 p.2 := fun p hp => by
      refine ⟨?_, ?_, fun z => ?_⟩
      · obtain ⟨o, us, file, tf, fl, tg, inF, text, tt, e1, e2, e3, e4⟩ := hC p hp
        exact ⟨o, us, file, tf, fl, tg, inF, text, tt, at' e1 (fun z => by subst z; injection e2 with e2; exact absurd e2 (by decide)) (fun z => by subst z; cases e2), e2, e3, e4⟩
      · obtain ⟨bm, ob, b1, b2, b3, b4, b5, b6⟩ := hbm
        refine ⟨bm, ob, b1, b2, fun q => ?_, fun q => ?_, at' b3 (fun z => by subst z; injection b4 with b4; exact absurd b4 (by decide)) (fun z => by subst z; cases b4), b4, b5, b6⟩
        · obtain ⟨o, es, ep, e, d, _⟩ := hG
          rw [q, e] at b3
          cases b3
          rw [d] at b6
          cases b6
        · have z := b3.symm.trans (q ▸ hT p hp)
          cases z
          cases b4
      · obtain ⟨o, es, ep, e, d, _⟩ := hG
        have y := e.symm.trans (z ▸ hT p hp)
        cases y
        cases d
    have nofr : ∀ b : Addr, b ∉ frs ([] : List Env) := fun b z => by cases z
    have e0 : Env0 P w K mg (hidT s₁.heap H) callerA [] s₁ H := ⟨rfl, hM, fun b o e => of_hidT e, by rw [hidT_size] <;> exact Nat.le_refl _, trivial, fun b z => (nofr b z).elim, hok, .of_eq hgen⟩
    refine codeAny_mono ((F _ hK (nsOf hG) TB).run callerA [] s₁ H ⟨[.ref a], []⟩ [.ref a] [.ref a] _ _ hr e0 (hbind s₁ (.ref a)) (.cons rfl .nil) (hsp H hS hTb)) fun r s' z => ?_
    match r, z with
    | .error e, z => exact (hCX H e s' z).elim
    | .ok .next, z => exact z.elim
    | .ok .brk, z => exact z.elim
    | .ok .cont, z => exact z.elim
    | .ok (.ret u), ⟨v, H', os, bare, un, hok', rv, q⟩ =>
      obtain rfl : v = .bl true := q
      obtain rfl : u = Value.bool true := rv
      have grown : ∀ b, (∃ p ∈ cs, p.2 = b) → ∃ more : Array Value, s'.heap.get? b = some (PySem.W.tabObj more) := fun b ⟨p, hp, e⟩ => by
        subst e
        obtain ⟨more, y⟩ := un.tbls p.2 #[] (hTb p hp)
        exact ⟨_, hok' p.2 _ y⟩
      have kept : ∀ b o, s₁.heap.get? b = some o → (¬ ∃ p ∈ cs, p.2 = b) → s'.heap.get? b = some o := fun b o e n => by
        rcases only b with y | ⟨_, _, y⟩ | ⟨y, _⟩
        · exact un.keep b o e y (nofr b) (by intro c; cases c)
        · obtain ⟨e1, _⟩ := hok b _ y
          obtain ⟨e2, _⟩ := hok' b _ (un.frzs b _ _ y)
          exact e2.trans (e1.symm.trans e)
        · exact (n y).elim
      refine ⟨rfl, ⟨fun b o e => ?_, fun b o e => ?_⟩, os, bare⟩
      · rcases Classical.em (∃ p ∈ cs, p.2 = b) with y | y
        · obtain ⟨more, hm⟩ := grown b y
          have eo : o = PySem.W.tabObj #[] := Option.some.inj (e.symm.trans (inT b y))
          subst eo
          obtain ⟨p, hp, rfl⟩ := y
          exact .inr (.inl ⟨((hC p hp).tab (hT p hp)).isCodeTable, rfl, #[], more, rfl, by rw [Array.empty_append]; exact hm⟩)
        · exact .inl (kept b o e y)
      · rcases Classical.em (∃ p ∈ cs, p.2 = b) with y | y
        · obtain ⟨more, hm⟩ := grown b y
          exact ⟨_, hm⟩
        · exact ⟨o, kept b o e y⟩
  have dT : ∀ b : Addr, Decidable (∃ p ∈ cs, p.2 = b) := fun b => Classical.propDecidable _
  cases hk : K.lookup a with
  | some o =>
    have e : o = so := Option.some.inj ((KX a o hk).symm.trans ha)
    subst e
    refine main (fun b => if ∃ p ∈ cs, p.2 = b then some (.tbl #[]) else none) (fun b => ?_) (fun p hp => if_pos ⟨p, hp, rfl⟩) (.inr ⟨so, vs.toArray, _, hk, rfl, rfl, rfl, by rw [List.size_toArray, hi.length]; exact hl, by simpa using vals_ints hi⟩) fun b u z => ?_
    · by_cases y : ∃ p ∈ cs, p.2 = b
      · exact .inr (.inr ⟨y, if_pos y⟩)
      · exact .inl (if_neg y)
    · by_cases y : ∃ p ∈ cs, p.2 = b
      · obtain rfl : HO.tbl #[] = u := Option.some.inj ((if_pos y).symm.trans z)
        exact inT b y
      · have z' := (if_neg y).symm.trans z
        cases z'
  | none =>
    have at_a : (fun b : Addr => if b = a then some (HO.frz so (.lst (ns.map V.int))) else if ∃ p ∈ cs, p.2 = b then some (HO.tbl #[]) else none) a = some (HO.frz so (.lst (ns.map V.int))) := if_pos rfl
    refine main (fun b => if b = a then some (.frz so (.lst (ns.map V.int))) else if ∃ p ∈ cs, p.2 = b then some (.tbl #[]) else none) (fun b => ?_) (fun p hp => (if_neg fun z => aT ⟨p, hp, z⟩).trans (if_pos ⟨p, hp, rfl⟩)) (.inl (.inr ⟨so, at_a⟩)) fun b u z => ?_
    · by_cases y : b = a
      · exact .inr (.inl ⟨y, hk, if_pos y⟩)
      · by_cases y2 : ∃ p ∈ cs, p.2 = b
        · exact .inr (.inr ⟨y2, (if_neg y).trans (if_pos y2)⟩)
        · exact .inl ((if_neg y).trans (if_neg y2))
    · by_cases y : b = a
      · subst y
        obtain rfl : HO.frz so (.lst (ns.map V.int)) = u := Option.some.inj (at_a.symm.trans z)
        exact ⟨ha, by rw [List.length_map] <;> exact hl, vs, _, vals_ints hi, ha⟩
      · by_cases y2 : ∃ p ∈ cs, p.2 = b
        · obtain rfl : HO.tbl #[] = u := Option.some.inj (((if_neg y).trans (if_pos y2)).symm.trans z)
          exact inT b y2
        · have z' : (none : Option HO) = some u := ((if_neg y).trans (if_neg y2)).symm.trans z
          cases z'
theorem walk_gT {l : PySem.W.OpenLaw} {n k : Nat} {q : Program} {loose : List Str} {XP : (Str → Option Value) → Heap → Prop} {YP : World → Heap → Prop} {d : DefRec} {K : Params → PySem.W.Frag} {CX : World → CXT} {x : Str} {cs : List (Addr × Addr)}
    (hn : l.most = some n) (hn2 : n ≤ sizeLine) (hdf : d.params.defaults = []) (hr : RoomG k callerA) (hY : ∀ (w : World) (h : Heap), YP w h → (K w.params).In h)
    (hT : ∀ (w : World) (h : Heap), YP w h → ∀ p ∈ cs, h.get? p.2 = some (PySem.W.tabObj #[])) (nT : ∀ (w : World), ∀ p ∈ cs, (K w.params).lookup p.2 = none) (hC : ∀ (w : World), ∀ p ∈ cs, PySem.W.codeHdIn (K w.params) p.1 p.2 = true)
    (F : ∀ (w : World) (mg : Str → Option Value) (fa : Addr) (h : Heap), (K w.params).In h → h.Ns mainGlobals mg → mg d.name = some (.ref fa) →
      ∃ (fd : FuncData) (sp : Sp), (∀ (s : Shared) (u : Value), BindsTo s fd ⟨[u], []⟩ [(x, u)]) ∧
        (∀ (H : Hp) (a : Addr) (ns : List Int), ns.length ≤ n → SqL (K w.params) H a (ns.map V.int) → (∀ p ∈ cs, H p.2 = some (.tbl #[])) → sp [.ref a] H (fun v _ => v = .bl true) fun _ _ _ => False) ∧
        ∀ base : Heap, (K w.params).In base → base.Ns mainGlobals mg → (∀ p ∈ cs, TabB base mg p.1 p.2) → FnG l.prog w (K w.params) mg base (CX w) k fa fd [x] sp)
    (hCX : ∀ (w : World) (H : Hp) (s : Shared) (e : Value) (s' : Shared), CX w [] H s (fun _ _ _ => False) e s' → False) : PySem.W.WalkO q loose XP YP l.row.toRowW d [] (fun f vs => PySem.call f vs) := by
  refine Att.attach_call hn hdf fun w s₀ s₁ mg mb fa o pm cd doc a vs ns G Y ho hd hcd hmg hobj hints hlen hg => ?_
  obtain ⟨fd, sp, hb, hs, hF⟩ := F w mg fa _ (hY w _ Y) G.T.g hmg
  exact law_gT (cs := cs) (hY w _ Y) G.T.g G.T.b G.T.builtins G.T.nolimit hg G.T.bmain (hT w _ Y) (nT w) (fun p hp => PySem.W.codeHd_of_K (hY w _ Y) (hC w p hp)) hobj hints (Nat.le_trans hlen hn2) hr hF hb (fun H hS hH => hs H a ns hlen hS hH) fun H e s' => hCX w H s₁ e s'
open PySem PySem.Spec PyProof.Rows LamX
open L2 hiding pass0
abbrev s_law_right : Stmt := top 40
theorem sc_law_right : FnScope ["_law_pot_here", "_law_span"] ["_law_pot_here"] (defScope s_law_right) := ⟨rfl, rfl, rfl, by decide +kernel, rfl, by decide +kernel, by decide +kernel⟩
theorem bp_law_right : BndP "_law_right" s_law_right ["_law_pot_here"] := fun _ _ _ _ _ _ us h => match us, h with | [_], _ => rfl
abbrev s_law : Stmt := top 41
theorem sc_law : FnScope ["_law_script", "_law_k"] ["_law_script"] (defScope s_law) := ⟨rfl, rfl, rfl, by decide +kernel, rfl, by decide +kernel, by decide +kernel⟩
theorem bp_law : BndP "law" s_law ["_law_script"] := fun _ _ _ _ _ _ us h => match us, h with | [_], _ => rfl
@[irreducible] def spRightT (TT : List (Addr × Str)) : Sp := fun vs H Q _ => ∃ p : Addr, vs = [.ref p] ∧ PotAt H p ∧ Tabs TT H ∧ ∀ H', GoN TT p H H' → Q (.bl true) H'
theorem rightT_go {TT : List (Addr × Str)} {p : Addr} {H : Hp} {Q : VK} {E : XK} (hp : PotAt H p) (ht : Tabs TT H) (q : ∀ H', GoN TT p H H' → Q (.bl true) H') : spRightT TT [.ref p] H Q E := by
  unfold spRightT
  exact ⟨p, rfl, hp, ht, q⟩
def spLawT (K : PySem.W.Frag) (TT : List (Addr × Str)) : Sp := fun vs H Q _ => ∃ (a : Addr) (ns : List Int), vs = [.ref a] ∧ SqL K H a (ns.map V.int) ∧ ns.length ≤ 63 ∧ Tabs TT H ∧ ∀ H', Q (.bl true) H'
theorem all_rep : ∀ n : Nat, (List.replicate n true).all id = true
  | 0 => rfl
  | n + 1 => by rw [List.replicate_succ, List.all_cons, all_rep n]; rfl
theorem seq_extN {K : PySem.W.Frag} {H H' : Hp} {a : Addr} {xs : List V} (e : ExtN H H') (h : SqL K H a xs) : SqL K H' a xs := by
  rcases h with (h | ⟨o, h⟩) | h
  · exact .inl (.inl (e _ _ h nt_lst))
  · exact .inl (.inr ⟨o, e _ _ h fun ps z => nomatch z⟩)
  · exact .inr h
section
variable {P : Program} {w : World} {K : PySem.W.Frag} {mg : Str → Option Value} {base : Heap} {f : Addr} {fd : FuncData}
theorem ok_right {TT : List (Addr × Str)} (F : Fun K "_law_right" "_law_right" s_law_right f fd) (hm : mg "_law_right" = some (.ref f)) (T : Txt K mg) (c_law_among : Nm P w K mg base CX0 2 "_law_among" s_law_among ["_law_pot_here", "_law_some"] (spAmong K)) (c_law_told_right : Nm P w K mg base CX0 7 "_law_told_right" s_law_told_right ["_law_pot_here", "_law_span"] (spTR)) (c_law_width_right : Nm P w K mg base CX0 12 "_law_width_right" s_law_width_right ["_law_pot_here", "_law_span"] (spWR TT)) (c_law_bits_right : Nm P w K mg base CX0 12 "_law_bits_right" s_law_bits_right ["_law_pot_here", "_law_span"] (spWR TT)) (c_law_lists_right : Nm P w K mg base CX0 12 "_law_lists_right" s_law_lists_right ["_law_pot_here", "_law_span"] (spWR TT)) : Nm P w K mg base CX0 13 "_law_right" s_law_right ["_law_pot_here"] (spRightT TT) := by
  refine nm_of F hm sc_law_right (fun vs H Q E h => ?_) fun cdv A outer s H vs Q E hr h => ?_
  · unfold spRightT at h
    obtain ⟨p, rfl, _⟩ := h
    rfl
  unfold spRightT at h
  obtain ⟨p, rfl, hp, ht, kk⟩ := h
  refine ⟨_, (pss_cons (ps_set (i := 1) sc_law_right.nd rfl (by first | exact Or.inl rfl | exact Or.inr rfl) (pe_g c_law_among hr (by decide) L2.pass0 bp_law_among (by rfl) (pa_cons (pv 0) (pa_cons (pe_lst (pa_cons pe_int (pa_cons pe_int (pa_cons pe_int (pa_cons pe_int (pa_cons pe_int (pa_cons pe_int (pa_cons pe_int (pa_cons pe_int pa_nil))))))))) pa_nil))))
      (pss_cons (ps_if (PW.pt (pw_or (pt_not (pt_val (pe_g c_law_told_right hr (by decide) L2.pass0 bp_law_told_right (by rfl) (pa_cons (pv 0) (pa_cons (pv 1) pa_nil))))) (pw_or1 (pt_not (pt_val (pe_g c_law_width_right hr (by decide) L2.pass0 bp_law_width_right (by rfl) (pa_cons (pv 0) (pa_cons (pv 1) pa_nil)))))))) (pss_one (ps_ret pe_bl)) pss_nil)
      (pss_one (ps_ret (pe_and (pe_g c_law_bits_right hr (by decide) L2.pass0 bp_law_bits_right (by rfl) (pa_cons (pv 0) (pa_cons (pv 1) pa_nil))) (pe_one (pe_g c_law_lists_right hr (by decide) L2.pass0 bp_law_lists_right (by rfl) (pa_cons (pv 0) (pa_cons (pv 1) pa_nil))))))))), ?_⟩
  refine ⟨_, rfl, ?_⟩
  refine ⟨szl (Nat.le_of_ble_eq_true rfl), fun L nL => ?_⟩
  refine among_l (pot_ext hp (extN_new (ExtN.refl H) nL)) (hp.ne nL) (SqL.of upd_same) (Nat.le_of_ble_eq_true rfl) (Nat.le_of_ble_eq_true rfl) fun sp hv H1 g1 => ?_
  obtain ⟨n, rfl, n0, n1⟩ : ∃ n : Int, sp = .int n ∧ 1 ≤ n ∧ n ≤ 100 := by
    simp only [List.mem_cons, List.not_mem_nil, or_false] at hv
    rcases hv with rfl | rfl | rfl | rfl | rfl | rfl | rfl | rfl <;> exact ⟨_, rfl, by omega, by omega⟩
  have gA : GoN TT p H H1 := ((GoN.refl hp ht).ext (extN_new (ExtN.refl H) nL) (ht.ext fun b o e => updn (nonn nL e) e)).go g1
  refine ⟨_, rfl, ⟨_, rfl, tr_go gA.pot n0 n1 fun H2 g2 => ?_⟩⟩
  have gB := gA.go g2
  refine ⟨_, rfl, iteF ⟨_, rfl, ⟨_, rfl, wr_go gB.pot gB.tabs n0 n1 fun H3 g3 => ?_⟩⟩⟩
  have gC := gB.trans g3
  refine ⟨_, rfl, iteF ?_⟩
  refine ⟨_, rfl, ⟨_, rfl, wr_go gC.pot gC.tabs n0 n1 fun H4 g4 => ?_⟩⟩
  have gD := gC.trans g4
  refine ⟨_, rfl, iteT ⟨_, rfl, ⟨_, rfl, wr_go gD.pot gD.tabs n0 n1 fun H5 g5 => ?_⟩⟩⟩
  exact kk _ (gD.trans g5)
theorem ok_law {TT : List (Addr × Str)} (F : Fun K "law" "law" s_law f fd) (hm : mg "law" = some (.ref f)) (T : Txt K mg) (c_law_pot : Nm P w K mg base CX0 1 "_law_pot" s_law_pot ["_law_script", "_law_k"] (spPot K)) (c_law_right : Nm P w K mg base CX0 13 "_law_right" s_law_right ["_law_pot_here"] (spRightT TT)) : Nm P w K mg base CX0 14 "law" s_law ["_law_script"] (spLawT K TT) := by
  refine nm_of F hm sc_law (fun vs H Q E h => ?_) fun cdv A outer s H vs Q E hr h => ?_
  · obtain ⟨p, ns, rfl, _⟩ := h
    rfl
  obtain ⟨a, ns, rfl, hS, hl, hT, k⟩ := h
  refine ⟨_, (pss_one (ps_ret (pe_callB (call_allK (K := K) rfl rfl) (by rfl) T.b_all (by decide +kernel) (pa_cons (pe_lc (own := [("_law_k", 1)]) (g := (gName 1)) (by rfl) sc_law.nd (pi_range1 (by rfl) T.b_range (pa_cons (pe_callB (call_max2 rfl) (by rfl) T.b_max (by decide +kernel) (pa_cons pe_int (pa_cons (pe_callB (call_min2 rfl) (by rfl) T.b_min (by decide +kernel) (pa_cons pe_int (pa_cons (pe_callB (call_lenK (K := K) rfl) (by rfl) T.b_len PySem.boot_len (pa_cons (pv 0) pa_nil)) pa_nil))) pa_nil))) pa_nil)) (blkOk_by (own := [("_law_k", 1)]) (N := ["_law_script", "_law_k"]) (sc := defScope s_law) (by decide +kernel)) (fun _ _ _ _ _ => (pg_name (i := 1) sc_law.nd rfl (by first | exact Or.inl rfl | exact Or.inr rfl))) (fun _ _ _ _ _ => pts_nil) (fun _ _ _ _ _ => (pe_g c_law_right hr (by decide) L2.pass0 bp_law_right (by rfl) (pa_cons (pe_g c_law_pot hr (by decide) L2.pass0 bp_law_pot (by rfl) (pa_cons (pv 0) (pa_cons (pv 1) pa_nil))) pa_nil)))) pa_nil)))), ?_⟩
  have hlen : ((ns.map V.int).length : Int) = (ns.length : Int) := by rw [List.length_map]
  repeat walk_at "s1"
  rename_i D nD
  refine lc_it walk_range (fun i H1 => H1 D = some (.lst ((List.replicate i true).map V.bl)) ∧ i ≤ 5 ∧ ExtN H H1 ∧ Tabs TT H1) ⟨upd_same, by decide, extN_new (ExtN.refl H) nD, hT.ext fun b o e => updn (nonn nD e) e⟩ (fun _ _ _ _ => trivial) ?_ ?_
  · rintro i x H1 H2 hi ⟨hD, h5, sm, ht⟩ ⟨rfl, rfl⟩
    have hi4 : i < 5 := by
      have q : i < Int.toNat (if (if ((ns.map V.int).length : Int) < 5 then ((ns.map V.int).length : Int) else 5) > 1 then (if ((ns.map V.int).length : Int) < 5 then ((ns.map V.int).length : Int) else 5) else 1) := hi
      split at q <;> (try split at q) <;> omega
    refine ⟨rfl, ?_⟩
    dsimp only [tYes]
    rw [if_pos rfl]
    repeat walk_at "s1"
    refine pot_go (seq_extN sm hS) hl (by omega) (by omega) fun p H3 np hp s3 => ?_
    repeat walk_at "s1"
    refine rightT_go hp (ht.ext s3) fun H4 g4 => ?_
    have s4 : ExtN H2 H4 := fun b o e n => g4.keep b o (s3 b o e) n (nonn np e)
    have nDo : D ≠ p := nonn np hD
    have eD := s4 _ _ hD nt_lst
    refine ⟨_, eD, szt (by rw [List.length_map, List.length_replicate]; omega), ?_, by omega, fun b o e n => ?_, fun q hq => ?_⟩
    · rw [upd_same, List.replicate_succ', List.map_append]
      rfl
    · exact updn (nonn nD e) (s4 _ _ (sm _ _ e n) n)
    · obtain ⟨ps, q1, q2, q3⟩ := g4.tabs q hq
      refine ⟨ps, updn (fun z => by rw [z, eD] at q1; cases q1) q1, q2, fun pos cv hc => ?_⟩
      obtain ⟨c, c1, c2⟩ := q3 pos cv hc
      exact ⟨c, c1, updn (fun z => by rw [z, eD] at c2; injection c2 with c2; cases c2) c2⟩
  · rintro H1 ⟨hD, h5, sm, ht⟩
    refine ⟨_, _, rfl, SqL.of hD, ?_⟩
    rw [all_rep]
    exact k H1
end
open PySem PySem.Spec PyProof.Rows LamX
open L2 hiding pass0
theorem Nm.fn {P : Program} {w : World} {K : PySem.W.Frag} {mg : Str → Option Value} {base : Heap} {CX : CXT} {k : Nat} {x : Str} {st : Stmt} {ps : List Str} {sp : Sp} {f : Addr} {fd : FuncData} (c : Nm P w K mg base CX k x st ps sp) (F : Fun K x x st f fd) (hm : mg x = some (.ref f)) : FnG P w K mg base CX k f fd ps sp := by
  obtain ⟨f', fd', F', hm', G⟩ := c.ex
  obtain rfl : f' = f := by
    have e := hm'.symm.trans hm
    injection e with e
    injection e
  obtain ⟨_, _, _, _, _, _, _, _, _, _, l1, _⟩ := F.ex
  obtain ⟨_, _, _, _, _, _, _, _, _, _, l2, _⟩ := F'.ex
  have e := l2.symm.trans l1
  injection e with e
  injection e with _ _ e _
  injection e with e
  subst e
  exact G
theorem two_of {R : Rx} (h : ∀ H vs C f v, R H vs C f v → ∃ x y, vs = [x, y]) : ∀ H vs C f v, R H vs C f v → ∃ x y, vs = [x, y] := h
theorem two_W {CW : Addr} : ∀ H vs C f v, rW CW 1 H vs C f v → ∃ x y, vs = [x, y] := fun H vs C f v ⟨x, d, ys, e, l, _⟩ => by
  subst e
  match ys, l with
  | [y], _ => exact ⟨x, y, rfl⟩
theorem two_V {g : Int → V → Bool} {CS : Addr} : ∀ H vs C f v, rV g CS H vs C f v → ∃ x y, vs = [x, y] := fun H vs C f v ⟨n, x, d, e, _⟩ => ⟨_, _, e⟩
theorem two_I {CP : Addr} : ∀ H vs C f v, rI CP H vs C f v → ∃ x y, vs = [x, y] := fun H vs C f v ⟨n, a, ts, x, d, r, e, _⟩ => ⟨_, _, e⟩
theorem two_N {CP : Addr} : ∀ H vs C f v, rN CP H vs C f v → ∃ x y, vs = [x, y] := fun H vs C f v ⟨n, x, d, e, _⟩ => ⟨_, _, e⟩
abbrev qLam (x : Str) : Str := (x ++ ".<locals>.") ++ "<lambda>"
theorem all_mk {l : PySem.W.OpenLaw} {w : World} {K : PySem.W.Frag} {h : Heap} {mg : Str → Option Value} {fa B CW CS CA CP c1 c2 c3 P1 P2 P3 f0 f1 f2 f3 f4 f5 f6 f7 f8 f9 f10 f11 f12 f13 f14 f15 f16 f17 f18 f19 f20 f21 f22 f23 f24 f25 f26 f27 f28 f29 f30 f31 f32 : Addr} (X : K.In h) (G : h.Ns mainGlobals mg) (hfa : mg "law" = some (.ref fa))
    (n12 : P1 ≠ P2) (n13 : P1 ≠ P3) (n23 : P2 ≠ P3)
    {od0 an0 od1 an1 od2 an2 od3 an3 od4 an4 od5 an5 od6 an6 od7 an7 od8 an8 od9 an9 od10 an10 od11 an11 od12 an12 od13 an13 od14 an14 od15 an15 od16 an16 od17 an17 od18 an18 od19 an19 od20 an20 od21 an21 od22 an22 od23 an23 od24 an24 od25 an25 od26 an26 od27 an27 od28 an28 od29 an29 od30 an30 od31 an31 od32 an32 : Option Addr} {sl0 sl1 sl2 sl3 sl4 sl5 sl6 sl7 sl8 sl9 sl10 sl11 sl12 sl13 sl14 sl15 sl16 sl17 sl18 sl19 sl20 sl21 sl22 sl23 sl24 sl25 sl26 sl27 sl28 sl29 sl30 sl31 sl32 : Array (Option Value)} {oc0 kV0 dc0 pm0 cd0 ct0 oc1 kV1 dc1 pm1 cd1 ct1 oc2 kV2 dc2 pm2 cd2 ct2 oc3 kV3 dc3 pm3 cd3 ct3 oc4 kV4 dc4 pm4 cd4 ct4 oc5 kV5 dc5 pm5 cd5 ct5 oc6 kV6 dc6 pm6 cd6 ct6 oc7 kV7 dc7 pm7 cd7 ct7 oc8 kV8 dc8 pm8 cd8 ct8 oc9 kV9 dc9 pm9 cd9 ct9 oc10 kV10 dc10 pm10 cd10 ct10 oc11 kV11 dc11 pm11 cd11 ct11 oc12 kV12 dc12 pm12 cd12 ct12 oc13 kV13 dc13 pm13 cd13 ct13 oc14 kV14 dc14 pm14 cd14 ct14 oc15 kV15 dc15 pm15 cd15 ct15 oc16 kV16 dc16 pm16 cd16 ct16 oc17 kV17 dc17 pm17 cd17 ct17 oc18 kV18 dc18 pm18 cd18 ct18 oc19 kV19 dc19 pm19 cd19 ct19 oc20 kV20 dc20 pm20 cd20 ct20 oc21 kV21 dc21 pm21 cd21 ct21 oc22 kV22 dc22 pm22 cd22 ct22 oc23 kV23 dc23 pm23 cd23 ct23 oc24 kV24 dc24 pm24 cd24 ct24 oc25 kV25 dc25 pm25 cd25 ct25 oc26 kV26 dc26 pm26 cd26 ct26 oc27 kV27 dc27 pm27 ct27 oc28 kV28 dc28 pm28 ct28 oc29 kV29 dc29 pm29 ct29 oc30 kV30 dc30 pm30 cd30 ct30 oc31 kV31 dc31 pm31 cd31 ct31 oc32 kV32 dc32 pm32 cd32 ct32 : Value}
    (a0 : PySem.W.nsIn K mainGlobals "_law_draw" = some (some (.ref f0))) (l0 : K.lookup f0 = some ⟨oc0, od0, .func (PySem.W.fnOf "_law_draw" "_law_draw" (defArgs s_law_draw) (defBody s_law_draw) (defScope s_law_draw) .none kV0 dc0 pm0 an0 cd0 ct0), sl0⟩) (q0 : PySem.W.codeIn K cd0 "_law_draw" = true) (k0 : PySem.W.keepIn K (.ref f0) = true)
    (a1 : PySem.W.nsIn K mainGlobals "_law_pot" = some (some (.ref f1))) (l1 : K.lookup f1 = some ⟨oc1, od1, .func (PySem.W.fnOf "_law_pot" "_law_pot" (defArgs s_law_pot) (defBody s_law_pot) (defScope s_law_pot) .none kV1 dc1 pm1 an1 cd1 ct1), sl1⟩) (q1 : PySem.W.codeIn K cd1 "_law_pot" = true) (k1 : PySem.W.keepIn K (.ref f1) = true)
    (a2 : PySem.W.nsIn K mainGlobals "_law_among" = some (some (.ref f2))) (l2 : K.lookup f2 = some ⟨oc2, od2, .func (PySem.W.fnOf "_law_among" "_law_among" (defArgs s_law_among) (defBody s_law_among) (defScope s_law_among) .none kV2 dc2 pm2 an2 cd2 ct2), sl2⟩) (q2 : PySem.W.codeIn K cd2 "_law_among" = true) (k2 : PySem.W.keepIn K (.ref f2) = true)
    (a3 : PySem.W.nsIn K mainGlobals "_law_bits" = some (some (.ref f3))) (l3 : K.lookup f3 = some ⟨oc3, od3, .func (PySem.W.fnOf "_law_bits" "_law_bits" (defArgs s_law_bits) (defBody s_law_bits) (defScope s_law_bits) .none kV3 dc3 pm3 an3 cd3 ct3), sl3⟩) (q3 : PySem.W.codeIn K cd3 "_law_bits" = true) (k3 : PySem.W.keepIn K (.ref f3) = true)
    (a4 : PySem.W.nsIn K mainGlobals "is_count" = some (some (.ref f4))) (l4 : K.lookup f4 = some ⟨oc4, od4, .func (PySem.W.fnOf "is_count" "is_count" (defArgs s_is_count) (defBody s_is_count) (defScope s_is_count) .none kV4 dc4 pm4 an4 cd4 ct4), sl4⟩) (q4 : PySem.W.codeIn K cd4 "is_count" = true) (k4 : PySem.W.keepIn K (.ref f4) = true)
    (a5 : PySem.W.nsIn K mainGlobals "is_width" = some (some (.ref f5))) (l5 : K.lookup f5 = some ⟨oc5, od5, .func (PySem.W.fnOf "is_width" "is_width" (defArgs s_is_width) (defBody s_is_width) (defScope s_is_width) .none kV5 dc5 pm5 an5 cd5 ct5), sl5⟩) (q5 : PySem.W.codeIn K cd5 "is_width" = true) (k5 : PySem.W.keepIn K (.ref f5) = true)
    (a6 : PySem.W.nsIn K mainGlobals "is_bits" = some (some (.ref f6))) (l6 : K.lookup f6 = some ⟨oc6, od6, .func (PySem.W.fnOf "is_bits" "is_bits" (defArgs s_is_bits) (defBody s_is_bits) (defScope s_is_bits) .none kV6 dc6 pm6 an6 cd6 ct6), sl6⟩) (q6 : PySem.W.codeIn K cd6 "is_bits" = true) (k6 : PySem.W.keepIn K (.ref f6) = true)
    (a7 : PySem.W.nsIn K mainGlobals "check_width" = some (some (.ref f7))) (l7 : K.lookup f7 = some ⟨oc7, od7, .func (PySem.W.fnOf "check_width" "check_width" (defArgs s_check_width) (defBody s_check_width) (defScope s_check_width) .none kV7 dc7 pm7 an7 cd7 ct7), sl7⟩) (q7 : PySem.W.codeIn K cd7 "check_width" = true) (k7 : PySem.W.keepIn K (.ref f7) = true)
    (a8 : PySem.W.nsIn K mainGlobals "is_stretch" = some (some (.ref f8))) (l8 : K.lookup f8 = some ⟨oc8, od8, .func (PySem.W.fnOf "is_stretch" "is_stretch" (defArgs s_is_stretch) (defBody s_is_stretch) (defScope s_is_stretch) .none kV8 dc8 pm8 an8 cd8 ct8), sl8⟩) (q8 : PySem.W.codeIn K cd8 "is_stretch" = true) (k8 : PySem.W.keepIn K (.ref f8) = true)
    (a9 : PySem.W.nsIn K mainGlobals "is_address" = some (some (.ref f9))) (l9 : K.lookup f9 = some ⟨oc9, od9, .func (PySem.W.fnOf "is_address" "is_address" (defArgs s_is_address) (defBody s_is_address) (defScope s_is_address) .none kV9 dc9 pm9 an9 cd9 ct9), sl9⟩) (q9 : PySem.W.codeIn K cd9 "is_address" = true) (k9 : PySem.W.keepIn K (.ref f9) = true)
    (a10 : PySem.W.nsIn K mainGlobals "check_stretch" = some (some (.ref f10))) (l10 : K.lookup f10 = some ⟨oc10, od10, .func (PySem.W.fnOf "check_stretch" "check_stretch" (defArgs s_check_stretch) (defBody s_check_stretch) (defScope s_check_stretch) .none kV10 dc10 pm10 an10 cd10 ct10), sl10⟩) (q10 : PySem.W.codeIn K cd10 "check_stretch" = true) (k10 : PySem.W.keepIn K (.ref f10) = true)
    (a11 : PySem.W.nsIn K mainGlobals "check_address" = some (some (.ref f11))) (l11 : K.lookup f11 = some ⟨oc11, od11, .func (PySem.W.fnOf "check_address" "check_address" (defArgs s_check_address) (defBody s_check_address) (defScope s_check_address) .none kV11 dc11 pm11 an11 cd11 ct11), sl11⟩) (q11 : PySem.W.codeIn K cd11 "check_address" = true) (k11 : PySem.W.keepIn K (.ref f11) = true)
    (a12 : PySem.W.nsIn K mainGlobals "check_stretches" = some (some (.ref f12))) (l12 : K.lookup f12 = some ⟨oc12, od12, .func (PySem.W.fnOf "check_stretches" "check_stretches" (defArgs s_check_stretches) (defBody s_check_stretches) (defScope s_check_stretches) .none kV12 dc12 pm12 an12 cd12 ct12), sl12⟩) (q12 : PySem.W.codeIn K cd12 "check_stretches" = true) (k12 : PySem.W.keepIn K (.ref f12) = true)
    (a13 : PySem.W.nsIn K mainGlobals "number" = some (some (.ref f13))) (l13 : K.lookup f13 = some ⟨oc13, od13, .func (PySem.W.fnOf "number" "number" (defArgs s_number) (defBody s_number) (defScope s_number) .none kV13 dc13 pm13 an13 cd13 ct13), sl13⟩) (q13 : PySem.W.codeIn K cd13 "number" = true) (k13 : PySem.W.keepIn K (.ref f13) = true)
    (a14 : PySem.W.nsIn K mainGlobals "first" = some (some (.ref f14))) (l14 : K.lookup f14 = some ⟨oc14, od14, .func (PySem.W.fnOf "first" "first" (defArgs s_first) (defBody s_first) (defScope s_first) .none kV14 dc14 pm14 an14 cd14 ct14), sl14⟩) (q14 : PySem.W.codeIn K cd14 "first" = true) (k14 : PySem.W.keepIn K (.ref f14) = true)
    (a15 : PySem.W.nsIn K mainGlobals "longest_beginning" = some (some (.ref f15))) (l15 : K.lookup f15 = some ⟨oc15, od15, .func (PySem.W.fnOf "longest_beginning" "longest_beginning" (defArgs s_longest_beginning) (defBody s_longest_beginning) (defScope s_longest_beginning) .none kV15 dc15 pm15 an15 cd15 ct15), sl15⟩) (q15 : PySem.W.codeIn K cd15 "longest_beginning" = true) (k15 : PySem.W.keepIn K (.ref f15) = true)
    (a16 : PySem.W.nsIn K mainGlobals "_with_all" = some (some (.ref f16))) (l16 : K.lookup f16 = some ⟨oc16, od16, .func (PySem.W.fnOf "_with_all" "_with_all" (defArgs s_with_all) (defBody s_with_all) (defScope s_with_all) .none kV16 dc16 pm16 an16 cd16 ct16), sl16⟩) (q16 : PySem.W.codeIn K cd16 "_with_all" = true) (k16 : PySem.W.keepIn K (.ref f16) = true)
    (a17 : PySem.W.nsIn K mainGlobals "_widest_inside" = some (some (.ref f17))) (l17 : K.lookup f17 = some ⟨oc17, od17, .func (PySem.W.fnOf "_widest_inside" "_widest_inside" (defArgs s_widest_inside) (defBody s_widest_inside) (defScope s_widest_inside) .none kV17 dc17 pm17 an17 cd17 ct17), sl17⟩) (q17 : PySem.W.codeIn K cd17 "_widest_inside" = true) (k17 : PySem.W.keepIn K (.ref f17) = true)
    (a18 : PySem.W.nsIn K mainGlobals "_cell" = some (some (.ref f18))) (l18 : K.lookup f18 = some ⟨oc18, od18, .func (PySem.W.fnOf "_cell" "_cell" (defArgs s_cell) (defBody s_cell) (defScope s_cell) .none kV18 dc18 pm18 an18 cd18 ct18), sl18⟩) (q18 : PySem.W.codeIn K cd18 "_cell" = true) (k18 : PySem.W.keepIn K (.ref f18) = true)
    (a19 : PySem.W.nsIn K mainGlobals "cells" = some (some (.ref f19))) (l19 : K.lookup f19 = some ⟨oc19, od19, .func (PySem.W.fnOf "cells" "cells" (defArgs s_cells) (defBody s_cells) (defScope s_cells) .none kV19 dc19 pm19 an19 cd19 ct19), sl19⟩) (q19 : PySem.W.codeIn K cd19 "cells" = true) (k19 : PySem.W.keepIn K (.ref f19) = true)
    (a20 : PySem.W.nsIn K mainGlobals "cell_of" = some (some (.ref f20))) (l20 : K.lookup f20 = some ⟨oc20, od20, .func (PySem.W.fnOf "cell_of" "cell_of" (defArgs s_cell_of) (defBody s_cell_of) (defScope s_cell_of) .none kV20 dc20 pm20 an20 cd20 ct20), sl20⟩) (q20 : PySem.W.codeIn K cd20 "cell_of" = true) (k20 : PySem.W.keepIn K (.ref f20) = true)
    (a21 : PySem.W.nsIn K mainGlobals "last" = some (some (.ref f21))) (l21 : K.lookup f21 = some ⟨oc21, od21, .func (PySem.W.fnOf "last" "last" (defArgs s_last) (defBody s_last) (defScope s_last) .none kV21 dc21 pm21 an21 cd21 ct21), sl21⟩) (q21 : PySem.W.codeIn K cd21 "last" = true) (k21 : PySem.W.keepIn K (.ref f21) = true)
    (a22 : PySem.W.nsIn K mainGlobals "common" = some (some (.ref f22))) (l22 : K.lookup f22 = some ⟨oc22, od22, .func (PySem.W.fnOf "common" "common" (defArgs s_common) (defBody s_common) (defScope s_common) .none kV22 dc22 pm22 an22 cd22 ct22), sl22⟩) (q22 : PySem.W.codeIn K cd22 "common" = true) (k22 : PySem.W.keepIn K (.ref f22) = true)
    (a23 : PySem.W.nsIn K mainGlobals "_law_common" = some (some (.ref f23))) (l23 : K.lookup f23 = some ⟨oc23, od23, .func (PySem.W.fnOf "_law_common" "_law_common" (defArgs s_law_common) (defBody s_law_common) (defScope s_law_common) .none kV23 dc23 pm23 an23 cd23 ct23), sl23⟩) (q23 : PySem.W.codeIn K cd23 "_law_common" = true) (k23 : PySem.W.keepIn K (.ref f23) = true)
    (a24 : PySem.W.nsIn K mainGlobals "_law_bad_span" = some (some (.ref f24))) (l24 : K.lookup f24 = some ⟨oc24, od24, .func (PySem.W.fnOf "_law_bad_span" "_law_bad_span" (defArgs s_law_bad_span) (defBody s_law_bad_span) (defScope s_law_bad_span) .none kV24 dc24 pm24 an24 cd24 ct24), sl24⟩) (q24 : PySem.W.codeIn K cd24 "_law_bad_span" = true) (k24 : PySem.W.keepIn K (.ref f24) = true)
    (a25 : PySem.W.nsIn K mainGlobals "_law_bad_bits" = some (some (.ref f25))) (l25 : K.lookup f25 = some ⟨oc25, od25, .func (PySem.W.fnOf "_law_bad_bits" "_law_bad_bits" (defArgs s_law_bad_bits) (defBody s_law_bad_bits) (defScope s_law_bad_bits) .none kV25 dc25 pm25 an25 cd25 ct25), sl25⟩) (q25 : PySem.W.codeIn K cd25 "_law_bad_bits" = true) (k25 : PySem.W.keepIn K (.ref f25) = true)
    (a26 : PySem.W.nsIn K mainGlobals "_law_told_right" = some (some (.ref f26))) (l26 : K.lookup f26 = some ⟨oc26, od26, .func (PySem.W.fnOf "_law_told_right" "_law_told_right" (defArgs s_law_told_right) (defBody s_law_told_right) (defScope s_law_told_right) .none kV26 dc26 pm26 an26 cd26 ct26), sl26⟩) (q26 : PySem.W.codeIn K cd26 "_law_told_right" = true) (k26 : PySem.W.keepIn K (.ref f26) = true)
    (a27 : PySem.W.nsIn K mainGlobals "_law_width_right" = some (some (.ref f27))) (l27 : K.lookup f27 = some ⟨oc27, od27, .func (PySem.W.fnOf "_law_width_right" "_law_width_right" (defArgs s_law_width_right) (defBody s_law_width_right) (defScope s_law_width_right) .none kV27 dc27 pm27 an27 (.ref c1) ct27), sl27⟩) (q27 : PySem.W.codeIn K (.ref c1) "_law_width_right" = true) (k27 : PySem.W.keepIn K (.ref f27) = true)
    (a28 : PySem.W.nsIn K mainGlobals "_law_bits_right" = some (some (.ref f28))) (l28 : K.lookup f28 = some ⟨oc28, od28, .func (PySem.W.fnOf "_law_bits_right" "_law_bits_right" (defArgs s_law_bits_right) (defBody s_law_bits_right) (defScope s_law_bits_right) .none kV28 dc28 pm28 an28 (.ref c2) ct28), sl28⟩) (q28 : PySem.W.codeIn K (.ref c2) "_law_bits_right" = true) (k28 : PySem.W.keepIn K (.ref f28) = true)
    (a29 : PySem.W.nsIn K mainGlobals "_law_lists_right" = some (some (.ref f29))) (l29 : K.lookup f29 = some ⟨oc29, od29, .func (PySem.W.fnOf "_law_lists_right" "_law_lists_right" (defArgs s_law_lists_right) (defBody s_law_lists_right) (defScope s_law_lists_right) .none kV29 dc29 pm29 an29 (.ref c3) ct29), sl29⟩) (q29 : PySem.W.codeIn K (.ref c3) "_law_lists_right" = true) (k29 : PySem.W.keepIn K (.ref f29) = true)
    (a30 : PySem.W.nsIn K mainGlobals "_law_right" = some (some (.ref f30))) (l30 : K.lookup f30 = some ⟨oc30, od30, .func (PySem.W.fnOf "_law_right" "_law_right" (defArgs s_law_right) (defBody s_law_right) (defScope s_law_right) .none kV30 dc30 pm30 an30 cd30 ct30), sl30⟩) (q30 : PySem.W.codeIn K cd30 "_law_right" = true) (k30 : PySem.W.keepIn K (.ref f30) = true)
    (a31 : PySem.W.nsIn K mainGlobals "_law_heard" = some (some (.ref f31))) (l31 : K.lookup f31 = some ⟨oc31, od31, .func (PySem.W.fnOf "_law_heard" "_law_heard" (defArgs s_law_heard) (defBody s_law_heard) (defScope s_law_heard) .none kV31 dc31 pm31 an31 cd31 ct31), sl31⟩) (q31 : PySem.W.codeIn K cd31 "_law_heard" = true) (k31 : PySem.W.keepIn K (.ref f31) = true)
    (a32 : PySem.W.nsIn K mainGlobals "law" = some (some (.ref f32))) (l32 : K.lookup f32 = some ⟨oc32, od32, .func (PySem.W.fnOf "law" "law" (defArgs s_law) (defBody s_law) (defScope s_law) .none kV32 dc32 pm32 an32 cd32 ct32), sl32⟩) (q32 : PySem.W.codeIn K cd32 "law" = true) (k32 : PySem.W.keepIn K (.ref f32) = true)
    (z0 : PySem.W.nsIn K mainGlobals "len" = some none)
    (z1 : PySem.W.nsIn K mainGlobals "abs" = some none)
    (z2 : PySem.W.nsIn K mainGlobals "max" = some none)
    (z3 : PySem.W.nsIn K mainGlobals "min" = some none)
    (z4 : PySem.W.nsIn K mainGlobals "int" = some none)
    (z5 : PySem.W.nsIn K mainGlobals "divmod" = some none)
    (z6 : PySem.W.nsIn K mainGlobals "range" = some none)
    (z7 : PySem.W.nsIn K mainGlobals "repr" = some none)
    (z8 : PySem.W.nsIn K mainGlobals "all" = some none)
    (z9 : PySem.W.nsIn K mainGlobals "str" = some none)
    (z10 : PySem.W.nsIn K mainGlobals "bool" = some none)
    (z11 : PySem.W.nsIn K mainGlobals "isinstance" = some none)
    (z12 : PySem.W.nsIn K mainGlobals "tuple" = some none)
    (z13 : PySem.W.nsIn K mainGlobals "dict" = some none)
    (z14 : PySem.W.nsIn K mainGlobals "list" = some none)
    (z15 : PySem.W.nsIn K mainGlobals "sorted" = some none)
    (z16 : PySem.W.nsIn K mainGlobals "zip" = some none)
    (z17 : PySem.W.nsIn K mainGlobals "enumerate" = some none)
    (z18 : PySem.W.nsIn K mainGlobals "sum" = some none)
    (z19 : PySem.W.nsIn K mainGlobals "super" = some none)
    {tkM : Tok} (mM : PySem.W.nsIn K mainGlobals "MOST_WIDTH" = some (some (.int 100 tkM)))
    (aB : PySem.W.nsIn K mainGlobals "CoverError" = some (some (.ref B))) (iB : PySem.W.isClsIn K B = true) (tB : PySem.W.typeIn K (.ref B) = some (.type "type")) (hn : PySem.W.specialIn K (.builtin "object.__class__") "__get__" = some (some (.builtin "getset_descriptor.__get__"))) (ht : PySem.W.takesIn K (.builtin "object.__class__") = some true) (tp : (l.prog.main.scope.names.lookup ("super" : Str)).isSome = false) (ny : PySem.W.nsIn K cStatics "thirdparty.any" = some none)
    {nmW qW : Str} {NW fIW ccW cdaW : Addr} {bsW : List Value} {snW : List Str} {subW : List Value} {abW : Bool} {colW : Option Bool} {ddW odW anW cd1W cd2W : Option Addr} {m0W m1W m2W m3W m5W : Option Value} {ocW kVW dcW pmW ctW cl1W cl2W : Value} {oslW sl1W sl2W : Array (Option Value)} {vsW : Array Value} {fiW : Str} {tfW : Tok}
    (aCW : PySem.W.nsIn K mainGlobals "InvalidWidth" = some (some (.ref CW))) (xLW : K.lookup CW = some (excClassObj nmW qW CW NW bsW [.ref B, .type "ValueError", .type "Exception", .type "BaseException", .type "object"] true snW subW abW colW ddW m0W m1W m2W m3W m5W "ValueError.__new__")) (saW : PySem.W.findIn K (.ref CW) "__setattr__" = some (some (.builtin "object.__setattr__"))) (eCW : PySem.W.subIn K (.ref CW) (.type "BaseException") = some true) (tCW : PySem.W.typeIn K (.ref CW) = some (.type "type")) (kCW : PySem.W.keepIn K (.ref CW) = true) (iIW : PySem.W.findIn K (.ref CW) "__init__" = some (some (.ref fIW))) (tIW : PySem.W.typeIn K (.ref fIW) = some (.type "function")) (lkW : K.lookup fIW = some ⟨ocW, odW, .func (PySem.W.fnX "__init__" "InvalidWidth.__init__" (defArgs s_InvalidWidth_init) (defBody s_InvalidWidth_init) (defScope s_InvalidWidth_init) [(("__class__" : Str), ccW)] .none kVW dcW pmW anW (.ref cdaW) ctW), oslW⟩) (ceW : K.lookup ccW = some ⟨cl1W, cd1W, .cell (some (.ref CW)), sl1W⟩) (coW : K.lookup cdaW = some ⟨cl2W, cd2W, .fields vsW, sl2W⟩) (vfW : vsW[2]? = some (.str fiW tfW)) (mfW : ((l.prog.main.file : Str) == fiW) = true) (rcW : PySem.W.codeIn K (.ref cdaW) "InvalidWidth.__init__" = true) (owW : PySem.W.ks_superIn K CW CW "__init__" = some (some (.builtin "ValueError.__init__"))) (svW : PySem.W.subIn K (.ref CW) (.type "ValueError") = some true) (mrW : PySem.W.mroIn K CW (.ref CW) = some true) (noW : PySem.W.findIn K (.ref CW) "value" = some none) (gaW : PySem.W.findIn K (.ref CW) "__getattribute__" = some (some (.builtin "BaseException.__getattribute__"))) (ggW : PySem.W.findIn K (.ref CW) "__getattr__" = some none) (hdW : PySem.W.hasDictIn K CW = true) (fcW : PySem.W.findIn K (.ref CW) "__class__" = some (some (.builtin "object.__class__"))) (moW : PySem.W.mroIn K CW (.type "object") = some true) (sBW : PySem.W.subIn K (.ref CW) (.ref B) = some true)
    {nmS qS : Str} {NS fIS ccS cdaS : Addr} {bsS : List Value} {snS : List Str} {subS : List Value} {abS : Bool} {colS : Option Bool} {ddS odS anS cd1S cd2S : Option Addr} {m0S m1S m2S m3S m5S : Option Value} {ocS kVS dcS pmS ctS cl1S cl2S : Value} {oslS sl1S sl2S : Array (Option Value)} {vsS : Array Value} {fiS : Str} {tfS : Tok}
    (aCS : PySem.W.nsIn K mainGlobals "InvalidStretch" = some (some (.ref CS))) (xLS : K.lookup CS = some (excClassObj nmS qS CS NS bsS [.ref B, .type "ValueError", .type "Exception", .type "BaseException", .type "object"] true snS subS abS colS ddS m0S m1S m2S m3S m5S "ValueError.__new__")) (saS : PySem.W.findIn K (.ref CS) "__setattr__" = some (some (.builtin "object.__setattr__"))) (eCS : PySem.W.subIn K (.ref CS) (.type "BaseException") = some true) (tCS : PySem.W.typeIn K (.ref CS) = some (.type "type")) (kCS : PySem.W.keepIn K (.ref CS) = true) (iIS : PySem.W.findIn K (.ref CS) "__init__" = some (some (.ref fIS))) (tIS : PySem.W.typeIn K (.ref fIS) = some (.type "function")) (lkS : K.lookup fIS = some ⟨ocS, odS, .func (PySem.W.fnX "__init__" "InvalidStretch.__init__" (defArgs s_InvalidStretch_init) (defBody s_InvalidStretch_init) (defScope s_InvalidStretch_init) [(("__class__" : Str), ccS)] .none kVS dcS pmS anS (.ref cdaS) ctS), oslS⟩) (ceS : K.lookup ccS = some ⟨cl1S, cd1S, .cell (some (.ref CS)), sl1S⟩) (coS : K.lookup cdaS = some ⟨cl2S, cd2S, .fields vsS, sl2S⟩) (vfS : vsS[2]? = some (.str fiS tfS)) (mfS : ((l.prog.main.file : Str) == fiS) = true) (rcS : PySem.W.codeIn K (.ref cdaS) "InvalidStretch.__init__" = true) (owS : PySem.W.ks_superIn K CS CS "__init__" = some (some (.builtin "ValueError.__init__"))) (svS : PySem.W.subIn K (.ref CS) (.type "ValueError") = some true) (mrS : PySem.W.mroIn K CS (.ref CS) = some true) (noS : PySem.W.findIn K (.ref CS) "value" = some none) (gaS : PySem.W.findIn K (.ref CS) "__getattribute__" = some (some (.builtin "BaseException.__getattribute__"))) (ggS : PySem.W.findIn K (.ref CS) "__getattr__" = some none) (hdS : PySem.W.hasDictIn K CS = true) (fcS : PySem.W.findIn K (.ref CS) "__class__" = some (some (.builtin "object.__class__"))) (moS : PySem.W.mroIn K CS (.type "object") = some true) (sBS : PySem.W.subIn K (.ref CS) (.ref B) = some true)
    {nmA qA : Str} {NA fIA ccA cdaA : Addr} {bsA : List Value} {snA : List Str} {subA : List Value} {abA : Bool} {colA : Option Bool} {ddA odA anA cd1A cd2A : Option Addr} {m0A m1A m2A m3A m5A : Option Value} {ocA kVA dcA pmA ctA cl1A cl2A : Value} {oslA sl1A sl2A : Array (Option Value)} {vsA : Array Value} {fiA : Str} {tfA : Tok}
    (aCA : PySem.W.nsIn K mainGlobals "InvalidAddress" = some (some (.ref CA))) (xLA : K.lookup CA = some (excClassObj nmA qA CA NA bsA [.ref B, .type "ValueError", .type "Exception", .type "BaseException", .type "object"] true snA subA abA colA ddA m0A m1A m2A m3A m5A "ValueError.__new__")) (saA : PySem.W.findIn K (.ref CA) "__setattr__" = some (some (.builtin "object.__setattr__"))) (eCA : PySem.W.subIn K (.ref CA) (.type "BaseException") = some true) (tCA : PySem.W.typeIn K (.ref CA) = some (.type "type")) (kCA : PySem.W.keepIn K (.ref CA) = true) (iIA : PySem.W.findIn K (.ref CA) "__init__" = some (some (.ref fIA))) (tIA : PySem.W.typeIn K (.ref fIA) = some (.type "function")) (lkA : K.lookup fIA = some ⟨ocA, odA, .func (PySem.W.fnX "__init__" "InvalidAddress.__init__" (defArgs s_InvalidAddress_init) (defBody s_InvalidAddress_init) (defScope s_InvalidAddress_init) [(("__class__" : Str), ccA)] .none kVA dcA pmA anA (.ref cdaA) ctA), oslA⟩) (ceA : K.lookup ccA = some ⟨cl1A, cd1A, .cell (some (.ref CA)), sl1A⟩) (coA : K.lookup cdaA = some ⟨cl2A, cd2A, .fields vsA, sl2A⟩) (vfA : vsA[2]? = some (.str fiA tfA)) (mfA : ((l.prog.main.file : Str) == fiA) = true) (rcA : PySem.W.codeIn K (.ref cdaA) "InvalidAddress.__init__" = true) (owA : PySem.W.ks_superIn K CA CA "__init__" = some (some (.builtin "ValueError.__init__"))) (svA : PySem.W.subIn K (.ref CA) (.type "ValueError") = some true) (mrA : PySem.W.mroIn K CA (.ref CA) = some true) (noA : PySem.W.findIn K (.ref CA) "value" = some none) (gaA : PySem.W.findIn K (.ref CA) "__getattribute__" = some (some (.builtin "BaseException.__getattribute__"))) (ggA : PySem.W.findIn K (.ref CA) "__getattr__" = some none) (hdA : PySem.W.hasDictIn K CA = true) (fcA : PySem.W.findIn K (.ref CA) "__class__" = some (some (.builtin "object.__class__"))) (moA : PySem.W.mroIn K CA (.type "object") = some true) (sBA : PySem.W.subIn K (.ref CA) (.ref B) = some true)
    {nmP qP : Str} {NP fIP ccP cdaP : Addr} {bsP : List Value} {snP : List Str} {subP : List Value} {abP : Bool} {colP : Option Bool} {ddP odP anP cd1P cd2P : Option Addr} {m0P m1P m2P m3P m5P : Option Value} {ocP kVP dcP pmP ctP cl1P cl2P : Value} {oslP sl1P sl2P : Array (Option Value)} {vsP : Array Value} {fiP : Str} {tfP : Tok}
    (aCP : PySem.W.nsIn K mainGlobals "InvalidStretches" = some (some (.ref CP))) (xLP : K.lookup CP = some (excClassObj nmP qP CP NP bsP [.ref B, .type "ValueError", .type "Exception", .type "BaseException", .type "object"] true snP subP abP colP ddP m0P m1P m2P m3P m5P "ValueError.__new__")) (saP : PySem.W.findIn K (.ref CP) "__setattr__" = some (some (.builtin "object.__setattr__"))) (eCP : PySem.W.subIn K (.ref CP) (.type "BaseException") = some true) (tCP : PySem.W.typeIn K (.ref CP) = some (.type "type")) (kCP : PySem.W.keepIn K (.ref CP) = true) (iIP : PySem.W.findIn K (.ref CP) "__init__" = some (some (.ref fIP))) (tIP : PySem.W.typeIn K (.ref fIP) = some (.type "function")) (lkP : K.lookup fIP = some ⟨ocP, odP, .func (PySem.W.fnX "__init__" "InvalidStretches.__init__" (defArgs s_InvalidStretches_init) (defBody s_InvalidStretches_init) (defScope s_InvalidStretches_init) [(("__class__" : Str), ccP)] .none kVP dcP pmP anP (.ref cdaP) ctP), oslP⟩) (ceP : K.lookup ccP = some ⟨cl1P, cd1P, .cell (some (.ref CP)), sl1P⟩) (coP : K.lookup cdaP = some ⟨cl2P, cd2P, .fields vsP, sl2P⟩) (vfP : vsP[2]? = some (.str fiP tfP)) (mfP : ((l.prog.main.file : Str) == fiP) = true) (rcP : PySem.W.codeIn K (.ref cdaP) "InvalidStretches.__init__" = true) (owP : PySem.W.ks_superIn K CP CP "__init__" = some (some (.builtin "ValueError.__init__"))) (svP : PySem.W.subIn K (.ref CP) (.type "ValueError") = some true) (mrP : PySem.W.mroIn K CP (.ref CP) = some true) (noP : PySem.W.findIn K (.ref CP) "position" = some none) (gaP : PySem.W.findIn K (.ref CP) "__getattribute__" = some (some (.builtin "BaseException.__getattribute__"))) (ggP : PySem.W.findIn K (.ref CP) "__getattr__" = some none) (hdP : PySem.W.hasDictIn K CP = true) (fcP : PySem.W.findIn K (.ref CP) "__class__" = some (some (.builtin "object.__class__"))) (moP : PySem.W.mroIn K CP (.type "object") = some true) (sBP : PySem.W.subIn K (.ref CP) (.ref B) = some true)
    (sWW : PySem.W.subIn K (.ref CW) (.ref CW) = some true)
    (sSW : PySem.W.subIn K (.ref CS) (.ref CW) = some false)
    (sSS : PySem.W.subIn K (.ref CS) (.ref CS) = some true)
    (sAW : PySem.W.subIn K (.ref CA) (.ref CW) = some false)
    (sAS : PySem.W.subIn K (.ref CA) (.ref CS) = some false)
    (sAA : PySem.W.subIn K (.ref CA) (.ref CA) = some true)
    (sPW : PySem.W.subIn K (.ref CP) (.ref CW) = some false)
    (sPS : PySem.W.subIn K (.ref CP) (.ref CS) = some false)
    (sPA : PySem.W.subIn K (.ref CP) (.ref CA) = some false)
    (sPP : PySem.W.subIn K (.ref CP) (.ref CP) = some true)
    : ∃ (fd : FuncData) (sp : Sp), (∀ (s : Shared) (v : Value), BindsTo s fd ⟨[v], []⟩ [("_law_script", v)]) ∧
      (∀ (H : Hp) (a : Addr) (ns : List Int), ns.length ≤ 63 → SqL K H a (ns.map V.int) → (∀ p ∈ [(c1, P1), (c2, P2), (c3, P3)], H p.2 = some (.tbl #[])) → sp [.ref a] H (fun v _ => v = .bl true) fun _ _ _ => False) ∧
      ∀ base : Heap, K.In base → base.Ns mainGlobals mg → (∀ p ∈ [(c1, P1), (c2, P2), (c3, P3)], TabB base mg p.1 p.2) → FnG l.prog w K mg base CX0 14 fa fd ["_law_script"] sp := by
  have e := hfa.symm.trans (PySem.W.mg_of X G a32)
  cases e
  have T : Txt K mg := ⟨PySem.W.mg_none_of X G z0, PySem.W.mg_none_of X G z1, PySem.W.mg_none_of X G z2, PySem.W.mg_none_of X G z3, PySem.W.mg_none_of X G z4, PySem.W.mg_none_of X G z5, PySem.W.mg_none_of X G z6, PySem.W.mg_none_of X G z7, PySem.W.mg_none_of X G z8, PySem.W.mg_none_of X G z9, PySem.W.mg_none_of X G z10, PySem.W.mg_none_of X G z11, PySem.W.mg_none_of X G z12, PySem.W.mg_none_of X G z13, PySem.W.mg_none_of X G z14, PySem.W.mg_none_of X G z15, PySem.W.mg_none_of X G z16, PySem.W.mg_none_of X G z17, PySem.W.mg_none_of X G z18, PySem.W.mg_none_of X G z19⟩
  have C : Cst K mg := ⟨⟨_, PySem.W.mg_of X G mM, ⟨_, rfl⟩⟩⟩
  have oxW : OexC K CW := ⟨⟨nmW, qW, NW, bsW, _, snW, subW, abW, colW, ddW, m0W, m1W, m2W, m3W, m5W, xLW, rfl⟩, saW, eCW, tCW, kCW⟩
  have SW : SupX.SupF K l.prog CW ccW cdaW "InvalidWidth.__init__" := ⟨oxW, ⟨_, _, _, ceW⟩, ⟨_, _, _, _, fiW, _, coW, vfW, mfW⟩, rcW, tp, ny, owW, svW, mrW⟩
  have KW : ErrK K CW B "value" := ⟨⟨gaW, ggW, eCW, hdW⟩, noW, ⟨gaW, ggW, eCW, hdW, fcW, hn, ht, moW⟩, kitYes iB tB sBW⟩
  have oxS : OexC K CS := ⟨⟨nmS, qS, NS, bsS, _, snS, subS, abS, colS, ddS, m0S, m1S, m2S, m3S, m5S, xLS, rfl⟩, saS, eCS, tCS, kCS⟩
  have SS : SupX.SupF K l.prog CS ccS cdaS "InvalidStretch.__init__" := ⟨oxS, ⟨_, _, _, ceS⟩, ⟨_, _, _, _, fiS, _, coS, vfS, mfS⟩, rcS, tp, ny, owS, svS, mrS⟩
  have KS : ErrK K CS B "value" := ⟨⟨gaS, ggS, eCS, hdS⟩, noS, ⟨gaS, ggS, eCS, hdS, fcS, hn, ht, moS⟩, kitYes iB tB sBS⟩
  have oxA : OexC K CA := ⟨⟨nmA, qA, NA, bsA, _, snA, subA, abA, colA, ddA, m0A, m1A, m2A, m3A, m5A, xLA, rfl⟩, saA, eCA, tCA, kCA⟩
  have SA : SupX.SupF K l.prog CA ccA cdaA "InvalidAddress.__init__" := ⟨oxA, ⟨_, _, _, ceA⟩, ⟨_, _, _, _, fiA, _, coA, vfA, mfA⟩, rcA, tp, ny, owA, svA, mrA⟩
  have KA : ErrK K CA B "value" := ⟨⟨gaA, ggA, eCA, hdA⟩, noA, ⟨gaA, ggA, eCA, hdA, fcA, hn, ht, moA⟩, kitYes iB tB sBA⟩
  have oxP : OexC K CP := ⟨⟨nmP, qP, NP, bsP, _, snP, subP, abP, colP, ddP, m0P, m1P, m2P, m3P, m5P, xLP, rfl⟩, saP, eCP, tCP, kCP⟩
  have SP : SupX.SupF K l.prog CP ccP cdaP "InvalidStretches.__init__" := ⟨oxP, ⟨_, _, _, ceP⟩, ⟨_, _, _, _, fiP, _, coP, vfP, mfP⟩, rcP, tp, ny, owP, svP, mrP⟩
  have KP : ErrK K CP B "position" := ⟨⟨gaP, ggP, eCP, hdP⟩, noP, ⟨gaP, ggP, eCP, hdP, fcP, hn, ht, moP⟩, kitYes iB tB sBP⟩
  have MM : Errs K mg B CW CS CA CP := ⟨⟨_, PySem.W.mg_of X G aB, rfl⟩, PySem.W.mg_of X G aCW, PySem.W.mg_of X G aCS, PySem.W.mg_of X G aCA, PySem.W.mg_of X G aCP, KW, KS, KA, KP, PySem.W.exm_ref eCW hdW tCW sWW, PySem.W.exm_ref eCW hdW tCW sSW, PySem.W.exm_ref eCS hdS tCS sSS, PySem.W.exm_ref eCW hdW tCW sAW, PySem.W.exm_ref eCS hdS tCS sAS, PySem.W.exm_ref eCA hdA tCA sAA, PySem.W.exm_ref eCW hdW tCW sPW, PySem.W.exm_ref eCS hdS tCS sPS, PySem.W.exm_ref eCA hdA tCA sPA, PySem.W.exm_ref eCP hdP tCP sPP⟩
  refine ⟨PySem.W.fnOf "law" "law" (defArgs s_law) (defBody s_law) (defScope s_law) .none kV32 dc32 pm32 an32 cd32 ct32, spLawT K [(P1, qLam "_law_width_right"), (P2, qLam "_law_bits_right"), (P3, qLam "_law_lists_right")], fun s v => .of_eq rfl, fun H a ns hl hs hp => ⟨a, ns, rfl, hs, hl, ?_, fun _ => rfl⟩, fun base _ _ TB => ?_⟩
  · intro p hp'
    simp only [List.mem_cons, List.not_mem_nil, or_false] at hp'
    rcases hp' with rfl | rfl | rfl
    · exact TabS.nil (hp _ (.head _))
    · exact TabS.nil (hp _ (.tail _ (.head _)))
    · exact TabS.nil (hp _ (.tail _ (.tail _ (.head _))))
  have F0 := fun_mk (st := s_law_draw) l0 q0 k0
  have F1 := fun_mk (st := s_law_pot) l1 q1 k1
  have F2 := fun_mk (st := s_law_among) l2 q2 k2
  have F3 := fun_mk (st := s_law_bits) l3 q3 k3
  have F4 := fun_mk (st := s_is_count) l4 q4 k4
  have F5 := fun_mk (st := s_is_width) l5 q5 k5
  have F6 := fun_mk (st := s_is_bits) l6 q6 k6
  have F7 := fun_mk (st := s_check_width) l7 q7 k7
  have F8 := fun_mk (st := s_is_stretch) l8 q8 k8
  have F9 := fun_mk (st := s_is_address) l9 q9 k9
  have F10 := fun_mk (st := s_check_stretch) l10 q10 k10
  have F11 := fun_mk (st := s_check_address) l11 q11 k11
  have F12 := fun_mk (st := s_check_stretches) l12 q12 k12
  have F13 := fun_mk (st := s_number) l13 q13 k13
  have F14 := fun_mk (st := s_first) l14 q14 k14
  have F15 := fun_mk (st := s_longest_beginning) l15 q15 k15
  have F16 := fun_mk (st := s_with_all) l16 q16 k16
  have F17 := fun_mk (st := s_widest_inside) l17 q17 k17
  have F18 := fun_mk (st := s_cell) l18 q18 k18
  have F19 := fun_mk (st := s_cells) l19 q19 k19
  have F20 := fun_mk (st := s_cell_of) l20 q20 k20
  have F21 := fun_mk (st := s_last) l21 q21 k21
  have F22 := fun_mk (st := s_common) l22 q22 k22
  have F23 := fun_mk (st := s_law_common) l23 q23 k23
  have F24 := fun_mk (st := s_law_bad_span) l24 q24 k24
  have F25 := fun_mk (st := s_law_bad_bits) l25 q25 k25
  have F26 := fun_mk (st := s_law_told_right) l26 q26 k26
  have F27 := fun_mk (st := s_law_width_right) l27 q27 k27
  have F28 := fun_mk (st := s_law_bits_right) l28 q28 k28
  have F29 := fun_mk (st := s_law_lists_right) l29 q29 k29
  have F30 := fun_mk (st := s_law_right) l30 q30 k30
  have F31 := fun_mk (st := s_law_heard) l31 q31 k31
  have F32 := fun_mk (st := s_law) l32 q32 k32
  have eW : ErrC l.prog w K mg base "InvalidWidth" CW "value" := err_InvalidWidth lkW SW T.b_super noW iIW tIW (PySem.W.mg_of X G aCW)
  have eS : ErrC l.prog w K mg base "InvalidStretch" CS "value" := err_InvalidStretch lkS SS T.b_super noS iIS tIS (PySem.W.mg_of X G aCS)
  have eA : ErrC l.prog w K mg base "InvalidAddress" CA "value" := err_InvalidAddress lkA SA T.b_super noA iIA tIA (PySem.W.mg_of X G aCA)
  have eP : ErrC l.prog w K mg base "InvalidStretches" CP "position" := err_InvalidStretches lkP SP T.b_super noP iIP tIP (PySem.W.mg_of X G aCP)
  have n_ok_law_draw := ok_draw (P := l.prog) (w := w) (base := base) F0 (PySem.W.mg_of X G a0) T
  have n_ok_law_pot := ok_pot (P := l.prog) (w := w) (base := base) F1 (PySem.W.mg_of X G a1) T
  have n_ok_law_among := ok_among (P := l.prog) (w := w) (base := base) F2 (PySem.W.mg_of X G a2) T n_ok_law_draw
  have n_ok_law_bits := ok_bits (P := l.prog) (w := w) (base := base) F3 (PySem.W.mg_of X G a3) T n_ok_law_draw n_ok_law_among
  have n_ok_is_count := ok_is_count (P := l.prog) (w := w) (base := base) F4 (PySem.W.mg_of X G a4) T
  have n_ok_is_width := ok_is_width (P := l.prog) (w := w) (base := base) F5 (PySem.W.mg_of X G a5) T C n_ok_is_count
  have n_ok_is_bits := ok_is_bits (P := l.prog) (w := w) (base := base) F6 (PySem.W.mg_of X G a6) T
  have n_ok_check_width := ok_check_width (P := l.prog) (w := w) (base := base) F7 (PySem.W.mg_of X G a7) T n_ok_is_width
  have n_ok_is_stretch := ok_is_stretch (P := l.prog) (w := w) (base := base) F8 (PySem.W.mg_of X G a8) T n_ok_check_width n_ok_is_bits
  have n_ok_is_address := ok_is_address (P := l.prog) (w := w) (base := base) F9 (PySem.W.mg_of X G a9) T n_ok_is_stretch
  have n_ok_check_stretch := ok_check_stretch (P := l.prog) (w := w) (base := base) F10 (PySem.W.mg_of X G a10) T n_ok_is_stretch
  have n_ok_check_address := ok_check_address (P := l.prog) (w := w) (base := base) F11 (PySem.W.mg_of X G a11) T n_ok_is_address
  have n_ok_check_stretches := ok_check_stretches (P := l.prog) (w := w) (base := base) F12 (PySem.W.mg_of X G a12) T n_ok_check_width n_ok_is_stretch
  have n_ok_number := ok_number (P := l.prog) (w := w) (base := base) F13 (PySem.W.mg_of X G a13) T n_ok_check_stretch
  have n_ok_first := ok_first (P := l.prog) (w := w) (base := base) F14 (PySem.W.mg_of X G a14) T n_ok_check_stretch
  have n_ok_longest_beginning := ok_longest (P := l.prog) (w := w) (base := base) F15 (PySem.W.mg_of X G a15) T
  have n_ok_with_all := ok_with_all (P := l.prog) (w := w) (base := base) F16 (PySem.W.mg_of X G a16) T
  have n_ok_widest_inside := ok_widest (P := l.prog) (w := w) (base := base) F17 (PySem.W.mg_of X G a17) T n_ok_longest_beginning
  have n_ok_cell := ok_cell (P := l.prog) (w := w) (base := base) F18 (PySem.W.mg_of X G a18) T n_ok_number n_ok_first
  have n_ok_cells := ok_cells (P := l.prog) (w := w) (base := base) F19 (PySem.W.mg_of X G a19) T n_ok_check_stretches n_ok_with_all n_ok_widest_inside n_ok_cell
  have n_ok_cell_of := ok_cell_of (P := l.prog) (w := w) (base := base) F20 (PySem.W.mg_of X G a20) T n_ok_check_stretches n_ok_check_address n_ok_with_all n_ok_longest_beginning
  have n_oo_is_count := oo_is_count (P := l.prog) (w := w) (base := base) F4 (PySem.W.mg_of X G a4) T
  have n_oo_is_width := oo_is_width (P := l.prog) (w := w) (base := base) F5 (PySem.W.mg_of X G a5) T C n_oo_is_count
  have n_oo_check_width := oo_check_width (P := l.prog) (w := w) (base := base) F7 (PySem.W.mg_of X G a7) T C n_oo_is_width
  have n_oo_is_bits := oo_is_bits (P := l.prog) (w := w) (base := base) F6 (PySem.W.mg_of X G a6) T C
  have n_oo_is_stretch := oo_is_stretch (P := l.prog) (w := w) (base := base) F8 (PySem.W.mg_of X G a8) T C n_oo_check_width n_oo_is_bits
  have n_oo_is_address := oo_is_address (P := l.prog) (w := w) (base := base) F9 (PySem.W.mg_of X G a9) T C n_oo_is_stretch
  have n_xx_check_width := xx_check_width (P := l.prog) (w := w) (base := base) F7 (PySem.W.mg_of X G a7) T eW n_oo_is_width
  have n_xx_is_stretch := xx_is_stretch (P := l.prog) (w := w) (base := base) F8 (PySem.W.mg_of X G a8) T n_xx_check_width n_oo_is_bits
  have n_xx_check_stretch := xx_check_stretch (P := l.prog) (w := w) (base := base) F10 (PySem.W.mg_of X G a10) T n_xx_is_stretch eS
  have n_xv_check_stretch := xv_check_stretch (P := l.prog) (w := w) (base := base) F10 (PySem.W.mg_of X G a10) T n_oo_is_stretch eS
  have n_xx_is_address := xx_is_address (P := l.prog) (w := w) (base := base) F9 (PySem.W.mg_of X G a9) T n_xx_is_stretch
  have n_xv_check_address := xv_check_address (P := l.prog) (w := w) (base := base) F11 (PySem.W.mg_of X G a11) T n_oo_is_address eA
  have n_xn_check_stretches := xn_check_stretches (P := l.prog) (w := w) (base := base) F12 (PySem.W.mg_of X G a12) T eP n_ok_check_width n_oo_is_stretch
  have n_xw_check_stretches := xw_check_stretches (P := l.prog) (w := w) (base := base) F12 (PySem.W.mg_of X G a12) T eP n_xx_check_width n_oo_is_stretch
  have n_xi_check_stretches := xi_check_stretches (P := l.prog) (w := w) (base := base) F12 (PySem.W.mg_of X G a12) T eP n_ok_check_width n_oo_is_stretch
  have n_xg_numberW := xg_number (P := l.prog) (w := w) (base := base) (R := rW CW 1) two_W F13 (PySem.W.mg_of X G a13) T n_xx_check_stretch
  have n_xg_firstW := xg_first (P := l.prog) (w := w) (base := base) (R := rW CW 1) two_W F14 (PySem.W.mg_of X G a14) T n_xx_check_stretch
  have n_xg_lastW := xg_last (P := l.prog) (w := w) (base := base) (R := rW CW 1) two_W F21 (PySem.W.mg_of X G a21) T n_xx_check_stretch
  have n_xg_numberV := xg_number (P := l.prog) (w := w) (base := base) (R := rV sV CS) two_V F13 (PySem.W.mg_of X G a13) T n_xv_check_stretch
  have n_xg_firstV := xg_first (P := l.prog) (w := w) (base := base) (R := rV sV CS) two_V F14 (PySem.W.mg_of X G a14) T n_xv_check_stretch
  have n_xg_lastV := xg_last (P := l.prog) (w := w) (base := base) (R := rV sV CS) two_V F21 (PySem.W.mg_of X G a21) T n_xv_check_stretch
  have n_xg_cellsW := xg_cells (P := l.prog) (w := w) (base := base) (R := rW CW 1) two_W F19 (PySem.W.mg_of X G a19) T n_xw_check_stretches n_ok_with_all n_ok_widest_inside n_ok_cell
  have n_xg_cellsI := xg_cells (P := l.prog) (w := w) (base := base) (R := rI CP) two_I F19 (PySem.W.mg_of X G a19) T n_xi_check_stretches n_ok_with_all n_ok_widest_inside n_ok_cell
  have n_xg_cellsN := xg_cells (P := l.prog) (w := w) (base := base) (R := rN CP) two_N F19 (PySem.W.mg_of X G a19) T n_xn_check_stretches n_ok_with_all n_ok_widest_inside n_ok_cell
  have n_xg_cell_ofW := xg_cell_of (P := l.prog) (w := w) (base := base) (R := rW CW 1) F20 (PySem.W.mg_of X G a20) T n_xw_check_stretches n_ok_check_address n_ok_with_all n_ok_longest_beginning
  have n_xg_cell_ofI := xg_cell_of (P := l.prog) (w := w) (base := base) (R := rI CP) F20 (PySem.W.mg_of X G a20) T n_xi_check_stretches n_ok_check_address n_ok_with_all n_ok_longest_beginning
  have n_xg_cell_ofN := xg_cell_of (P := l.prog) (w := w) (base := base) (R := rN CP) F20 (PySem.W.mg_of X G a20) T n_xn_check_stretches n_ok_check_address n_ok_with_all n_ok_longest_beginning
  have n_xa_cell_of := xa_cell_of (P := l.prog) (w := w) (base := base) F20 (PySem.W.mg_of X G a20) T n_ok_check_stretches n_xv_check_address n_ok_with_all n_ok_longest_beginning
  have n_ok_common := ok_common (P := l.prog) (w := w) (base := base) F22 (PySem.W.mg_of X G a22) T n_ok_is_bits
  have n_xx_common := xx_common (P := l.prog) (w := w) (base := base) F22 (PySem.W.mg_of X G a22) T eS n_oo_is_bits
  have n_ok_last := ok_last (P := l.prog) (w := w) (base := base) F21 (PySem.W.mg_of X G a21) T n_ok_check_stretch
  have n_ok_law_common := ok_law_common (P := l.prog) (w := w) (base := base) F23 (PySem.W.mg_of X G a23) T
  have n_ok_law_bad_span := ok_bad_span (P := l.prog) (w := w) (base := base) F24 (PySem.W.mg_of X G a24) T n_ok_law_among
  have n_ok_law_bad_bits := ok_bad_bits (P := l.prog) (w := w) (base := base) F25 (PySem.W.mg_of X G a25) T n_ok_law_among n_ok_law_bits n_ok_law_draw
  have n_ok_law_told_right := ok_told_right (P := l.prog) (w := w) (base := base) F26 (PySem.W.mg_of X G a26) T n_ok_law_bits n_ok_number n_ok_first n_ok_last n_ok_common n_ok_law_common
  have hu1 : ∀ p ∈ [(P1, qLam "_law_width_right"), (P2, qLam "_law_bits_right"), (P3, qLam "_law_lists_right")], p.1 = P1 → p.2 = qLam "_law_width_right" := fun p hp e => by
    simp only [List.mem_cons, List.not_mem_nil, or_false] at hp
    rcases hp with rfl | rfl | rfl
    · rfl
    · exact absurd e (Ne.symm n12)
    · exact absurd e (Ne.symm n13)
  have n_ok_law_width_right := ok_width_right (P := l.prog) (w := w) (base := base) (TT := [(P1, qLam "_law_width_right"), (P2, qLam "_law_bits_right"), (P3, qLam "_law_lists_right")]) l27 q27 k27 (PySem.W.mg_of X G a27) l31 q31 k31 (PySem.W.mg_of X G a31) MM T (TB _ (.head _)) (.head _) (hu1) n_ok_law_bits n_ok_law_bad_span n_ok_law_bad_bits n_ok_number n_xg_numberW n_xg_firstW n_xg_lastW n_xx_is_address n_xx_is_stretch n_xg_cellsW n_xg_cell_ofW
  have hu2 : ∀ p ∈ [(P1, qLam "_law_width_right"), (P2, qLam "_law_bits_right"), (P3, qLam "_law_lists_right")], p.1 = P2 → p.2 = qLam "_law_bits_right" := fun p hp e => by
    simp only [List.mem_cons, List.not_mem_nil, or_false] at hp
    rcases hp with rfl | rfl | rfl
    · exact absurd e n12
    · rfl
    · exact absurd e (Ne.symm n23)
  have n_ok_law_bits_right := ok_bits_right (P := l.prog) (w := w) (base := base) (TT := [(P1, qLam "_law_width_right"), (P2, qLam "_law_bits_right"), (P3, qLam "_law_lists_right")]) l28 q28 k28 (PySem.W.mg_of X G a28) l31 q31 k31 (PySem.W.mg_of X G a31) MM T (TB _ (.tail _ (.head _))) (.tail _ (.head _)) (hu2) n_ok_law_bits n_ok_law_among n_ok_law_bad_bits n_ok_common n_xg_numberV n_xg_firstV n_xg_lastV n_xx_common
  have hu3 : ∀ p ∈ [(P1, qLam "_law_width_right"), (P2, qLam "_law_bits_right"), (P3, qLam "_law_lists_right")], p.1 = P3 → p.2 = qLam "_law_lists_right" := fun p hp e => by
    simp only [List.mem_cons, List.not_mem_nil, or_false] at hp
    rcases hp with rfl | rfl | rfl
    · exact absurd e n13
    · exact absurd e n23
    · rfl
  have n_ok_law_lists_right := ok_lists_right (P := l.prog) (w := w) (base := base) (TT := [(P1, qLam "_law_width_right"), (P2, qLam "_law_bits_right"), (P3, qLam "_law_lists_right")]) l29 q29 k29 (PySem.W.mg_of X G a29) l31 q31 k31 (PySem.W.mg_of X G a31) MM T (TB _ (.tail _ (.tail _ (.head _)))) (.tail _ (.tail _ (.head _))) (hu3) n_ok_law_bits n_ok_law_among n_ok_law_bad_bits n_ok_law_draw n_ok_cells n_ok_cell_of n_xg_cellsI n_xg_cell_ofI n_xg_cellsN n_xg_cell_ofN n_xa_cell_of
  have n_ok_law_right := ok_right (P := l.prog) (w := w) (base := base) (TT := [(P1, qLam "_law_width_right"), (P2, qLam "_law_bits_right"), (P3, qLam "_law_lists_right")]) F30 (PySem.W.mg_of X G a30) T n_ok_law_among n_ok_law_told_right n_ok_law_width_right n_ok_law_bits_right n_ok_law_lists_right
  have n_ok_law := ok_law (P := l.prog) (w := w) (base := base) (TT := [(P1, qLam "_law_width_right"), (P2, qLam "_law_bits_right"), (P3, qLam "_law_lists_right")]) F32 (PySem.W.mg_of X G a32) T n_ok_law_pot n_ok_law_right
  exact n_ok_law.fn F32 (PySem.W.mg_of X G a32)
end Cov
open PySem PySem.W PyProof.Rows
set_option maxRecDepth 100000 in
set_option maxHeartbeats 0 in
theorem PySem.Challenge.cw_coverways_k12_stretches_holds : PySem.Challenge.rw_coverways_k12_stretches.Holds := by
  w_on; o_law; k_head; (case hw => w_witness2)
  k_fill
  refine' Cov.walk_gT (l := PySem.Challenge.rw_coverways_k12_stretches) (n := 63) (k := 14) (x := "_law_script") (CX := fun _ => L2.CX0) (cs := [(_, 297), (_, 304), (_, 311)]) rfl (by decide) rfl Cov.roomTop (fun w h Y => PySem.W.km_in_of Y) (fun w h Y p hp => ?hT) (fun w p hp => ?nT) (fun w p hp => ?hC) ?F (fun _ _ _ _ _ z => z)
  case F =>
    intro w mg fa h KX G hmg
    refine' Cov.all_mk KX G hmg (by decide) (by decide) (by decide) ?a0 ?l0 ?q0 ?k0 ?a1 ?l1 ?q1 ?k1 ?a2 ?l2 ?q2 ?k2 ?a3 ?l3 ?q3 ?k3 ?a4 ?l4 ?q4 ?k4 ?a5 ?l5 ?q5 ?k5 ?a6 ?l6 ?q6 ?k6 ?a7 ?l7 ?q7 ?k7 ?a8 ?l8 ?q8 ?k8 ?a9 ?l9 ?q9 ?k9 ?a10 ?l10 ?q10 ?k10 ?a11 ?l11 ?q11 ?k11 ?a12 ?l12 ?q12 ?k12 ?a13 ?l13 ?q13 ?k13 ?a14 ?l14 ?q14 ?k14 ?a15 ?l15 ?q15 ?k15 ?a16 ?l16 ?q16 ?k16 ?a17 ?l17 ?q17 ?k17 ?a18 ?l18 ?q18 ?k18 ?a19 ?l19 ?q19 ?k19 ?a20 ?l20 ?q20 ?k20 ?a21 ?l21 ?q21 ?k21 ?a22 ?l22 ?q22 ?k22 ?a23 ?l23 ?q23 ?k23 ?a24 ?l24 ?q24 ?k24 ?a25 ?l25 ?q25 ?k25 ?a26 ?l26 ?q26 ?k26 ?a27 ?l27 ?q27 ?k27 ?a28 ?l28 ?q28 ?k28 ?a29 ?l29 ?q29 ?k29 ?a30 ?l30 ?q30 ?k30 ?a31 ?l31 ?q31 ?k31 ?a32 ?l32 ?q32 ?k32 ?z0 ?z1 ?z2 ?z3 ?z4 ?z5 ?z6 ?z7 ?z8 ?z9 ?z10 ?z11 ?z12 ?z13 ?z14 ?z15 ?z16 ?z17 ?z18 ?z19 ?mM ?aB ?iB ?tB ?hn ?ht ?tp ?ny ?aCW ?xLW ?saW ?eCW ?tCW ?kCW ?iIW ?tIW ?lkW ?ceW ?coW ?vfW ?mfW ?rcW ?owW ?svW ?mrW ?noW ?gaW ?ggW ?hdW ?fcW ?moW ?sBW ?aCS ?xLS ?saS ?eCS ?tCS ?kCS ?iIS ?tIS ?lkS ?ceS ?coS ?vfS ?mfS ?rcS ?owS ?svS ?mrS ?noS ?gaS ?ggS ?hdS ?fcS ?moS ?sBS ?aCA ?xLA ?saA ?eCA ?tCA ?kCA ?iIA ?tIA ?lkA ?ceA ?coA ?vfA ?mfA ?rcA ?owA ?svA ?mrA ?noA ?gaA ?ggA ?hdA ?fcA ?moA ?sBA ?aCP ?xLP ?saP ?eCP ?tCP ?kCP ?iIP ?tIP ?lkP ?ceP ?coP ?vfP ?mfP ?rcP ?owP ?svP ?mrP ?noP ?gaP ?ggP ?hdP ?fcP ?moP ?sBP ?sWW ?sSW ?sSS ?sAW ?sAS ?sAA ?sPW ?sPS ?sPA ?sPP
    (case a0 => first | k_is | kernel_rfl)
    (case l0 => first | k_is | kernel_rfl)
    (case q0 => first | k_is | kernel_rfl)
    (case k0 => first | k_is | kernel_rfl)
    (case a1 => first | k_is | kernel_rfl)
    (case l1 => first | k_is | kernel_rfl)
    (case q1 => first | k_is | kernel_rfl)
    (case k1 => first | k_is | kernel_rfl)
    (case a2 => first | k_is | kernel_rfl)
    (case l2 => first | k_is | kernel_rfl)
    (case q2 => first | k_is | kernel_rfl)
    (case k2 => first | k_is | kernel_rfl)
    (case a3 => first | k_is | kernel_rfl)
    (case l3 => first | k_is | kernel_rfl)
    (case q3 => first | k_is | kernel_rfl)
    (case k3 => first | k_is | kernel_rfl)
    (case a4 => first | k_is | kernel_rfl)
    (case l4 => first | k_is | kernel_rfl)
    (case q4 => first | k_is | kernel_rfl)
    (case k4 => first | k_is | kernel_rfl)
    (case a5 => first | k_is | kernel_rfl)
    (case l5 => first | k_is | kernel_rfl)
    (case q5 => first | k_is | kernel_rfl)
    (case k5 => first | k_is | kernel_rfl)
    (case a6 => first | k_is | kernel_rfl)
    (case l6 => first | k_is | kernel_rfl)
    (case q6 => first | k_is | kernel_rfl)
    (case k6 => first | k_is | kernel_rfl)
    (case a7 => first | k_is | kernel_rfl)
    (case l7 => first | k_is | kernel_rfl)
    (case q7 => first | k_is | kernel_rfl)
    (case k7 => first | k_is | kernel_rfl)
    (case a8 => first | k_is | kernel_rfl)
    (case l8 => first | k_is | kernel_rfl)
    (case q8 => first | k_is | kernel_rfl)
    (case k8 => first | k_is | kernel_rfl)
    (case a9 => first | k_is | kernel_rfl)
    (case l9 => first | k_is | kernel_rfl)
    (case q9 => first | k_is | kernel_rfl)
    (case k9 => first | k_is | kernel_rfl)
    (case a10 => first | k_is | kernel_rfl)
    (case l10 => first | k_is | kernel_rfl)
    (case q10 => first | k_is | kernel_rfl)
    (case k10 => first | k_is | kernel_rfl)
    (case a11 => first | k_is | kernel_rfl)
    (case l11 => first | k_is | kernel_rfl)
    (case q11 => first | k_is | kernel_rfl)
    (case k11 => first | k_is | kernel_rfl)
    (case a12 => first | k_is | kernel_rfl)
    (case l12 => first | k_is | kernel_rfl)
    (case q12 => first | k_is | kernel_rfl)
    (case k12 => first | k_is | kernel_rfl)
    (case a13 => first | k_is | kernel_rfl)
    (case l13 => first | k_is | kernel_rfl)
    (case q13 => first | k_is | kernel_rfl)
    (case k13 => first | k_is | kernel_rfl)
    (case a14 => first | k_is | kernel_rfl)
    (case l14 => first | k_is | kernel_rfl)
    (case q14 => first | k_is | kernel_rfl)
    (case k14 => first | k_is | kernel_rfl)
    (case a15 => first | k_is | kernel_rfl)
    (case l15 => first | k_is | kernel_rfl)
    (case q15 => first | k_is | kernel_rfl)
    (case k15 => first | k_is | kernel_rfl)
    (case a16 => first | k_is | kernel_rfl)
    (case l16 => first | k_is | kernel_rfl)
    (case q16 => first | k_is | kernel_rfl)
    (case k16 => first | k_is | kernel_rfl)
    (case a17 => first | k_is | kernel_rfl)
    (case l17 => first | k_is | kernel_rfl)
    (case q17 => first | k_is | kernel_rfl)
    (case k17 => first | k_is | kernel_rfl)
    (case a18 => first | k_is | kernel_rfl)
    (case l18 => first | k_is | kernel_rfl)
    (case q18 => first | k_is | kernel_rfl)
    (case k18 => first | k_is | kernel_rfl)
    (case a19 => first | k_is | kernel_rfl)
    (case l19 => first | k_is | kernel_rfl)
    (case q19 => first | k_is | kernel_rfl)
    (case k19 => first | k_is | kernel_rfl)
    (case a20 => first | k_is | kernel_rfl)
    (case l20 => first | k_is | kernel_rfl)
    (case q20 => first | k_is | kernel_rfl)
    (case k20 => first | k_is | kernel_rfl)
    (case a21 => first | k_is | kernel_rfl)
    (case l21 => first | k_is | kernel_rfl)
    (case q21 => first | k_is | kernel_rfl)
    (case k21 => first | k_is | kernel_rfl)
    (case a22 => first | k_is | kernel_rfl)
    (case l22 => first | k_is | kernel_rfl)
    (case q22 => first | k_is | kernel_rfl)
    (case k22 => first | k_is | kernel_rfl)
    (case a23 => first | k_is | kernel_rfl)
    (case l23 => first | k_is | kernel_rfl)
    (case q23 => first | k_is | kernel_rfl)
    (case k23 => first | k_is | kernel_rfl)
    (case a24 => first | k_is | kernel_rfl)
    (case l24 => first | k_is | kernel_rfl)
    (case q24 => first | k_is | kernel_rfl)
    (case k24 => first | k_is | kernel_rfl)
    (case a25 => first | k_is | kernel_rfl)
    (case l25 => first | k_is | kernel_rfl)
    (case q25 => first | k_is | kernel_rfl)
    (case k25 => first | k_is | kernel_rfl)
    (case a26 => first | k_is | kernel_rfl)
    (case l26 => first | k_is | kernel_rfl)
    (case q26 => first | k_is | kernel_rfl)
    (case k26 => first | k_is | kernel_rfl)
    (case a27 => first | k_is | kernel_rfl)
    (case l27 => first | k_is | kernel_rfl)
    (case q27 => first | k_is | kernel_rfl)
    (case k27 => first | k_is | kernel_rfl)
    (case a28 => first | k_is | kernel_rfl)
    (case l28 => first | k_is | kernel_rfl)
    (case q28 => first | k_is | kernel_rfl)
    (case k28 => first | k_is | kernel_rfl)
    (case a29 => first | k_is | kernel_rfl)
    (case l29 => first | k_is | kernel_rfl)
    (case q29 => first | k_is | kernel_rfl)
    (case k29 => first | k_is | kernel_rfl)
    (case a30 => first | k_is | kernel_rfl)
    (case l30 => first | k_is | kernel_rfl)
    (case q30 => first | k_is | kernel_rfl)
    (case k30 => first | k_is | kernel_rfl)
    (case a31 => first | k_is | kernel_rfl)
    (case l31 => first | k_is | kernel_rfl)
    (case q31 => first | k_is | kernel_rfl)
    (case k31 => first | k_is | kernel_rfl)
    (case a32 => first | k_is | kernel_rfl)
    (case l32 => first | k_is | kernel_rfl)
    (case q32 => first | k_is | kernel_rfl)
    (case k32 => first | k_is | kernel_rfl)
    (case z0 => first | k_is | kernel_rfl)
    (case z1 => first | k_is | kernel_rfl)
    (case z2 => first | k_is | kernel_rfl)
    (case z3 => first | k_is | kernel_rfl)
    (case z4 => first | k_is | kernel_rfl)
    (case z5 => first | k_is | kernel_rfl)
    (case z6 => first | k_is | kernel_rfl)
    (case z7 => first | k_is | kernel_rfl)
    (case z8 => first | k_is | kernel_rfl)
    (case z9 => first | k_is | kernel_rfl)
    (case z10 => first | k_is | kernel_rfl)
    (case z11 => first | k_is | kernel_rfl)
    (case z12 => first | k_is | kernel_rfl)
    (case z13 => first | k_is | kernel_rfl)
    (case z14 => first | k_is | kernel_rfl)
    (case z15 => first | k_is | kernel_rfl)
    (case z16 => first | k_is | kernel_rfl)
    (case z17 => first | k_is | kernel_rfl)
    (case z18 => first | k_is | kernel_rfl)
    (case z19 => first | k_is | kernel_rfl)
    (case mM => first | k_is | kernel_rfl)
    (case aB => first | k_is | kernel_rfl)
    (case iB => first | k_is | kernel_rfl)
    (case tB => first | k_is | kernel_rfl)
    (case hn => first | k_is | kernel_rfl)
    (case ht => first | k_is | kernel_rfl)
    (case tp => first | kernel_rfl | kernel_rfl)
    (case ny => first | k_is | kernel_rfl)
    (case aCW => first | k_is | kernel_rfl)
    (case xLW => first | k_is | kernel_rfl)
    (case saW => first | k_is | kernel_rfl)
    (case eCW => first | k_is | kernel_rfl)
    (case tCW => first | k_is | kernel_rfl)
    (case kCW => first | k_is | kernel_rfl)
    (case iIW => first | k_is | kernel_rfl)
    (case tIW => first | k_is | kernel_rfl)
    (case lkW => first | k_is | kernel_rfl)
    (case ceW => first | k_is | kernel_rfl)
    (case coW => first | k_is | kernel_rfl)
    (case vfW => first | rfl | kernel_rfl)
    (case mfW => first | kernel_rfl | kernel_rfl)
    (case rcW => first | k_is | kernel_rfl)
    (case owW => first | ks_is | kernel_rfl)
    (case svW => first | k_is | kernel_rfl)
    (case mrW => first | k_is | kernel_rfl)
    (case noW => first | k_is | kernel_rfl)
    (case gaW => first | k_is | kernel_rfl)
    (case ggW => first | k_is | kernel_rfl)
    (case hdW => first | k_is | kernel_rfl)
    (case fcW => first | k_is | kernel_rfl)
    (case moW => first | k_is | kernel_rfl)
    (case sBW => first | k_is | kernel_rfl)
    (case aCS => first | k_is | kernel_rfl)
    (case xLS => first | k_is | kernel_rfl)
    (case saS => first | k_is | kernel_rfl)
    (case eCS => first | k_is | kernel_rfl)
    (case tCS => first | k_is | kernel_rfl)
    (case kCS => first | k_is | kernel_rfl)
    (case iIS => first | k_is | kernel_rfl)
    (case tIS => first | k_is | kernel_rfl)
    (case lkS => first | k_is | kernel_rfl)
    (case ceS => first | k_is | kernel_rfl)
    (case coS => first | k_is | kernel_rfl)
    (case vfS => first | rfl | kernel_rfl)
    (case mfS => first | kernel_rfl | kernel_rfl)
    (case rcS => first | k_is | kernel_rfl)
    (case owS => first | ks_is | kernel_rfl)
    (case svS => first | k_is | kernel_rfl)
    (case mrS => first | k_is | kernel_rfl)
    (case noS => first | k_is | kernel_rfl)
    (case gaS => first | k_is | kernel_rfl)
    (case ggS => first | k_is | kernel_rfl)
    (case hdS => first | k_is | kernel_rfl)
    (case fcS => first | k_is | kernel_rfl)
    (case moS => first | k_is | kernel_rfl)
    (case sBS => first | k_is | kernel_rfl)
    (case aCA => first | k_is | kernel_rfl)
    (case xLA => first | k_is | kernel_rfl)
    (case saA => first | k_is | kernel_rfl)
    (case eCA => first | k_is | kernel_rfl)
    (case tCA => first | k_is | kernel_rfl)
    (case kCA => first | k_is | kernel_rfl)
    (case iIA => first | k_is | kernel_rfl)
    (case tIA => first | k_is | kernel_rfl)
    (case lkA => first | k_is | kernel_rfl)
    (case ceA => first | k_is | kernel_rfl)
    (case coA => first | k_is | kernel_rfl)
    (case vfA => first | rfl | kernel_rfl)
    (case mfA => first | kernel_rfl | kernel_rfl)
    (case rcA => first | k_is | kernel_rfl)
    (case owA => first | ks_is | kernel_rfl)
    (case svA => first | k_is | kernel_rfl)
    (case mrA => first | k_is | kernel_rfl)
    (case noA => first | k_is | kernel_rfl)
    (case gaA => first | k_is | kernel_rfl)
    (case ggA => first | k_is | kernel_rfl)
    (case hdA => first | k_is | kernel_rfl)
    (case fcA => first | k_is | kernel_rfl)
    (case moA => first | k_is | kernel_rfl)
    (case sBA => first | k_is | kernel_rfl)
    (case aCP => first | k_is | kernel_rfl)
    (case xLP => first | k_is | kernel_rfl)
    (case saP => first | k_is | kernel_rfl)
    (case eCP => first | k_is | kernel_rfl)
    (case tCP => first | k_is | kernel_rfl)
    (case kCP => first | k_is | kernel_rfl)
    (case iIP => first | k_is | kernel_rfl)
    (case tIP => first | k_is | kernel_rfl)
    (case lkP => first | k_is | kernel_rfl)
    (case ceP => first | k_is | kernel_rfl)
    (case coP => first | k_is | kernel_rfl)
    (case vfP => first | rfl | kernel_rfl)
    (case mfP => first | kernel_rfl | kernel_rfl)
    (case rcP => first | k_is | kernel_rfl)
    (case owP => first | ks_is | kernel_rfl)
    (case svP => first | k_is | kernel_rfl)
    (case mrP => first | k_is | kernel_rfl)
    (case noP => first | k_is | kernel_rfl)
    (case gaP => first | k_is | kernel_rfl)
    (case ggP => first | k_is | kernel_rfl)
    (case hdP => first | k_is | kernel_rfl)
    (case fcP => first | k_is | kernel_rfl)
    (case moP => first | k_is | kernel_rfl)
    (case sBP => first | k_is | kernel_rfl)
    (case sWW => first | k_is | kernel_rfl)
    (case sSW => first | k_is | kernel_rfl)
    (case sSS => first | k_is | kernel_rfl)
    (case sAW => first | k_is | kernel_rfl)
    (case sAS => first | k_is | kernel_rfl)
    (case sAA => first | k_is | kernel_rfl)
    (case sPW => first | k_is | kernel_rfl)
    (case sPS => first | k_is | kernel_rfl)
    (case sPA => first | k_is | kernel_rfl)
    (case sPP => first | k_is | kernel_rfl)
  case hT =>
    refine PySem.W.km_tabs_of Y p.2 ?_
    simp only [List.mem_cons, List.not_mem_nil, or_false] at hp ⊢
    rcases hp with rfl | rfl | rfl <;> simp
  case nT =>
    simp only [List.mem_cons, List.not_mem_nil, or_false] at hp
    rcases hp with rfl | rfl | rfl <;> kernel_rfl
  case hC =>
    simp only [List.mem_cons, List.not_mem_nil, or_false] at hp
    rcases hp with rfl | rfl | rfl <;> kernel_rfl

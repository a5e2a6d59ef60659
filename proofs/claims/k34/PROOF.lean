import PyProof.Rows.All
import Wide.All
import OpenK.AllK
import Wide.FinOn
import HandS.ForMost
import HandS.IsInst
import HandS.WideBits
import HandS.Codes
import HandS.Walk
import PyProof.ZipIter
import HandS.Zip0
import PyProof.P3Eq
import PyProof.ReprBulk
import HandS.Iter
import HandS.Star
import HandS.Style
import PySem.Challenge.RW_coverways_k34_whole_paths
set_option Elab.async false
set_option linter.all false
set_option maxRecDepth 100000
set_option maxHeartbeats 2000000
namespace Cov
open PySem PySem.Spec PyProof.Rows L2
/-! ## texts of data: repr -/
def kD : Key → PyData
  | .inl i => .int i
  | .inr x => .str x
def vD : V → Option PyData
  | .non => some .none
  | .bl b => some (.bool b)
  | .int i => some (.int i)
  | .str x => some (.str x)
  | _ => none
inductive Flat : List (Key × V) → List (PyData × PyData) → Prop
  | nil : Flat [] []
  | cons {k : Key} {v : V} {d : PyData} {r : List (Key × V)} {ds : List (PyData × PyData)} : vD v = some d → Flat r ds → Flat ((k, v) :: r) ((kD k, d) :: ds)
/-- what a value's text is made of -/
inductive Rp (K : PySem.W.Frag) (H : Hp) : V → PyData → Prop
  | dat {x : V} {d : PyData} : Dp K H x d → PyData.hasDict d = false → Rp K H x d
  | dct {a : Addr} {kvs : List (Key × V)} {ds : List (PyData × PyData)} : H a = some (.dK kvs) → Flat kvs ds → Rp K H (.ref a) (.dict ds)
section
variable {X : Cx} {pins : List (Addr × Obj)} {σ : L2.St} {H : Hp} {s : Shared}
theorem vD_reads {h : Heap} {v : V} {d : PyData} {u : Value} (e : vD v = some d) (r : RelV v u) : Reads h u d [] := by
  cases v with
  | non => cases e; cases (show u = Value.none from r); exact .none
  | bl b => cases e; cases (show u = Value.bool b from r); exact .bool b
  | int i => cases e; obtain ⟨t, rfl⟩ := (show ∃ t, u = Value.int i t from r); exact .int i t
  | str x => cases e; obtain ⟨t, rfl⟩ := (show ∃ t, u = Value.str x t from r); exact .str x t
  | byt b => cases e
  | flt b => cases e
  | ref a => cases e
  | ty n => cases e
theorem flat_reads {P : Program} {w : World} {h : Heap} : ∀ {kvs : List (Key × V)} {ds : List (PyData × PyData)} {es : List DictEntry} {vs : List (Key × Value)}, Flat kvs ds → KV kvs vs → PySem.Pairs (mixKind P w) es vs →
    ReadsAll h (es.map (·.key)) (ds.map (·.1)) [] ∧ ReadsAll h (es.map (·.val)) (ds.map (·.2)) []
  | _, _, _, _, .nil, .nil, .nil => ⟨.nil, .nil⟩
  | _, _, _, _, .cons hv hr, .cons hk hkr, .cons he1 he2 her => by
    obtain ⟨i1, i2⟩ := flat_reads hr hkr her
    obtain ⟨q1, q2⟩ := hk
    refine ⟨ReadsAll.cons (as := []) (bs := []) ?_ i1, ReadsAll.cons (as := []) (bs := []) ?_ i2⟩
    · have he1' := he1
      rw [mixKind_is, ← q1] at he1'
      rcases keyIs_shape he1' with ⟨i, t, e1, e2⟩ | ⟨x, t, e1, e2⟩
      · simp only at e1; subst e1; show Reads h _ (PyData.int i) []; simp only [e2]; exact Reads.int i t
      · simp only at e1; subst e1; show Reads h _ (PyData.str x) []; simp only [e2]; exact Reads.str x t
    · simp only [he2]; exact vD_reads hv q2
theorem Rp.reads (I : Inv X pins σ H s) {x : V} {d : PyData} {u : Value} (h : Rp X.K H x d) (r : RelV x u) : ∃ as, Reads s.heap u d as ∧ (PyData.hasDict d = true → sysModules ∉ as) := by
  cases h with
  | dat h0 h1 =>
    obtain ⟨as, q⟩ := Dp.reads I d x u h0 r
    exact ⟨as, q, fun z => by rw [h1] at z; cases z⟩
  | @dct a kvs ds ha hf =>
    obtain ⟨z, ns, vs, rel, o, es, ep, e1, e2, e3, e4, e5, e6⟩ := dk_of I.hok ha
    cases (show u = Value.ref a from r)
    obtain ⟨r1, r2⟩ := flat_reads (h := s.heap) hf rel e5
    refine ⟨_, Reads.dict e1 e2.1 e3 r1 r2, fun _ hm => ?_⟩
    rw [List.append_nil, List.mem_singleton] at hm
    exact (beq_eq_false_iff_ne.mp ns) hm.symm
/-- repr(x), where nothing around is being shown -/
@[irreducible] def rRepr (K : PySem.W.Frag) : List V → Hp → VK → Prop := fun xs H Q => ∃ (x : V) (d : PyData), xs = [x] ∧ Rp K H x d ∧ PyData.showable d = true ∧ PyData.depth d ≤ 50 ∧ d.shown.length ≤ sizeLine ∧ Q (.str d.shown) H
theorem call_repr (hg : X.A.guards = some []) (hu : X.A.units + 60 < cLine) : CallR X (.builtin "repr") (rRepr X.K) := by
  intro pins s σ H xs us Q I r h
  unfold rRepr at h
  obtain ⟨x, d, rfl, hx, hs, hd, hz, q⟩ := h
  obtain ⟨u, rfl, ru⟩ := vals1 r
  obtain ⟨as, rd, hm⟩ := hx.reads I ru
  cases rd with
  | none => exact PySem.P.repr_of_none ⟨.str _, H, I.tok _, ⟨_, rfl⟩, by simpa only [PyData.shown] using q⟩
  | bool b => exact PySem.P.repr_of_bool ⟨.str _, H, I.tok _, ⟨_, rfl⟩, by simpa only [PyData.shown] using q⟩
  | int i t => exact PySem.P.repr_of_int (by simpa [PyData.showable] using hs) ⟨.str _, H, I.tok _, ⟨_, rfl⟩, by simpa only [PyData.shown] using q⟩
  | str y t => exact PySem.P.repr_of_str (hsz := by simpa only [PyData.shown] using hz) ⟨.str _, H, I.tok _, ⟨_, rfl⟩, by simpa only [PyData.shown] using q⟩
  | list h1 h2 h3 h4 => exact repr_of_reads' (.list h1 h2 h3 h4) hs hm hg (by omega) (fun _ _ e => e) (fun h' u tk hk => ⟨.str _, H, I.kept hk, ⟨_, rfl⟩, q⟩) hz
  | tuple h1 h2 h3 h4 => exact repr_of_reads' (.tuple h1 h2 h3 h4) hs hm hg (by omega) (fun _ _ e => e) (fun h' u tk hk => ⟨.str _, H, I.kept hk, ⟨_, rfl⟩, q⟩) hz
  | dict h1 h2 h3 h4 h5 => exact repr_of_reads' (.dict h1 h2 h3 h4 h5) hs hm hg (by omega) (fun _ _ e => e) (fun h' u tk hk => ⟨.str _, H, I.kept hk, ⟨_, rfl⟩, q⟩) hz
end
theorem repr_go {K : PySem.W.Frag} {H : Hp} {Q : VK} {x : V} {d : PyData} (h : Rp K H x d ∧ PyData.showable d = true ∧ PyData.depth d ≤ 50 ∧ d.shown.length ≤ sizeLine) (q : Q (.str d.shown) H) : rRepr K [x] H Q := by
  unfold rRepr
  exact ⟨x, d, rfl, h.1, h.2.1, h.2.2.1, h.2.2.2, q⟩
open PySem PySem.Spec PyProof.Rows L2
/-! ## room in which nothing is being shown -/
structure RoomG (k : Nat) (A : Around) : Prop where
  r : Room k A
  g : A.guards = some []
theorem RoomG.mono {j k : Nat} {A : Around} (x : RoomG k A) (h : j ≤ k) : RoomG j A := ⟨x.r.mono h, x.g⟩
theorem RoomG.deeper {k : Nat} {A : Around} (x : RoomG (k + 1) A) (e : Env) : RoomG k (A.deeper e) := ⟨x.r.deeper e, x.g⟩
theorem RoomG.u {k : Nat} {A : Around} (x : RoomG k A) : A.units + 60 < cLine := Nat.lt_trans (by omega) x.r.units
theorem RoomG.u1 {k : Nat} {A : Around} (x : RoomG k A) : A.units + 1 < cLine := by have := x.u; omega
theorem RoomG.u64 {k : Nat} {A : Around} (x : RoomG k A) : A.units + 64 < cLine := x.r.units
/-! ## promises that hold where nothing is being shown -/
structure FnG (P : Program) (w : World) (K : PySem.W.Frag) (mg : Str → Option Value) (base : Heap) (CX : CXT) (k : Nat) (f : Addr) (fd : FuncData) (ps : List Str) (sp : Sp) : Prop where
  len : ∀ vs H Q E, sp vs H Q E → vs.length = ps.length
  run : ∀ (A : Around) (outer : List Env) (s : Shared) (H : Hp) (args : Args) (us : List Value) (vs : List V) (Q : VK) (E : XK),
    RoomG k A → Env0 P w K mg base A outer s H → BindsTo s fd args (ps.zip us) → Vals vs us → sp vs H Q E → codeAny (model P w) A (.call (.ref f) args) (CR CX outer P w H s Q E) s
theorem FnG.of {P : Program} {w : World} {K : PySem.W.Frag} {mg : Str → Option Value} {base : Heap} {CX : CXT} {k : Nat} {f : Addr} {fd : FuncData} {ps : List Str} {sp : Sp} (F : FnOk P w K mg base CX k f fd ps sp) : FnG P w K mg base CX k f fd ps sp :=
  ⟨F.len, fun A outer s H args us vs Q E hr => F.run A outer s H args us vs Q E hr.r⟩
/-- a def by its name: st its statement, ps its parameters -/
structure Nm (P : Program) (w : World) (K : PySem.W.Frag) (mg : Str → Option Value) (base : Heap) (CX : CXT) (k : Nat) (x : Str) (st : Stmt) (ps : List Str) (sp : Sp) : Prop where
  ex : ∃ (f : Addr) (fd : FuncData), Fun K x x st f fd ∧ mg x = some (.ref f) ∧ FnG P w K mg base CX k f fd ps sp
section
variable {P : Program} {w : World} {K : PySem.W.Frag} {mg : Str → Option Value} {base : Heap} {CX : CXT}
/-- THE RULE for a def -/
theorem nm_of {x : Str} {st : Stmt} {f : Addr} {fd : FuncData} {N ps : List Str} {k : Nat} {sp : Sp} (F : Fun K x x st f fd) (hm : mg x = some (.ref f)) (S : FnScope N ps (defScope st)) (len : ∀ vs H Q E, sp vs H Q E → vs.length = ps.length)
    (hb : ∀ (cdv : Value) (A : Around) (outer : List Env) (s : Shared) (H : Hp) (vs : List V) (Q : VK) (E : XK), RoomG k (A.deeper (envOfC x (defScope st) s.heap.objs.size f cdv)) → sp vs H Q E →
      ∃ t, PSs (cxOf CX P w K mg base N x (defScope st) f cdv A outer s H E) (defBody st) t ∧ t { nx := fun _ H' => Q .non H', rt := Q } (start N vs) H) : Nm P w K mg base CX (k + 1) x st ps sp := by
  refine ⟨f, fd, F, hm, len, ?_⟩
  obtain ⟨oc, od, kV, doc, pm, an, cdv, ct, osl, rfl, lk, hcd⟩ := F.ex
  intro A outer s H args us vs Q E hr e0 bt rv hs
  have hl := len _ _ _ _ hs
  have kin : K.In s.heap := e0.mod.kin.keeps fun b o e => (e0.bs b o e).1
  have nol : s.heap.NoLimit := e0.mod.nolimit.keeps fun b o e => (e0.bs b o e).1
  refine codeAny_call_function hr.r.depth (kin _ _ lk) rfl S.co S.gen rfl (PySem.W.codeRec_of kin hcd) (bt _ _ _ _ ?_)
  refine wpAny_newFunctionEnv_cells S.kind (fun ⟨n, v⟩ hy => ?_) fun env he s1 x1 => ?_
  · cases S.par n (List.of_mem_zip hy).1 with
    | inl q => exact .inl q
    | inr q => exact .inr ⟨q, PySem.W.cellsFrom_some _ _ _ (.inl q)⟩
  · subst he
    refine ⟨nol.keeps x1.toInCall.keep, codeAny_func ?_⟩
    obtain ⟨t, ht, hq⟩ := hb cdv A outer s H vs Q E (hr.deeper _) hs
    have I : Inv (cxOf CX P w K mg base N x (defScope st) f cdv A outer s H E) [] (start N vs) H s1 := inv_start S hr.r.hd e0 hl rv x1
    refine wpAny_mono (ht.run [] s1 (start N vs) H _ I hq) (fun fl s' z => ?_) fun e s' z => z
    cases fl with
    | ret u => obtain ⟨v, σ', H', J, r2, q⟩ := z; exact ⟨v, H', J.os, J.bare, J.base, J.hok, r2, q⟩
    | next => obtain ⟨σ', H', J, q⟩ := z; exact ⟨.non, H', J.os, J.bare, J.base, J.hok, rfl, q⟩
    | brk => obtain ⟨_, _, _, q⟩ := z; exact q.elim
    | cont => obtain ⟨_, _, _, q⟩ := z; exact q.elim
end
section
variable {X : Cx} {CX : CXT} {k j : Nat} {f : Addr} {fd : FuncData} {st : Stmt} {ps ks : List Str} {sp : Sp} {E : XK} {x : Str} {p pos : Pos} {e : Expr} {es : List Expr} {kws : List Keyword} {t tk : TA}
theorem run_g {pins : List (Addr × Obj)} {σ : L2.St} {H : Hp} {s : Shared} {Q : VK} {us ws : List Value} {kw : List (Str × Value)} {vs : List V} (F : FnG X.prog X.w X.K X.mg X.base CX k f fd ps sp) (hr : RoomG k X.A)
    (hb : BindsTo s fd ⟨us, kw⟩ (ps.zip ws)) (hx : Passes CX X E) (I : Inv X pins σ H s) (r : Vals vs ws) (h : sp vs H Q E) : wpAny (model X.prog X.w) X.A (call (.ref f) us kw) (EP X pins σ Q) X.xe s := by
  refine wpAny_call (codeAny_mono (F.run X.A X.stack s H ⟨us, kw⟩ ws vs Q E hr I.env0 hb r h) fun y s' z => ?_)
  match y, z with
  | .error e, z => exact hx pins σ H s e s' I z
  | .ok (.ret u), z => exact I.after z
  | .ok .next, z => exact z.elim
  | .ok .brk, z => exact z.elim
  | .ok .cont, z => exact z.elim
/-- a selection of places -/
def sel {α : Type} (ix : List Nat) (l : List α) : List α := ix.filterMap fun i => l[i]?
theorem sel_vals {xs : List V} {us : List Value} (r : Vals xs us) : ∀ ix : List Nat, Vals (sel ix xs) (sel ix us)
  | [] => .nil
  | i :: ix => by
    unfold sel
    rw [List.filterMap_cons, List.filterMap_cons]
    cases e : xs[i]? with
    | none => rw [r.none_of e]; exact sel_vals r ix
    | some v =>
      obtain ⟨u, h1, h2⟩ := r.get e
      rw [h1]
      exact .cons h2 (sel_vals r ix)
/-- how arguments written by place (n of them) and by name (ks) come to the parameters -/
def Bnd (x : Str) (st : Stmt) (ps : List Str) (n : Nat) (ks : List Str) (ix : List Nat) : Prop :=
  ∀ (kV doc pm cdv ct : Value) (an : Option Addr) (us ws : List Value), us.length = n → ws.length = ks.length →
    bindArgs (PySem.W.fnOf x x (defArgs st) (defBody st) (defScope st) .none kV doc pm an cdv ct) ⟨us, ks.zip ws⟩ = pure (ps.zip (sel ix (us ++ ws)))
def tG (sp : Sp) (E : XK) (t : TA) : TE := fun σ H Q => t σ H fun vs H1 => sp vs H1 Q E
def tGK (sp : Sp) (n m : Nat) (ix : List Nat) (E : XK) (t tk : TA) : TE := fun σ H Q => t σ H fun vs H1 => tk σ H1 fun zs H2 => vs.length = n ∧ zs.length = m ∧ sp (sel ix (vs ++ zs)) H2 Q E
/-- plain positional binding -/
def BndP (x : Str) (st : Stmt) (ps : List Str) : Prop :=
  ∀ (kV doc pm cdv ct : Value) (an : Option Addr) (us : List Value), us.length = ps.length → bindArgs (PySem.W.fnOf x x (defArgs st) (defBody st) (defScope st) .none kV doc pm an cdv ct) ⟨us, []⟩ = pure (ps.zip us)
/-- x(e, ..) -/
theorem pe_g (c : Nm X.prog X.w X.K X.mg X.base CX k x st ps sp) (hr : RoomG j X.A) (hk : k ≤ j) (hx : Passes CX X E) (b : BndP x st ps) (hg : Gl X x) (ha : PA X (e :: es) t)
    (hdb : (x == ("__debug__" : Str)) = false := by decide) (he : starEach (e :: es) X.env = (false, eval e X.env) :: starEach es X.env := by rfl) (hpl : (backTo pos (starEach es X.env)).any (·.1) = false := by rfl) :
    PE X (.Call (.Name x p) (e :: es) [] pos) (tG sp E t) := by
  obtain ⟨f, fd, F, hm, G⟩ := c.ex
  have kp := F.kp
  obtain ⟨oc, od, kV, doc, pm, an, cdv, ct, osl, rfl, lk, hcd⟩ := F.ex
  refine ⟨fun pins s σ H Q I h => wpAny_Call_Name_kw (ld_glob I hg hm (PySem.W.callWith_K (h₀ := X.base) I.ok.mod.kin kp (thn (ha.run pos pins s σ H _ I h) fun us s1 ⟨vs, H1, I1, r, q⟩ => ⟨I1.kIn, ?_⟩) he hpl) hdb)⟩
  have q' : sp vs H1 Q E := q
  have h0 := r.length
  have h1 := G.len _ _ _ _ q'
  exact run_g (kw := []) G (hr.mono hk) (.of_eq (b kV doc pm cdv ct an us (by omega))) hx I1 r q'
/-- x(e, .., k = e, ..) -/
theorem pe_gK {ix : List Nat} (c : Nm X.prog X.w X.K X.mg X.base CX k x st ps sp) (hr : RoomG j X.A) (hk : k ≤ j) (hx : Passes CX X E) (b : Bnd x st ps (e :: es).length ks ix) (hg : Gl X x) (ha : PA X (e :: es) t) (hkw : PK X kws tk)
    (hall : (backToKw pos (keywordEach kws X.env)).all (·.1.isSome) = true := by rfl) (hks : (backToKw pos (keywordEach kws X.env)).filterMap (·.1) = ks := by rfl)
    (hdb : (x == ("__debug__" : Str)) = false := by decide) (he : starEach (e :: es) X.env = (false, eval e X.env) :: starEach es X.env := by rfl)
    (hpl : ((backTo pos (starEach (e :: es) X.env)).any (·.1) || (backToKw pos (keywordEach kws X.env)).any (·.1.isNone)) = false := by rfl) :
    PE X (.Call (.Name x p) (e :: es) kws pos) (tGK sp (e :: es).length ks.length ix E t tk) := by
  obtain ⟨f, fd, F, hm, G⟩ := c.ex
  have kp := F.kp
  obtain ⟨oc, od, kV, doc, pm, an, cdv, ct, osl, rfl, lk, hcd⟩ := F.ex
  refine ⟨fun pins s σ H Q I h => wpAny_Call_Name_kw (ld_glob I hg hm (PySem.W.callWith_KW (h₀ := X.base) I.ok.mod.kin kp hall (thn (ha.run pos pins s σ H _ I h) fun us s1 ⟨vs, H1, I1, r, q⟩ => ?_) hpl he) hdb)⟩
  refine thn (hkw.run pos pins s1 σ H1 _ I1 q) fun ws s2 ⟨zs, H2, I2, rz, l1, l2, q2⟩ => ⟨I2.kIn, ?_⟩
  rw [hks]
  exact run_g G (hr.mono hk) (.of_eq (b kV doc pm cdv ct an us ws (r.length.symm.trans l1) (rz.length.symm.trans l2))) hx I2 (sel_vals (r.append rz) ix) q2
/-- x(k = e, ..) -/
theorem pe_gK0 {ix : List Nat} (c : Nm X.prog X.w X.K X.mg X.base CX k x st ps sp) (hr : RoomG j X.A) (hk : k ≤ j) (hx : Passes CX X E) (b : Bnd x st ps 0 ks ix) (hg : Gl X x) (hkw : PK X kws tk)
    (hall : (backToKw pos (keywordEach kws X.env)).all (·.1.isSome) = true := by rfl) (hks : (backToKw pos (keywordEach kws X.env)).filterMap (·.1) = ks := by rfl)
    (hdb : (x == ("__debug__" : Str)) = false := by decide)
    (hpl : ((backTo pos (starEach [] X.env)).any (·.1) || (backToKw pos (keywordEach kws X.env)).any (·.1.isNone)) = false := by rfl) :
    PE X (.Call (.Name x p) [] kws pos) (tGK sp 0 ks.length ix E tNil tk) := by
  obtain ⟨f, fd, F, hm, G⟩ := c.ex
  have kp := F.kp
  obtain ⟨oc, od, kV, doc, pm, an, cdv, ct, osl, rfl, lk, hcd⟩ := F.ex
  refine ⟨fun pins s σ H Q I h => wpAny_Call_Name_kw (ld_glob I hg hm (PySem.W.callWith_KW0 (h₀ := X.base) I.ok.mod.kin kp hall ?_ hpl) hdb)⟩
  refine thn (hkw.run pos pins s σ H _ I h) fun ws s2 ⟨zs, H2, I2, rz, l1, l2, q2⟩ => ⟨I2.kIn, ?_⟩
  rw [hks]
  exact run_g G (hr.mono hk) (.of_eq (b kV doc pm cdv ct an [] ws rfl (rz.length.symm.trans l2))) hx I2 (sel_vals (xs := [] ++ zs) (us := [] ++ ws) rz ix) q2
end
/-! ## the law's own call -/
theorem law_g {P : Program} {w : World} {K : PySem.W.Frag} {mg mb : Str → Option Value} {CX : CXT} {k : Nat} {a fa : Addr} {fd : FuncData} {x : Str} {sp : Sp} {s₁ : Shared} {vs : List Value} {ns : List Int}
    (KX : K.In s₁.heap) (hG : s₁.heap.Ns mainGlobals mg) (hB : s₁.heap.Ns builtinsNs mb) (hBB : ∀ x : Str, x ≠ "__name__" → mb x = bootBuiltins x) (hL : s₁.heap.NoLimit) (hgen : s₁.gens = #[])
    (ha : s₁.heap.get? a = some { cls := .type "list", data := .seq vs.toArray }) (hi : IntsAre vs ns) (hl : ns.length ≤ sizeLine) (hr : RoomG k callerA)
    (F : ∀ base : Heap, K.In base → base.Ns mainGlobals mg → FnG P w K mg base CX k fa fd [x] sp) (hbind : ∀ (s : Shared) (u : Value), BindsTo s fd ⟨[u], []⟩ [(x, u)])
    (hsp : ∀ H : Hp, SqL K H a (ns.map V.int) → (∀ b, H b = none ∨ b = a) → sp [.ref a] H (fun v _ => v = .bl true) fun _ _ _ => False)
    (hCX : ∀ H e s', CX [] H s₁ (fun _ _ _ => False) e s' → False) :
    codeAny (model P w) callerA (.call (.ref fa) ⟨[.ref a], []⟩) (fun r s' => r = .ok (.ret (.bool true)) ∧ OldK s₁.heap s'.heap ∧ s'.os = s₁.os ∧ AllBare s'.gens) s₁ := by
  -- the script is tracked, locked, where it is no object of the text's own
  let so : Obj := { cls := .type "list", data := .seq vs.toArray }
  have main : ∀ H : Hp, (∀ b, H b = none ∨ (b = a ∧ K.lookup a = none ∧ H b = some (.frz so (.lst (ns.map V.int))))) → SqL K H a (ns.map V.int) → HOk P w H s₁.heap →
      codeAny (model P w) callerA (.call (.ref fa) ⟨[.ref a], []⟩) (fun r s' => r = .ok (.ret (.bool true)) ∧ OldK s₁.heap s'.heap ∧ s'.os = s₁.os ∧ AllBare s'.gens) s₁ := by
    intro H only hS hok
    have isNone : ∀ {b : Addr} {o : Obj}, s₁.heap.get? b = some o → (∀ (y : H b = some (.frz so (.lst (ns.map V.int)))), b = a → K.lookup a = none → o = so → False) → H b = none := fun {b o} e n => by
      rcases only b with q | ⟨q1, q2, q3⟩
      · exact q
      · refine (n q3 q1 q2 ?_).elim
        subst q1
        exact Option.some.inj (e.symm.trans ha)
    have nsOf : ∀ {b : Addr} {m : Str → Option Value}, s₁.heap.Ns b m → (hidT s₁.heap H).Ns b m := fun {b m} ⟨o, es, ep, e, d, r⟩ =>
      ⟨o, es, ep, hidT_get e (isNone e fun _ _ _ z => by subst z; cases d), d, r⟩
    have hK : K.In (hidT s₁.heap H) := fun b o e => hidT_get (KX b o e) (isNone (KX b o e) fun _ y z _ => by subst y; rw [z] at e; cases e)
    have hM : Mod K mg (hidT s₁.heap H) := ⟨hK, nsOf hG, ⟨mb, nsOf hB, hBB⟩, hL.elim fun mc z => ⟨mc, nsOf z.1, z.2⟩⟩
    have nofr : ∀ b : Addr, b ∉ frs ([] : List Env) := fun b z => by cases z
    have e0 : Env0 P w K mg (hidT s₁.heap H) callerA [] s₁ H := ⟨rfl, hM, fun b o e => of_hidT e, by rw [hidT_size] <;> exact Nat.le_refl _, trivial, fun b z => (nofr b z).elim, hok, .of_eq hgen⟩
    have hs : sp [.ref a] H (fun v _ => v = .bl true) fun _ _ _ => False := hsp H hS fun b => (only b).elim Or.inl fun z => Or.inr z.1
    refine codeAny_mono ((F _ hK (nsOf hG)).run callerA [] s₁ H ⟨[.ref a], []⟩ [.ref a] [.ref a] _ _ hr e0 (hbind s₁ (.ref a)) (.cons rfl .nil) hs) fun r s' z => ?_
    match r, z with
    | .error e, z => exact (hCX H e s' z).elim
    | .ok .next, z => exact z.elim
    | .ok .brk, z => exact z.elim
    | .ok .cont, z => exact z.elim
    | .ok (.ret u), ⟨v, H', os, bare, un, hok', rv, q⟩ =>
      obtain rfl : v = .bl true := q
      obtain rfl : u = Value.bool true := rv
      refine ⟨rfl, OldK.of_keep fun b o e => ?_, os, bare⟩
      rcases only b with y | ⟨_, _, y⟩
      · exact un.keep b o e y (nofr b) (by intro c; cases c)
      · obtain ⟨e1, _⟩ := hok b _ y
        obtain ⟨e2, _⟩ := hok' b _ (un.frzs b _ _ y)
        exact e2.trans (e1.symm.trans e)
  cases hk : K.lookup a with
  | some o =>
    have e : o = so := Option.some.inj ((KX a o hk).symm.trans ha)
    subst e
    exact main (fun _ => none) (fun _ => .inl rfl) (.inr ⟨so, vs.toArray, _, hk, rfl, rfl, rfl, by rw [List.size_toArray, hi.length]; exact hl, by simpa using vals_ints hi⟩) fun b u z => by cases z
  | none =>
    have at_a : (fun b : Addr => if b = a then some (HO.frz so (.lst (ns.map V.int))) else none) a = some (HO.frz so (.lst (ns.map V.int))) := if_pos rfl
    refine main (fun b => if b = a then some (.frz so (.lst (ns.map V.int))) else none) (fun b => ?_) (.inl (.inr ⟨so, at_a⟩)) fun b u z => ?_
    · by_cases y : b = a
      · exact .inr ⟨y, hk, if_pos y⟩
      · exact .inl (if_neg y)
    · by_cases y : b = a
      · subst y
        obtain rfl : HO.frz so (.lst (ns.map V.int)) = u := Option.some.inj (at_a.symm.trans z)
        exact ⟨ha, by rw [List.length_map] <;> exact hl, vs, _, vals_ints hi, ha⟩
      · have z' : (none : Option HO) = some u := (if_neg y).symm.trans z
        cases z'
theorem walk_g {l : PySem.W.OpenLaw} {n k : Nat} {q : Program} {loose : List Str} {XP : (Str → Option Value) → Heap → Prop} {YP : World → Heap → Prop} {d : DefRec} {K : Params → PySem.W.Frag} {CX : World → CXT} {sp : World → Sp} {x : Str}
    (hn : l.most = some n) (hn2 : n ≤ sizeLine) (hdf : d.params.defaults = []) (hr : RoomG k callerA) (hY : ∀ (w : World) (h : Heap), YP w h → (K w.params).In h)
    (F : ∀ (w : World) (mg : Str → Option Value) (fa : Addr) (h : Heap), (K w.params).In h → h.Ns mainGlobals mg → mg d.name = some (.ref fa) →
      ∃ fd : FuncData, (∀ (s : Shared) (u : Value), BindsTo s fd ⟨[u], []⟩ [(x, u)]) ∧ ∀ base : Heap, (K w.params).In base → base.Ns mainGlobals mg → FnG l.prog w (K w.params) mg base (CX w) k fa fd [x] (sp w))
    (hsp : ∀ (w : World) (H : Hp) (a : Addr) (ns : List Int), ns.length ≤ n → SqL (K w.params) H a (ns.map V.int) → (∀ b, H b = none ∨ b = a) → sp w [.ref a] H (fun v _ => v = .bl true) fun _ _ _ => False)
    (hCX : ∀ (w : World) (H : Hp) (s : Shared) (e : Value) (s' : Shared), CX w [] H s (fun _ _ _ => False) e s' → False) : PySem.W.WalkO q loose XP YP l.row.toRowW d [] (fun f vs => PySem.call f vs) := by
  refine Att.attach_call hn hdf fun w s₀ s₁ mg mb fa o pm cd doc a vs ns G Y ho hd hcd hmg hobj hints hlen hg => ?_
  obtain ⟨fd, hb, hF⟩ := F w mg fa _ (hY w _ Y) G.T.g hmg
  exact law_g (hY w _ Y) G.T.g G.T.b G.T.builtins G.T.nolimit hg hobj hints (Nat.le_trans hlen hn2) hr hF hb (fun H hS hO => hsp w H a ns hlen hS hO) fun H e s' => hCX w H s₁ e s'
theorem roomTop {k : Nat} (h : k ≤ 60 := by decide) : RoomG k callerA := ⟨⟨rfl, by show 1 + claimMargin + 3 * k + 5 < recursionLimit; have : claimMargin + 200 < recursionLimit := (by decide); omega, by show 4 + 16 * k + 200 < cLine; have : 2000 < cLine := (by decide); omega⟩, rfl⟩
open PySem PySem.Spec PyProof.Rows L2
/-! ## rules told over a given written part -/
section
variable {X : Cx} {K : PySem.W.Frag}
theorem ix_seqK (e : X.K = K) : IxR X (rIx K) := by subst e; exact ix_seq
theorem ix_listK (e : X.K = K) : IxR X (rIxL K) := by subst e; exact ix_list
theorem ix_tupK (e : X.K = K) : IxR X (rIxT K) := by subst e; exact ix_tup
theorem call_lenK (e : X.K = K) : CallR X (.builtin "len") (fun xs H Q => ∃ x n, xs = [x] ∧ LenV K x H n ∧ Q (.int n) H) := by subst e; exact call_len
theorem call_isiK' (e : X.K = K) : CallR X (.builtin "isinstance") (rIsi K) := by subst e; exact call_isi
theorem op_inK (e : X.K = K) : OpR X (compareOp .In) (rIn K false) := by subst e; exact op_in_seq
theorem op_notInK (e : X.K = K) : OpR X (compareOp .NotIn) (rIn K true) := by subst e; exact op_notIn_seq
theorem call_reprK (e : X.K = K) (hg : X.A.guards = some []) (hu : X.A.units + 60 < cLine) : CallR X (.builtin "repr") (rRepr K) := by subst e; exact call_repr hg hu
theorem call_allK (e : X.K = K) (hc : X.calm = true) : CallR X (.builtin "all") (rAll K) := by subst e; exact cr_all hc
theorem op_eqDK (e : X.K = K) (hu : X.A.units + 64 < cLine) : OpR X (compareOp .Eq) (rEqD K) := by subst e; exact op_eqD hu
theorem op_neDK (e : X.K = K) (hu : X.A.units + 64 < cLine) : OpR X (compareOp .NotEq) (rNeD K) := by subst e; exact op_neD hu
theorem pi_listK {tg l : Expr} {tl : TE} (e : X.K = K) (hl : PE X l tl) : PI X tg l (iList K tl) := by subst e; exact pi_list hl
/-- a built-in class by its name, a constant of the text -/
theorem pe_ty {x : Str} {pos : Pos} (n : String) (hg : Gl X x) (hm : X.mg x = none) (hv : bootBuiltins x = some (.type n)) (hn : x ≠ "__name__" := by decide) (hd : (x == ("__debug__" : Str)) = false := by decide) : PE X (.Name x pos) (tC (.ty n)) :=
  pe_bltn hg hm hv rfl hn hd
theorem pe_cst {x : Str} {pos : Pos} {v : V} (hg : Gl X x) (h : ∃ u, X.mg x = some u ∧ RelV v u) (hd : (x == ("__debug__" : Str)) = false := by decide) : PE X (.Name x pos) (tC v) :=
  let ⟨_, hm, r⟩ := h
  pe_glob hg hm r hd
/-- a text times a number -/
def rMulS : R2 := fun x y H Q => ∃ (z : Str) (n : Int), x = .str z ∧ y = .int n ∧ z.length ≤ 1000 ∧ -1000 ≤ n ∧ n ≤ 10000 ∧ Q (.str ⟨(List.replicate n.toNat z.cps.toList).flatten.toArray⟩) H
theorem fold_app : ∀ (l : List (Array Nat)) (acc : Array Nat), l.foldl (· ++ ·) acc = acc ++ (l.map Array.toList).flatten.toArray
  | [], acc => by simp
  | x :: l, acc => by
    rw [List.foldl_cons, fold_app l (acc ++ x)]
    apply Array.ext'
    simp
theorem op_mul_str : OpR X (binaryOp .Mult) rMulS := by
  intro pins s σ H x y v u Q I rx ry h
  obtain ⟨z, n, rfl, rfl, hz, h1, h2, q⟩ := h
  obtain ⟨t, rfl⟩ := rx
  obtain ⟨t', rfl⟩ := ry
  have big : 1000 * 10000 ≤ sizeLine := by decide
  have e : ∀ k : Nat, ((List.replicate k z.cps).foldl (· ++ ·) #[] : Array Nat) = (List.replicate k z.cps.toList).flatten.toArray := fun k => by
    rw [fold_app, List.map_replicate]; simp
  have hzn : z.length * n.toNat ≤ 1000 * 10000 := Nat.mul_le_mul hz (by omega)
  refine PySem.P.mul_str (by rw [decide_eq_false (by omega), decide_eq_false (by omega)]; rfl) (fun a _ => ?_) (fun a _ => ?_) ?_
  · have : (1001 : Int) ≤ (2 ^ 63 - 1) / n := Int.le_ediv_of_mul_le (by omega) (by omega)
    omega
  · exact decide_eq_false (by omega)
  · by_cases c1 : n < 1
    · rw [if_pos c1]
      have e0 : n.toNat = 0 := by omega
      rw [e0] at q
      exact ⟨Nat.zero_le _, .str _, H, I.tok _, ⟨_, rfl⟩, q⟩
    · rw [if_neg c1]
      by_cases c2 : (n == 1 || z.length == 0) = true
      · rw [if_pos c2]
        refine ⟨.str z, H, I, ⟨t, rfl⟩, ?_⟩
        have ez : (⟨(List.replicate n.toNat z.cps.toList).flatten.toArray⟩ : Str) = z := by
          rw [Bool.or_eq_true, beq_iff_eq, beq_iff_eq] at c2
          rcases c2 with c2 | c2
          · subst c2
            show (⟨(List.replicate 1 z.cps.toList).flatten.toArray⟩ : Str) = z
            simp
          · have hz0 : z.cps.toList = [] := by
              have : z.cps.toList.length = 0 := by rw [Array.length_toList]; exact c2
              exact List.length_eq_zero_iff.mp this
            obtain ⟨cps⟩ := z
            have hz1 : cps.toList = [] := hz0
            have : cps = #[] := by apply Array.ext'; rw [hz1]
            subst this
            simp
        rw [ez] at q
        exact q
      · rw [if_neg c2, e]
        refine ⟨?_, .str _, H, I.tok _, ⟨_, rfl⟩, q⟩
        show (List.replicate n.toNat z.cps.toList).flatten.toArray.size ≤ sizeLine
        rw [List.size_toArray, List.length_flatten, List.map_replicate, List.sum_replicate_nat, Array.length_toList]
        have : n.toNat * z.cps.size = z.length * n.toNat := Nat.mul_comm _ _
        omega
end
/-! zip of two texts of small signs -/
open PySem PySem.Spec PyProof.Rows
/-- an iterator over a text of small signs -/
abbrev SIt (h : Heap) (it : Addr) (x : Str) (t : Tok) (i : Nat) : Prop := h.IsStrIter it "str_ascii_iterator" x t i
theorem SIt.ext {h h' : Heap} {it b : Addr} {x : Str} {t : Tok} {i : Nat} (a : SIt h it x t i) (e : Heap.ExtBut b h h') (n : it ≠ b) : SIt h' it x t i :=
  let ⟨o, ho, r⟩ := a; ⟨o, e it o n ho, r⟩
section
variable {prog : Program} {w : World} {A : Around} {E : Value → Shared → Prop} {s : Shared}
theorem nextOf_s_item {it : Addr} {x : Str} {t : Tok} {i c : Nat} {Q : Value → Shared → Prop} (hit : SIt s.heap it x t i) (hx : x.cps[i]? = some c)
    (hQ : ∀ h', SIt h' it x t (i + 1) → Heap.SameBut it s.heap h' → Q (.str ⟨#[c]⟩ s.toks) { s with heap := h', toks := s.toks + 1 }) :
    wpAny (model prog w) A (Builtin.SmallTypes.nextOf (.ref it)) Q E s := by
  obtain ⟨o, ho, hc, hd⟩ := id hit
  unfold Builtin.SmallTypes.nextOf
  refine wpAny_bind (wpAny_callSpecial?_slot (name := Str.ofString "__next__") hit.typeIs F.slot_str_ascii_iterator_next (wpAny_call_entry F.slot_str_ascii_iterator_next hit.typeIs F.entry_str_ascii_iterator_next ?_ (F.args_str_ascii_iterator_next_1 _)))
  show wpAny _ _ (field (.ref it) 0 >>= _) _ _ s; refine wpAny_bind (wpAny_field ho hd (x := .str x t) rfl ?_)
  show wpAny _ _ (field (.ref it) 1 >>= _) _ _ s; refine wpAny_bind (wpAny_field ho hd (x := .int i 0) rfl ?_)
  simp only [Int.toNat_natCast, hx]
  refine wpAny_bind (wpAny_setField ho hd (by simp) (wpAny_bind (wpAny_mkStr (wpAny_pure ⟨_, rfl, wpAny_pure (hQ _ ⟨_, Heap.get?_update_self _ ho (Obj.isFreed_of_fields (Obj.data_mapFields hd _)), (Obj.cls_mapFields ..).trans hc, by rw [Obj.data_mapFields hd]; simp [rawInt]⟩ (Heap.SameBut.update ..))⟩) (by show 1 ≤ sizeLine; decide))))
theorem nextOf_s_end {it : Addr} {x : Str} {t : Tok} {i : Nat} {Q : Value → Shared → Prop} (hh : A.handled = none) (hit : SIt s.heap it x t i) (hx : x.cps[i]? = none)
    (hE : ∀ h' e, Heap.ExtBut it s.heap h' → (∃ o, h'.get? e = some o ∧ o.cls = .type "StopIteration") → E (.ref e) { s with heap := h' }) :
    wpAny (model prog w) A (Builtin.SmallTypes.nextOf (.ref it)) Q E s := by
  obtain ⟨o, ho, hc, hd⟩ := id hit
  unfold Builtin.SmallTypes.nextOf
  refine wpAny_bind (wpAny_callSpecial?_slot (name := Str.ofString "__next__") hit.typeIs F.slot_str_ascii_iterator_next (wpAny_call_entry F.slot_str_ascii_iterator_next hit.typeIs F.entry_str_ascii_iterator_next ?_ (F.args_str_ascii_iterator_next_1 _)))
  show wpAny _ _ (field (.ref it) 0 >>= _) _ _ s; refine wpAny_bind (wpAny_field ho hd (x := .str x t) rfl ?_)
  show wpAny _ _ (field (.ref it) 1 >>= _) _ _ s; refine wpAny_bind (wpAny_field ho hd (x := .int i 0) rfl ?_)
  simp only [Int.toNat_natCast, hx]
  refine wpAny_bind (wpAny_rule (wpAny_bind (wpAny_setField ho hd (by simp) (wpAny_bind (wpAny_letGo ?_)))))
  show wpAny _ _ (newExc (.type "StopIteration") [] >>= _) _ _ _; refine wpAny_bind ?_
  simp only [newExc, newTuple]
  refine wpAny_bind (wpAny_newObj_type ?_ (by size_fits)); refine wpAny_bind (m := firstArgMember _ _) (wpAny_of_eq (a := Value.none) (by first | rfl | (simp only [firstArgMember]; rfl)) ?_)
  refine wpAny_newObj_type ?_ (by size_fits); simp only [raiseNew]; refine wpAny_bind (wpAny_handled ?_)
  first | rw [show A.in1.handled = none from hh] | rw [hh]
  refine wpAny_bind (wpAny_pure (wpAny_throw ?_)); exact hE _ _ (((Heap.SameBut.update ..).extBut.push _).push _) ⟨_, Heap.get?_push_size _ rfl, rfl⟩
theorem zipS_next_item {z TI TO i1 i2 l1 l2 : Addr} {k1 k2 c1 c2 : Nat} {x y : Str} {t1 t2 : Tok} {a b : Value} {Q : Value → Shared → Prop} (D : ZipApart z TI TO i1 i2 l1 l2)
    (hz : IsZip s.heap z TI TO .none) (hTI : IsPair s.heap TI (.ref i1) (.ref i2)) (hTO : IsPair s.heap TO a b) (h1 : SIt s.heap i1 x t1 k1) (h2 : SIt s.heap i2 y t2 k2) (hx : x.cps[k1]? = some c1) (hy : y.cps[k2]? = some c2)
    (hQ : ∀ h' u v t, IsZip h' z TI TO (rawInt s.heap.objs.size) → IsPair h' TO (.str ⟨#[c1]⟩ u) (.str ⟨#[c2]⟩ v) → SIt h' i1 x t1 (k1 + 1) → SIt h' i2 y t2 (k2 + 1) → IsPair h' s.heap.objs.size (.str ⟨#[c1]⟩ u) (.str ⟨#[c2]⟩ v) →
      (∀ c o, c ≠ z → c ≠ TO → c ≠ i1 → c ≠ i2 → s.heap.get? c = some o → h'.get? c = some o) → Q (.ref s.heap.objs.size) { s with heap := h', toks := t }) :
    wpAny (model prog w) A (Builtin.«zip.__next__» ⟨[.ref z], []⟩) (fun fin s' => ∃ v, fin = .done (.ret v) ∧ Q v s') E s := by
  show wpAny _ _ (field (.ref z) 2 >>= _) _ _ _; refine wpAny_bind (wpAny_field hz rfl (x := .bool false) rfl ?_)
  show wpAny _ _ (field (.ref z) 3 >>= _) _ _ _; refine wpAny_bind (wpAny_field hz rfl (x := .ref TI) rfl ?_)
  refine wpAny_bind (wpAny_seqItems hTI rfl ?_); show wpAny _ _ (Builtin.SmallTypes.ownedTupleIsFree (.ref z) >>= _) _ _ _; refine wpAny_bind ?_
  unfold Builtin.SmallTypes.ownedTupleIsFree; refine wpAny_bind (wpAny_field hz rfl (x := .none) rfl (wpAny_pure ?_))
  simp only [if_true]; refine wpAny_bind (wpAny_rule ?_); refine wpAny_bind (wpAny_field hz rfl (x := .ref TO) rfl ?_)
  refine wpAny_bind (wpAny_setField_rec hz (by simp) fun h₁ hz₁ hs₁ => ?_); replace hz₁ : IsZip h₁ z TI TO .ellipsis := hz₁
  refine wpAny_bind ?_; simp only [List.zipIdx_cons, List.zipIdx_nil, List.forIn_cons, List.forIn_nil]
  refine wpAny_bind (wpAny_bind (wpAny_onRaise ?_)); show wpAny _ _ (Builtin.SmallTypes.nextOf (.ref i1) >>= _) _ _ _
  refine wpAny_bind (nextOf_s_item (h1.ext hs₁.extBut D.i1z) hx fun h₂ h1₂ hs₂ => wpAny_pure ?_)
  have hTO₂ : IsPair h₂ TO a b := hs₂.extBut _ _ D.TOi1 (hs₁.extBut _ _ D.TOz hTO); refine wpAny_bind (wpAny_seqItems hTO₂ rfl ?_)
  refine wpAny_bind (wpAny_updateSeq_pair hTO₂ fun h₃ hTO₃ hs₃ => ?_); replace hTO₃ : IsPair h₃ TO (.str ⟨#[c1]⟩ s.toks) b := hTO₃
  refine wpAny_bind (wpAny_letGo (wpAny_pure ?_)); refine wpAny_bind (wpAny_bind (wpAny_onRaise ?_)); show wpAny _ _ (Builtin.SmallTypes.nextOf (.ref i2) >>= _) _ _ _
  refine wpAny_bind (nextOf_s_item (((h2.ext hs₁.extBut D.i2z).ext hs₂.extBut D.i12.symm).ext hs₃.extBut D.TOi2.symm) hy fun h₄ h2₄ hs₄ => wpAny_pure ?_)
  have hTO₄ : IsPair h₄ TO (.str ⟨#[c1]⟩ s.toks) b := hs₄.extBut _ _ D.TOi2 hTO₃; refine wpAny_bind (wpAny_seqItems hTO₄ rfl ?_)
  refine wpAny_bind (wpAny_updateSeq_pair hTO₄ fun h₅ hTO₅ hs₅ => ?_); replace hTO₅ : IsPair h₅ TO (.str ⟨#[c1]⟩ s.toks) (.str ⟨#[c2]⟩ (s.toks + 1)) := hTO₅
  refine wpAny_bind (wpAny_letGo (wpAny_pure (wpAny_pure ?_))); refine wpAny_bind (wpAny_seqItems hTO₅ rfl ?_); refine wpAny_bind (wpAny_newTuple ?_)
  have hsz : h₅.objs.size = s.heap.objs.size := by rw [hs₅.1, hs₄.1, hs₃.1, hs₂.1]; exact hs₁.1
  have hz₅ : IsZip h₅ z TI TO .ellipsis := hs₅.extBut _ _ D.TOz.symm (hs₄.extBut _ _ D.i2z.symm (hs₃.extBut _ _ D.TOz.symm (hs₂.extBut _ _ D.i1z.symm hz₁)))
  have hk₅ : ∀ c o, c ≠ z → c ≠ TO → c ≠ i1 → c ≠ i2 → s.heap.get? c = some o → h₅.get? c = some o := fun c o n1 n2 n3 n4 e => hs₅.extBut _ _ n2 (hs₄.extBut _ _ n4 (hs₃.extBut _ _ n2 (hs₂.extBut _ _ n3 (hs₁.extBut _ _ n1 e))))
  have h1₅ : SIt h₅ i1 x t1 (k1 + 1) := ((h1₂.ext hs₃.extBut D.TOi1.symm).ext hs₄.extBut D.i12).ext hs₅.extBut D.TOi1.symm
  have h2₅ : SIt h₅ i2 y t2 (k2 + 1) := h2₄.ext hs₅.extBut D.TOi2.symm
  have hzlt : z < h₅.objs.size := Heap.lt_size hz₅
  show wpAny _ _ (Builtin.SmallTypes.ownedTupleHandOut (.ref z) (.ref h₅.objs.size) >>= _) _ _ _; refine wpAny_bind ?_; unfold Builtin.SmallTypes.ownedTupleHandOut
  have hz₆ : IsZip (h₅.push { cls := .type "tuple", data := .seq #[.str ⟨#[c1]⟩ s.toks, .str ⟨#[c2]⟩ (s.toks + 1)] }) z TI TO .ellipsis := Heap.get?_push_of_some _ hz₅
  refine wpAny_bind (wpAny_setField_rec hz₆ (by simp) fun h₇ hz₇ hs₇ => ?_); replace hz₇ : IsZip h₇ z TI TO (rawInt h₅.objs.size) := hz₇
  refine wpAny_setField_rec hz₇ (by simp) fun h₈ hz₈ hs₈ => ?_; replace hz₈ : IsZip h₈ z TI TO (rawInt h₅.objs.size) := hz₈
  have up : ∀ c o, c ≠ z → h₅.get? c = some o → h₈.get? c = some o := fun c o n e => hs₈.extBut _ _ n (hs₇.extBut _ _ n (Heap.get?_push_of_some _ e))
  have hT₈ : IsPair h₈ h₅.objs.size (.str ⟨#[c1]⟩ s.toks) (.str ⟨#[c2]⟩ (s.toks + 1)) := hs₈.extBut _ _ (Nat.ne_of_gt hzlt) (hs₇.extBut _ _ (Nat.ne_of_gt hzlt) (Heap.get?_push_size _ rfl))
  rw [hsz] at hz₈ hT₈
  refine wpAny_pure ⟨_, rfl, ?_⟩; show Q (.ref h₅.objs.size) _; rw [hsz]
  exact hQ h₈ _ _ _ hz₈ (up _ _ D.TOz hTO₅) (let ⟨o, e, r⟩ := h1₅; ⟨o, up _ o D.i1z e, r⟩) (let ⟨o, e, r⟩ := h2₅; ⟨o, up _ o D.i2z e, r⟩) hT₈ fun c o n1 n2 n3 n4 e => up c o n1 (hk₅ c o n1 n2 n3 n4 e)
theorem zipS_next_end {z TI TO i1 i2 l1 l2 : Addr} {k1 k2 : Nat} {x y : Str} {t1 t2 : Tok} {a b : Value} {Q : Fin → Shared → Prop} (hh : A.handled = none) (D : ZipApart z TI TO i1 i2 l1 l2)
    (hz : IsZip s.heap z TI TO .none) (hTI : IsPair s.heap TI (.ref i1) (.ref i2)) (hTO : IsPair s.heap TO a b) (h1 : SIt s.heap i1 x t1 k1) (h2 : SIt s.heap i2 y t2 k2) (hend : x.cps[k1]? = none ∨ y.cps[k2]? = none)
    (hE : ∀ h' t e, (∀ c o, c ≠ z → c ≠ TO → c ≠ i1 → c ≠ i2 → s.heap.get? c = some o → h'.get? c = some o) → (∃ o, h'.get? e = some o ∧ o.cls = .type "StopIteration") → E (.ref e) { s with heap := h', toks := t }) :
    wpAny (model prog w) A (Builtin.«zip.__next__» ⟨[.ref z], []⟩) Q E s := by
  show wpAny _ _ (field (.ref z) 2 >>= _) _ _ _; refine wpAny_bind (wpAny_field hz rfl (x := .bool false) rfl ?_)
  show wpAny _ _ (field (.ref z) 3 >>= _) _ _ _; refine wpAny_bind (wpAny_field hz rfl (x := .ref TI) rfl ?_)
  refine wpAny_bind (wpAny_seqItems hTI rfl ?_); show wpAny _ _ (Builtin.SmallTypes.ownedTupleIsFree (.ref z) >>= _) _ _ _; refine wpAny_bind ?_
  unfold Builtin.SmallTypes.ownedTupleIsFree; refine wpAny_bind (wpAny_field hz rfl (x := .none) rfl (wpAny_pure ?_))
  simp only [if_true]; refine wpAny_bind (wpAny_rule ?_); refine wpAny_bind (wpAny_field hz rfl (x := .ref TO) rfl ?_)
  refine wpAny_bind (wpAny_setField_rec hz (by simp) fun h₁ hz₁ hs₁ => ?_); replace hz₁ : IsZip h₁ z TI TO .ellipsis := hz₁
  refine wpAny_bind ?_; simp only [List.zipIdx_cons, List.zipIdx_nil, List.forIn_cons, List.forIn_nil]
  refine wpAny_bind (wpAny_bind (wpAny_onRaise ?_)); show wpAny _ _ (Builtin.SmallTypes.nextOf (.ref i1) >>= _) _ _ _
  cases hx : x.cps[k1]? with
  | none =>
    refine wpAny_bind (nextOf_s_end hh (h1.ext hs₁.extBut D.i1z) hx fun h₂ e hs₂ he => ?_); obtain ⟨oe, hoe, hce⟩ := he
    have hz₂ : IsZip h₂ z TI TO .ellipsis := hs₂ _ _ D.i1z.symm hz₁
    have hez : e ≠ z := fun q => by subst q; rw [hz₂] at hoe; cases hoe; simp at hce
    refine wpAny_setField_rec hz₂ (by simp) fun h₃ _ hs₃ => hE h₃ _ e (fun c o n1 _ n3 _ q => hs₃.extBut _ _ n1 (hs₂ _ _ n3 (hs₁.extBut _ _ n1 q))) ⟨oe, hs₃.extBut _ _ hez hoe, hce⟩
  | some c =>
    have hy : y.cps[k2]? = none := by rcases hend with h | h; (rw [hx] at h; cases h); exact h
    refine wpAny_bind (nextOf_s_item (h1.ext hs₁.extBut D.i1z) hx fun h₂ h1₂ hs₂ => wpAny_pure ?_)
    have hTO₂ : IsPair h₂ TO a b := hs₂.extBut _ _ D.TOi1 (hs₁.extBut _ _ D.TOz hTO); refine wpAny_bind (wpAny_seqItems hTO₂ rfl ?_)
    refine wpAny_bind (wpAny_updateSeq_pair hTO₂ fun h₃ hTO₃ hs₃ => ?_); refine wpAny_bind (wpAny_letGo (wpAny_pure ?_)); refine wpAny_bind (wpAny_bind (wpAny_onRaise ?_))
    show wpAny _ _ (Builtin.SmallTypes.nextOf (.ref i2) >>= _) _ _ _
    refine wpAny_bind (nextOf_s_end hh (((h2.ext hs₁.extBut D.i2z).ext hs₂.extBut D.i12.symm).ext hs₃.extBut D.TOi2.symm) hy fun h₄ e hs₄ he => ?_); obtain ⟨oe, hoe, hce⟩ := he
    have hz₄ : IsZip h₄ z TI TO .ellipsis := hs₄ _ _ D.i2z.symm (hs₃.extBut _ _ D.TOz.symm (hs₂.extBut _ _ D.i1z.symm hz₁))
    have hez : e ≠ z := fun q => by subst q; rw [hz₄] at hoe; cases hoe; simp at hce
    refine wpAny_setField_rec hz₄ (by simp) fun h₅ _ hs₅ => hE h₅ _ e (fun c o n1 n2 n3 n4 q => hs₅.extBut _ _ n1 (hs₄ _ _ n4 (hs₃.extBut _ _ n2 (hs₂.extBut _ _ n3 (hs₁.extBut _ _ n1 q))))) ⟨oe, hs₅.extBut _ _ hez hoe, hce⟩
theorem pyNext_zipS_item {z TI TO i1 i2 l1 l2 : Addr} {k1 k2 c1 c2 : Nat} {x y : Str} {t1 t2 : Tok} {a b : Value} {Q : Option Value → Shared → Prop} (D : ZipApart z TI TO i1 i2 l1 l2)
    (hz : IsZip s.heap z TI TO .none) (hTI : IsPair s.heap TI (.ref i1) (.ref i2)) (hTO : IsPair s.heap TO a b) (h1 : SIt s.heap i1 x t1 k1) (h2 : SIt s.heap i2 y t2 k2) (hx : x.cps[k1]? = some c1) (hy : y.cps[k2]? = some c2)
    (hQ : ∀ h' u v t, IsZip h' z TI TO (rawInt s.heap.objs.size) → IsPair h' TO (.str ⟨#[c1]⟩ u) (.str ⟨#[c2]⟩ v) → SIt h' i1 x t1 (k1 + 1) → SIt h' i2 y t2 (k2 + 1) → IsPair h' s.heap.objs.size (.str ⟨#[c1]⟩ u) (.str ⟨#[c2]⟩ v) →
      (∀ c o, c ≠ z → c ≠ TO → c ≠ i1 → c ≠ i2 → s.heap.get? c = some o → h'.get? c = some o) → Q (some (.ref s.heap.objs.size)) { s with heap := h', toks := t }) :
    wpAny (model prog w) A (pyNext (.ref z)) Q E s := by
  have hT : s.TypeIs (.ref z) "zip" := ⟨_, hz, rfl⟩
  unfold pyNext
  exact wpAny_bind (wpAny_attempt (wpAny_callSpecial?_slot (name := Str.ofString "__next__") hT F.slot_zip_next (wpAny_call_entry F.slot_zip_next hT F.entry_zip_next
      (zipS_next_item D hz hTI hTO h1 h2 hx hy fun h' u v t a1 a2 a3 a4 a5 a7 => wpAny_pure (hQ h' u v t a1 a2 a3 a4 a5 a7)) (F.args_zip_next_1 _))))
theorem pyNext_zipS_end {z TI TO i1 i2 l1 l2 : Addr} {k1 k2 : Nat} {x y : Str} {t1 t2 : Tok} {a b : Value} {Q : Option Value → Shared → Prop} (hh : A.handled = none) (D : ZipApart z TI TO i1 i2 l1 l2)
    (hz : IsZip s.heap z TI TO .none) (hTI : IsPair s.heap TI (.ref i1) (.ref i2)) (hTO : IsPair s.heap TO a b) (h1 : SIt s.heap i1 x t1 k1) (h2 : SIt s.heap i2 y t2 k2) (hend : x.cps[k1]? = none ∨ y.cps[k2]? = none)
    (hQ : ∀ h' t, (∀ c o, c ≠ z → c ≠ TO → c ≠ i1 → c ≠ i2 → s.heap.get? c = some o → h'.get? c = some o) → Q none { s with heap := h', toks := t }) : wpAny (model prog w) A (pyNext (.ref z)) Q E s := by
  have hT : s.TypeIs (.ref z) "zip" := ⟨_, hz, rfl⟩
  unfold pyNext
  refine wpAny_bind (wpAny_attempt (wpAny_callSpecial?_slot (name := Str.ofString "__next__") hT F.slot_zip_next (wpAny_call_entry F.slot_zip_next hT F.entry_zip_next
    (zipS_next_end hh D hz hTI hTO h1 h2 hend fun h' t e hk he => ?_) (F.args_zip_next_1 _))))
  obtain ⟨o, ho, hc⟩ := he
  exact wpAny_bind (wpAny_isInstance (T := "StopIteration") (b := true) ⟨o, ho, hc⟩ isSubtype_stop (wpAny_pure (hQ _ _ hk)))
end
/-! the call -/
abbrev zsH1 (h : Heap) (x : Str) (t : Tok) : Heap := h.push { cls := .type "str_ascii_iterator", data := .fields #[.str x t, .int 0 0] }
abbrev zsH2 (h : Heap) (x y : Str) (t u : Tok) : Heap := (zsH1 h x t).push { cls := .type "str_ascii_iterator", data := .fields #[.str y u, .int 0 0] }
abbrev zsH3 (h : Heap) (x y : Str) (t u : Tok) : Heap := (zsH2 h x y t u).push { cls := .type "tuple", data := .seq #[.ref h.objs.size, .ref (zsH1 h x t).objs.size] }
abbrev zsH4 (h : Heap) (x y : Str) (t u : Tok) : Heap := (zsH3 h x y t u).push { cls := .type "tuple", data := .seq #[.none, .none] }
abbrev zsH5 (h : Heap) (x y : Str) (t u : Tok) : Heap := (zsH4 h x y t u).push { cls := .type "zip", data := .fields #[.none, .bool false, .bool false, .ref (zsH2 h x y t u).objs.size, .ref (zsH3 h x y t u).objs.size] }
theorem meets_zipS (x y : Str) (t u : Tok) (hx : x.cps.all (· < 128) = true) (hy : y.cps.all (· < 128) = true) :
    Meets (Builtin.«zip.__new__» ⟨[.type "zip", .str x t, .str y u], []⟩) (fun _ R s => R (.ok (.ret (.ref (zsH4 s.heap x y t u).objs.size))) { s with heap := zsH5 s.heap x y t u }) :=
  .of_wp fun prog w A R s h => by
    obtain ⟨hp, g, d, tk, os⟩ := s
    have hsub := sub_zip
    wp_walk using wpAny_pyIter_ascii hx, wpAny_pyIter_ascii hy
    exact ⟨_, rfl, h⟩
section
variable {prog : Program} {w : World} {A : Around} {E : Value → Shared → Prop} {s : Shared}
theorem call_zipS {x y : Str} {t u : Tok} {Q : Value → Shared → Prop} (hx : x.cps.all (· < 128) = true) (hy : y.cps.all (· < 128) = true)
    (h : ∀ h', IsZip h' (s.heap.objs.size + 4) (s.heap.objs.size + 2) (s.heap.objs.size + 3) .none → IsPair h' (s.heap.objs.size + 2) (.ref s.heap.objs.size) (.ref (s.heap.objs.size + 1)) →
      IsPair h' (s.heap.objs.size + 3) .none .none → SIt h' s.heap.objs.size x t 0 → SIt h' (s.heap.objs.size + 1) y u 0 → h'.objs.size = s.heap.objs.size + 5 →
      (∀ c o, s.heap.get? c = some o → h'.get? c = some o) → Q (.ref (s.heap.objs.size + 4)) { s with heap := h' }) :
    wpAny (model prog w) A (call (.type "zip") [.str x t, .str y u]) Q E s := by
  refine callType_new F.called_zip (by decide) (F.typeCall_zip_2 _ _) (F.newCall_zip_2 _ _) (fun obj => F.args_object_init_3 obj _ _) F.entry_zip_new (meets_zipS x y t u hx hy) ?_
  have z1 : (zsH1 s.heap x t).objs.size = s.heap.objs.size + 1 := Heap.size_push ..
  have z2 : (zsH2 s.heap x y t u).objs.size = s.heap.objs.size + 2 := by rw [Heap.size_push, z1]
  have z3 : (zsH3 s.heap x y t u).objs.size = s.heap.objs.size + 3 := by rw [Heap.size_push, z2]
  have z4 : (zsH4 s.heap x y t u).objs.size = s.heap.objs.size + 4 := by rw [Heap.size_push, z3]
  have z5 : (zsH5 s.heap x y t u).objs.size = s.heap.objs.size + 5 := by rw [Heap.size_push, z4]
  have g5 : (zsH5 s.heap x y t u).get? (zsH4 s.heap x y t u).objs.size = some _ := Heap.get?_push_size _ rfl
  have g4 : (zsH5 s.heap x y t u).get? (zsH3 s.heap x y t u).objs.size = some _ := Heap.get?_push_of_some _ (Heap.get?_push_size _ rfl)
  have g3 : (zsH5 s.heap x y t u).get? (zsH2 s.heap x y t u).objs.size = some _ := Heap.get?_push_of_some _ (Heap.get?_push_of_some _ (Heap.get?_push_size _ rfl))
  have g2 : (zsH5 s.heap x y t u).get? (zsH1 s.heap x t).objs.size = some _ := Heap.get?_push_of_some _ (Heap.get?_push_of_some _ (Heap.get?_push_of_some _ (Heap.get?_push_size _ rfl)))
  have g1 : (zsH5 s.heap x y t u).get? s.heap.objs.size = some _ := Heap.get?_push_of_some _ (Heap.get?_push_of_some _ (Heap.get?_push_of_some _ (Heap.get?_push_of_some _ (Heap.get?_push_size _ rfl))))
  show _ ∧ _
  rw [z2, z3, z4] at g5
  rw [z1, z2] at g3
  rw [z3] at g4
  rw [z1] at g2
  rw [z4]
  exact ⟨⟨_, g5, rfl⟩, h _ g5 g3 g4 ⟨_, g1, rfl, rfl⟩ ⟨_, g2, rfl, rfl⟩ z5 fun c o q => Heap.get?_push_of_some _ (Heap.get?_push_of_some _ (Heap.get?_push_of_some _ (Heap.get?_push_of_some _ (Heap.get?_push_of_some _ q))))⟩
end
/-! data that is small: shown and compared -/
open PySem PySem.Spec PyProof.Rows L2
/-- of bulk at most N, depth at most D -/
structure Fit (N D : Nat) (d : PyData) : Prop where
  lay : d.canLay0 = true
  sh : d.showable = true
  dp : d.depth ≤ D
  ls : d.leavesShort 13 = true
  bk : d.bulk ≤ N
theorem Fit.mono {N D N' D' : Nat} {d : PyData} (h : Fit N D d) (hN : N ≤ N') (hD : D ≤ D') : Fit N' D' d := ⟨h.lay, h.sh, Nat.le_trans h.dp hD, h.ls, Nat.le_trans h.bk hN⟩
theorem Fit.non {N D : Nat} : Fit N D .none := ⟨rfl, rfl, Nat.zero_le _, rfl, Nat.zero_le _⟩
theorem Fit.bool {N D : Nat} (b : Bool) : Fit N D (.bool b) := ⟨rfl, rfl, Nat.zero_le _, rfl, Nat.zero_le _⟩
theorem Fit.str {N D : Nat} {z : Str} (h : ∀ c ∈ z.cps.toList, c < 128) (l : z.length ≤ N) : Fit N D (.str z) := by
  refine ⟨?_, rfl, Nat.zero_le _, ?_, l⟩
  · show (z.cps.all fun c => decide (c < 0x110000)) = true
    refine Array.all_eq_true_iff_forall_mem.mpr fun c hc => decide_eq_true ?_
    have := h c (by simpa using hc)
    omega
  · show (z.cps.toList.all fun c => decide (c < 16 ^ 8)) = true
    exact List.all_eq_true.mpr fun c hc => decide_eq_true (by have := h c hc; have : (128 : Nat) ≤ 16 ^ 8 := by decide
                                                              omega)
theorem Fit.int {N D : Nat} {i : Int} (h : ((PyData.shown (.int i)).length ≤ 13 ∧ i.natAbs < 2 ^ 1000)) : Fit N D (.int i) := by
  refine ⟨rfl, ?_, Nat.zero_le _, decide_eq_true h.1, Nat.zero_le _⟩
  refine decide_eq_true ?_
  rcases Nat.eq_zero_or_pos i.natAbs with e | e
  · rw [e]; decide
  · have := (Nat.log2_lt (by omega)).mpr h.2
    omega
theorem fit_all {N D : Nat} : ∀ {ds : List PyData}, (∀ d ∈ ds, Fit N D d) → PyData.canLayAll0 ds = true ∧ PyData.showableAll ds = true ∧ PyData.depthAll ds ≤ D ∧ PyData.leavesShortAll 13 ds = true ∧ PyData.bulkAll ds ≤ (N + 1) * ds.length
  | [], _ => ⟨by simp only [PyData.canLayAll0], by simp only [PyData.showableAll], by simp only [PyData.depthAll]; omega, by simp only [PyData.leavesShortAll], by simp only [PyData.bulkAll]; omega⟩
  | d :: ds, h => by
    have h1 := h d (List.mem_cons_self ..)
    obtain ⟨a1, a2, a3, a4, a5⟩ := fit_all (ds := ds) fun x hx => h x (List.mem_cons_of_mem _ hx)
    have b3 := h1.dp
    have b5 := h1.bk
    refine ⟨?_, ?_, ?_, ?_, ?_⟩
    · simp only [PyData.canLayAll0, h1.lay, a1, Bool.and_self]
    · simp only [PyData.showableAll, h1.sh, a2, Bool.and_self]
    · simp only [PyData.depthAll]; omega
    · simp only [PyData.leavesShortAll, h1.ls, a4, Bool.and_self]
    · simp only [PyData.bulkAll, List.length_cons]
      rw [Nat.mul_add]
      omega
theorem Fit.list {N D : Nat} {ds : List PyData} (h : ∀ d ∈ ds, Fit N D d) : Fit ((N + 1) * ds.length) (D + 1) (.list ds) := by
  obtain ⟨a1, a2, a3, a4, a5⟩ := fit_all h
  exact ⟨by simpa only [PyData.canLay0] using a1, by simpa only [PyData.showable] using a2, by simp only [PyData.depth]; omega, by simpa only [PyData.leavesShort] using a4, by simpa only [PyData.bulk] using a5⟩
theorem Fit.tuple {N D : Nat} {ds : List PyData} (h : ∀ d ∈ ds, Fit N D d) : Fit ((N + 1) * ds.length) (D + 1) (.tuple ds) := by
  obtain ⟨a1, a2, a3, a4, a5⟩ := fit_all h
  exact ⟨by simpa only [PyData.canLay0] using a1, by simpa only [PyData.showable] using a2, by simp only [PyData.depth]; omega, by simpa only [PyData.leavesShort] using a4, by simpa only [PyData.bulk] using a5⟩
theorem Fit.rp {K : PySem.W.Frag} {H : Hp} {x : V} {d : PyData} {N D : Nat} (h : Fit N D d) (g : Dp K H x d) (hN : N ≤ 1048576) (hD : D ≤ 50) : Rp K H x d ∧ PyData.showable d = true ∧ PyData.depth d ≤ 50 ∧ d.shown.length ≤ sizeLine :=
  ⟨.dat g (PyData.hasDict_of_canLay d h.lay), h.sh, Nat.le_trans h.dp hD, PyData.shown_fits_bulk (by decide) (by decide) h.ls (Nat.le_trans h.bk (Nat.le_trans hN (by decide)))⟩
theorem Fit.shp {d : PyData} {N D : Nat} (h : Fit N D d) (hD : D ≤ 50) : SeqAt.shaped d = true := by
  show (d.canLay0 && decide (d.depth ≤ 64)) = true
  rw [h.lay, decide_eq_true (by have := h.dp; omega)]
  rfl
theorem Fit.eqv {d : PyData} {N D : Nat} (h : Fit N D d) : PyData.eqv d d = true := SeqAt.eqv_refl d h.lay
open PySem PySem.Spec PyProof.Rows
open L2
/-! the rule -/
def ItzS (x y : Str) : It :=
  ⟨fun i _ => i < x.cps.size ∧ i < y.cps.size, fun i H v H' => ∃ T c d, v = .ref T ∧ H T = none ∧ H' = upd H T (.tup [.str ⟨#[c]⟩, .str ⟨#[d]⟩]) ∧ x.cps[i]? = some c ∧ y.cps[i]? = some d, fun i _ => x.cps.size ≤ i ∨ y.cps.size ≤ i⟩
theorem apartS (I : Nat) : ZipApart (I + 4) (I + 2) (I + 3) I (I + 1) (I + 2) (I + 2) := by constructor <;> (show ¬ ((_ : Nat) = _); omega)
theorem turn_zipS {P : Program} {w : World} {K : PySem.W.Frag} {elts : List Expr} {kk : Nat} {tpos : Pos} {x y : Str} {t1 t2 : Tok} {a b z TI TO i1 i2 : Addr} (D : ZipApart z TI TO i1 i2 a b) :
    Turn P w K (.Tuple elts kk tpos) (ItzS x y) [z, TI, TO, i1, i2] z (fun i h => IsZip h z TI TO .none ∧ IsPair h TI (.ref i1) (.ref i2) ∧ (∃ x y, IsPair h TO x y) ∧ SIt h i1 x t1 i ∧ SIt h i2 y t2 i) where
  mem := by simp
  obj := fun i h st c hc => by
    obtain ⟨hz, hTI, ⟨u, v, hTO⟩, ⟨o1, e1, _, d1⟩, ⟨o2, e2, _, d2⟩⟩ := st
    have e' : c = z ∨ c = TI ∨ c = TO ∨ c = i1 ∨ c = i2 := by simpa using hc
    rcases e' with q | q | q | q | q <;> rw [q]
    · exact ⟨_, hz, fun v q => nomatch q⟩
    · exact ⟨_, hTI, fun v q => nomatch q⟩
    · exact ⟨_, hTO, fun v q => nomatch q⟩
    · exact ⟨o1, e1, fun v q => by rw [d1] at q; cases q⟩
    · exact ⟨o2, e2, fun v q => by rw [d2] at q; cases q⟩
  keep := fun i h h' st k => by
    obtain ⟨hz, hTI, ⟨u, v, hTO⟩, ⟨o1, e1, r1⟩, ⟨o2, e2, r2⟩⟩ := st
    exact ⟨k z (by simp) _ hz, k TI (by simp) _ hTI, ⟨u, v, k TO (by simp) _ hTO⟩, ⟨o1, k i1 (by simp) _ e1, r1⟩, ⟨o2, k i2 (by simp) _ e2, r2⟩⟩
  item := by
    intro X hP hw hK hc i pins s σ H E I hf st hg
    subst hP hw hK
    obtain ⟨hz, hTI, ⟨x0, y0, hTO⟩, h1, h2⟩ := st
    obtain ⟨lx, ly⟩ := hg
    have hx : x.cps[i]? = some x.cps[i] := Array.getElem?_eq_getElem lx
    have hy : y.cps[i]? = some y.cps[i] := Array.getElem?_eq_getElem ly
    have hzl : z < s.heap.objs.size := Heap.lt_size hz
    refine pyNext_zipS_item D hz hTI hTO h1 h2 hx hy fun h' u v t z' TO' h1' h2' hT hk => ?_
    refine ⟨_, rfl, wpAny_letOwnedTupleGo_zip (s := { s with heap := h', toks := t }) z' fun h'' z'' sb => ?_⟩
    have hT2 : h''.get? s.heap.objs.size = some { cls := .type "tuple", data := .seq #[.str ⟨#[x.cps[i]]⟩ u, .str ⟨#[y.cps[i]]⟩ v] } := (sb.2 _ (Nat.ne_of_gt hzl)).trans hT
    have new : ObjOk X.prog X.w (upd H s.heap.objs.size (.tup [.str ⟨#[x.cps[i]]⟩, .str ⟨#[y.cps[i]]⟩])) h'' s.heap.objs.size (.tup [.str ⟨#[x.cps[i]]⟩, .str ⟨#[y.cps[i]]⟩]) :=
      ⟨by show 2 ≤ sizeLine; decide, [.str ⟨#[x.cps[i]]⟩ u, .str ⟨#[y.cps[i]]⟩ v], .cons ⟨_, rfl⟩ (.cons ⟨_, rfl⟩ .nil), ⟨_, hT2, rfl, _, rfl⟩⟩
    have I1 : Inv X pins σ (upd H s.heap.objs.size (.tup [.str ⟨#[x.cps[i]]⟩, .str ⟨#[y.cps[i]]⟩])) { s with heap := h'', toks := t } :=
      I.turnedNew (t' := t) (ch := [z, TI, TO, i1, i2]) (fun c o hb q => (sb.2 c (fun q' => hb (by simp [q']))).trans (hk c o (fun q' => hb (by simp [q'])) (fun q' => hb (by simp [q'])) (fun q' => hb (by simp [q'])) (fun q' => hb (by simp [q'])) q)) hf (Nat.le_refl _) new
    refine ⟨.ref s.heap.objs.size, _, I1, rfl, ⟨_, _, _, rfl, I.hok.fresh (Nat.le_refl _), rfl, hx, hy⟩, ⟨z'', ?_, ⟨_, _, (sb.2 _ D.TOz).trans TO'⟩, ?_, ?_⟩, fun c hcm => ?_⟩
    · exact (sb.2 _ D.TIz).trans (hk _ _ D.TIz D.TITO D.TIi1 D.TIi2 hTI)
    · exact let ⟨o, e, r⟩ := h1'; ⟨o, (sb.2 _ D.i1z).trans e, r⟩
    · exact let ⟨o, e, r⟩ := h2'; ⟨o, (sb.2 _ D.i2z).trans e, r⟩
    · have hlt : c < s.heap.objs.size := by
        have e' : c = z ∨ c = TI ∨ c = TO ∨ c = i1 ∨ c = i2 := by simpa using hcm
        rcases e' with q | q | q | q | q <;> rw [q]
        · exact hzl
        · exact Heap.lt_size hTI
        · exact Heap.lt_size hTO
        · obtain ⟨_, e1, _⟩ := h1; exact Heap.lt_size e1
        · obtain ⟨_, e2, _⟩ := h2; exact Heap.lt_size e2
      rw [upd_ne (Nat.ne_of_lt hlt)]
      exact (hf c hcm).1
  done := by
    intro X hP hw hK hc i pins s σ H E I hf st hg
    subst hP hw hK
    obtain ⟨hz, hTI, ⟨x0, y0, hTO⟩, h1, h2⟩ := st
    have he : x.cps[i]? = none ∨ y.cps[i]? = none := hg.elim (fun q => .inl (Array.getElem?_eq_none q)) fun q => .inr (Array.getElem?_eq_none q)
    exact pyNext_zipS_end (I.ok.hd hc) D hz hTI hTO h1 h2 he fun h' t hk => ⟨rfl, I.turnedL (t' := t) (ch := [z, TI, TO, i1, i2]) (fun c o hb q =>
      hk c o (fun q' => hb (by simp [q'])) (fun q' => hb (by simp [q'])) (fun q' => hb (by simp [q'])) (fun q' => hb (by simp [q'])) q) hf⟩
  self := fun A i s Q E st h => wpAny_pyIter_zip st.1 h
def SmallS (x : Str) : Prop := x.cps.all (· < 128) = true
def iZipS (ta : TA) : TI := fun σ H R => ta σ H fun vs H1 => ∃ x y, vs = [.str x, .str y] ∧ SmallS x ∧ SmallS y ∧ R (ItzS x y) H1
theorem pi_zipS {X : Cx} {e e2 : Expr} {ta : TA} {p pos tpos : Pos} {elts : List Expr} {kk : Nat} (hg : Gl X "zip") (hm : X.mg "zip" = none) (ha : PA X [e, e2] ta)
    (hs : starEach [e, e2] X.env = (false, eval e X.env) :: starEach [e2] X.env := by rfl) (hpl : (backTo pos (starEach [e2] X.env)).any (·.1) = false := by rfl) :
    PI X (.Tuple elts kk tpos) (.Call (.Name "zip" p) [e, e2] [] pos) (iZipS ta) := by
  refine ⟨fun pins s σ H R I h => ?_⟩
  refine Call_ (ld_blt I hg hm PyProof.Rows.boot_zip (PyProof.Rows.callWith_type1 (thn (ha.run pos pins s σ H _ I h) fun us s1 ⟨vs, H1, I1, r1, q1⟩ => ?_) hs hpl))
  obtain ⟨x, y, ex, hx, hy, q⟩ := q1
  subst ex
  cases r1 with
  | cons r rr =>
    cases rr with
    | cons r' rr =>
      cases rr
      obtain ⟨t, rfl⟩ := r
      obtain ⟨t', rfl⟩ := r'
      refine call_zipS hx hy fun h' hz hTI hTO h1 h2 hsz hk => wpAny_pyIter_zip hz ?_
      have I2 : Inv X pins σ H1 { s1 with heap := h' } := I1.kept (t' := s1.toks) hk
      refine ⟨s1.heap.objs.size + 4, [s1.heap.objs.size + 4, s1.heap.objs.size + 2, s1.heap.objs.size + 3, s1.heap.objs.size, s1.heap.objs.size + 1], _, _, H1, rfl, I2, turn_zipS (apartS s1.heap.objs.size), ⟨hz, hTI, ⟨_, _, hTO⟩, h1, h2⟩, fun c hcm => ?_, q⟩
      have e' : c = s1.heap.objs.size + 4 ∨ c = s1.heap.objs.size + 2 ∨ c = s1.heap.objs.size + 3 ∨ c = s1.heap.objs.size ∨ c = s1.heap.objs.size + 1 := by simpa using hcm
      have hle : s1.heap.objs.size ≤ c := by
        rcases e' with q | q | q | q | q <;> rw [q] <;> first | exact Nat.le_add_right _ _ | exact Nat.le_refl _
      exact I1.fpOk hle (I1.hok.fresh hle)
theorem walk_zipS {x y : Str} : L2.Walk (ItzS x y) (min x.length y.length) (fun _ => True) (fun i H v H' => ∃ T c d, v = .ref T ∧ H T = none ∧ H' = upd H T (.tup [.str ⟨#[c]⟩, .str ⟨#[d]⟩]) ∧ x.cps.toList[i]? = some c ∧ y.cps.toList[i]? = some d) := by
  refine ⟨fun i _ hi _ => ?_, fun _ _ => ?_, fun i H v H' hi _ y => ?_⟩
  · show i < x.length ∧ i < y.length
    omega
  · show x.length ≤ _ ∨ y.length ≤ _
    omega
  · obtain ⟨T, c, d, e1, e2, e3, e4, e5⟩ := y
    exact ⟨T, c, d, e1, e2, e3, by simpa using e4, by simpa using e5⟩
open PySem PySem.Spec PyProof.Rows
open L2 hiding pass0
open L2 (cxOf)
def top (i : Nat) : Stmt := PySem.Challenge.pw_coverways_k34_whole_paths.main.body.getD i (.Pass ⟨0, 0, 0, 0⟩)
abbrev s_law_pot : Stmt := top 18
theorem sc_law_pot : FnScope ["_law_script", "_law_k", "_law_start"] ["_law_script", "_law_k"] (defScope s_law_pot) := ⟨rfl, rfl, rfl, by decide +kernel, rfl, by decide +kernel, by decide +kernel⟩
theorem bp_law_pot : BndP "_law_pot" s_law_pot ["_law_script", "_law_k"] := fun _ _ _ _ _ _ us h => match us, h with | [_, _], _ => rfl
abbrev s_law_draw : Stmt := top 19
theorem sc_law_draw : FnScope ["_law_pot_here", "_law_many", "_law_digit"] ["_law_pot_here", "_law_many"] (defScope s_law_draw) := ⟨rfl, rfl, rfl, by decide +kernel, rfl, by decide +kernel, by decide +kernel⟩
theorem bp_law_draw : BndP "_law_draw" s_law_draw ["_law_pot_here", "_law_many"] := fun _ _ _ _ _ _ us h => match us, h with | [_, _], _ => rfl
abbrev s_law_pick : Stmt := top 20
theorem sc_law_pick : FnScope ["_law_pot_here", "_law_some"] ["_law_pot_here", "_law_some"] (defScope s_law_pick) := ⟨rfl, rfl, rfl, by decide +kernel, rfl, by decide +kernel, by decide +kernel⟩
theorem bp_law_pick : BndP "_law_pick" s_law_pick ["_law_pot_here", "_law_some"] := fun _ _ _ _ _ _ us h => match us, h with | [_, _], _ => rfl
abbrev s_law_spot : Stmt := top 21
theorem sc_law_spot : FnScope ["_law_pot_here", "_law_wide", "_law_turn"] ["_law_pot_here", "_law_wide"] (defScope s_law_spot) := ⟨rfl, rfl, rfl, by decide +kernel, rfl, by decide +kernel, by decide +kernel⟩
theorem bp_law_spot : BndP "_law_spot" s_law_spot ["_law_pot_here", "_law_wide"] := fun _ _ _ _ _ _ us h => match us, h with | [_, _], _ => rfl
abbrev s_law_near : Stmt := top 22
theorem sc_law_near : FnScope ["_law_pot_here", "_law_spot_here", "_law_at"] ["_law_pot_here", "_law_spot_here"] (defScope s_law_near) := ⟨rfl, rfl, rfl, by decide +kernel, rfl, by decide +kernel, by decide +kernel⟩
theorem bp_law_near : BndP "_law_near" s_law_near ["_law_pot_here", "_law_spot_here"] := fun _ _ _ _ _ _ us h => match us, h with | [_, _], _ => rfl
/-- what the top leaves of the built-in names -/
structure Txt (K : PySem.W.Frag) (mg : Str → Option Value) : Prop where
  b_len : mg "len" = none
  b_abs : mg "abs" = none
  b_max : mg "max" = none
  b_min : mg "min" = none
  b_int : mg "int" = none
  b_divmod : mg "divmod" = none
  b_range : mg "range" = none
  b_repr : mg "repr" = none
  b_all : mg "all" = none
  b_str : mg "str" = none
  b_bool : mg "bool" = none
  b_isinstance : mg "isinstance" = none
  b_tuple : mg "tuple" = none
  b_dict : mg "dict" = none
  b_list : mg "list" = none
  b_sorted : mg "sorted" = none
  b_zip : mg "zip" = none
/-! ### draws -/
def PotAt (H : Hp) (p : Addr) : Prop := ∃ a b : Int, H p = some (.lst [.int a, .int b]) ∧ 0 ≤ a ∧ 0 ≤ b ∧ b < 2147483648
/-- all that stood stands, but for the pot at p -/
structure Go (p : Addr) (H H' : Hp) : Prop where
  pot : PotAt H' p
  keep : ∀ a o, H a = some o → a ≠ p → H' a = some o
theorem Go.trans {p : Addr} {H H1 H2 : Hp} (a : Go p H H1) (b : Go p H1 H2) : Go p H H2 := ⟨b.pot, fun c o h n => b.keep c o (a.keep c o h n) n⟩
theorem Go.refl {p : Addr} {H : Hp} (h : PotAt H p) : Go p H H := ⟨h, fun _ _ e _ => e⟩
theorem Go.new {p q : Addr} {H H1 : Hp} {o : HO} (g : Go p H H1) (h : H1 q = none) : Go p H (upd H1 q o) := by
  obtain ⟨a, b, e, r⟩ := g.pot
  refine ⟨⟨a, b, by rw [upd_ne (ne_of_none e h)]; exact e, r⟩, fun c u hc n => ?_⟩
  have := g.keep c u hc n
  rw [upd_ne (ne_of_none this h)]
  exact this
theorem Go.lst {K : PySem.W.Frag} {p a : Addr} {H H' : Hp} {xs : List V} (g : Go p H H') (n : a ≠ p) (h : SqL K H a xs) : SqL K H' a xs := by
  rcases h with (h | ⟨o, h⟩) | h
  · exact .inl (.inl (g.keep _ _ h n))
  · exact .inl (.inr ⟨o, g.keep _ _ h n⟩)
  · exact .inr h
theorem Go.fresh {p q : Addr} {H H' : Hp} (g : Go p H H') (hp : PotAt H p) (h : H' q = none) : H q = none := by
  cases e : H q with
  | none => rfl
  | some o =>
    by_cases n : q = p
    · subst n
      obtain ⟨a, b, e2, _⟩ := g.pot
      rw [h] at e2
      cases e2
    · have := g.keep q o e n
      rw [h] at this
      cases this
theorem szl {n : Nat} (h : n ≤ 1000000) : n ≤ sizeLine := Nat.le_trans h (by decide)
theorem szt {n : Nat} (h : n < 1000000) : n < sizeLine := Nat.lt_of_lt_of_le h (by decide)
theorem nonn {H : Hp} {a b : Addr} {o : HO} (h' : H b = none) (h : H a = some o) : a ≠ b := ne_of_none h h'
theorem Go.kp {p a : Addr} {H H' : Hp} {o : HO} (g : Go p H H') (h : H a = some o) (n : a ≠ p) : H' a = some o := g.keep a o h n
theorem updn {H : Hp} {a b : Addr} {o u : HO} (n : b ≠ a) (h : H b = some u) : upd H a o b = some u := (upd_ne n).trans h
local macro_rules | `(tactic| walk_at "hp") => `(tactic| first | assumption | exact upd_same | exact updn (by walk_at "ne") (by walk_at "hp") | exact Go.kp (by assumption) (by walk_at "hp") (by walk_at "ne"))
local macro_rules | `(tactic| walk_at "ne") => `(tactic| first | assumption | exact Ne.symm (by assumption) | exact nonn (by assumption) (by walk_at "hp") | exact Ne.symm (nonn (by assumption) (by walk_at "hp")))
local macro_rules | `(tactic| walk_at "sq") => `(tactic| first | assumption | exact SqL.of (by walk_at "hp") | exact SqT.of (by walk_at "hp") | exact Go.lst (by assumption) (by walk_at "ne") (by walk_at "sq"))
local macro_rules | `(tactic| walk_at "sz") => `(tactic| first | assumption | exact szl (Nat.le_of_ble_eq_true rfl) | (apply szl; first | omega | (simp; omega)) | (apply szt; first | omega | (simp; omega)))
local macro_rules | `(tactic| walk_at "len") => `(tactic| first | exact Or.inl ⟨_, (by walk_at "sq"), rfl⟩ | exact ⟨(by walk_at "sz"), rfl⟩ | exact Or.inr ⟨_, (by walk_at "sq"), rfl⟩)
local macro_rules | `(tactic| walk_at "ar") => `(tactic| first | assumption | omega | decide | exact upd_same | rfl | walk_at "sz" | (simp only [CDiv, CMul, CPow]; first | omega | decide) | (refine ⟨?_, ?_⟩ <;> first | omega | decide))
local macro_rules | `(tactic| walk_at "at") => `(tactic| first | rfl | assumption | decide)
/-! one step of a reading -/
local macro_rules | `(tactic| walk_at "s1") => `(tactic| first
  | (refine ⟨_, rfl, ?_⟩)
  | (refine ⟨_, _, rfl, rfl, ?_⟩)
  | (refine Or.inl ⟨_, _, _, _, rfl, rfl, by walk_at "sq", by walk_at "at", ?_⟩)
  | (refine Or.inr (Or.inl ⟨_, _, _, _, rfl, rfl, by walk_at "sq", by walk_at "at", ?_⟩))
  | (refine Or.inl ⟨_, rfl, ?_⟩)
  | (refine And.intro (by walk_at "ar") ?_)
  | (refine ⟨_, _, rfl, ?_⟩)
  | (refine ⟨_, _, rfl, (by walk_at "sq"), rfl, ?_⟩)
  | (refine ⟨_, _, rfl, (by walk_at "len"), ?_⟩)
  | (refine ⟨_, _, _, _, rfl, rfl, (by walk_at "hp"), rfl, ?_⟩)
  | (refine fun q (hq : _ = none) => ?_)
  | (intro _; intros))
local macro_rules | `(tactic| walk_at "go") => `(tactic| first | assumption | exact Go.refl (by assumption) | exact Go.new (by walk_at "go") (by assumption) | exact Go.trans (by walk_at "go") (by assumption))
local macro_rules | `(tactic| walk_at "pot") => `(tactic| first | assumption | exact Go.pot (by assumption) | exact Go.pot (by walk_at "go"))
theorem atI_ok {α : Type} {xs : List α} {d : Int} (h0 : 0 ≤ d) (h1 : d < (xs.length : Int)) : ∃ v, v ∈ xs ∧ atI xs d = some v := by
  obtain ⟨j, rfl⟩ := Int.eq_ofNat_of_zero_le h0
  have hj : j < xs.length := by omega
  exact ⟨xs[j], List.getElem_mem hj, atI_nat (by simp [hj])⟩
theorem potb (x M : Int) (h0 : 0 < M) (h1 : M < 2147483648) : 0 ≤ x % M + 1 ∧ x % M + 1 < 2147483648 := by
  have := Int.emod_nonneg x (show M ≠ 0 by omega)
  have := Int.emod_lt_of_pos x h0
  omega
theorem emodb (x M : Int) (h0 : 0 < M) (h1 : M ≤ 2147483648) : x % M < 2147483648 := by
  have := Int.emod_lt_of_pos x h0
  omega
theorem max0 {x : Int} : 0 ≤ (if x > 0 then x else 0) := by split <;> omega
theorem Go.mut {p D : Addr} {H H1 : Hp} {o : HO} (g : Go p H H1) (n : H D = none) (np : D ≠ p) : Go p H (upd H1 D o) := by
  obtain ⟨a, b, e, r⟩ := g.pot
  exact ⟨⟨a, b, by rw [upd_ne (Ne.symm np)]; exact e, r⟩, fun c u hc nc => by rw [upd_ne (ne_of_none hc n)]; exact g.keep c u hc nc⟩
theorem PotAt.ne {p q : Addr} {H : Hp} (h : PotAt H p) (n : H q = none) : q ≠ p := by
  obtain ⟨a, b, e, _⟩ := h
  exact (ne_of_none e n).symm
/-- a def that raises nothing -/
theorem nm_of0 {P : Program} {w : World} {K : PySem.W.Frag} {mg : Str → Option Value} {base : Heap} {CX : CXT} {x : Str} {st : Stmt} {f : Addr} {fd : FuncData} {N ps : List Str} {k : Nat} {sp : Sp} (F : Fun K x x st f fd) (hm : mg x = some (.ref f)) (S : FnScope N ps (defScope st)) (len : ∀ vs H Q E, sp vs H Q E → vs.length = ps.length)
    (hb : ∀ (cdv : Value) (A : Around) (outer : List Env) (s : Shared) (H : Hp) (vs : List V) (Q : VK) (E : XK), RoomG k (A.deeper (envOfC x (defScope st) s.heap.objs.size f cdv)) → sp vs H Q E →
      ∃ t, PSs (cxOf CX P w K mg base N x (defScope st) f cdv A outer s H E).nox (defBody st) t ∧ t { nx := fun _ H' => Q .non H', rt := Q } (start N vs) H) : Nm P w K mg base CX (k + 1) x st ps sp :=
  nm_of F hm S len fun cdv A outer s H vs Q E hr h => let ⟨t, h1, h2⟩ := hb cdv A outer s H vs Q E hr h; ⟨t, h1.nox, h2⟩
/-- texts of single signs -/
def sg (c : Nat) : Str := ⟨#[c]⟩
theorem joinL_sg : ∀ zs : List Nat, TL.joinL [] (zs.map fun c => [c]) = zs
  | [] => rfl
  | [c] => rfl
  | c :: d :: r => by
    show [c] ++ [] ++ TL.joinL [] ((d :: r).map fun c => [c]) = c :: d :: r
    rw [joinL_sg (d :: r)]
    rfl
theorem join_sg (zs : List Nat) : Txt.join ("" : Str) (zs.map sg) = SX.S zs := by
  have h := SX.join_S [] (zs.map fun c => [c])
  rw [joinL_sg, List.map_map] at h
  exact h
theorem sum_sg : ∀ zs : List Nat, ((zs.map sg).map (·.length)).sum = zs.length
  | [] => rfl
  | c :: r => by
    rw [List.map_cons, List.map_cons, List.sum_cons, sum_sg r]
    show 1 + r.length = r.length + 1
    omega
theorem Go.put {p : Addr} {H H1 : Hp} {a b : Int} (g : Go p H H1) (ha : 0 ≤ a) (hb : 0 ≤ b) (hb2 : b < 2147483648) : Go p H (upd H1 p (.lst [.int a, .int b])) :=
  ⟨⟨a, b, upd_same, ha, hb, hb2⟩, fun c o e n => by rw [upd_ne n]; exact g.keep c o e n⟩
theorem Go.any {p : Addr} {H : Hp} (q : Addr) (o : HO) (h : PotAt H p) (n : H q = none) : Go p H (upd H q o) := (Go.refl h).new n
@[irreducible] def spPot (K : PySem.W.Frag) : Sp := fun vs H Q _ => ∃ (a : Addr) (ns : List Int) (k : Int), vs = [.ref a, .int k] ∧ SqL K H a (ns.map V.int) ∧ ns.length ≤ 63 ∧ 0 ≤ k ∧ k ≤ 100 ∧
  ∀ p H', H p = none → PotAt H' p → (∀ b o, H b = some o → H' b = some o) → Q (.ref p) H'
@[irreducible] def spDraw : Sp := fun vs H Q _ => ∃ (p : Addr) (n : Int), vs = [.ref p, .int n] ∧ PotAt H p ∧ 0 < n ∧ n < 1073741824 ∧ ∀ (d : Int) H', 0 ≤ d → d < n → Go p H H' → Q (.int d) H'
@[irreducible] def spAmong (K : PySem.W.Frag) : Sp := fun vs H Q _ => ∃ (p : Addr) (x : V), vs = [.ref p, x] ∧ PotAt H p ∧
  ((∃ (a : Addr) (xs : List V), x = .ref a ∧ a ≠ p ∧ SqL K H a xs ∧ 0 < xs.length ∧ xs.length ≤ 1000 ∧ ∀ v ∈ xs, ∀ H', Go p H H' → Q v H') ∨
   (∃ z : Str, x = .str z ∧ 0 < z.length ∧ z.length ≤ 1000 ∧ ∀ c ∈ z.cps.toList, ∀ H', Go p H H' → Q (.str ⟨#[c]⟩) H'))
def Bits (z : Str) : Prop := ∀ c ∈ z.cps.toList, c = 48 ∨ c = 49
@[irreducible] def spSpot : Sp := fun vs H Q _ => ∃ (p : Addr) (n : Nat), vs = [.ref p, .int n] ∧ PotAt H p ∧ n ≤ 1000 ∧
  ∀ (z : Str) H', Bits z → z.length = n → Go p H H' → Q (.str z) H'
@[irreducible] def spNear : Sp := fun vs H Q _ => ∃ (p : Addr) (t : Str), vs = [.ref p, .str t] ∧ PotAt H p ∧ Bits t ∧ t.length ≤ 1000 ∧
  ∀ (z : Str) H', Bits z → z.length = t.length → Go p H H' → Q (.str z) H'
section
variable {K : PySem.W.Frag} {p a : Addr} {n lo hi k : Int} {H : Hp} {Q : VK} {E : XK} {xs : List V} {z : Str} {ns : List Int}
theorem pot_go (hS : SqL K H a (ns.map V.int)) (hl : ns.length ≤ 63) (h0 : 0 ≤ k) (h1 : k ≤ 100) (q : ∀ p H', H p = none → PotAt H' p → (∀ b o, H b = some o → H' b = some o) → Q (.ref p) H') : spPot K [.ref a, .int k] H Q E := by
  unfold spPot
  exact ⟨a, ns, k, rfl, hS, hl, h0, h1, q⟩
theorem draw_go (hp : PotAt H p) (h0 : 0 < n) (h1 : n < 1073741824) (q : ∀ (d : Int) H', 0 ≤ d → d < n → Go p H H' → Q (.int d) H') : spDraw [.ref p, .int n] H Q E := by
  unfold spDraw
  exact ⟨p, n, rfl, hp, h0, h1, q⟩
theorem among_l (hp : PotAt H p) (na : a ≠ p) (hS : SqL K H a xs) (h0 : 0 < xs.length) (h1 : xs.length ≤ 1000) (q : ∀ v ∈ xs, ∀ H', Go p H H' → Q v H') : spAmong K [.ref p, .ref a] H Q E := by
  unfold spAmong
  exact ⟨p, _, rfl, hp, .inl ⟨a, xs, rfl, na, hS, h0, h1, q⟩⟩
theorem among_s (hp : PotAt H p) (h0 : 0 < z.length) (h1 : z.length ≤ 1000) (q : ∀ c ∈ z.cps.toList, ∀ H', Go p H H' → Q (.str ⟨#[c]⟩) H') : spAmong K [.ref p, .str z] H Q E := by
  unfold spAmong
  exact ⟨p, _, rfl, hp, .inr ⟨z, rfl, h0, h1, q⟩⟩
theorem spot_go {n : Nat} (hp : PotAt H p) (h2 : n ≤ 1000) (q : ∀ (z : Str) H', Bits z → z.length = n → Go p H H' → Q (.str z) H') : spSpot [.ref p, .int n] H Q E := by
  unfold spSpot
  exact ⟨p, n, rfl, hp, h2, q⟩
theorem near_go (hp : PotAt H p) (hz : Bits z) (h2 : z.length ≤ 1000) (q : ∀ (y : Str) H', Bits y → y.length = z.length → Go p H H' → Q (.str y) H') : spNear [.ref p, .str z] H Q E := by
  unfold spNear
  exact ⟨p, z, rfl, hp, hz, h2, q⟩
end
section
variable {P : Program} {w : World} {K : PySem.W.Frag} {mg : Str → Option Value} {base : Heap} {f : Addr} {fd : FuncData}
theorem ok_draw (F : Fun K "_law_draw" "_law_draw" s_law_draw f fd) (hm : mg "_law_draw" = some (.ref f)) (T : Txt K mg) : Nm P w K mg base CX0 1 "_law_draw" s_law_draw ["_law_pot_here", "_law_many"] spDraw := by
  refine nm_of F hm sc_law_draw (fun vs H Q E h => ?_) fun cdv A outer s H vs Q E hr h => ?_
  · unfold spDraw at h
    obtain ⟨p, n, rfl, _⟩ := h
    rfl
  · unfold spDraw at h
    obtain ⟨p, n, rfl, ⟨a, b, hp, ha, hb, hb2⟩, hn, hn2, k⟩ := h
    refine ⟨_, (pss_cons (ps_if (pt_cmpR op_gt (pe_ix (ix_seqK (K := K) rfl) (pv 0) pe_int (fun _ _ => rfl)) pe_int (nomark _)) (pss_cons (ps_asg (pe_callB call_divmod (by rfl) T.b_divmod (by decide +kernel) (pa_cons (pe_ix (ix_seqK (K := K) rfl) (pv 0) pe_int (fun _ _ => rfl)) (pa_cons (pv 1) pa_nil))) (pg_tup (by rfl) (pgs_cons (pg_sub (pv 0) pe_int set_list) (pgs_cons (pg_name (i := 2) sc_law_draw.nd rfl (by first | exact Or.inl rfl | exact Or.inr rfl)) pgs_nil))))
      (pss_one (ps_ret (pv 2)))) pss_nil)
      (pss_cons (ps_asg (pe_op op_mod (pe_callTy call_int1 (by rfl) T.b_int (by decide +kernel) (pa_cons (pe_op op_add (pe_op op_mul (pe_ix (ix_seqK (K := K) rfl) (pv 0) pe_int (fun _ _ => rfl)) pe_int) pe_int) pa_nil)) pe_int) (pg_sub (pv 0) pe_int set_list))
      (pss_one (ps_ret (pe_op op_mod (pe_callTy call_int1 (by rfl) T.b_int (by decide +kernel) (pa_cons (pe_op op_fdiv (pe_op op_mod (pe_callTy call_int1 (by rfl) T.b_int (by decide +kernel) (pa_cons (pe_op op_mul (pe_ix (ix_seqK (K := K) rfl) (pv 0) pe_int (fun _ _ => rfl)) (pe_ix (ix_seqK (K := K) rfl) (pv 0) pe_int (fun _ _ => rfl))) pa_nil)) pe_int) pe_int) pa_nil)) (pv 1)))))), ?_⟩
    have g0 : PotAt H p := ⟨a, b, hp, ha, hb, hb2⟩
    repeat walk_at "s1"
    refine ite2 (fun c => ?_) fun c => ?_
    · have c' : 0 < a := of_decide_eq_true c
      repeat walk_at "s1"
      rename_i q hq
      exact k _ _ (Int.emod_nonneg _ (by omega)) (Int.emod_lt_of_pos _ hn) (((Go.refl g0).new hq).put (Int.ediv_nonneg ha (by omega)) hb hb2)
    · repeat walk_at "s1"
      exact k _ _ (Int.emod_nonneg _ (by omega)) (Int.emod_lt_of_pos _ hn) ((Go.refl g0).put ha (Int.emod_nonneg _ (by decide)) (emodb _ _ (by decide) (by decide)))
theorem ok_pot (F : Fun K "_law_pot" "_law_pot" s_law_pot f fd) (hm : mg "_law_pot" = some (.ref f)) (T : Txt K mg) : Nm P w K mg base CX0 1 "_law_pot" s_law_pot ["_law_script", "_law_k"] (spPot K) := by
  refine nm_of F hm sc_law_pot (fun vs H Q E h => ?_) fun cdv A outer s H vs Q E hr h => ?_
  · unfold spPot at h
    obtain ⟨a, ns, k, rfl, _⟩ := h
    rfl
  · unfold spPot at h
    obtain ⟨a, ns, k, rfl, hS, hl, hk, hk2, kk⟩ := h
    refine ⟨_, (pss_cons (ps_set (i := 2) sc_law_pot.nd rfl (by first | exact Or.inl rfl | exact Or.inr rfl) (pe_op op_add (pe_op op_mul pe_int (pv 1)) pe_int))
      (pss_cons (ps_if (pt_cmpR op_lt (pv 1) (pe_callB (call_lenK (K := K) rfl) (by rfl) T.b_len PySem.boot_len (pa_cons (pv 0) pa_nil)) (nomark _)) (pss_one (ps_set (i := 2) sc_law_pot.nd rfl (by first | exact Or.inl rfl | exact Or.inr rfl) (pe_callB call_abs (by rfl) T.b_abs (by decide +kernel) (pa_cons (pe_ix (ix_seqK (K := K) rfl) (pv 0) (pv 1) (fun _ _ => rfl)) pa_nil)))) pss_nil)
      (pss_one (ps_ret (pe_lst (pa_cons (pe_callB (call_max2 rfl) (by rfl) T.b_max (by decide +kernel) (pa_cons pe_int (pa_cons (pe_op op_sub (pv 2) (pe_op op_pow pe_int pe_int)) pa_nil))) (pa_cons (pe_op op_add (pe_op op_mod (pe_callTy call_int1 (by rfl) T.b_int (by decide +kernel) (pa_cons (pe_op op_add (pe_op op_add (pe_op op_mul (pe_op op_mod (pe_callTy call_int1 (by rfl) T.b_int (by decide +kernel) (pa_cons (pv 2) pa_nil)) pe_int) pe_int) (pe_op op_mul pe_int (pv 1))) pe_int) pa_nil)) pe_int) pe_int) pa_nil))))))), ?_⟩
    repeat walk_at "s1"
    refine ite2 (fun c => ?_) fun c => ?_
    · have c' : k < (ns.length : Int) := by have := of_decide_eq_true c; rw [List.length_map] at this; exact this
      have hat : atI (ns.map V.int) k = some (.int (ns.getD k.toNat 0)) := by
        obtain ⟨j, rfl⟩ := Int.eq_ofNat_of_zero_le hk
        have hj : j < ns.length := by omega
        refine atI_nat ?_
        simp [List.getElem?_map, hj, List.getD]
      iterate 30 (try walk_at "s1")
      refine kk _ _ (by assumption) ⟨_, _, upd_same, ?_, ?_, ?_⟩ fun b o e => updn (nonn (by assumption) e) e
      · exact max0
      · exact (potb _ _ (by decide) (by decide)).1
      · exact (potb _ _ (by decide) (by decide)).2
    · iterate 30 (try walk_at "s1")
      refine kk _ _ (by assumption) ⟨_, _, upd_same, ?_, ?_, ?_⟩ fun b o e => updn (nonn (by assumption) e) e
      · exact max0
      · exact (potb _ _ (by decide) (by decide)).1
      · exact (potb _ _ (by decide) (by decide)).2
theorem ok_pick (F : Fun K "_law_pick" "_law_pick" s_law_pick f fd) (hm : mg "_law_pick" = some (.ref f)) (T : Txt K mg) (c_law_draw : Nm P w K mg base CX0 1 "_law_draw" s_law_draw ["_law_pot_here", "_law_many"] spDraw) :
    Nm P w K mg base CX0 2 "_law_pick" s_law_pick ["_law_pot_here", "_law_some"] (spAmong K) := by
  refine nm_of F hm sc_law_pick (fun vs H Q E h => ?_) fun cdv A outer s H vs Q E hr h => ?_
  · unfold spAmong at h
    obtain ⟨p, x, rfl, _⟩ := h
    rfl
  · unfold spAmong at h
    obtain ⟨p, x, rfl, hp, h⟩ := h
    refine ⟨_, (pss_one (ps_ret (pe_ix (ix_seqK (K := K) rfl) (pv 1) (pe_g c_law_draw hr (by decide) L2.pass0 bp_law_draw (by rfl) (pa_cons (pv 0) (pa_cons (pe_callB (call_lenK (K := K) rfl) (by rfl) T.b_len PySem.boot_len (pa_cons (pv 1) pa_nil)) pa_nil))) (fun _ _ => rfl)))), ?_⟩
    rcases h with ⟨a, xs, rfl, na, hS, l0, l1, k⟩ | ⟨z, rfl, l0, l1, k⟩
    · iterate 4 walk_at "s1"
      refine draw_go hp (by omega) (by omega) fun d H' h0 h1 g => ?_
      obtain ⟨v, hv, hat⟩ := atI_ok (xs := xs) h0 h1
      exact Or.inl ⟨_, _, _, _, rfl, rfl, g.lst na hS, hat, k v hv H' g⟩
    · iterate 4 walk_at "s1"
      refine draw_go hp (by omega) (by omega) fun d H' h0 h1 g => ?_
      obtain ⟨c, hc, hat⟩ := atI_ok (xs := z.cps.toList) h0 (by rw [Array.length_toList]; exact h1)
      exact Or.inr (Or.inr ⟨_, _, c, rfl, rfl, szl (by omega), hat, k c hc H' g⟩)
theorem ok_spot (F : Fun K "_law_spot" "_law_spot" s_law_spot f fd) (hm : mg "_law_spot" = some (.ref f)) (T : Txt K mg) (c_law_draw : Nm P w K mg base CX0 1 "_law_draw" s_law_draw ["_law_pot_here", "_law_many"] (spDraw)) : Nm P w K mg base CX0 2 "_law_spot" s_law_spot ["_law_pot_here", "_law_wide"] (spSpot) := by
  refine nm_of F hm sc_law_spot (fun vs H Q E h => ?_) fun cdv A outer s H vs Q E hr h => ?_
  · unfold spSpot at h
    obtain ⟨p, n, rfl, hp, h2, k⟩ := h
    subst_vars
    rfl
  unfold spSpot at h
  obtain ⟨p, n, rfl, hp, h2, k⟩ := h
  refine ⟨_, (pss_one (ps_ret (pe_join pe_str (pe_lc (own := [("_law_turn", 2)]) (g := (gName 2)) (by rfl) sc_law_spot.nd (pi_range1 (by rfl) T.b_range (pa_cons (pv 1) pa_nil)) (blkOk_by (own := [("_law_turn", 2)]) (N := ["_law_pot_here", "_law_wide", "_law_turn"]) (sc := defScope s_law_spot) (by decide +kernel)) (fun _ _ _ _ _ => (pg_name (i := 2) sc_law_spot.nd rfl (by first | exact Or.inl rfl | exact Or.inr rfl))) (fun _ _ _ _ _ => pts_nil) (fun _ _ _ _ _ => (pe_ix (ix_seqK (K := K) rfl) pe_str (pe_g c_law_draw hr (by decide) L2.pass0 bp_law_draw (by rfl) (pa_cons (pv 0) (pa_cons pe_int pa_nil))) (fun _ _ => rfl))))))), ?_⟩
  refine ⟨⟨_, rfl⟩, ?_⟩
  iterate 6 (try walk_at "s1")
  rename_i D nD
  have nDp : D ≠ p := hp.ne nD
  refine lc_it walk_range (fun i H1 => ∃ zs : List Nat, H1 D = some (.lst ((zs.map sg).map V.str)) ∧ zs.length = i ∧ (∀ c ∈ zs, c = 48 ∨ c = 49) ∧ Go p H H1) ⟨[], upd_same, rfl, (fun c hc => by cases hc), (Go.refl hp).new nD⟩ (fun _ _ _ _ => trivial) ?_ ?_
  · rintro i x H2 H3 hi ⟨zs, hD, hl, hz, g2⟩ ⟨rfl, rfl⟩
    refine ⟨rfl, ?_⟩
    dsimp only [tYes]
    rw [if_pos rfl]
    repeat walk_at "s1"
    refine draw_go g2.pot (by decide) (by decide) fun e H4 e0 e1 g3 => ?_
    obtain ⟨c, hc, hat⟩ := atI_ok (xs := ("01" : Str).cps.toList) e0 e1
    refine Or.inr (Or.inr ⟨_, _, c, rfl, rfl, szl (by decide), hat, ?_⟩)
    refine ⟨_, g3.kp hD nDp, szt (by rw [List.length_map, List.length_map, hl]; omega), zs ++ [c], ?_, ?_, ?_, (g2.trans g3).mut nD nDp⟩
    · rw [upd_same, List.map_append, List.map_append]; rfl
    · rw [List.length_append, hl]; rfl
    · intro e he
      rcases List.mem_append.mp he with he | he
      · exact hz e he
      · rw [List.mem_singleton] at he
        subst he
        have : e ∈ [48, 49] := hc
        simpa using this
  · rintro H2 ⟨zs, hD, hl, hz, g2⟩
    refine ⟨_, _, zs.map sg, rfl, rfl, Or.inl (SqL.of hD), ?_, ?_⟩
    · rw [sum_sg, List.length_map]
      show zs.length + zs.length * 0 ≤ _
      omega
    · show Q (.str (Txt.join "" (zs.map sg))) H2
      rw [join_sg]
      refine k _ _ hz ?_ g2
      rw [SX.S_len]; omega
end
open PySem PySem.Spec PyProof.Rows
open L2 hiding pass0
abbrev s_is_count : Stmt := top 7
theorem sc_is_count : FnScope ["value"] ["value"] (defScope s_is_count) := ⟨rfl, rfl, rfl, by decide +kernel, rfl, by decide +kernel, by decide +kernel⟩
theorem bp_is_count : BndP "is_count" s_is_count ["value"] := fun _ _ _ _ _ _ us h => match us, h with | [_], _ => rfl
abbrev s_is_width : Stmt := top 8
theorem sc_is_width : FnScope ["value"] ["value"] (defScope s_is_width) := ⟨rfl, rfl, rfl, by decide +kernel, rfl, by decide +kernel, by decide +kernel⟩
theorem bp_is_width : BndP "is_width" s_is_width ["value"] := fun _ _ _ _ _ _ us h => match us, h with | [_], _ => rfl
abbrev s_is_bits : Stmt := top 9
theorem sc_is_bits : FnScope ["value", "bit"] ["value"] (defScope s_is_bits) := ⟨rfl, rfl, rfl, by decide +kernel, rfl, by decide +kernel, by decide +kernel⟩
theorem bp_is_bits : BndP "is_bits" s_is_bits ["value"] := fun _ _ _ _ _ _ us h => match us, h with | [_], _ => rfl
abbrev s_check_width : Stmt := top 12
theorem sc_check_width : FnScope ["width"] ["width"] (defScope s_check_width) := ⟨rfl, rfl, rfl, by decide +kernel, rfl, by decide +kernel, by decide +kernel⟩
theorem bp_check_width : BndP "check_width" s_check_width ["width"] := fun _ _ _ _ _ _ us h => match us, h with | [_], _ => rfl
abbrev s_is_stretch : Stmt := top 11
theorem sc_is_stretch : FnScope ["width", "value"] ["width", "value"] (defScope s_is_stretch) := ⟨rfl, rfl, rfl, by decide +kernel, rfl, by decide +kernel, by decide +kernel⟩
theorem bp_is_stretch : BndP "is_stretch" s_is_stretch ["width", "value"] := fun _ _ _ _ _ _ us h => match us, h with | [_, _], _ => rfl
abbrev s_is_address : Stmt := top 10
theorem sc_is_address : FnScope ["width", "value"] ["width", "value"] (defScope s_is_address) := ⟨rfl, rfl, rfl, by decide +kernel, rfl, by decide +kernel, by decide +kernel⟩
theorem bp_is_address : BndP "is_address" s_is_address ["width", "value"] := fun _ _ _ _ _ _ us h => match us, h with | [_, _], _ => rfl
abbrev s_check_address : Stmt := top 13
theorem sc_check_address : FnScope ["width", "address"] ["width", "address"] (defScope s_check_address) := ⟨rfl, rfl, rfl, by decide +kernel, rfl, by decide +kernel, by decide +kernel⟩
theorem bp_check_address : BndP "check_address" s_check_address ["width", "address"] := fun _ _ _ _ _ _ us h => match us, h with | [_, _], _ => rfl
abbrev s_common : Stmt := top 14
theorem sc_common : FnScope ["one", "other", "bits", "length", "left", "right"] ["one", "other"] (defScope s_common) := ⟨rfl, rfl, rfl, by decide +kernel, rfl, by decide +kernel, by decide +kernel⟩
theorem bp_common : BndP "common" s_common ["one", "other"] := fun _ _ _ _ _ _ us h => match us, h with | [_, _], _ => rfl
abbrev s_path : Stmt := top 16
theorem sc_path : FnScope ["width", "begin", "end", "shared", "ups", "downs", "length"] ["width", "begin", "end"] (defScope s_path) := ⟨rfl, rfl, rfl, by decide +kernel, rfl, by decide +kernel, by decide +kernel⟩
theorem bp_path : BndP "path" s_path ["width", "begin", "end"] := fun _ _ _ _ _ _ us h => match us, h with | [_, _, _], _ => rfl
/-- the constants of the text -/
structure Cst (K : PySem.W.Frag) (mg : Str → Option Value) : Prop where
  c_MOST_WIDTH : ∃ u, mg "MOST_WIDTH" = some u ∧ RelV (.int 100) u
/-! ### words, of whole numbers and texts -/
def bitsB (z : Str) : Bool := z.cps.toList.all fun c => decide (c ∈ ("01" : Str).cps.toList)
theorem bitsB_of {z : Str} (h : Bits z) : bitsB z = true := List.all_eq_true.mpr fun c hc => by
  rcases h c hc with rfl | rfl <;> exact decide_eq_true (by decide)
theorem Bits.of {z : Str} (h : bitsB z = true) : Bits z := fun c hc => by
  have := of_decide_eq_true (List.all_eq_true.mp h c hc)
  have h2 : c ∈ [48, 49] := this
  simpa using h2
def Low (z : Str) : Prop := ∀ c ∈ z.cps.toList, c < 128
theorem Bits.low {z : Str} (h : Bits z) : Low z := fun c hc => by
  have := h c hc
  omega
theorem Low.small {z : Str} (h : Low z) : SmallS z := by
  refine Array.all_eq_true_iff_forall_mem.mpr fun c hc => decide_eq_true (h c (by simpa using hc))
@[irreducible] def spI (g : Int → Bool) : Sp := fun vs H Q _ => ∃ n : Int, vs = [.int n] ∧ Q (.bl (g n)) H
@[irreducible] def spT (g : Str → Bool) : Sp := fun vs H Q _ => ∃ z : Str, vs = [.str z] ∧ z.length ≤ 1000 ∧ ∀ H', Same H H' → Q (.bl (g z)) H'
@[irreducible] def spIT (g : Int → Str → Bool) : Sp := fun vs H Q _ => ∃ (n : Int) (z : Str), vs = [.int n, .str z] ∧ 1 ≤ n ∧ n ≤ 100 ∧ z.length ≤ 1000 ∧ ∀ H', Same H H' → Q (.bl (g n z)) H'
@[irreducible] def spCW : Sp := fun vs H Q _ => ∃ n : Int, vs = [.int n] ∧ 1 ≤ n ∧ n ≤ 100 ∧ ∀ H', Same H H' → Q .non H'
/-- a check of a text that is right -/
@[irreducible] def spCT (g : Int → Str → Bool) : Sp := fun vs H Q _ => ∃ (n : Int) (z : Str), vs = [.int n, .str z] ∧ 1 ≤ n ∧ n ≤ 100 ∧ z.length ≤ 1000 ∧ g n z = true ∧ ∀ H', Same H H' → Q .non H'
def cntB (n : Int) : Bool := decide (0 ≤ n)
def widB (n : Int) : Bool := decide (1 ≤ n) && decide (n ≤ 100)
def strB (n : Int) (z : Str) : Bool := bitsB z && decide ((z.length : Int) ≤ n)
def adrB (n : Int) (z : Str) : Bool := bitsB z && decide ((z.length : Int) = n)
section
variable {g : Int → Bool} {gt : Str → Bool} {g2 : Int → Str → Bool} {n : Int} {z : Str} {H : Hp} {Q : VK} {E : XK}
theorem i_go (q : Q (.bl (g n)) H) : spI g [.int n] H Q E := by
  unfold spI
  exact ⟨n, rfl, q⟩
theorem t_go (h : z.length ≤ 1000) (q : ∀ H', Same H H' → Q (.bl (gt z)) H') : spT gt [.str z] H Q E := by
  unfold spT
  exact ⟨z, rfl, h, q⟩
theorem it_go (h0 : 1 ≤ n) (h1 : n ≤ 100) (h : z.length ≤ 1000) (q : ∀ H', Same H H' → Q (.bl (g2 n z)) H') : spIT g2 [.int n, .str z] H Q E := by
  unfold spIT
  exact ⟨n, z, rfl, h0, h1, h, q⟩
theorem cw_go (h0 : 1 ≤ n) (h1 : n ≤ 100) (q : ∀ H', Same H H' → Q .non H') : spCW [.int n] H Q E := by
  unfold spCW
  exact ⟨n, rfl, h0, h1, q⟩
theorem ct_go (h0 : 1 ≤ n) (h1 : n ≤ 100) (h : z.length ≤ 1000) (hg : g2 n z = true) (q : ∀ H', Same H H' → Q .non H') : spCT g2 [.int n, .str z] H Q E := by
  unfold spCT
  exact ⟨n, z, rfl, h0, h1, h, hg, q⟩
end
theorem k_ii : kitB "int" "int" = some true := by decide +kernel
theorem k_ib : kitB "int" "bool" = some false := by decide +kernel
theorem k_ss : kitB "str" "str" = some true := by decide +kernel
section
variable {P : Program} {w : World} {K : PySem.W.Frag} {mg : Str → Option Value} {base : Heap} {f : Addr} {fd : FuncData}
theorem ok_is_count (F : Fun K "is_count" "is_count" s_is_count f fd) (hm : mg "is_count" = some (.ref f)) (T : Txt K mg) : Nm P w K mg base CX0 1 "is_count" s_is_count ["value"] (spI cntB) := by
  refine nm_of F hm sc_is_count (fun vs H Q E h => ?_) fun cdv A outer s H vs Q E hr h => ?_
  · unfold spI at h
    obtain ⟨n, rfl, k⟩ := h
    subst_vars
    rfl
  unfold spI at h
  obtain ⟨n, rfl, k⟩ := h
  refine ⟨_, (pss_one (ps_ret (pe_and (pe_callB (call_isiK' (K := K) rfl) (by rfl) T.b_isinstance (by decide +kernel) (pa_cons (pv 0) (pa_cons (pe_ty "int" (by rfl) T.b_int (by decide +kernel)) pa_nil))) (pe_and (pe_not (pe_callB (call_isiK' (K := K) rfl) (by rfl) T.b_isinstance (by decide +kernel) (pa_cons (pv 0) (pa_cons (pe_ty "bool" (by rfl) T.b_bool (by decide +kernel)) pa_nil)))) (pe_one (pe_cmpR op_ge (pv 0) pe_int (nomark _))))))), ?_⟩
  repeat walk_at "s1"
  refine ⟨_, _, _, _, _, rfl, .ty _, .base (.int _), kit_ty k_ii, ?_⟩
  refine ⟨_, rfl, iteT ?_⟩
  repeat walk_at "s1"
  refine ⟨_, _, _, _, _, rfl, .ty _, .base (.int _), kit_ty k_ib, ?_⟩
  repeat walk_at "s1"
  exact k
theorem ok_is_width (F : Fun K "is_width" "is_width" s_is_width f fd) (hm : mg "is_width" = some (.ref f)) (T : Txt K mg) (C : Cst K mg) (c_is_count : Nm P w K mg base CX0 1 "is_count" s_is_count ["value"] (spI cntB)) : Nm P w K mg base CX0 2 "is_width" s_is_width ["value"] (spI widB) := by
  refine nm_of F hm sc_is_width (fun vs H Q E h => ?_) fun cdv A outer s H vs Q E hr h => ?_
  · unfold spI at h
    obtain ⟨n, rfl, k⟩ := h
    subst_vars
    rfl
  unfold spI at h
  obtain ⟨n, rfl, k⟩ := h
  refine ⟨_, (pss_one (ps_ret (pe_and (pe_g c_is_count hr (by decide) L2.pass0 bp_is_count (by rfl) (pa_cons (pv 0) pa_nil)) (pe_one (pe_chain op_le op_le pe_int (pv 0) (pe_cst (by rfl) C.c_MOST_WIDTH)))))), ?_⟩
  repeat walk_at "s1"
  refine i_go ?_
  refine ⟨_, rfl, ?_⟩
  refine ite2 (fun c => ?_) fun c => ?_
  · repeat walk_at "s1"
    refine ite2 (fun c1 => ?_) fun c1 => ?_
    · repeat walk_at "s1"
      have e : widB n = decide (n ≤ 100) := by show (decide _ && _) = _; rw [c1, Bool.true_and]
      rw [e] at k; exact k
    · have e : widB n = false := by show (decide _ && _) = _; rw [Bool.eq_false_iff.mpr c1, Bool.false_and]
      rw [e] at k; exact k
  · have c' : ¬ 0 ≤ n := fun q => c (decide_eq_true q)
    have e : widB n = false := by show (decide _ && _) = _; rw [decide_eq_false (show ¬ 1 ≤ n by omega)]; rfl
    rw [e] at k; exact k
theorem ok_is_bits (F : Fun K "is_bits" "is_bits" s_is_bits f fd) (hm : mg "is_bits" = some (.ref f)) (T : Txt K mg) : Nm P w K mg base CX0 1 "is_bits" s_is_bits ["value"] (spT bitsB) := by
  refine nm_of F hm sc_is_bits (fun vs H Q E h => ?_) fun cdv A outer s H vs Q E hr h => ?_
  · unfold spT at h
    obtain ⟨z, rfl, hz', k⟩ := h
    subst_vars
    rfl
  unfold spT at h
  obtain ⟨z, rfl, hz', k⟩ := h
  refine ⟨_, (pss_one (ps_ret (pe_and (pe_callB (call_isiK' (K := K) rfl) (by rfl) T.b_isinstance (by decide +kernel) (pa_cons (pv 0) (pa_cons (pe_ty "str" (by rfl) T.b_str (by decide +kernel)) pa_nil))) (pe_one (pe_callB (call_allK (K := K) rfl rfl) (by rfl) T.b_all (by decide +kernel) (pa_cons (pe_lc (own := [("bit", 1)]) (g := (gName 1)) (by rfl) sc_is_bits.nd (pi_str (pv 0)) (blkOk_by (own := [("bit", 1)]) (N := ["value", "bit"]) (sc := defScope s_is_bits) (by decide +kernel)) (fun _ _ _ _ _ => (pg_name (i := 1) sc_is_bits.nd rfl (by first | exact Or.inl rfl | exact Or.inr rfl))) (fun _ _ _ _ _ => pts_nil) (fun _ _ _ _ _ => (pe_cmpR op_in_sign (pv 1) pe_str rfl))) pa_nil)))))), ?_⟩
  repeat walk_at "s1"
  refine ⟨_, _, _, _, _, rfl, .ty _, .base (.str _), kit_ty k_ss, ?_⟩
  refine ⟨_, rfl, iteT ?_⟩
  repeat walk_at "s1"
  rename_i D nD
  have hz : z.cps.size ≤ 1000 := hz'
  refine lc_it walk_str (fun i H1 => H1 D = some (.lst (((z.cps.toList.take i).map fun c => decide (c ∈ ("01" : Str).cps.toList)).map V.bl)) ∧ Same H H1) ⟨upd_same, fun b o e => updn (nonn nD e) e⟩ (fun _ _ _ _ => trivial) ?_ ?_
  · rintro i x H1 H2 hi ⟨hD, sm⟩ ⟨rfl, c, hc, rfl⟩
    refine ⟨rfl, ?_⟩
    dsimp only [tYes]
    rw [if_pos rfl]
    repeat walk_at "s1"
    refine ⟨_, hD, szt (by rw [List.length_map, List.length_map, List.length_take]; omega), ?_, fun b o e => updn (nonn nD e) (sm b o e)⟩
    rw [upd_same, List.take_add_one, Array.getElem?_toList, hc, List.map_append, List.map_append]
    rfl
  · rintro H1 ⟨hD, sm⟩
    rw [List.take_of_length_le (by rw [Array.length_toList]; exact Nat.le_refl _)] at hD
    refine ⟨_, _, rfl, SqL.of hD, ?_⟩
    have hk := k H1 sm
    have e : bitsB z = ((z.cps.toList.map fun c => decide (c ∈ ("01" : Str).cps.toList)).all id) := by rw [List.all_map]; rfl
    rw [e] at hk
    exact hk
theorem ok_check_width (F : Fun K "check_width" "check_width" s_check_width f fd) (hm : mg "check_width" = some (.ref f)) (T : Txt K mg) (c_is_width : Nm P w K mg base CX0 2 "is_width" s_is_width ["value"] (spI widB)) : Nm P w K mg base CX0 3 "check_width" s_check_width ["width"] (spCW) := by
  refine nm_of F hm sc_check_width (fun vs H Q E h => ?_) fun cdv A outer s H vs Q E hr h => ?_
  · unfold spCW at h
    obtain ⟨n, rfl, h0, h1, k⟩ := h
    subst_vars
    rfl
  unfold spCW at h
  obtain ⟨n, rfl, h0, h1, k⟩ := h
  refine ⟨_, (pss_one (ps_if (pt_not (pt_val (pe_g c_is_width hr (by decide) L2.pass0 bp_is_width (by rfl) (pa_cons (pv 0) pa_nil)))) (pss_one ps_never) pss_nil)), ?_⟩
  repeat walk_at "s1"
  refine i_go ?_
  repeat walk_at "s1"
  have e : widB n = true := by show (decide _ && decide _) = true; rw [decide_eq_true h0, decide_eq_true h1]; rfl
  rw [e]
  refine iteF ?_
  exact k H (Same.refl H)
theorem ok_is_stretch (F : Fun K "is_stretch" "is_stretch" s_is_stretch f fd) (hm : mg "is_stretch" = some (.ref f)) (T : Txt K mg) (c_check_width : Nm P w K mg base CX0 3 "check_width" s_check_width ["width"] (spCW)) (c_is_bits : Nm P w K mg base CX0 1 "is_bits" s_is_bits ["value"] (spT bitsB)) : Nm P w K mg base CX0 4 "is_stretch" s_is_stretch ["width", "value"] (spIT strB) := by
  refine nm_of F hm sc_is_stretch (fun vs H Q E h => ?_) fun cdv A outer s H vs Q E hr h => ?_
  · unfold spIT at h
    obtain ⟨n, z, rfl, h0, h1, hz, k⟩ := h
    subst_vars
    rfl
  unfold spIT at h
  obtain ⟨n, z, rfl, h0, h1, hz, k⟩ := h
  refine ⟨_, (pss_cons (ps_expr (pe_g c_check_width hr (by decide) L2.pass0 bp_check_width (by rfl) (pa_cons (pv 0) pa_nil)))
      (pss_one (ps_ret (pe_and (pe_g c_is_bits hr (by decide) L2.pass0 bp_is_bits (by rfl) (pa_cons (pv 1) pa_nil)) (pe_one (pe_cmpR op_le (pe_callB (call_lenK (K := K) rfl) (by rfl) T.b_len PySem.boot_len (pa_cons (pv 1) pa_nil)) (pv 0) (nomark _))))))), ?_⟩
  repeat walk_at "s1"
  refine cw_go h0 h1 fun H1 sm => ?_
  repeat walk_at "s1"
  refine t_go hz fun H2 sm2 => ?_
  have hk := k H2 (sm.trans sm2)
  refine ⟨_, rfl, ?_⟩
  cases c : bitsB z with
  | true =>
    refine iteT ?_
    repeat walk_at "s1"
    have e : strB n z = decide ((z.length : Int) ≤ n) := by show (bitsB _ && _) = _; rw [c]; rfl
    rw [e] at hk
    exact hk
  | false =>
    have e : strB n z = false := by show (bitsB _ && _) = _; rw [c]; rfl
    rw [e] at hk
    exact iteF hk
theorem ok_is_address (F : Fun K "is_address" "is_address" s_is_address f fd) (hm : mg "is_address" = some (.ref f)) (T : Txt K mg) (c_is_stretch : Nm P w K mg base CX0 4 "is_stretch" s_is_stretch ["width", "value"] (spIT strB)) : Nm P w K mg base CX0 5 "is_address" s_is_address ["width", "value"] (spIT adrB) := by
  refine nm_of F hm sc_is_address (fun vs H Q E h => ?_) fun cdv A outer s H vs Q E hr h => ?_
  · unfold spIT at h
    obtain ⟨n, z, rfl, h0, h1, hz, k⟩ := h
    subst_vars
    rfl
  unfold spIT at h
  obtain ⟨n, z, rfl, h0, h1, hz, k⟩ := h
  refine ⟨_, (pss_one (ps_ret (pe_and (pe_g c_is_stretch hr (by decide) L2.pass0 bp_is_stretch (by rfl) (pa_cons (pv 0) (pa_cons (pv 1) pa_nil))) (pe_one (pe_cmpR op_eq (pe_callB (call_lenK (K := K) rfl) (by rfl) T.b_len PySem.boot_len (pa_cons (pv 1) pa_nil)) (pv 0) (nomark _)))))), ?_⟩
  repeat walk_at "s1"
  refine it_go h0 h1 hz fun H2 sm2 => ?_
  have hk := k H2 sm2
  refine ⟨_, rfl, ?_⟩
  cases c : strB n z with
  | true =>
    refine iteT ?_
    repeat walk_at "s1"
    have c' : (bitsB z && decide ((z.length : Int) ≤ n)) = true := c
    have e : adrB n z = decide (V.int (z.length : Int) = V.int n) := by
      show (bitsB z && decide ((z.length : Int) = n)) = _
      rw [Bool.and_eq_true] at c'
      rw [c'.1, Bool.true_and]
      exact decide_eq_decide.mpr ⟨fun q => by rw [q], fun q => V.int.inj q⟩
    rw [e] at hk
    exact hk
  | false =>
    have e : adrB n z = false := by
      have c' : (bitsB z && decide ((z.length : Int) ≤ n)) = false := c
      show (bitsB z && decide ((z.length : Int) = n)) = false
      cases b : bitsB z with
      | false => rfl
      | true =>
        rw [b, Bool.true_and] at c'
        have := of_decide_eq_false c'
        rw [Bool.true_and]
        exact decide_eq_false (by omega)
    rw [e] at hk
    exact iteF hk
theorem ok_check_address (F : Fun K "check_address" "check_address" s_check_address f fd) (hm : mg "check_address" = some (.ref f)) (T : Txt K mg) (c_is_address : Nm P w K mg base CX0 5 "is_address" s_is_address ["width", "value"] (spIT adrB)) : Nm P w K mg base CX0 6 "check_address" s_check_address ["width", "address"] (spCT adrB) := by
  refine nm_of F hm sc_check_address (fun vs H Q E h => ?_) fun cdv A outer s H vs Q E hr h => ?_
  · unfold spCT at h
    obtain ⟨n, z, rfl, h0, h1, hz, hg, k⟩ := h
    subst_vars
    rfl
  unfold spCT at h
  obtain ⟨n, z, rfl, h0, h1, hz, hg, k⟩ := h
  refine ⟨_, (pss_one (ps_if (pt_not (pt_val (pe_g c_is_address hr (by decide) L2.pass0 bp_is_address (by rfl) (pa_cons (pv 0) (pa_cons (pv 1) pa_nil))))) (pss_one ps_never) pss_nil)), ?_⟩
  repeat walk_at "s1"
  refine it_go h0 h1 hz fun H2 sm2 => ?_
  repeat walk_at "s1"
  rw [hg]
  refine iteF ?_
  exact k H2 sm2
end
open PySem PySem.Spec PyProof.Rows
open L2 hiding pass0
abbrev s_law_path : Stmt := top 23
theorem sc_law_path : FnScope ["_law_begun", "_law_to", "_law_found", "_law_size"] ["_law_begun", "_law_to"] (defScope s_law_path) := ⟨rfl, rfl, rfl, by decide +kernel, rfl, by decide +kernel, by decide +kernel⟩
theorem bp_law_path : BndP "_law_path" s_law_path ["_law_begun", "_law_to"] := fun _ _ _ _ _ _ us h => match us, h with | [_, _], _ => rfl
/-! ### mathematics of paths -/
def cpl : List Nat → List Nat → Nat
  | c :: z, d :: e => if c = d then cpl z e + 1 else 0
  | [], _ => 0
  | _ :: _, [] => 0
theorem cpl_le : ∀ z e, cpl z e ≤ z.length ∧ cpl z e ≤ e.length
  | [], _ => ⟨Nat.zero_le _, Nat.zero_le _⟩
  | _ :: _, [] => ⟨Nat.zero_le _, Nat.zero_le _⟩
  | c :: z, d :: e => by
    have h := cpl_le z e
    show (if c = d then cpl z e + 1 else 0) ≤ z.length + 1 ∧ (if c = d then cpl z e + 1 else 0) ≤ e.length + 1
    split <;> omega
theorem take_cpl : ∀ (z e : List Nat) (k : Nat), k ≤ z.length → k ≤ e.length → (z.take k = e.take k ↔ k ≤ cpl z e)
  | _, _, 0, _, _ => by simp
  | c :: z, d :: e, k + 1, h1, h2 => by
    have h := take_cpl z e k (Nat.le_of_succ_le_succ h1) (Nat.le_of_succ_le_succ h2)
    show c :: z.take k = d :: e.take k ↔ k + 1 ≤ (if c = d then cpl z e + 1 else 0)
    rw [List.cons.injEq, h]
    split <;> rename_i q <;> simp [q]
  | [], _, k + 1, h1, _ => by cases h1
  | _ :: _, [], k + 1, _, h2 => by cases h2
theorem cpl_step : ∀ {z e : List Nat} {i c d : Nat}, i ≤ cpl z e → z[i]? = some c → e[i]? = some d → (c = d → i + 1 ≤ cpl z e) ∧ (c ≠ d → cpl z e = i)
  | x :: z, y :: e, 0, c, d, _, hc, hd => by
    cases hc; cases hd
    show (x = y → 0 + 1 ≤ (if x = y then cpl z e + 1 else 0)) ∧ (x ≠ y → (if x = y then cpl z e + 1 else 0) = 0)
    exact ⟨fun q => by rw [if_pos q]; omega, fun q => if_neg q⟩
  | x :: z, y :: e, i + 1, c, d, h, hc, hd => by
    have h' : i + 1 ≤ (if x = y then cpl z e + 1 else 0) := h
    show (c = d → i + 1 + 1 ≤ (if x = y then cpl z e + 1 else 0)) ∧ (c ≠ d → (if x = y then cpl z e + 1 else 0) = i + 1)
    by_cases q : x = y
    · rw [if_pos q] at h' ⊢
      have r := cpl_step (z := z) (e := e) (i := i) (c := c) (d := d) (by omega) (by simpa using hc) (by simpa using hd)
      exact ⟨fun a => by have := r.1 a; omega, fun a => by have := r.2 a; omega⟩
    · rw [if_neg q] at h'
      omega
  | [], _, _, _, _, _, hc, _ => by simp at hc
  | _ :: _, [], _, _, _, _, _, hd => by simp at hd
theorem cpl_comm : ∀ z e, cpl z e = cpl e z
  | [], [] => rfl
  | [], _ :: _ => rfl
  | _ :: _, [] => rfl
  | c :: z, d :: e => by
    show (if c = d then cpl z e + 1 else 0) = (if d = c then cpl e z + 1 else 0)
    rw [cpl_comm z e]
    by_cases q : c = d
    · rw [if_pos q, if_pos q.symm]
    · rw [if_neg q, if_neg (Ne.symm q)]
theorem cpl_self : ∀ z, cpl z z = z.length
  | [] => rfl
  | c :: z => by
    show (if c = c then cpl z z + 1 else 0) = z.length + 1
    rw [if_pos rfl, cpl_self z]
def tk (z : Str) (k : Nat) : Str := SX.S (z.cps.toList.take k)
def cpS (z e : Str) : Nat := cpl z.cps.toList e.cps.toList
theorem cut_tk (z : Str) {d : Int} {k : Nat} (h : d = k) : cutS z none (some d) = tk z k := by
  subst h
  show SX.S _ = SX.S _
  refine congrArg SX.S ?_
  show (z.cps.toList.drop 0).take (HT.sIx z.length z.length (some (k : Int)) - 0) = z.cps.toList.take k
  rw [HT.sIx_nat, List.drop_zero, Nat.sub_zero]
  have hl : z.cps.toList.length = z.length := Array.length_toList
  by_cases c : k ≤ z.length
  · rw [Nat.min_eq_left c]
  · rw [List.take_of_length_le (by omega), List.take_of_length_le (by omega)]
theorem tk_len (z : Str) (k : Nat) : (tk z k).length = min k z.length := by
  unfold tk
  rw [SX.S_len, List.length_take, Array.length_toList]
  rfl
theorem cpS_le (z e : Str) : cpS z e ≤ z.length ∧ cpS z e ≤ e.length := by
  have h := cpl_le z.cps.toList e.cps.toList
  rw [Array.length_toList, Array.length_toList] at h
  exact h
def pathN (e : Str) (n : Nat) : List (Str × Str) := (List.range n).map fun i => (tk e i, "down")
def pathU (z : Str) (w n : Nat) : List (Str × Str) := (List.range n).map fun i => (tk z (w - i), "up")
def pathD (e : Str) (s n : Nat) : List (Str × Str) := (List.range n).map fun i => (tk e (s + 1 + i), "down")
def pathP (z e : Str) (w : Nat) : List (Str × Str) := pathU z w (w - cpS z e) ++ pathD e (cpS z e) (w - cpS z e)
def pathOf (b : V) (e : Str) (w : Nat) : List (Str × Str) := match b with
  | .str z => pathP z e w
  | _ => pathN e (w + 1)
theorem range_snoc {α : Type} (f : Nat → α) (n : Nat) : (List.range (n + 1)).map f = (List.range n).map f ++ [f n] := by
  rw [List.range_succ, List.map_append]; rfl
/-- tuples of two texts -/
inductive Tp (H : Hp) : List V → List (Str × Str) → Prop
  | nil : Tp H [] []
  | cons {a : Addr} {x y : Str} {vs : List V} {ps : List (Str × Str)} : H a = some (.tup [.str x, .str y]) → Tp H vs ps → Tp H (.ref a :: vs) ((x, y) :: ps)
theorem Tp.mono {H H' : Hp} (k : ∀ a l, H a = some (.tup l) → H' a = some (.tup l)) : ∀ {vs : List V} {ps : List (Str × Str)}, Tp H vs ps → Tp H' vs ps
  | _, _, .nil => .nil
  | _, _, .cons h r => .cons (k _ _ h) (r.mono k)
theorem Tp.same {H H' : Hp} {vs : List V} {ps : List (Str × Str)} (t : Tp H vs ps) (s : Same H H') : Tp H' vs ps := t.mono fun a l e => s a _ e
theorem Tp.put {H : Hp} {D : Addr} {o o' : List V} {vs : List V} {ps : List (Str × Str)} (t : Tp H vs ps) (h : H D = some (.lst o)) : Tp (upd H D (.lst o')) vs ps :=
  t.mono fun a l e => by
    have n : a ≠ D := fun q => by subst q; rw [e] at h; cases h
    exact updn n e
theorem Tp.len {H : Hp} : ∀ {vs : List V} {ps : List (Str × Str)}, Tp H vs ps → vs.length = ps.length
  | _, _, .nil => rfl
  | _, _, .cons _ r => congrArg (· + 1) r.len
theorem Tp.app {H : Hp} {us : List V} {qs : List (Str × Str)} (u : Tp H us qs) : ∀ {vs : List V} {ps : List (Str × Str)}, Tp H vs ps → Tp H (vs ++ us) (ps ++ qs)
  | _, _, .nil => u
  | _, _, .cons h r => .cons h (Tp.app u r)
theorem Tp.snoc {H : Hp} {a : Addr} {x y : Str} {vs : List V} {ps : List (Str × Str)} (t : Tp H vs ps) (h : H a = some (.tup [.str x, .str y])) : Tp H (vs ++ [.ref a]) (ps ++ [(x, y)]) := Tp.app (Tp.cons h .nil) t
theorem Tp.at {H : Hp} : ∀ {vs : List V} {ps : List (Str × Str)} {i : Nat} {v : V}, Tp H vs ps → vs[i]? = some v → ∃ a x y, v = .ref a ∧ H a = some (.tup [.str x, .str y]) ∧ ps[i]? = some (x, y)
  | _, _, _, _, .nil, e => by simp at e
  | _, _, 0, _, .cons h r, e => by cases e; exact ⟨_, _, _, rfl, h, rfl⟩
  | _, _, i + 1, _, .cons h r, e => r.at (i := i) (by simpa using e)
theorem Tp.rev {H : Hp} : ∀ {vs : List V} {ps : List (Str × Str)}, Tp H vs ps → Tp H vs.reverse ps.reverse
  | _, _, .nil => .nil
  | _, _, .cons h r => by rw [List.reverse_cons, List.reverse_cons]; exact Tp.snoc r.rev h
def prD (q : Str × Str) : PyData := .tuple [.str q.1, .str q.2]
theorem Tp.dp {K : PySem.W.Frag} {H : Hp} : ∀ {vs : List V} {ps : List (Str × Str)}, Tp H vs ps → DpAll K H vs (ps.map prD)
  | _, _, .nil => .nil
  | _, _, .cons h r => .cons (.tup (SqT.of h) (.cons (.str _) (.cons (.str _) .nil))) r.dp
@[irreducible] def spCommon : Sp := fun vs H Q _ => ∃ a b : Str, vs = [.str a, .str b] ∧ Bits a ∧ Bits b ∧ a.length ≤ 1000 ∧ b.length ≤ 1000 ∧ ∀ H', Same H H' → Q (.str (tk a (cpS a b))) H'
def PathArg (b : V) (w : Nat) : Prop := b = .non ∨ ∃ z : Str, b = .str z ∧ Bits z ∧ z.length = w
@[irreducible] def spPath : Sp := fun vs H Q _ => ∃ (w : Nat) (b : V) (e : Str), vs = [.int w, b, .str e] ∧ 1 ≤ w ∧ w ≤ 100 ∧ Bits e ∧ e.length = w ∧ PathArg b w ∧
  ∀ a ts H', H a = none → Same H H' → H' a = some (.lst ts) → Tp H' ts (pathOf b e w) → Q (.ref a) H'
@[irreducible] def spLPath : Sp := fun vs H Q _ => ∃ (w : Nat) (b : V) (e : Str), vs = [b, .str e] ∧ 1 ≤ w ∧ w ≤ 100 ∧ Bits e ∧ e.length = w ∧ PathArg b w ∧
  ∀ a ts H', H a = none → Same H H' → H' a = some (.lst ts) → Tp H' ts (pathOf b e w) → Q (.ref a) H'
section
variable {H : Hp} {Q : VK} {E : XK} {a b e : Str} {x : V} {w : Nat}
theorem common_go (ha : Bits a) (hb : Bits b) (h0 : a.length ≤ 1000) (h1 : b.length ≤ 1000) (q : ∀ H', Same H H' → Q (.str (tk a (cpS a b))) H') : spCommon [.str a, .str b] H Q E := by
  unfold spCommon
  exact ⟨a, b, rfl, ha, hb, h0, h1, q⟩
theorem path_go (h0 : 1 ≤ w) (h1 : w ≤ 100) (he : Bits e) (hl : e.length = w) (hx : PathArg x w) (q : ∀ a ts H', H a = none → Same H H' → H' a = some (.lst ts) → Tp H' ts (pathOf x e w) → Q (.ref a) H') : spPath [.int w, x, .str e] H Q E := by
  unfold spPath
  exact ⟨w, x, e, rfl, h0, h1, he, hl, hx, q⟩
theorem lpath_go (h0 : 1 ≤ w) (h1 : w ≤ 100) (he : Bits e) (hl : e.length = w) (hx : PathArg x w) (q : ∀ a ts H', H a = none → Same H H' → H' a = some (.lst ts) → Tp H' ts (pathOf x e w) → Q (.ref a) H') : spLPath [x, .str e] H Q E := by
  unfold spLPath
  exact ⟨w, x, e, rfl, h0, h1, he, hl, hx, q⟩
end
section
variable {P : Program} {w : World} {K : PySem.W.Frag} {mg : Str → Option Value} {base : Heap} {f : Addr} {fd : FuncData}
theorem ok_common (F : Fun K "common" "common" s_common f fd) (hm : mg "common" = some (.ref f)) (T : Txt K mg) (c_is_bits : Nm P w K mg base CX0 1 "is_bits" s_is_bits ["value"] (spT bitsB)) : Nm P w K mg base CX0 2 "common" s_common ["one", "other"] (spCommon) := by
  refine nm_of0 F hm sc_common (fun vs H Q E h => ?_) fun cdv A outer s H vs Q E hr h => ?_
  · unfold spCommon at h
    obtain ⟨a, b, rfl, ha, hb, h0, h1, k⟩ := h
    subst_vars
    rfl
  unfold spCommon at h
  obtain ⟨a, b, rfl, ha, hb, h0, h1, k⟩ := h
  refine ⟨_, (pss_cons (ps_for PassesOwn.never rfl (pi_tup (pe_tup (pa_cons (pv 0) (pa_cons (pv 1) pa_nil)))) (pg_name (i := 2) sc_common.nd rfl (by first | exact Or.inl rfl | exact Or.inr rfl)) (pss_one (ps_if (pt_not (pt_val (pe_g c_is_bits hr (by decide) L2.pass0 bp_is_bits (by rfl) (pa_cons (pv 2) pa_nil)))) (pss_one ps_never) pss_nil)))
      (pss_cons (ps_set (i := 3) sc_common.nd rfl (by first | exact Or.inl rfl | exact Or.inr rfl) pe_int)
      (pss_cons (ps_for PassesOwn.never rfl (pi_zipS (by rfl) T.b_zip (pa_cons (pv 0) (pa_cons (pv 1) pa_nil))) (pg_tup (by rfl) (pgs_cons (pg_name (i := 4) sc_common.nd rfl (by first | exact Or.inl rfl | exact Or.inr rfl)) (pgs_cons (pg_name (i := 5) sc_common.nd rfl (by first | exact Or.inl rfl | exact Or.inr rfl)) pgs_nil))) (pss_cons (ps_if (pt_cmpR op_ne (pv 4) (pv 5) (nomark _)) (pss_one ps_break) pss_nil)
      (pss_one (ps_set (i := 3) sc_common.nd rfl (by first | exact Or.inl rfl | exact Or.inr rfl) (pe_op op_add (pv 3) pe_int)))))
      (pss_one (ps_ret (pe_slice sl_str (pv 0) po_none (po_some (pv 3)))))))), ?_⟩
  repeat walk_at "s1"
  rename_i t nt
  have sm0 : Same H (upd H t (.tup [.str a, .str b])) := fun c o e => updn (nonn nt e) e
  refine ⟨⟨_, SqT.of upd_same⟩, for_it (walk_tup (xs := [.str a, .str b])) (fun i σ H1 => (∃ x2, σ = [some (.str a), some (.str b), x2, none, none, none]) ∧ Same (upd H t (.tup [.str a, .str b])) H1) ⟨⟨_, rfl⟩, Same.refl _⟩ (fun i σ H1 _ h => SqT.of (h.2 _ _ upd_same)) ?_ ?_⟩
  · rintro i x σ H1 H2 hi ⟨⟨x2, rfl⟩, sm⟩ ⟨rfl, hx⟩
    have hx' : x = .str a ∨ x = .str b := by
      have := List.mem_of_getElem? hx
      simpa using this
    refine ⟨_, rfl, ?_⟩
    rcases hx' with rfl | rfl
    · refine t_go h0 fun H3 sm3 => ?_
      rw [bitsB_of ha]
      refine ⟨_, rfl, iteF ?_⟩
      exact ⟨⟨_, rfl⟩, sm.trans sm3⟩
    · refine t_go h1 fun H3 sm3 => ?_
      rw [bitsB_of hb]
      refine ⟨_, rfl, iteF ?_⟩
      exact ⟨⟨_, rfl⟩, sm.trans sm3⟩
  · rintro σ H1 ⟨⟨x2, rfl⟩, sm⟩
    have lea := cpl_le a.cps.toList b.cps.toList
    have la : a.cps.toList.length = a.length := Array.length_toList
    have lb : b.cps.toList.length = b.length := Array.length_toList
    have fin : ∀ (H2 : Hp) (i : Nat), Same H1 H2 → cpS a b = i → Q (.str (cutS a none (some (i : Int)))) H2 := fun H2 i s2 e => by
      rw [cut_tk a rfl, ← e]
      exact k H2 (sm0.trans (sm.trans s2))
    repeat walk_at "s1"
    refine ⟨ha.low.small, hb.low.small, for_it walk_zipS (fun i σ H2 => (∃ x4 x5, σ = [some (.str a), some (.str b), x2, some (.int i), x4, x5]) ∧ Same H1 H2 ∧ i ≤ cpS a b) ⟨⟨_, _, rfl⟩, Same.refl _, Nat.zero_le _⟩ (fun _ _ _ _ _ => trivial) ?_ ?_⟩
    · rintro i x σ H2 H3 hi ⟨⟨x4, x5, rfl⟩, sm2, hle⟩ ⟨t1, c, d, rfl, nT, rfl, hc, hd⟩
      have sm3 : Same H1 (upd H2 t1 (.tup [.str ⟨#[c]⟩, .str ⟨#[d]⟩])) := fun c o e => updn (nonn nT (sm2 c o e)) (sm2 c o e)
      refine ⟨t1, _, rfl, SqT.of upd_same, rfl, ⟨_, _, rfl, ⟨_, _, rfl, ⟨rfl, ?_⟩⟩⟩⟩
      have st := cpl_step hle hc hd
      repeat walk_at "s1"
      refine ite2 (fun hq => ?_) fun hq => ?_
      · have hne : c ≠ d := fun q => by subst q; simp at hq
        repeat walk_at "s1"
        refine fin _ i sm3 (st.2 hne)
      · have heq : c = d := by
          have h5 : (V.str ⟨#[c]⟩ : V) = V.str ⟨#[d]⟩ := by
            by_cases q : (V.str ⟨#[c]⟩ : V) = V.str ⟨#[d]⟩
            · exact q
            · exact absurd (by rw [decide_eq_false q]; rfl) hq
          injection h5 with h5
          injection h5 with h5
          simpa using h5
        repeat walk_at "s1"
        exact ⟨⟨_, _, rfl⟩, sm3, st.1 heq⟩
    · rintro σ H2 ⟨⟨x4, x5, rfl⟩, sm2, hle⟩
      repeat walk_at "s1"
      have hle' : min a.length b.length ≤ cpl a.cps.toList b.cps.toList := hle
      refine fin _ _ sm2 ?_
      show cpl a.cps.toList b.cps.toList = _
      omega
/-- a list at D, made since H0, of such tuples -/
def LI (H0 : Hp) (D : Addr) (ps : List (Str × Str)) (H : Hp) : Prop := (∃ ts, H D = some (.lst ts) ∧ Tp H ts ps) ∧ Same H0 H
theorem LI.nil {H0 : Hp} {D : Addr} (nD : H0 D = none) : LI H0 D [] (upd H0 D (.lst [])) := ⟨⟨[], upd_same, .nil⟩, fun b u e => updn (nonn nD e) e⟩
theorem LI.turn {H0 H1 : Hp} {D t : Addr} {x y : Str} {ps : List (Str × Str)} {Pv : Hp → Prop} (nD : H0 D = none) (h : LI H0 D ps H1) (nt : H1 t = none) (hl : ps.length ≤ 100000) (hp : ∀ H, LI H0 D (ps ++ [(x, y)]) H → Pv H) :
    ∃ acc, upd H1 t (.tup [.str x, .str y]) D = some (.lst acc) ∧ acc.length < sizeLine ∧ Pv (upd (upd H1 t (.tup [.str x, .str y])) D (.lst (acc ++ [.ref t]))) := by
  obtain ⟨⟨ts, hD, tp⟩, sm⟩ := h
  have nt' : D ≠ t := nonn nt hD
  refine ⟨ts, updn nt' hD, szt (by rw [tp.len]; omega), hp _ ⟨⟨_, upd_same, ?_⟩, fun b u e => updn (nonn nD e) (updn (nonn nt (sm b u e)) (sm b u e))⟩⟩
  have tp2 : Tp (upd H1 t (.tup [.str x, .str y])) ts ps := tp.mono fun a l e => updn (nonn nt e) e
  exact (tp2.snoc (a := t) (x := x) (y := y) upd_same).put (updn nt' hD)
theorem LI.end {H0 H1 : Hp} {D : Addr} {ps : List (Str × Str)} (h : LI H0 D ps H1) : ∃ ts, H1 D = some (.lst ts) ∧ Tp H1 ts ps ∧ Same H0 H1 := let ⟨⟨ts, a, b⟩, c⟩ := h; ⟨ts, a, b, c⟩
theorem nd_t {p : Prop} [Decidable p] (h : (!decide p) = true) : ¬ p := fun q => by rw [decide_eq_true q] at h; cases h
theorem nd_f {p : Prop} [Decidable p] (h : ¬ (!decide p) = true) : p := by
  by_cases q : p
  · exact q
  · exact absurd (by rw [decide_eq_false q]; rfl) h
theorem str_ne {a b : Str} : (V.str a = V.str b) ↔ a = b := ⟨fun h => by injection h, fun h => by rw [h]⟩
theorem sm_fresh {H H1 : Hp} {a : Addr} (s : Same H H1) (n : H1 a = none) : H a = none := by
  cases e : H a with
  | none => rfl
  | some o => rw [s a o e] at n; cases n
theorem ok_path (F : Fun K "path" "path" s_path f fd) (hm : mg "path" = some (.ref f)) (T : Txt K mg) (c_check_width : Nm P w K mg base CX0 3 "check_width" s_check_width ["width"] (spCW)) (c_is_address : Nm P w K mg base CX0 5 "is_address" s_is_address ["width", "value"] (spIT adrB)) (c_check_address : Nm P w K mg base CX0 6 "check_address" s_check_address ["width", "address"] (spCT adrB)) (c_common : Nm P w K mg base CX0 2 "common" s_common ["one", "other"] (spCommon)) : Nm P w K mg base CX0 7 "path" s_path ["width", "begin", "end"] (spPath) := by
  refine nm_of F hm sc_path (fun vs H Q E h => ?_) fun cdv A outer s H vs Q E hr h => ?_
  · unfold spPath at h
    obtain ⟨n, x, e, rfl, h0, h1, he, hl, hx, k⟩ := h
    subst_vars
    rfl
  unfold spPath at h
  obtain ⟨n, x, e, rfl, h0, h1, he, hl, hx, k⟩ := h
  refine ⟨_, (pss_cons (ps_expr (pe_g c_check_width hr (by decide) L2.pass0 bp_check_width (by rfl) (pa_cons (pv 0) pa_nil)))
      (pss_cons (ps_if (PW.pt (pw_and (pt_cmpR op_notN (pv 1) pe_non (nomark _)) (pw_and1 (pt_not (pt_val (pe_g c_is_address hr (by decide) L2.pass0 bp_is_address (by rfl) (pa_cons (pv 0) (pa_cons (pv 1) pa_nil)))))))) (pss_one ps_never) pss_nil)
      (pss_cons (ps_expr (pe_g c_check_address hr (by decide) L2.pass0 bp_check_address (by rfl) (pa_cons (pv 0) (pa_cons (pv 2) pa_nil))))
      (pss_cons (ps_if (pt_cmpR op_isN (pv 1) pe_non (nomark _)) (pss_one (ps_ret (pe_lc (own := [("length", 6)]) (g := (gName 6)) (by rfl) sc_path.nd (pi_range1 (by rfl) T.b_range (pa_cons (pe_op op_add (pv 0) pe_int) pa_nil)) (blkOk_by (own := [("length", 6)]) (N := ["width", "begin", "end", "shared", "ups", "downs", "length"]) (sc := defScope s_path) (by decide +kernel)) (fun _ _ _ _ _ => (pg_name (i := 6) sc_path.nd rfl (by first | exact Or.inl rfl | exact Or.inr rfl))) (fun _ _ _ _ _ => pts_nil) (fun _ _ _ _ _ => (pe_tup (pa_cons (pe_slice sl_str (pv 2) po_none (po_some (pv 6))) (pa_cons pe_str pa_nil))))))) pss_nil)
      (pss_cons (ps_set (i := 3) sc_path.nd rfl (by first | exact Or.inl rfl | exact Or.inr rfl) (pe_callB (call_lenK (K := K) rfl) (by rfl) T.b_len PySem.boot_len (pa_cons (pe_g c_common hr (by decide) L2.pass0 bp_common (by rfl) (pa_cons (pv 1) (pa_cons (pv 2) pa_nil))) pa_nil)))
      (pss_cons (ps_setLc (i := 4) (own := [("length", 6)]) (g := (gName 6)) (by rfl) sc_path.nd rfl rfl (sw_true rfl rfl rfl (by decide +kernel)) (pi_range3 (by rfl) T.b_range (pa_cons (pv 0) (pa_cons (pv 3) (pa_cons (pe_un un_neg pe_int) pa_nil)))) (blkOk_by (own := [("length", 6)]) (N := ["width", "begin", "end", "shared", "ups", "downs", "length"]) (sc := defScope s_path) (by decide +kernel)) (fun _ _ _ _ _ => (pg_name (i := 6) sc_path.nd rfl (by first | exact Or.inl rfl | exact Or.inr rfl))) (fun _ _ _ _ _ => pts_nil) (fun _ _ _ _ _ => (pe_tup (pa_cons (pe_slice sl_str (pv 1) po_none (po_some (pv 6))) (pa_cons pe_str pa_nil)))))
      (pss_cons (ps_setLc (i := 5) (own := [("length", 6)]) (g := (gName 6)) (by rfl) sc_path.nd rfl rfl (sw_true rfl rfl rfl (by decide +kernel)) (pi_range2 (by rfl) T.b_range (pa_cons (pe_op op_add (pv 3) pe_int) (pa_cons (pe_op op_add (pv 0) pe_int) pa_nil))) (blkOk_by (own := [("length", 6)]) (N := ["width", "begin", "end", "shared", "ups", "downs", "length"]) (sc := defScope s_path) (by decide +kernel)) (fun _ _ _ _ _ => (pg_name (i := 6) sc_path.nd rfl (by first | exact Or.inl rfl | exact Or.inr rfl))) (fun _ _ _ _ _ => pts_nil) (fun _ _ _ _ _ => (pe_tup (pa_cons (pe_slice sl_str (pv 2) po_none (po_some (pv 6))) (pa_cons pe_str pa_nil)))))
      (pss_one (ps_ret (pe_lst (StX.pa_star (pv 4) (StX.pa_star (pv 5) pa_nil)))))))))))), ?_⟩
  have adr : ∀ {z : Str}, Bits z → z.length = n → adrB n z = true := fun {z} hz lz => by
    show (bitsB z && decide ((z.length : Int) = n)) = true
    rw [bitsB_of hz, lz, decide_eq_true rfl]
    rfl
  repeat walk_at "s1"
  refine cw_go (by omega) (by omega) fun H1 sm1 => ?_
  repeat walk_at "s1"
  rcases hx with rfl | ⟨z, rfl, hz, lz⟩
  · refine iteF ?_
    repeat walk_at "s1"
    refine ct_go (by omega) (by omega) (by omega) (adr he hl) fun H2 sm2 => ?_
    repeat walk_at "s1"
    rename_i D nD
    refine lc_it walk_range (fun i => LI H2 D (pathN e i)) (LI.nil nD) (fun _ _ _ _ => trivial) ?_ ?_
    · rintro i x H3 H4 hi hI ⟨rfl, rfl⟩
      refine ⟨rfl, ?_⟩
      dsimp only [tYes]
      rw [if_pos rfl]
      repeat walk_at "s1"
      rename_i t nt
      rw [cut_tk e (k := i) (by omega)]
      refine hI.turn nD nt (by unfold pathN; rw [List.length_map, List.length_range]; omega) fun H h => ?_
      show LI H2 D (pathN e (i + 1)) H
      unfold pathN
      rw [range_snoc]
      exact h
    · intro H3 hI
      obtain ⟨ts, hD, tp, sm⟩ := hI.end
      have e1 : (((n : Nat) : Int) + 1 - 0).toNat = n + 1 := by omega
      refine k _ ts _ (sm_fresh (sm1.trans sm2) nD) ((sm1.trans sm2).trans sm) hD ?_
      exact tp
  · refine iteT ?_
    repeat walk_at "s1"
    refine it_go (by omega) (by omega) (by omega) fun H2 sm2 => ?_
    rw [adr hz lz]
    refine ⟨_, rfl, iteF ?_⟩
    repeat walk_at "s1"
    refine ct_go (by omega) (by omega) (by omega) (adr he hl) fun H3 sm3 => ?_
    repeat walk_at "s1"
    refine common_go hz he (by omega) (by omega) fun H4 sm4 => ?_
    have hsm : Same H H4 := ((sm1.trans sm2).trans sm3).trans sm4
    have cl := cpS_le z e
    have tl := tk_len z (cpS z e)
    refine ⟨_, _, rfl, ⟨szl (by omega), rfl⟩, ?_⟩
    rw [show (tk z (cpS z e)).length = cpS z e by omega]
    generalize hs : cpS z e = c at cl tl ⊢
    repeat walk_at "s1"
    refine ⟨_, _, _, _, rfl, RgC.neg (by omega) (by omega) (by omega) (by omega), fun D nD => ?_⟩
    have en : ((n : Int) - (c : Int)).toNat = n - c := by omega
    rw [en]
    refine lc_it walk_rangeC (fun i => LI H4 D (pathU z n i)) (LI.nil nD) (fun _ _ _ _ => trivial) ?_ ?_
    · rintro i x H5 H6 hi hI ⟨rfl, rfl⟩
      refine ⟨rfl, ?_⟩
      dsimp only [tYes]
      rw [if_pos rfl]
      repeat walk_at "s1"
      rename_i t nt
      rw [cut_tk z (k := n - i) (by omega)]
      refine hI.turn nD nt (by unfold pathU; rw [List.length_map, List.length_range]; omega) fun H h => ?_
      show LI H4 D (pathU z n (i + 1)) H
      unfold pathU
      rw [range_snoc]
      exact h
    · intro H5 hI
      obtain ⟨us, hD, tpu, sm5⟩ := hI.end
      repeat walk_at "s1"
      rename_i B nB
      have en2 : ((n : Int) + 1 - ((c : Int) + 1)).toNat = n - c := by omega
      rw [en2]
      refine lc_it walk_range (fun i => LI H5 B (pathD e c i)) (LI.nil nB) (fun _ _ _ _ => trivial) ?_ ?_
      · rintro i x H6 H7 hi hI ⟨rfl, rfl⟩
        refine ⟨rfl, ?_⟩
        dsimp only [tYes]
        rw [if_pos rfl]
        repeat walk_at "s1"
        rename_i t nt
        rw [cut_tk e (k := c + 1 + i) (by omega)]
        refine hI.turn nB nt (by unfold pathD; rw [List.length_map, List.length_range]; omega) fun H h => ?_
        show LI H5 B (pathD e c (i + 1)) H
        unfold pathD
        rw [range_snoc]
        exact h
      · intro H6 hI
        obtain ⟨ds, hB, tpd, sm6⟩ := hI.end
        repeat walk_at "s1"
        refine ⟨D, us, rfl, Or.inr (SqL.of (sm6 _ _ hD)), ?_⟩
        refine ⟨_, rfl, ⟨B, ds, rfl, Or.inr (SqL.of hB), ?_⟩⟩
        have l1 : us.length = n - c := by rw [tpu.len]; unfold pathU; rw [List.length_map, List.length_range]
        have l2 : ds.length = n - c := by rw [tpd.len]; unfold pathD; rw [List.length_map, List.length_range]
        refine ⟨szl (by rw [List.length_append, List.append_nil]; omega), fun L nL => ?_⟩
        have sL : Same H4 H6 := sm5.trans sm6
        have hall : Same H H6 := hsm.trans sL
        refine k L (us ++ (ds ++ [])) _ (sm_fresh hall nL) (fun b u q => updn (nonn nL (hall b u q)) (hall b u q)) upd_same ?_
        rw [List.append_nil]
        have tpu6 : Tp (upd H6 L (.lst (us ++ ds))) us (pathU z n (n - c)) := tpu.mono fun a l q => updn (nonn nL (sm6 _ _ q)) (sm6 _ _ q)
        have tpd6 : Tp (upd H6 L (.lst (us ++ ds))) ds (pathD e c (n - c)) := tpd.mono fun a l q => updn (nonn nL q) q
        have := Tp.app tpd6 tpu6
        show Tp _ _ (pathU z n (n - cpS z e) ++ pathD e (cpS z e) (n - cpS z e))
        rw [hs]
        exact this
theorem ok_law_path (F : Fun K "_law_path" "_law_path" s_law_path f fd) (hm : mg "_law_path" = some (.ref f)) (T : Txt K mg) : Nm P w K mg base CX0 1 "_law_path" s_law_path ["_law_begun", "_law_to"] (spLPath) := by
  refine nm_of F hm sc_law_path (fun vs H Q E h => ?_) fun cdv A outer s H vs Q E hr h => ?_
  · unfold spLPath at h
    obtain ⟨n, x, e, rfl, h0, h1, he, hl, hx, k⟩ := h
    subst_vars
    rfl
  unfold spLPath at h
  obtain ⟨n, x, e, rfl, h0, h1, he, hl, hx, k⟩ := h
  refine ⟨_, (pss_cons (ps_if (pt_cmpR op_isN (pv 0) pe_non (nomark _)) (pss_one (ps_ret (pe_lc (own := [("_law_size", 3)]) (g := (gName 3)) (by rfl) sc_law_path.nd (pi_range1 (by rfl) T.b_range (pa_cons (pe_op op_add (pe_callB (call_lenK (K := K) rfl) (by rfl) T.b_len PySem.boot_len (pa_cons (pv 1) pa_nil)) pe_int) pa_nil)) (blkOk_by (own := [("_law_size", 3)]) (N := ["_law_begun", "_law_to", "_law_found", "_law_size"]) (sc := defScope s_law_path) (by decide +kernel)) (fun _ _ _ _ _ => (pg_name (i := 3) sc_law_path.nd rfl (by first | exact Or.inl rfl | exact Or.inr rfl))) (fun _ _ _ _ _ => pts_nil) (fun _ _ _ _ _ => (pe_tup (pa_cons (pe_slice sl_str (pv 1) po_none (po_some (pv 3))) (pa_cons pe_str pa_nil))))))) pss_nil)
      (pss_cons (ps_setLc (i := 2) (own := [("_law_size", 3)]) (g := (gName 3)) (by rfl) sc_law_path.nd rfl rfl (sw_true rfl rfl rfl (by decide +kernel)) (pi_range3 (by rfl) T.b_range (pa_cons (pe_callB (call_lenK (K := K) rfl) (by rfl) T.b_len PySem.boot_len (pa_cons (pv 0) pa_nil)) (pa_cons pe_int (pa_cons (pe_un un_neg pe_int) pa_nil)))) (blkOk_by (own := [("_law_size", 3)]) (N := ["_law_begun", "_law_to", "_law_found", "_law_size"]) (sc := defScope s_law_path) (by decide +kernel)) (fun _ _ _ _ _ => (pg_name (i := 3) sc_law_path.nd rfl (by first | exact Or.inl rfl | exact Or.inr rfl))) (fun _ _ _ _ _ => (pts_one (pt_cmpR op_ne (pe_slice sl_str (pv 0) po_none (po_some (pv 3))) (pe_slice sl_str (pv 1) po_none (po_some (pv 3))) (nomark _)))) (fun _ _ _ _ _ => (pe_tup (pa_cons (pe_slice sl_str (pv 0) po_none (po_some (pv 3))) (pa_cons pe_str pa_nil)))))
      (pss_one (ps_ret (pe_op op_cat (pv 2) (pe_lc (own := [("_law_size", 3)]) (g := (gName 3)) (by rfl) sc_law_path.nd (pi_range2 (by rfl) T.b_range (pa_cons pe_int (pa_cons (pe_op op_add (pe_callB (call_lenK (K := K) rfl) (by rfl) T.b_len PySem.boot_len (pa_cons (pv 1) pa_nil)) pe_int) pa_nil))) (blkOk_by (own := [("_law_size", 3)]) (N := ["_law_begun", "_law_to", "_law_found", "_law_size"]) (sc := defScope s_law_path) (by decide +kernel)) (fun _ _ _ _ _ => (pg_name (i := 3) sc_law_path.nd rfl (by first | exact Or.inl rfl | exact Or.inr rfl))) (fun _ _ _ _ _ => (pts_one (pt_cmpR op_ne (pe_slice sl_str (pv 0) po_none (po_some (pv 3))) (pe_slice sl_str (pv 1) po_none (po_some (pv 3))) (nomark _)))) (fun _ _ _ _ _ => (pe_tup (pa_cons (pe_slice sl_str (pv 1) po_none (po_some (pv 3))) (pa_cons pe_str pa_nil)))))))))), ?_⟩
  rcases hx with rfl | ⟨z, rfl, hz, lz⟩
  · repeat walk_at "s1"
    rename_i D nD
    refine lc_it walk_range (fun i => LI H D (pathN e i)) (LI.nil nD) (fun _ _ _ _ => trivial) ?_ ?_
    · rintro i x H3 H4 hi hI ⟨rfl, rfl⟩
      refine ⟨rfl, ?_⟩
      dsimp only [tYes]
      rw [if_pos rfl]
      repeat walk_at "s1"
      rename_i t nt
      rw [cut_tk e (k := i) (by omega)]
      refine hI.turn nD nt (by unfold pathN; rw [List.length_map, List.length_range]; omega) fun H h2 => ?_
      show LI _ D (pathN e (i + 1)) H
      unfold pathN
      rw [range_snoc]
      exact h2
    · intro H3 hI
      obtain ⟨ts, hD, tp, sm⟩ := hI.end
      have e1 : (((e.length : Nat) : Int) + 1).toNat = n + 1 := by omega
      rw [e1] at tp
      exact k _ ts _ nD sm hD tp
  · have cl := cpS_le z e
    have tq : ∀ k, k ≤ n → ((tk z k = tk e k) ↔ k ≤ cpS z e) := fun k hk => by
      have q := take_cpl z.cps.toList e.cps.toList k (by rw [Array.length_toList]; show k ≤ z.length; omega) (by rw [Array.length_toList]; show k ≤ e.length; omega)
      refine Iff.trans ⟨fun h => ?_, fun h => congrArg SX.S h⟩ q
      exact SX.S_inj h
    generalize hs : cpS z e = c at cl tq
    repeat walk_at "s1"
    refine ⟨_, _, _, _, rfl, RgC.neg (by omega) (by omega) (by omega) (by omega), fun D nD => ?_⟩
    have en : ((z.length : Int) - 0).toNat = n := by omega
    rw [en]
    refine lc_it walk_rangeC (fun i => LI H D (pathU z n (min i (n - c)))) (LI.nil nD) (fun _ _ _ _ => trivial) ?_ ?_
    · rintro i x H5 H6 hi hI ⟨rfl, rfl⟩
      refine ⟨rfl, ?_⟩
      repeat walk_at "s1"
      rw [cut_tk z (k := n - i) (by omega), cut_tk e (k := n - i) (by omega)]
      refine ite2 (fun hq => ?_) fun hq => ?_
      · have hlt : i < n - c := by
          have h2 : ¬ (n - i ≤ c) := fun h2 => nd_t hq (str_ne.mpr ((tq (n - i) (by omega)).mpr h2))
          omega
        repeat walk_at "s1"
        rename_i t nt
        rw [cut_tk z (k := n - i) (by omega)]
        refine hI.turn nD nt (by unfold pathU; rw [List.length_map, List.length_range]; omega) fun H h2 => ?_
        rw [show min i (n - c) = i by omega] at h2
        rw [show min (i + 1) (n - c) = i + 1 by omega]
        unfold pathU
        rw [range_snoc]
        exact h2
      · have hge : n - c ≤ i := by
          have h2 := (tq (n - i) (by omega)).mp (str_ne.mp (nd_f hq))
          omega
        rw [show min (i + 1) (n - c) = min i (n - c) by omega]
        exact hI
    · intro H5 hI
      rw [show min n (n - c) = n - c by omega] at hI
      obtain ⟨us, hD, tpu, sm5⟩ := hI.end
      repeat walk_at "s1"
      rename_i B nB
      have en2 : (((e.length : Nat) : Int) + 1 - 1).toNat = n := by omega
      rw [en2]
      refine lc_it walk_range (fun i => LI H5 B (pathD e c (i - c))) (by rw [Nat.zero_sub]; exact LI.nil nB) (fun _ _ _ _ => trivial) ?_ ?_
      · rintro i x H6 H7 hi hI ⟨rfl, rfl⟩
        refine ⟨rfl, ?_⟩
        repeat walk_at "s1"
        rw [cut_tk z (k := i + 1) (by omega), cut_tk e (k := i + 1) (by omega)]
        refine ite2 (fun hq => ?_) fun hq => ?_
        · have hlt : c ≤ i := by
            have h2 : ¬ (i + 1 ≤ c) := fun h2 => nd_t hq (str_ne.mpr ((tq (i + 1) (by omega)).mpr h2))
            omega
          repeat walk_at "s1"
          rename_i t nt
          rw [cut_tk e (k := c + 1 + (i - c)) (by omega)]
          refine hI.turn nB nt (by unfold pathD; rw [List.length_map, List.length_range]; omega) fun H h2 => ?_
          rw [show i + 1 - c = (i - c) + 1 by omega]
          unfold pathD
          rw [range_snoc]
          exact h2
        · have hge : i + 1 ≤ c := (tq (i + 1) (by omega)).mp (str_ne.mp (nd_f hq))
          rw [show i + 1 - c = i - c by omega]
          exact hI
      · intro H6 hI
        obtain ⟨ds, hB, tpd, sm6⟩ := hI.end
        have l1 : us.length = n - c := by rw [tpu.len]; unfold pathU; rw [List.length_map, List.length_range]
        have l2 : ds.length = n - c := by rw [tpd.len]; unfold pathD; rw [List.length_map, List.length_range]
        refine ⟨D, B, us, ds, rfl, rfl, sm6 _ _ hD, hB, szl (by omega), fun L nL => ?_⟩
        have hall : Same H H6 := sm5.trans sm6
        refine k L (us ++ ds) _ (sm_fresh hall nL) (fun b u q => updn (nonn nL (hall b u q)) (hall b u q)) upd_same ?_
        have tpu6 : Tp (upd H6 L (.lst (us ++ ds))) us (pathU z n (n - c)) := tpu.mono fun a l q => updn (nonn nL (sm6 _ _ q)) (sm6 _ _ q)
        have tpd6 : Tp (upd H6 L (.lst (us ++ ds))) ds (pathD e c (n - c)) := tpd.mono fun a l q => updn (nonn nL q) q
        have := Tp.app tpd6 tpu6
        show Tp _ _ (pathU z n (n - cpS z e) ++ pathD e (cpS z e) (n - cpS z e))
        rw [hs]
        exact this
end
open PySem PySem.Spec PyProof.Rows
open L2 hiding pass0
/-! ### the law's own -/
theorem cutS_len (z : Str) (a b : Option Int) : (cutS z a b).length ≤ z.length := by
  show (List.toArray _).size ≤ z.cps.size
  rw [List.size_toArray, List.length_take, List.length_drop, Array.length_toList]
  omega
theorem spot_gi {p : Addr} {H : Hp} {Q : VK} {E : XK} {n : Nat} {i : Int} (e : i = n) (hp : PotAt H p) (h2 : n ≤ 1000) (q : ∀ (z : Str) H', Bits z → z.length = n → Go p H H' → Q (.str z) H') : spSpot [.ref p, .int i] H Q E := by
  subst e
  exact spot_go hp h2 q
theorem bits_at {t : Str} {j : Nat} (ht : Bits t) (hj : j < t.length) : ∃ c, (c = 48 ∨ c = 49) ∧ atI t.cps.toList (j : Int) = some c := by
  have hj' : j < t.cps.toList.length := by rw [Array.length_toList]; exact hj
  exact ⟨t.cps.toList[j], ht _ (List.getElem_mem hj'), atI_nat (by simp [hj'])⟩
theorem flip01 {c : Nat} (h : c = 48 ∨ c = 49) : ∃ d, (d = 48 ∨ d = 49) ∧ valV ([(Sum.inr "0", V.str "1"), (Sum.inr "1", V.str "0")] : List (Key × V)) (Sum.inr (⟨#[c]⟩ : Str)) = some (.str ⟨#[d]⟩) := by
  rcases h with rfl | rfl
  · exact ⟨49, .inr rfl, by decide +kernel⟩
  · exact ⟨48, .inl rfl, by decide +kernel⟩
theorem near_bits {t a b : Str} {d : Nat} {c : Nat} (ht : Bits t) (hb : Bits b) (hd : d < t.length) (hc : c = 48 ∨ c = 49) (hl : b.length = t.length - d - 1) (ha : a = tk t d ++ (⟨#[c]⟩ : Str) ++ b) : Bits a ∧ a.length = t.length := by
  have e : a = SX.S (t.cps.toList.take d ++ [c] ++ b.cps.toList) := by
    rw [ha, ← SX.S_cat, ← SX.S_cat, SX.S_tl]
    rfl
  have lt : t.cps.toList.length = t.length := Array.length_toList
  have lb : b.cps.toList.length = b.length := Array.length_toList
  constructor
  · intro x hx
    rw [e] at hx
    have hx' : x ∈ t.cps.toList.take d ++ [c] ++ b.cps.toList := hx
    rw [List.mem_append, List.mem_append, List.mem_singleton] at hx'
    rcases hx' with (hx' | rfl) | hx'
    · exact ht x (List.mem_of_mem_take hx')
    · exact hc
    · exact hb x hx'
  · rw [e, SX.S_len, List.length_append, List.length_append, List.length_take]
    show min d _ + 1 + _ = _
    omega
section
variable {P : Program} {w : World} {K : PySem.W.Frag} {mg : Str → Option Value} {base : Heap} {f : Addr} {fd : FuncData}
theorem ok_near (F : Fun K "_law_near" "_law_near" s_law_near f fd) (hm : mg "_law_near" = some (.ref f)) (T : Txt K mg) (c_law_draw : Nm P w K mg base CX0 1 "_law_draw" s_law_draw ["_law_pot_here", "_law_many"] (spDraw)) (c_law_spot : Nm P w K mg base CX0 2 "_law_spot" s_law_spot ["_law_pot_here", "_law_wide"] (spSpot)) : Nm P w K mg base CX0 3 "_law_near" s_law_near ["_law_pot_here", "_law_spot_here"] (spNear) := by
  refine nm_of F hm sc_law_near (fun vs H Q E h => ?_) fun cdv A outer s H vs Q E hr h => ?_
  · unfold spNear at h
    obtain ⟨p, t, rfl, hp, ht, hl, k⟩ := h
    subst_vars
    rfl
  unfold spNear at h
  obtain ⟨p, t, rfl, hp, ht, hl, k⟩ := h
  refine ⟨_, (pss_cons (ps_set (i := 2) sc_law_near.nd rfl (by first | exact Or.inl rfl | exact Or.inr rfl) (pe_g c_law_draw hr (by decide) L2.pass0 bp_law_draw (by rfl) (pa_cons (pv 0) (pa_cons (pe_op op_add (pe_callB (call_lenK (K := K) rfl) (by rfl) T.b_len PySem.boot_len (pa_cons (pv 1) pa_nil)) pe_int) pa_nil))))
      (pss_cons (ps_if (pt_cmpR op_eq (pv 2) (pe_callB (call_lenK (K := K) rfl) (by rfl) T.b_len PySem.boot_len (pa_cons (pv 1) pa_nil)) (nomark _)) (pss_one (ps_ret (pv 1))) pss_nil)
      (pss_one (ps_ret (pe_op op_add_str (pe_op op_add_str (pe_slice sl_str (pv 1) po_none (po_some (pv 2))) (pe_dget hr.u1 (pe_disp (pps_cons pe_str pe_str (pps_cons pe_str pe_str pps_nil)) (by rfl) (by rfl) (fun z => by cases z) (by decide)) (pe_ix (ix_seqK (K := K) rfl) (pv 1) (pv 2) (fun _ _ => rfl)) (fun _ _ => rfl))) (pe_g c_law_spot hr (by decide) L2.pass0 bp_law_spot (by rfl) (pa_cons (pv 0) (pa_cons (pe_op op_sub (pe_op op_sub (pe_callB (call_lenK (K := K) rfl) (by rfl) T.b_len PySem.boot_len (pa_cons (pv 1) pa_nil)) (pv 2)) pe_int) pa_nil)))))))), ?_⟩
  repeat walk_at "s1"
  refine draw_go hp (by omega) (by omega) fun d H1 d0 d1 g1 => ?_
  repeat walk_at "s1"
  refine ite2 (fun hq => ?_) fun hq => ?_
  · repeat walk_at "s1"
    exact k t H1 ht rfl g1
  · obtain ⟨j, rfl⟩ := Int.eq_ofNat_of_zero_le d0
    have hj : j < t.length := by
      have h2 : (j : Int) ≠ t.length := fun h2 => hq (decide_eq_true (by rw [show ((j : Int)) = ((t.length : Nat) : Int) from h2]))
      omega
    have lt : t.cps.toList.length = t.length := Array.length_toList
    have cl := cutS_len t none (some (j : Int))
    obtain ⟨cc, hcc, hat⟩ := bits_at ht hj
    obtain ⟨dd, hdd, hv⟩ := flip01 hcc
    repeat walk_at "s1"
    rename_i D nD
    refine ⟨[(Sum.inr "0", .str "1"), (Sum.inr "1", .str "0")], rfl, by decide, ?_⟩
    rw [upd_upd]
    have g2 := g1.new (o := HO.dK (mergeK [] [(Sum.inr "0", V.str "1"), (Sum.inr "1", V.str "0")])) nD
    refine ⟨_, rfl, ⟨_, rfl, Or.inr (Or.inr ⟨_, _, cc, rfl, rfl, szl (by omega), hat, ?_⟩)⟩⟩
    refine ⟨D, _, rfl, .inl ⟨_, Sum.inr ⟨#[cc]⟩, .inl upd_same, rfl, hv.symm⟩, ?_⟩
    refine ⟨_, _, rfl, rfl, szl (by show _ + 1 ≤ _; omega), ?_⟩
    repeat walk_at "s1"
    have e1 : ((t.length : Int) - (j : Int) - 1) = ((t.length - j - 1 : Nat) : Int) := by omega
    refine spot_gi e1 g2.pot (by omega) fun b H3 hb lb g3 => ?_
    have cc1 : (cutS t none (some (j : Int)) ++ ({ cps := #[dd] } : Str)).length ≤ t.length + 1 := by
      rw [cut_tk t rfl]
      show (SX.S _ ++ SX.S [dd]).length ≤ _
      rw [SX.S_cat, SX.S_len, List.length_append, List.length_take]
      show min j _ + 1 ≤ _
      omega
    have nb := near_bits (a := cutS t none (some (j : Int)) ++ ({ cps := #[dd] } : Str) ++ b) ht hb hj hdd lb (by rw [cut_tk t rfl])
    refine ⟨_, _, rfl, rfl, szl (by omega), ?_⟩
    exact k _ H3 nb.1 nb.2 (g2.trans g3)
end
open PySem PySem.Spec PyProof.Rows
open L2 hiding pass0
abbrev s_law_pair_right : Stmt := top 24
theorem sc_law_pair_right : FnScope ["_law_wide", "_law_spot_here", "_law_mate", "_law_due", "_law_told", "_law_again", "_law_many", "_law_back", "_law_border", "_law_way"] ["_law_wide", "_law_spot_here", "_law_mate"] (defScope s_law_pair_right) := ⟨rfl, rfl, rfl, by decide +kernel, rfl, by decide +kernel, by decide +kernel⟩
theorem bp_law_pair_right : BndP "_law_pair_right" s_law_pair_right ["_law_wide", "_law_spot_here", "_law_mate"] := fun _ _ _ _ _ _ us h => match us, h with | [_, _, _], _ => rfl
theorem bk_path_0_end_width_begin : Bnd "path" s_path ["width", "begin", "end"] 0 ["end", "width", "begin"] [1, 2, 0] := fun _ _ _ _ _ _ us ws h1 h2 => match us, ws, h1, h2 with | [], [_, _, _], _, _ => rfl
/-! ### texts of paths -/
def SmP (q : Str × Str) : Prop := (Low q.1 ∧ q.1.length ≤ 100) ∧ (Low q.2 ∧ q.2.length ≤ 100)
theorem prs_fit {ps : List (Str × Str)} (h : ∀ q ∈ ps, SmP q) : Fit (203 * ps.length) 2 (.list (ps.map prD)) := by
  have := Fit.list (N := 202) (D := 1) (ds := ps.map prD) fun d hd => by
    obtain ⟨q, hq, rfl⟩ := List.mem_map.mp hd
    obtain ⟨⟨a1, a2⟩, a3, a4⟩ := h q hq
    refine Fit.tuple (N := 100) (D := 0) (ds := [.str q.1, .str q.2]) fun d hd => ?_
    simp only [List.mem_cons, List.not_mem_nil, or_false] at hd
    rcases hd with rfl | rfl
    · exact .str a1 a2
    · exact .str a3 a4
  rw [List.length_map] at this
  exact this
theorem low_tk {z : Str} {k : Nat} (h : Bits z) : Low (tk z k) := fun c hc => by
  have hc' : c ∈ z.cps.toList.take k := hc
  exact h.low c (List.mem_of_mem_take hc')
theorem sm_pr {z d : Str} {k : Nat} (h : Bits z) (l : z.length ≤ 100) (hd : d = "up" ∨ d = "down") : SmP (tk z k, d) := by
  refine ⟨⟨low_tk h, by rw [tk_len]; omega⟩, ?_⟩
  rcases hd with rfl | rfl
  · exact ⟨by show ∀ c ∈ ("up" : Str).cps.toList, c < 128; decide +kernel, by show ("up" : Str).length ≤ 100; decide +kernel⟩
  · exact ⟨by show ∀ c ∈ ("down" : Str).cps.toList, c < 128; decide +kernel, by show ("down" : Str).length ≤ 100; decide +kernel⟩
theorem sm_pathN {e : Str} {n : Nat} (h : Bits e) (l : e.length ≤ 100) : ∀ q ∈ pathN e n, SmP q := fun q hq => by
  obtain ⟨i, _, rfl⟩ := List.mem_map.mp hq
  exact sm_pr h l (.inr rfl)
theorem sm_pathP {z e : Str} {w : Nat} (hz : Bits z) (lz : z.length ≤ 100) (he : Bits e) (le : e.length ≤ 100) : ∀ q ∈ pathP z e w, SmP q := fun q hq => by
  rcases List.mem_append.mp hq with hq | hq
  · obtain ⟨i, _, rfl⟩ := List.mem_map.mp hq
    exact sm_pr hz lz (.inl rfl)
  · obtain ⟨i, _, rfl⟩ := List.mem_map.mp hq
    exact sm_pr he le (.inr rfl)
theorem len_pathP (z e : Str) (w : Nat) : (pathP z e w).length = 2 * (w - cpS z e) := by
  unfold pathP pathU pathD
  rw [List.length_append, List.length_map, List.length_map, List.length_range]
  omega
theorem len_pathN (e : Str) (w : Nat) : (pathN e w).length = w := by
  unfold pathN
  rw [List.length_map, List.length_range]
/-- two lists of tuples, shown as one -/
theorem two_rp {K : PySem.W.Frag} {H : Hp} {L a b : Addr} {us vs : List V} {ps : List (Str × Str)} (hL : H L = some (.lst [.ref a, .ref b])) (ha : H a = some (.lst us)) (hb : H b = some (.lst vs)) (ta : Tp H us ps) (tb : Tp H vs ps) (h : ∀ q ∈ ps, SmP q) (l : ps.length ≤ 1000) :
    Rp K H (.ref L) (.list [.list (ps.map prD), .list (ps.map prD)]) ∧ PyData.showable (.list [.list (ps.map prD), .list (ps.map prD)]) = true ∧ PyData.depth (.list [.list (ps.map prD), .list (ps.map prD)]) ≤ 50 ∧ (PyData.list [.list (ps.map prD), .list (ps.map prD)]).shown.length ≤ sizeLine := by
  have f := Fit.list (ds := [.list (ps.map prD), .list (ps.map prD)]) fun d hd => by
    simp only [List.mem_cons, List.not_mem_nil, or_false, or_self] at hd
    subst hd
    exact prs_fit h
  exact f.rp (.lst (SqL.of hL) (.cons (.lst (SqL.of ha) ta.dp) (.cons (.lst (SqL.of hb) tb.dp) .nil))) (by show (203 * ps.length + 1) * 2 ≤ _; omega) (by decide)
theorem bits_tk {z : Str} {k : Nat} (h : Bits z) : Bits (tk z k) := fun c hc => h c (List.mem_of_mem_take (show c ∈ z.cps.toList.take k from hc))
theorem str_pathP {z e : Str} {w : Nat} (hz : Bits z) (lz : z.length = w) (he : Bits e) (le : e.length = w) : ∀ q ∈ pathP z e w, strB w q.1 = true := fun q hq => by
  have key : ∀ {y : Str} {k : Nat}, Bits y → y.length = w → strB w (tk y k) = true := fun {y k} hy ly => by
    show (bitsB (tk y k) && decide (((tk y k).length : Int) ≤ w)) = true
    rw [bitsB_of (bits_tk hy), decide_eq_true (by rw [tk_len]; omega)]
    rfl
  rcases List.mem_append.mp hq with hq | hq
  · obtain ⟨i, _, rfl⟩ := List.mem_map.mp hq
    exact key hz lz
  · obtain ⟨i, _, rfl⟩ := List.mem_map.mp hq
    exact key he le
theorem all_rep : ∀ n : Nat, (List.replicate n true).all id = true
  | 0 => rfl
  | n + 1 => by rw [List.replicate_succ, List.all_cons, all_rep n]; rfl
theorem rep1 {α : Type} (x : α) : ∀ k : Nat, (List.replicate k [x]).flatten = List.replicate k x
  | 0 => rfl
  | k + 1 => by rw [List.replicate_succ, List.flatten_cons, rep1 x k]; rfl
theorem map_const {α : Type} (x : α) : ∀ k : Nat, (List.range k).map (fun _ => x) = List.replicate k x := fun k => by
  rw [List.map_const', List.length_range]
theorem ways_pathP (z e : Str) (w : Nat) : (pathP z e w).map (·.2) = List.replicate (w - cpS z e) ("up" : Str) ++ List.replicate (w - cpS z e) ("down" : Str) := by
  unfold pathP pathU pathD
  rw [List.map_append, List.map_map, List.map_map]
  show List.map (fun _ => ("up" : Str)) _ ++ List.map (fun _ => ("down" : Str)) _ = _
  rw [map_const, map_const]
theorem dps {K : PySem.W.Frag} {H : Hp} : ∀ zs : List Str, DpAll K H (zs.map V.str) (zs.map PyData.str)
  | [] => .nil
  | z :: zs => .cons (.str z) (dps zs)
theorem strs_fit {N : Nat} {zs : List Str} (h : ∀ z ∈ zs, Low z ∧ z.length ≤ N) : Fit ((N + 1) * zs.length) 1 (.list (zs.map PyData.str)) := by
  have := Fit.list (N := N) (D := 0) (ds := zs.map PyData.str) fun d hd => by
    obtain ⟨z, hz, rfl⟩ := List.mem_map.mp hd
    exact .str (h z hz).1 (h z hz).2
  rw [List.length_map] at this
  exact this
def fl (d : Str) : Str := if d = "up" then "down" else "up"
theorem flipUD {d : Str} (h : d = "up" ∨ d = "down") : valV ([(Sum.inr "up", V.str "down"), (Sum.inr "down", V.str "up")] : List (Key × V)) (Sum.inr d) = some (.str (fl d)) := by
  rcases h with rfl | rfl <;> decide +kernel
theorem way_pathP {z e : Str} {w : Nat} : ∀ q ∈ pathP z e w, q.2 = "up" ∨ q.2 = "down" := fun q hq => by
  rcases List.mem_append.mp hq with hq | hq
  · obtain ⟨i, _, rfl⟩ := List.mem_map.mp hq
    exact .inl rfl
  · obtain ⟨i, _, rfl⟩ := List.mem_map.mp hq
    exact .inr rfl
theorem rev_range {α : Type} (f : Nat → α) (k : Nat) : ((List.range k).map f).reverse = (List.range k).map fun i => f (k - 1 - i) := by
  refine List.ext_getElem (by simp) fun i h1 h2 => ?_
  rw [List.getElem_reverse]
  simp
theorem back_pathP {z e : Str} {w : Nat} (lz : z.length = w) (le : e.length = w) : pathP e z w = (pathP z e w).reverse.map fun q => (q.1, fl q.2) := by
  have cc : cpS e z = cpS z e := cpl_comm _ _
  have cl := cpS_le z e
  unfold pathP
  rw [cc, List.reverse_append, List.map_append]
  unfold pathU pathD
  rw [rev_range, rev_range, List.map_map, List.map_map]
  generalize hk : w - cpS z e = k
  congr 1
  · refine List.map_congr_left fun i hi => ?_
    have hi' := List.mem_range.mp hi
    show (tk e (w - i), ("up" : Str)) = (tk e (cpS z e + 1 + (k - 1 - i)), fl "down")
    rw [show cpS z e + 1 + (k - 1 - i) = w - i by omega]
    rfl
  · refine List.map_congr_left fun i hi => ?_
    have hi' := List.mem_range.mp hi
    show (tk z (cpS z e + 1 + i), ("down" : Str)) = (tk z (w - (k - 1 - i)), fl "up")
    rw [show w - (k - 1 - i) = cpS z e + 1 + i by omega]
    rfl
theorem LI.fresh {H0 H1 : Hp} {D p : Addr} {o : HO} {ps : List (Str × Str)} (h : LI H0 D ps H1) (np : H1 p = none) : LI H0 D ps (upd H1 p o) := by
  obtain ⟨⟨ts, hD, tp⟩, sm⟩ := h
  exact ⟨⟨ts, updn (nonn np hD) hD, tp.mono fun a l q => updn (nonn np q) q⟩, fun b u q => updn (nonn np (sm b u q)) (sm b u q)⟩
theorem prs_one {K : PySem.W.Frag} {H : Hp} {a : Addr} {vs : List V} {ps : List (Str × Str)} (ha : H a = some (.lst vs)) (t : Tp H vs ps) : Dp K H (.ref a) (.list (ps.map prD)) := .lst (SqL.of ha) t.dp
@[irreducible] def spPairR : Sp := fun vs H Q _ => ∃ (w : Nat) (z e : Str), vs = [.int w, .str z, .str e] ∧ 1 ≤ w ∧ w ≤ 100 ∧ Bits z ∧ z.length = w ∧ Bits e ∧ e.length = w ∧ ∀ H', Same H H' → Q (.bl true) H'
section
variable {P : Program} {w : World} {K : PySem.W.Frag} {mg : Str → Option Value} {base : Heap} {f : Addr} {fd : FuncData}
theorem ok_pair_right (F : Fun K "_law_pair_right" "_law_pair_right" s_law_pair_right f fd) (hm : mg "_law_pair_right" = some (.ref f)) (T : Txt K mg) (c_law_path : Nm P w K mg base CX0 1 "_law_path" s_law_path ["_law_begun", "_law_to"] (spLPath)) (c_path : Nm P w K mg base CX0 7 "path" s_path ["width", "begin", "end"] (spPath)) (c_is_stretch : Nm P w K mg base CX0 4 "is_stretch" s_is_stretch ["width", "value"] (spIT strB)) (c_common : Nm P w K mg base CX0 2 "common" s_common ["one", "other"] (spCommon)) : Nm P w K mg base CX0 8 "_law_pair_right" s_law_pair_right ["_law_wide", "_law_spot_here", "_law_mate"] (spPairR) := by
  refine nm_of F hm sc_law_pair_right (fun vs H Q E h => ?_) fun cdv A outer s H vs Q E hr h => ?_
  · unfold spPairR at h
    obtain ⟨n, z, e, rfl, h0, h1, hz, lz, he, le, k⟩ := h
    subst_vars
    rfl
  unfold spPairR at h
  obtain ⟨n, z, e, rfl, h0, h1, hz, lz, he, le, k⟩ := h
  refine ⟨_, (pss_cons (ps_set (i := 3) sc_law_pair_right.nd rfl (by first | exact Or.inl rfl | exact Or.inr rfl) (pe_g c_law_path hr (by decide) L2.pass0 bp_law_path (by rfl) (pa_cons (pv 1) (pa_cons (pv 2) pa_nil))))
      (pss_cons (ps_par (i := 4) (j := 5) (by rfl) sc_law_pair_right.nd rfl rfl (by decide) rfl rfl (pa_cons (pe_g c_path hr (by decide) L2.pass0 bp_path (by rfl) (pa_cons (pv 0) (pa_cons (pv 1) (pa_cons (pv 2) pa_nil)))) (pa_cons (pe_gK0 c_path hr (by decide) L2.pass0 bk_path_0_end_width_begin (by rfl) (pk_cons (pv 2) (pk_cons (pv 0) (pk_cons (pv 1) pk_nil)))) pa_nil)) (by rfl))
      (pss_cons (ps_if (PW.pt (pw_or (pt_cmpR op_ne (pe_callB (call_reprK (K := K) rfl hr.g hr.u) (by rfl) T.b_repr (by decide +kernel) (pa_cons (pe_lst (pa_cons (pv 4) (pa_cons (pv 5) pa_nil))) pa_nil)) (pe_callB (call_reprK (K := K) rfl hr.g hr.u) (by rfl) T.b_repr (by decide +kernel) (pa_cons (pe_lst (pa_cons (pv 3) (pa_cons (pv 3) pa_nil))) pa_nil)) (nomark _)) (pw_or1 (pt_not (pt_val (pe_callB (call_allK (K := K) rfl rfl) (by rfl) T.b_all (by decide +kernel) (pa_cons (pe_lc (own := [("_law_border", 8), ("_law_way", 9)]) (g := (gTup K 2 (gCons (gName 8) (gCons (gName 9) gNil)))) (by rfl) sc_law_pair_right.nd (pi_listK (K := K) rfl (pv 4)) (blkOk_by (own := [("_law_border", 8), ("_law_way", 9)]) (N := ["_law_wide", "_law_spot_here", "_law_mate", "_law_due", "_law_told", "_law_again", "_law_many", "_law_back", "_law_border", "_law_way"]) (sc := defScope s_law_pair_right) (by decide +kernel)) (fun _ _ _ _ _ => (pg_tup (by rfl) (pgs_cons (pg_name (i := 8) sc_law_pair_right.nd rfl (by first | exact Or.inl rfl | exact Or.inr rfl)) (pgs_cons (pg_name (i := 9) sc_law_pair_right.nd rfl (by first | exact Or.inl rfl | exact Or.inr rfl)) pgs_nil)))) (fun _ _ _ _ _ => pts_nil) (fun _ _ _ _ _ => (pe_g c_is_stretch hr (by decide) L2.pass0 bp_is_stretch (by rfl) (pa_cons (pv 0) (pa_cons (pv 8) pa_nil))))) pa_nil))))))) (pss_one (ps_ret pe_bl)) pss_nil)
      (pss_cons (ps_set (i := 6) sc_law_pair_right.nd rfl (by first | exact Or.inl rfl | exact Or.inr rfl) (pe_op op_sub (pv 0) (pe_callB (call_lenK (K := K) rfl) (by rfl) T.b_len PySem.boot_len (pa_cons (pe_g c_common hr (by decide) L2.pass0 bp_common (by rfl) (pa_cons (pv 1) (pa_cons (pv 2) pa_nil))) pa_nil))))
      (pss_cons (ps_if (PW.pt (pw_or (pt_cmpR op_ne (pe_callB (call_lenK (K := K) rfl) (by rfl) T.b_len PySem.boot_len (pa_cons (pv 4) pa_nil)) (pe_op op_mul pe_int (pv 6)) (nomark _)) (pw_or1 (pt_cmpR (op_neDK (K := K) rfl hr.u64) (pe_lc (own := [("_law_border", 8), ("_law_way", 9)]) (g := (gTup K 2 (gCons (gName 8) (gCons (gName 9) gNil)))) (by rfl) sc_law_pair_right.nd (pi_listK (K := K) rfl (pv 4)) (blkOk_by (own := [("_law_border", 8), ("_law_way", 9)]) (N := ["_law_wide", "_law_spot_here", "_law_mate", "_law_due", "_law_told", "_law_again", "_law_many", "_law_back", "_law_border", "_law_way"]) (sc := defScope s_law_pair_right) (by decide +kernel)) (fun _ _ _ _ _ => (pg_tup (by rfl) (pgs_cons (pg_name (i := 8) sc_law_pair_right.nd rfl (by first | exact Or.inl rfl | exact Or.inr rfl)) (pgs_cons (pg_name (i := 9) sc_law_pair_right.nd rfl (by first | exact Or.inl rfl | exact Or.inr rfl)) pgs_nil)))) (fun _ _ _ _ _ => pts_nil) (fun _ _ _ _ _ => (pv 9))) (pe_op op_cat (pe_op op_rep (pe_lst (pa_cons pe_str pa_nil)) (pv 6)) (pe_op op_rep (pe_lst (pa_cons pe_str pa_nil)) (pv 6))) (nomark _))))) (pss_one (ps_ret pe_bl)) pss_nil)
      (pss_cons (ps_setLc (i := 7) (own := [("_law_border", 8), ("_law_way", 9)]) (g := (gTup K 2 (gCons (gName 8) (gCons (gName 9) gNil)))) (by rfl) sc_law_pair_right.nd rfl rfl (sw_true rfl rfl rfl (by decide +kernel)) (pi_listK (K := K) rfl (pe_revL (pv 4))) (blkOk_by (own := [("_law_border", 8), ("_law_way", 9)]) (N := ["_law_wide", "_law_spot_here", "_law_mate", "_law_due", "_law_told", "_law_again", "_law_many", "_law_back", "_law_border", "_law_way"]) (sc := defScope s_law_pair_right) (by decide +kernel)) (fun _ _ _ _ _ => (pg_tup (by rfl) (pgs_cons (pg_name (i := 8) sc_law_pair_right.nd rfl (by first | exact Or.inl rfl | exact Or.inr rfl)) (pgs_cons (pg_name (i := 9) sc_law_pair_right.nd rfl (by first | exact Or.inl rfl | exact Or.inr rfl)) pgs_nil)))) (fun _ _ _ _ _ => pts_nil) (fun _ _ _ _ _ => (pe_tup (pa_cons (pv 8) (pa_cons (pe_dget hr.u1 (pe_disp (pps_cons pe_str pe_str (pps_cons pe_str pe_str pps_nil)) (by rfl) (by rfl) (fun z => by cases z) (by decide)) (pv 9) (fun _ _ => rfl)) pa_nil)))))
      (pss_cons (ps_if (pt_cmpR (op_neDK (K := K) rfl hr.u64) (pe_g c_path hr (by decide) L2.pass0 bp_path (by rfl) (pa_cons (pv 0) (pa_cons (pv 2) (pa_cons (pv 1) pa_nil)))) (pv 7) (nomark _)) (pss_one (ps_ret pe_bl)) pss_nil)
      (pss_cons (ps_expr (pe_bm0 PySem.F.plainAttrs_list PySem.F.slot_list_clear PySem.F.type_list_clear mt_clear (pv 4)))
      (pss_one (ps_ret (pe_cmpR (op_eqDK (K := K) rfl hr.u64) (pe_g c_path hr (by decide) L2.pass0 bp_path (by rfl) (pa_cons (pv 0) (pa_cons (pv 1) (pa_cons (pv 2) pa_nil)))) (pv 3) (nomark _)))))))))))), ?_⟩
  have sarg : PathArg (.str z) n := .inr ⟨z, rfl, hz, lz⟩
  have marg : PathArg (.str e) n := .inr ⟨e, rfl, he, le⟩
  repeat walk_at "s1"
  refine lpath_go h0 h1 he le sarg fun A1 t1 H1 n1 s1 e1 p1 => ?_
  repeat walk_at "s1"
  refine path_go h0 h1 he le sarg fun A2 t2 H2 n2 s2 e2 p2 => ?_
  repeat walk_at "s1"
  refine path_go h0 h1 he le sarg fun A3 t3 H3 n3 s3 e3 p3 => ?_
  repeat walk_at "s1"
  rename_i L nL
  have sm := sm_pathP (w := n) hz (by omega) he (by omega)
  have lp := len_pathP z e n
  refine repr_go (two_rp (ps := pathP z e n) upd_same (updn (nonn nL (s3 _ _ e2)) (s3 _ _ e2)) (updn (nonn nL e3) e3) ((p2.same s3).mono fun a l q => updn (nonn nL q) q) (p3.mono fun a l q => updn (nonn nL q) q) sm (by omega)) ?_
  repeat walk_at "s1"
  rename_i L2 nL2
  have sL : Same H3 (upd H3 L (.lst [.ref A2, .ref A3])) := fun b o q => updn (nonn nL q) q
  have sL2 : Same (upd H3 L (.lst [.ref A2, .ref A3])) (upd (upd H3 L (.lst [.ref A2, .ref A3])) L2 (.lst [.ref A1, .ref A1])) := fun b o q => updn (nonn nL2 q) q
  have s13 : Same H1 (upd (upd H3 L (.lst [.ref A2, .ref A3])) L2 (.lst [.ref A1, .ref A1])) := ((s2.trans s3).trans sL).trans sL2
  refine repr_go (two_rp (ps := pathP z e n) upd_same (s13 _ _ e1) (s13 _ _ e1) (p1.same s13) (p1.same s13) sm (by omega)) ?_
  refine ⟨rfl, ?_⟩
  refine ⟨_, rfl, ?_⟩
  refine iteNS rfl ?_
  generalize hH5 : upd (upd H3 L (.lst [.ref A2, .ref A3])) L2 (.lst [.ref A1, .ref A1]) = H5 at s13
  have s35 : Same H3 H5 := by rw [← hH5]; exact sL.trans sL2
  have s25 : Same H2 H5 := s3.trans s35
  clear sL sL2 hH5
  have e25 := s25 _ _ e2
  have p25 : Tp H5 t2 (pathP z e n) := p2.same s25
  have l25 := p25.len
  repeat walk_at "s1"
  refine ⟨⟨_, SqL.of e25⟩, fun D nD => ?_⟩
  refine lc_it (walk_list (xs := t2)) (fun i H6 => H6 D = some (.lst ((List.replicate i true).map V.bl)) ∧ Same H5 H6) ⟨upd_same, fun b o q => updn (nonn nD q) q⟩ (fun i H6 _ h => SqL.of (h.2 _ _ e25)) ?_ ?_
  · rintro i x H6 H7 hi ⟨hD, sm6⟩ ⟨rfl, hx⟩
    obtain ⟨a, bx, bw, rfl, ha, hq⟩ := (p25.same sm6).at hx
    refine ⟨a, _, rfl, SqT.of ha, rfl, ?_⟩
    refine ⟨_, _, rfl, ?_⟩
    refine ⟨_, _, rfl, ?_⟩
    refine ⟨rfl, rfl, ?_⟩
    dsimp only [tYes]
    rw [if_pos rfl]
    have hmem := List.mem_of_getElem? hq
    have hsm := sm _ hmem
    repeat walk_at "s1"
    refine it_go (by omega) (by omega) (by have := hsm.1.2; dsimp only at this; omega) fun H8 sm8 => ?_
    rw [str_pathP hz lz he le _ hmem]
    have s58 := sm6.trans sm8
    refine ⟨_, sm8 _ _ hD, szt (by rw [List.length_map, List.length_replicate]; omega), ?_, fun b o q => updn (nonn nD q) (s58 _ _ q)⟩
    rw [upd_same, List.replicate_succ', List.map_append]
    rfl
  rintro H6 ⟨hD, s56⟩
  refine ⟨_, _, rfl, SqL.of hD, ?_⟩
  rw [all_rep]
  refine ⟨_, rfl, ?_⟩
  refine iteF ?_
  repeat walk_at "s1"
  refine common_go hz he (by omega) (by omega) fun H7 s67 => ?_
  have cl := cpS_le z e
  have tl := tk_len z (cpS z e)
  refine ⟨_, _, rfl, ⟨szl (by omega), rfl⟩, ?_⟩
  rw [show (tk z (cpS z e)).length = cpS z e by omega]
  have e27 := s67 _ _ (s56 _ _ e25)
  have p27 := (p25.same s56).same s67
  repeat walk_at "s1"
  refine iteNS (show (V.int (t2.length : Int) : V) = V.int (2 * ((n : Int) - (cpS z e : Nat))) from congrArg V.int (by omega)) ?_
  repeat walk_at "s1"
  refine ⟨⟨_, SqL.of e27⟩, fun D2 nD2 => ?_⟩
  refine lc_it (walk_list (xs := t2)) (fun i H8 => H8 D2 = some (.lst ((((pathP z e n).map (·.2)).take i).map V.str)) ∧ Same H7 H8) ⟨upd_same, fun b o q => updn (nonn nD2 q) q⟩ (fun i H8 _ h => SqL.of (h.2 _ _ e27)) ?_ ?_
  · rintro i x H8 H9 hi ⟨hD, sm8⟩ ⟨rfl, hx⟩
    obtain ⟨a, bx, bw, rfl, ha, hq⟩ := (p27.same sm8).at hx
    refine ⟨a, _, rfl, SqT.of ha, rfl, ?_⟩
    refine ⟨_, _, rfl, ?_⟩
    refine ⟨_, _, rfl, ?_⟩
    refine ⟨rfl, rfl, ?_⟩
    dsimp only [tYes]
    rw [if_pos rfl]
    refine ⟨_, rfl, ?_⟩
    refine ⟨_, hD, szt (by rw [List.length_map, List.length_take, List.length_map]; omega), ?_, fun b o q => updn (nonn nD2 q) (sm8 _ _ q)⟩
    rw [upd_same, List.take_add_one, List.getElem?_map, hq, List.map_append]
    rfl
  rintro H8 ⟨hD2, s78⟩
  rw [l25, List.take_of_length_le (by rw [List.length_map]; exact Nat.le_refl _), ways_pathP] at hD2
  have ek : (((n : Int) - (cpS z e : Nat))).toNat = n - cpS z e := by omega
  iterate 8 (try walk_at "s1")
  rename_i U nU
  have hz2 : [V.str "up"].length * ((n : Int) - (cpS z e : Nat)).toNat ≤ sizeLine := szl (by rw [ek]; show 1 * _ ≤ _; omega)
  have hz3 : [V.str "down"].length * ((n : Int) - (cpS z e : Nat)).toNat ≤ sizeLine := szl (by rw [ek]; show 1 * _ ≤ _; omega)
  refine ⟨U, (n : Int) - (cpS z e : Nat), _, rfl, rfl, upd_same, by omega, by omega, hz2, fun U2 nU2 => ?_⟩
  have hU2 : U2 ≠ U := fun q => by rw [q, upd_same] at nU2; cases nU2
  rw [ek, rep1]
  iterate 3 (try walk_at "s1")
  rename_i W nW
  refine ⟨W, (n : Int) - (cpS z e : Nat), _, rfl, rfl, upd_same, by omega, by omega, hz3, fun W2 nW2 => ?_⟩
  rw [ek, rep1]
  have hU2b : W2 ≠ U2 := nonn nW2 (updn (nonn nW upd_same) upd_same) |>.symm
  generalize hHb : upd (upd H8 U (.lst [V.str "up"])) U2 (.lst (List.replicate (n - cpS z e) (V.str "up"))) = Hb at nW nW2 ⊢
  have eU2 : Hb U2 = some (.lst (List.replicate (n - cpS z e) (V.str "up"))) := by rw [← hHb]; exact upd_same
  have s8b : Same H8 Hb := by
    rw [← hHb]
    intro b o q
    have h1 : upd H8 U (.lst [V.str "up"]) b = some o := updn (nonn nU q) q
    exact updn (nonn nU2 h1) h1
  clear hHb
  have eU2c : upd Hb W (.lst [V.str "down"]) U2 = some (.lst (List.replicate (n - cpS z e) (V.str "up"))) := updn (nonn nW eU2) eU2
  refine ⟨U2, W2, _, _, rfl, rfl, updn (nonn nW2 eU2c) eU2c, upd_same, szl (by rw [List.length_replicate, List.length_replicate]; omega), fun C nC => ?_⟩
  have s8d : Same H8 (upd (upd Hb W (.lst [V.str "down"])) W2 (.lst (List.replicate (n - cpS z e) (V.str "down")))) := fun b o q => by
    have h1 := s8b b o q
    have h2 : upd Hb W (.lst [V.str "down"]) b = some o := updn (nonn nW h1) h1
    exact updn (nonn nW2 h2) h2
  generalize upd (upd Hb W (.lst [V.str "down"])) W2 (.lst (List.replicate (n - cpS z e) (V.str "down"))) = Hd at nC s8d ⊢
  have zf : ∀ y ∈ List.replicate (n - cpS z e) ("up" : Str) ++ List.replicate (n - cpS z e) ("down" : Str), Low y ∧ y.length ≤ 100 := fun y hy => by
    rcases List.mem_append.mp hy with hy | hy
    · rw [(List.mem_replicate.mp hy).2]
      exact ⟨by show ∀ c ∈ ("up" : Str).cps.toList, c < 128; decide +kernel, by decide +kernel⟩
    · rw [(List.mem_replicate.mp hy).2]
      exact ⟨by show ∀ c ∈ ("down" : Str).cps.toList, c < 128; decide +kernel, by decide +kernel⟩
  have ff := strs_fit zf
  have ev : List.replicate (n - cpS z e) (V.str "up") ++ List.replicate (n - cpS z e) (V.str "down") = (List.replicate (n - cpS z e) ("up" : Str) ++ List.replicate (n - cpS z e) ("down" : Str)).map V.str := by
    rw [List.map_append, List.map_replicate, List.map_replicate]
  have sC : Same H8 (upd Hd C (.lst (List.replicate (n - cpS z e) (V.str "up") ++ List.replicate (n - cpS z e) (V.str "down")))) := fun b o q => updn (nonn nC (s8d b o q)) (s8d b o q)
  refine ⟨_, _, .lst (SqL.of (sC _ _ hD2)) (dps _), .lst (SqL.of upd_same) (by rw [ev]; exact dps _), ff.shp (by decide), ff.shp (by decide), ?_⟩
  rw [ff.eqv]
  refine ⟨_, rfl, iteF ?_⟩
  generalize upd Hd C (.lst (List.replicate (n - cpS z e) (V.str "up") ++ List.replicate (n - cpS z e) (V.str "down"))) = H9 at sC ⊢
  have s79 : Same H7 H9 := s78.trans sC
  clear ff zf ev sC s8d nC eU2c eU2 nW nW2 hU2b hz2 hz3 nU2 hU2 s8b
  have e29 := s79 _ _ e27
  have p29 := p27.same s79
  repeat walk_at "s1"
  refine ⟨A2, t2, rfl, SqL.of e29, fun R nR => ?_⟩
  have sR : Same H9 (upd H9 R (.lst t2.reverse)) := fun b o q => updn (nonn nR q) q
  have pR : Tp (upd H9 R (.lst t2.reverse)) t2.reverse (pathP z e n).reverse := (p29.rev).mono fun a l q => updn (nonn nR q) q
  have eR : upd H9 R (.lst t2.reverse) R = some (.lst t2.reverse) := upd_same
  generalize upd H9 R (.lst t2.reverse) = HR at sR pR eR ⊢
  refine ⟨R, rfl, ⟨_, SqL.of eR⟩, fun B nB => ?_⟩
  have lR : t2.reverse.length = (pathP z e n).length := by rw [List.length_reverse, p29.len]
  refine lc_it (walk_list (xs := t2.reverse)) (fun i => LI HR B (((pathP z e n).reverse.take i).map fun q => (q.1, fl q.2))) (LI.nil nB) (fun i Hi _ h => SqL.of (h.2 _ _ eR)) ?_ ?_
  · rintro i x H10 H11 hi hI ⟨rfl, hx⟩
    obtain ⟨a, bx, bw, rfl, ha, hq⟩ := (pR.same hI.2).at hx
    refine ⟨a, _, rfl, SqT.of ha, rfl, ?_⟩
    refine ⟨_, _, rfl, ?_⟩
    refine ⟨_, _, rfl, ?_⟩
    refine ⟨rfl, rfl, ?_⟩
    dsimp only [tYes]
    rw [if_pos rfl]
    refine ⟨_, rfl, ?_⟩
    have hmem : (bx, bw) ∈ pathP z e n := List.mem_reverse.mp (List.mem_of_getElem? hq)
    have hv := flipUD (way_pathP _ hmem)
    intro D3 nD3
    iterate 4 (try walk_at "s1")
    refine ⟨[(Sum.inr "up", .str "down"), (Sum.inr "down", .str "up")], rfl, by decide, ?_⟩
    rw [upd_upd]
    refine ⟨_, rfl, ⟨D3, _, rfl, .inl ⟨_, Sum.inr bw, .inl upd_same, rfl, hv.symm⟩, ?_⟩⟩
    have hI2 := hI.fresh (o := HO.dK (mergeK [] [(Sum.inr "up", V.str "down"), (Sum.inr "down", V.str "up")])) nD3
    repeat walk_at "s1"
    rename_i t nt
    refine hI2.turn nB nt (by rw [List.length_map, List.length_take, List.length_reverse]; omega) fun H h3 => ?_
    show LI HR B (((pathP z e n).reverse.take (i + 1)).map fun q => (q.1, fl q.2)) H
    rw [List.take_add_one, hq, List.map_append]
    exact h3
  rintro H10 hI
  rw [lR, List.take_of_length_le (by rw [List.length_reverse]; exact Nat.le_refl _), ← back_pathP lz le] at hI
  obtain ⟨tb, eB, pB, sB⟩ := hI.end
  repeat walk_at "s1"
  refine path_go h0 h1 hz lz marg fun A4 t4 H12 n4 s4 e4 p4 => ?_
  have lq := len_pathP e z n
  have fq : Fit _ _ (.list ((pathP e z n).map prD)) := prs_fit (sm_pathP he (by omega) hz (by omega))
  refine ⟨_, rfl, ⟨_, _, prs_one (ps := pathP e z n) e4 p4, prs_one (ps := pathP e z n) (s4 _ _ eB) (pB.same s4), fq.shp (by decide), fq.shp (by decide), ?_⟩⟩
  rw [fq.eqv]
  refine ⟨_, rfl, iteF ?_⟩
  have eA : H12 A2 = some (.lst t2) := s4 _ _ (sB _ _ (sR _ _ e29))
  have sAll : Same H5 H12 := (((((s56.trans s67).trans s79).trans sR).trans sB).trans s4)
  repeat walk_at "s1"
  refine ⟨Or.inl ⟨rfl, _, Or.inl (Or.inl eA)⟩, ⟨A2, _, rfl, rfl, eA, ?_⟩⟩
  have n12 : A1 ≠ A2 := nonn n2 e1
  have s112 : Same H1 H12 := s13.trans sAll
  have e1c : upd H12 A2 (.lst []) A1 = some (.lst t1) := updn n12 (s112 _ _ e1)
  have p1c : Tp (upd H12 A2 (.lst [])) t1 (pathP z e n) := Tp.put (p1.same s112) eA
  have sHc : Same H (upd H12 A2 (.lst [])) := fun b o q => updn (nonn (sm_fresh s1 n2) q) (s112 _ _ (s1 _ _ q))
  repeat walk_at "s1"
  refine path_go h0 h1 he le sarg fun A5 t5 H14 n5 s5 e5 p5 => ?_
  have fp : Fit _ _ (.list ((pathP z e n).map prD)) := prs_fit sm
  refine ⟨_, rfl, ⟨_, _, prs_one (ps := pathP z e n) e5 p5, prs_one (s5 _ _ e1c) (p1c.same s5), fp.shp (by decide), fp.shp (by decide), ?_⟩⟩
  rw [fp.eqv]
  exact k _ (sHc.trans s5)
end
open PySem PySem.Spec PyProof.Rows
open L2 hiding pass0
abbrev s_law_right : Stmt := top 25
theorem sc_law_right : FnScope ["_law_pot_here", "_law_wide", "_law_spot_here", "_law_turn", "_law_mate", "_law_told"] ["_law_pot_here"] (defScope s_law_right) := ⟨rfl, rfl, rfl, by decide +kernel, rfl, by decide +kernel, by decide +kernel⟩
theorem bp_law_right : BndP "_law_right" s_law_right ["_law_pot_here"] := fun _ _ _ _ _ _ us h => match us, h with | [_], _ => rfl
abbrev s_law : Stmt := top 26
theorem sc_law : FnScope ["_law_script", "_law_k"] ["_law_script"] (defScope s_law) := ⟨rfl, rfl, rfl, by decide +kernel, rfl, by decide +kernel, by decide +kernel⟩
theorem bp_law : BndP "law" s_law ["_law_script"] := fun _ _ _ _ _ _ us h => match us, h with | [_], _ => rfl
theorem bk_path_0_begin_end_width : Bnd "path" s_path ["width", "begin", "end"] 0 ["begin", "end", "width"] [2, 0, 1] := fun _ _ _ _ _ _ us ws h1 h2 => match us, ws, h1, h2 with | [], [_, _, _], _, _ => rfl
theorem pair_go {w : Nat} {z e : Str} {H : Hp} {Q : VK} {E : XK} (h0 : 1 ≤ w) (h1 : w ≤ 100) (hz : Bits z) (lz : z.length = w) (he : Bits e) (le : e.length = w) (q : ∀ H', Same H H' → Q (.bl true) H') : spPairR [.int w, .str z, .str e] H Q E := by
  unfold spPairR
  exact ⟨w, z, e, rfl, h0, h1, hz, lz, he, le, q⟩
@[irreducible] def spRight : Sp := fun vs H Q _ => ∃ p, vs = [.ref p] ∧ PotAt H p ∧ ∀ H', Go p H H' → Q (.bl true) H'
theorem right_go {p : Addr} {H : Hp} {Q : VK} {E : XK} (h : PotAt H p) (q : ∀ H', Go p H H' → Q (.bl true) H') : spRight [.ref p] H Q E := by
  unfold spRight
  exact ⟨p, rfl, h, q⟩
theorem Go.of {p : Addr} {H H' : Hp} (h : PotAt H p) (s : Same H H') : Go p H H' := by
  obtain ⟨a, b, e, r⟩ := h
  exact ⟨⟨a, b, s _ _ e, r⟩, fun c o e _ => s c o e⟩
theorem Tp.ix {H : Hp} : ∀ {vs : List V} {ps : List (Str × Str)} {i : Nat} {q : Str × Str}, Tp H vs ps → ps[i]? = some q → ∃ a, vs[i]? = some (.ref a) ∧ H a = some (.tup [.str q.1, .str q.2])
  | _, _, _, _, .nil, e => by simp at e
  | _, _, 0, _, .cons h r, e => by cases e; exact ⟨_, rfl, h⟩
  | _, _, i + 1, _, .cons h r, e => by
    obtain ⟨a, e1, e2⟩ := r.ix (i := i) (by simpa using e)
    exact ⟨a, by simpa using e1, e2⟩
theorem atI_end {α : Type} {xs : List α} {n : Nat} {v : α} (hl : xs.length = n + 1) (h : xs[n]? = some v) : atI xs (-1) = some v := by
  have e : ixN xs.length (-1) = some n := by
    unfold ixN
    rw [if_neg (by decide), if_pos (by omega)]
    exact congrArg some (by omega)
  unfold atI
  rw [e]
  exact h
theorem cutV_init {xs : List V} {v : V} : cutV (xs ++ [v]) none (some (-1)) = xs := by
  show ((xs ++ [v]).drop 0).take ((if (-1 : Int) < 0 then ((-1 : Int) + ((xs ++ [v]).length : Int)).toNat else min (Int.toNat (-1)) (xs ++ [v]).length) - 0) = xs
  rw [if_pos (by decide), List.length_append, List.drop_zero, show ((-1 : Int) + ((xs.length + [v].length : Nat) : Int)).toNat - 0 = xs.length by show ((-1 : Int) + ((xs.length + 1 : Nat) : Int)).toNat - 0 = _; omega]
  exact List.take_left
theorem pathN_at {e : Str} {n i : Nat} (h : i < n) : (pathN e n)[i]? = some (tk e i, ("down" : Str)) := by
  unfold pathN
  rw [List.getElem?_map, List.getElem?_range h]
  rfl
theorem tk_zero (e : Str) : tk e 0 = "" := rfl
theorem tk_all {e : Str} {n : Nat} (h : e.length = n) : tk e n = e := by
  unfold tk
  rw [List.take_of_length_le (by rw [Array.length_toList]; exact Nat.le_of_eq h), SX.S_tl]
theorem pr_fit {q : Str × Str} (h : SmP q) : Fit 202 1 (prD q) := by
  obtain ⟨⟨a1, a2⟩, a3, a4⟩ := h
  refine Fit.tuple (N := 100) (D := 0) (ds := [.str q.1, .str q.2]) fun d hd => ?_
  simp only [List.mem_cons, List.not_mem_nil, or_false] at hd
  rcases hd with rfl | rfl
  · exact .str a1 a2
  · exact .str a3 a4
theorem pr_dp {K : PySem.W.Frag} {H : Hp} {a : Addr} {x y : Str} (h : H a = some (.tup [.str x, .str y])) : Dp K H (.ref a) (prD (x, y)) := .tup (SqT.of h) (.cons (.str _) (.cons (.str _) .nil))
section
variable {P : Program} {w : World} {K : PySem.W.Frag} {mg : Str → Option Value} {base : Heap} {f : Addr} {fd : FuncData}
theorem ok_law_right (F : Fun K "_law_right" "_law_right" s_law_right f fd) (hm : mg "_law_right" = some (.ref f)) (T : Txt K mg) (c_law_pick : Nm P w K mg base CX0 2 "_law_pick" s_law_pick ["_law_pot_here", "_law_some"] (spAmong K)) (c_law_spot : Nm P w K mg base CX0 2 "_law_spot" s_law_spot ["_law_pot_here", "_law_wide"] (spSpot)) (c_law_near : Nm P w K mg base CX0 3 "_law_near" s_law_near ["_law_pot_here", "_law_spot_here"] (spNear)) (c_law_pair_right : Nm P w K mg base CX0 8 "_law_pair_right" s_law_pair_right ["_law_wide", "_law_spot_here", "_law_mate"] (spPairR)) (c_path : Nm P w K mg base CX0 7 "path" s_path ["width", "begin", "end"] (spPath)) (c_law_path : Nm P w K mg base CX0 1 "_law_path" s_law_path ["_law_begun", "_law_to"] (spLPath)) : Nm P w K mg base CX0 9 "_law_right" s_law_right ["_law_pot_here"] (spRight) := by
  refine nm_of0 F hm sc_law_right (fun vs H Q E h => ?_) fun cdv A outer s H vs Q E hr h => ?_
  · unfold spRight at h
    obtain ⟨p, rfl, hp, k⟩ := h
    subst_vars
    rfl
  unfold spRight at h
  obtain ⟨p, rfl, hp, k⟩ := h
  refine ⟨_, (pss_cons (ps_set (i := 1) sc_law_right.nd rfl (by first | exact Or.inl rfl | exact Or.inr rfl) (pe_g c_law_pick hr (by decide) L2.pass0 bp_law_pick (by rfl) (pa_cons (pv 0) (pa_cons (pe_lst (pa_cons pe_int (pa_cons pe_int (pa_cons pe_int (pa_cons pe_int (pa_cons pe_int (pa_cons pe_int (pa_cons pe_int (pa_cons pe_int (pa_cons pe_int pa_nil)))))))))) pa_nil))))
      (pss_cons (ps_set (i := 2) sc_law_right.nd rfl (by first | exact Or.inl rfl | exact Or.inr rfl) (pe_g c_law_spot hr (by decide) L2.pass0 bp_law_spot (by rfl) (pa_cons (pv 0) (pa_cons (pv 1) pa_nil))))
      (pss_cons (ps_for PassesOwn.never rfl (pi_range1 (by rfl) T.b_range (pa_cons pe_int pa_nil)) (pg_name (i := 3) sc_law_right.nd rfl (by first | exact Or.inl rfl | exact Or.inr rfl)) (pss_cons (ps_set (i := 4) sc_law_right.nd rfl (by first | exact Or.inl rfl | exact Or.inr rfl) (pe_g c_law_near hr (by decide) L2.pass0 bp_law_near (by rfl) (pa_cons (pv 0) (pa_cons (pv 2) pa_nil))))
      (pss_cons (ps_if (PW.pt (pw_or (pt_not (pt_val (pe_g c_law_pair_right hr (by decide) L2.pass0 bp_law_pair_right (by rfl) (pa_cons (pv 1) (pa_cons (pv 2) (pa_cons (pv 4) pa_nil)))))) (pw_or1 (pt_cmpR (op_neDK (K := K) rfl hr.u64) (pe_g c_path hr (by decide) L2.pass0 bp_path (by rfl) (pa_cons (pv 1) (pa_cons (pv 2) (pa_cons (pv 2) pa_nil)))) (pe_lst pa_nil) (nomark _))))) (pss_one (ps_ret pe_bl)) pss_nil)
      (pss_cons (ps_set (i := 5) sc_law_right.nd rfl (by first | exact Or.inl rfl | exact Or.inr rfl) (pe_g c_path hr (by decide) L2.pass0 bp_path (by rfl) (pa_cons (pv 1) (pa_cons pe_non (pa_cons (pv 4) pa_nil)))))
      (pss_cons (ps_if (pt_cmpR op_ne (pe_callB (call_reprK (K := K) rfl hr.g hr.u) (by rfl) T.b_repr (by decide +kernel) (pa_cons (pe_lst (pa_cons (pv 5) (pa_cons (pe_gK0 c_path hr (by decide) L2.pass0 bk_path_0_begin_end_width (by rfl) (pk_cons pe_non (pk_cons (pv 4) (pk_cons (pv 1) pk_nil)))) pa_nil))) pa_nil)) (pe_callB (call_reprK (K := K) rfl hr.g hr.u) (by rfl) T.b_repr (by decide +kernel) (pa_cons (pe_op op_rep (pe_lst (pa_cons (pe_g c_law_path hr (by decide) L2.pass0 bp_law_path (by rfl) (pa_cons pe_non (pa_cons (pv 4) pa_nil))) pa_nil)) pe_int) pa_nil)) (nomark _)) (pss_one (ps_ret pe_bl)) pss_nil)
      (pss_cons (ps_if (PW.pt (pw_or (pt_cmpR op_ne (pe_callB (call_lenK (K := K) rfl) (by rfl) T.b_len PySem.boot_len (pa_cons (pv 5) pa_nil)) (pe_op op_add (pv 1) pe_int) (nomark _)) (pw_or (pt_cmpR (op_neDK (K := K) rfl hr.u64) (pe_ix (ix_seqK (K := K) rfl) (pv 5) pe_int (fun _ _ => rfl)) (pe_tup (pa_cons pe_str (pa_cons pe_str pa_nil))) (nomark _)) (pw_or1 (pt_cmpR (op_neDK (K := K) rfl hr.u64) (pe_ix (ix_seqK (K := K) rfl) (pv 5) (pe_un un_neg pe_int) (fun _ _ => rfl)) (pe_tup (pa_cons (pv 4) (pa_cons pe_str pa_nil))) (nomark _)))))) (pss_one (ps_ret pe_bl)) pss_nil)
      (pss_cons (ps_expr (pe_bm PySem.F.plainAttrs_list PySem.F.slot_list_append PySem.F.type_list_append mt_append (pv 5) (pa_cons pe_int pa_nil)))
      (pss_cons (ps_if (pt_cmpR (op_neDK (K := K) rfl hr.u64) (pe_g c_path hr (by decide) L2.pass0 bp_path (by rfl) (pa_cons (pv 1) (pa_cons pe_non (pa_cons (pv 4) pa_nil)))) (pe_slice sl_list (pv 5) po_none (po_some (pe_un un_neg pe_int))) (nomark _)) (pss_one (ps_ret pe_bl)) pss_nil)
      (pss_one (ps_set (i := 2) sc_law_right.nd rfl (by first | exact Or.inl rfl | exact Or.inr rfl) (pe_g c_law_pick hr (by decide) L2.pass0 bp_law_pick (by rfl) (pa_cons (pv 0) (pa_cons (pe_lst (pa_cons (pv 4) (pa_cons (pe_g c_law_spot hr (by decide) L2.pass0 bp_law_spot (by rfl) (pa_cons (pv 0) (pa_cons (pv 1) pa_nil))) pa_nil))) pa_nil)))))))))))))
      (pss_one (ps_ret pe_bl))))), ?_⟩
  walk_at "s1"
  refine ⟨szl (Nat.le_of_ble_eq_true rfl), fun L nL => ?_⟩
  refine among_l ((Go.refl hp).new nL).pot (hp.ne nL) (SqL.of upd_same) (Nat.le_of_ble_eq_true rfl) (Nat.le_of_ble_eq_true rfl) fun v hv H1 g1 => ?_
  have gg : Go p H H1 := ((Go.refl hp).new nL).trans g1
  obtain ⟨n, rfl, h0, h1⟩ : ∃ n : Nat, v = .int (n : Int) ∧ 1 ≤ n ∧ n ≤ 100 := by
    simp only [List.mem_cons, List.not_mem_nil, or_false] at hv
    rcases hv with rfl | rfl | rfl | rfl | rfl | rfl | rfl | rfl | rfl
    · exact ⟨1, rfl, by decide, by decide⟩
    · exact ⟨2, rfl, by decide, by decide⟩
    · exact ⟨3, rfl, by decide, by decide⟩
    · exact ⟨4, rfl, by decide, by decide⟩
    · exact ⟨5, rfl, by decide, by decide⟩
    · exact ⟨6, rfl, by decide, by decide⟩
    · exact ⟨98, rfl, by decide, by decide⟩
    · exact ⟨99, rfl, by decide, by decide⟩
    · exact ⟨100, rfl, by decide, by decide⟩
  clear hv g1
  repeat walk_at "s1"
  refine spot_go gg.pot (by omega) fun z H2 hz lz g2 => ?_
  have g02 := gg.trans g2
  refine ⟨4, rfl, by decide, by decide, for_it walk_range (fun i σ' H3 => ∃ z a3 a4 a5, σ' = [some (.ref p), some (.int n), some (.str z), a3, a4, a5] ∧ Bits z ∧ z.length = n ∧ Go p H H3) ⟨_, _, _, _, rfl, hz, lz, g02⟩ (fun _ _ _ _ _ => trivial) ?_ ?_⟩
  · clear hz lz g02 z g2
    rintro i x σ' H3 H3' hi ⟨z, a3, a4, a5, rfl, hz, lz, g3⟩ ⟨rfl, rfl⟩
    repeat walk_at "s1"
    refine near_go g3.pot hz (by omega) fun y H4 hy ly g4 => ?_
    have ly' : y.length = n := by omega
    have g04 := g3.trans g4
    repeat walk_at "s1"
    refine pair_go h0 h1 hz lz hy ly' fun H5 s5 => ?_
    repeat walk_at "s1"
    refine path_go h0 h1 hz lz (.inr ⟨z, rfl, hz, lz⟩) fun A t H6 n6 s6 e6 p6 => ?_
    have hnil : pathOf (.str z) z n = [] := List.eq_nil_of_length_eq_zero (by
      show (pathP z z n).length = 0
      rw [len_pathP, show cpS z z = z.length by unfold cpS; rw [cpl_self, Array.length_toList]; rfl]
      omega)
    rw [hnil] at p6
    repeat walk_at "s1"
    rename_i B nB
    refine ⟨_, _, prs_one (ps := []) (updn (nonn nB e6) e6) (p6.mono fun a l q => updn (nonn nB q) q), .lst (SqL.of upd_same) .nil, rfl, rfl, ?_⟩
    refine ⟨_, rfl, iteF ?_⟩
    have s7 : Same H4 (upd H6 B (.lst [])) := fun b o q => updn (nonn nB (s6 _ _ (s5 _ _ q))) (s6 _ _ (s5 _ _ q))
    have g7 := g04.trans (Go.of g04.pot s7)
    generalize upd H6 B (.lst []) = H7 at g7 s7 ⊢
    clear p6 e6 n6 s6 s5 nB
    repeat walk_at "s1"
    have narg : PathArg .non n := .inl rfl
    refine path_go h0 h1 hy ly' narg fun A1 t1 H8 n8 s8 e8 p8 => ?_
    repeat walk_at "s1"
    refine path_go h0 h1 hy ly' narg fun A2 t2 H9 n9 s9 e9 p9 => ?_
    repeat walk_at "s1"
    rename_i L1 nL1
    have smN : ∀ q ∈ pathN y (n + 1), SmP q := sm_pathN hy (by omega)
    refine repr_go (two_rp (ps := pathN y (n + 1)) upd_same (updn (nonn nL1 (s9 _ _ e8)) (s9 _ _ e8)) (updn (nonn nL1 e9) e9) ((p8.same s9).mono fun a l q => updn (nonn nL1 q) q) (p9.mono fun a l q => updn (nonn nL1 q) q) smN (by rw [len_pathN]; omega)) ?_
    have s10 : Same H8 (upd H9 L1 (.lst [.ref A1, .ref A2])) := fun b o q => updn (nonn nL1 (s9 _ _ q)) (s9 _ _ q)
    generalize upd H9 L1 (.lst [.ref A1, .ref A2]) = H10 at s10 ⊢
    repeat walk_at "s1"
    refine lpath_go h0 h1 hy ly' narg fun A3 t3 H11 n11 s11 e11 p11 => ?_
    repeat walk_at "s1"
    rename_i L2 nL2
    refine ⟨L2, 2, _, rfl, rfl, upd_same, by decide, by decide, szl (by show 1 * 2 ≤ _; omega), fun L3 nL3 => ?_⟩
    rw [show (List.replicate (Int.toNat 2) [V.ref A3]).flatten = [V.ref A3, V.ref A3] from rfl]
    have s12 : Same H11 (upd (upd H11 L2 (.lst [.ref A3])) L3 (.lst [.ref A3, .ref A3])) := fun b o q => by
      have q1 : upd H11 L2 (.lst [.ref A3]) b = some o := updn (nonn nL2 q) q
      exact updn (nonn nL3 q1) q1
    refine repr_go (two_rp (ps := pathN y (n + 1)) (a := A3) (b := A3) upd_same (s12 _ _ e11) (s12 _ _ e11) (p11.same s12) (p11.same s12) smN (by rw [len_pathN]; omega)) ?_
    refine ⟨rfl, ?_⟩
    refine ⟨_, rfl, ?_⟩
    refine iteNS rfl ?_
    generalize upd (upd H11 L2 (.lst [.ref A3])) L3 (.lst [.ref A3, .ref A3]) = H12 at s12 ⊢
    have s8c : Same H8 H12 := (s10.trans s11).trans s12
    have e12 := s8c _ _ e8
    have p12 := p8.same s8c
    have g12 := g7.trans (Go.of g7.pot (s8.trans s8c))
    have l12 := p12.len
    have l12' : t1.length = n + 1 := by rw [l12]; exact len_pathN _ _
    clear e11 p11 n11 s11 s12 nL1 nL2 nL3 s10 e9 p9 n9 s9
    repeat walk_at "s1"
    refine iteNS (show (V.int (t1.length : Int) : V) = V.int ((n : Int) + 1) from congrArg V.int (by omega)) ?_
    obtain ⟨b0, hb0, hB0⟩ := p12.ix (pathN_at (e := y) (n := n + 1) (i := 0) (by omega))
    obtain ⟨bn, hbn, hBn⟩ := p12.ix (pathN_at (e := y) (n := n + 1) (i := n) (by omega))
    rw [tk_zero] at hB0
    rw [tk_all ly'] at hBn
    have hb0' : atI t1 0 = some (V.ref b0) := atI_nat (j := 0) hb0
    refine ⟨_, rfl, ?_⟩
    refine Or.inl ⟨A1, t1, 0, V.ref b0, rfl, rfl, SqL.of e12, hb0', ?_⟩
    refine ⟨szl (by decide), fun T nT => ?_⟩
    have smA : SmP (("" : Str), ("down" : Str)) := by
      have := smN (tk y 0, ("down" : Str)) (List.mem_map.mpr ⟨0, List.mem_range.mpr (by omega), rfl⟩)
      rw [tk_zero] at this
      exact this
    have smB : SmP (y, ("down" : Str)) := by
      have := smN (tk y n, ("down" : Str)) (List.mem_map.mpr ⟨n, List.mem_range.mpr (by omega), rfl⟩)
      rw [tk_all ly'] at this
      exact this
    have fA := pr_fit smA
    have fB := pr_fit smB
    refine ⟨_, _, pr_dp (updn (nonn nT hB0) hB0), pr_dp upd_same, fA.shp (by decide), fA.shp (by decide), ?_⟩
    rw [fA.eqv]
    refine ⟨_, rfl, iteF ?_⟩
    have s13 : Same H12 (upd H12 T (.tup [.str "", .str "down"])) := fun b o q => updn (nonn nT q) q
    generalize upd H12 T (.tup [.str "", .str "down"]) = H13 at s13 ⊢
    have hbn' : atI t1 (-1) = some (V.ref bn) := atI_end l12' hbn
    refine ⟨_, rfl, ?_⟩
    refine ⟨_, rfl, ?_⟩
    refine Or.inl ⟨A1, t1, -1, V.ref bn, rfl, rfl, SqL.of (s13 _ _ e12), hbn', ?_⟩
    refine ⟨_, rfl, ?_⟩
    refine ⟨szl (by show 2 ≤ 1000000; decide), fun T2 nT2 => ?_⟩
    refine ⟨_, _, pr_dp (updn (nonn nT2 (s13 _ _ hBn)) (s13 _ _ hBn)), pr_dp upd_same, fB.shp (by decide), fB.shp (by decide), ?_⟩
    rw [fB.eqv]
    have s14 : Same H12 (upd H13 T2 (.tup [.str y, .str "down"])) := fun b o q => updn (nonn nT2 (s13 _ _ q)) (s13 _ _ q)
    generalize upd H13 T2 (.tup [.str y, .str "down"]) = H14 at s14 ⊢
    refine ⟨_, rfl, ?_⟩
    refine iteF ?_
    refine ⟨_, rfl, ?_⟩
    have e14 := s14 _ _ e12
    have p14 := p12.same s14
    have g14 := g12.trans (Go.of g12.pot s14)
    have fr : H A1 = none := g7.fresh hp n8
    have np1 : A1 ≠ p := g7.pot.ne n8
    have g15 : Go p H (upd H14 A1 (.lst (t1 ++ [.int 0]))) := g14.mut fr np1
    have p15 : Tp (upd H14 A1 (.lst (t1 ++ [.int 0]))) t1 (pathN y (n + 1)) := p14.put e14
    have e15 : upd H14 A1 (.lst (t1 ++ [.int 0])) A1 = some (.lst (t1 ++ [.int 0])) := upd_same
    refine ⟨Or.inl ⟨rfl, _, Or.inl (Or.inl e14)⟩, ?_⟩
    refine ⟨A1, t1, .int 0, rfl, rfl, e14, szt (by omega), ?_⟩
    generalize upd H14 A1 (.lst (t1 ++ [.int 0])) = H15 at g15 p15 e15 ⊢
    clear smA smB fA fB hbn' hbn hb0 hb0' hB0 hBn s13 s14 s8c e12 p12 e14 p14 g14 g12 n8 s8 e8 p8
    refine ⟨_, rfl, ?_⟩
    refine ⟨_, rfl, ?_⟩
    refine path_go h0 h1 hy ly' narg fun A4 t4 H16 n16 s16 e16 p16 => ?_
    have g16 := g15.trans (Go.of g15.pot s16)
    refine ⟨_, rfl, ?_⟩
    refine ⟨_, rfl, ⟨_, rfl, ?_⟩⟩
    refine ⟨A1, t1 ++ [.int 0], rfl, SqL.of (s16 _ _ e15), fun R nR => ?_⟩
    rw [cutV_init]
    have eR : upd H16 R (.lst t1) R = some (.lst t1) := upd_same
    have g17 : Go p H (upd H16 R (.lst t1)) := g16.new nR
    have p17 : Tp (upd H16 R (.lst t1)) t1 (pathN y (n + 1)) := (p15.same s16).mono fun a l q => updn (nonn nR q) q
    have e18 : upd H16 R (.lst t1) A4 = some (.lst t4) := updn (nonn nR e16) e16
    have p18 : Tp (upd H16 R (.lst t1)) t4 (pathN y (n + 1)) := p16.mono fun a l q => updn (nonn nR q) q
    generalize upd H16 R (.lst t1) = H17 at eR g17 p17 e18 p18 ⊢
    have fN : Fit _ _ (.list ((pathN y (n + 1)).map prD)) := prs_fit smN
    have lN := len_pathN y (n + 1)
    refine ⟨_, _, prs_one e18 p18, prs_one eR p17, fN.shp (by decide), fN.shp (by decide), ?_⟩
    rw [fN.eqv]
    refine ⟨_, rfl, iteF ?_⟩
    refine ⟨_, rfl, ?_⟩
    refine ⟨_, rfl, ?_⟩
    refine ⟨_, rfl, ?_⟩
    refine ⟨_, rfl, ?_⟩
    refine spot_go g17.pot (by omega) fun z2 H18 hz2 lz2 g18 => ?_
    have g19 := g17.trans g18
    refine ⟨szl (by show 2 ≤ 1000000; decide), fun L nL => ?_⟩
    refine among_l (g19.new nL).pot (hp.ne (g19.fresh hp nL)) (SqL.of upd_same) (by show 0 < 2; decide) (by show 2 ≤ 1000; decide) fun v hv H19 g20 => ?_
    have g21 := (g19.new (o := HO.lst [.str y, .str z2]) nL).trans g20
    obtain ⟨z3, rfl, hz3, lz3⟩ : ∃ z3 : Str, v = .str z3 ∧ Bits z3 ∧ z3.length = n := by
      simp only [List.mem_cons, List.not_mem_nil, or_false] at hv
      rcases hv with rfl | rfl
      · exact ⟨_, rfl, hy, ly'⟩
      · exact ⟨_, rfl, hz2, lz2⟩
    exact ⟨z3, _, _, _, rfl, hz3, lz3, g21⟩
  · rintro σ H1 ⟨z, a3, a4, a5, rfl, _, _, g⟩
    repeat walk_at "s1"
    exact k _ g
end
open PySem PySem.Spec PyProof.Rows
open L2 hiding pass0
def spLaw (K : PySem.W.Frag) : Sp := fun vs H Q _ => ∃ (a : Addr) (ns : List Int), vs = [.ref a] ∧ SqL K H a (ns.map V.int) ∧ ns.length ≤ 63 ∧ (∀ b, H b = none ∨ b = a) ∧ ∀ H', Q (.bl true) H'
section
variable {P : Program} {w : World} {K : PySem.W.Frag} {mg : Str → Option Value} {base : Heap} {f : Addr} {fd : FuncData}
theorem ok_law (F : Fun K "law" "law" s_law f fd) (hm : mg "law" = some (.ref f)) (T : Txt K mg)
    (c_law_pot : Nm P w K mg base CX0 1 "_law_pot" s_law_pot ["_law_script", "_law_k"] (spPot K))
    (c_law_right : Nm P w K mg base CX0 9 "_law_right" s_law_right ["_law_pot_here"] spRight) : Nm P w K mg base CX0 10 "law" s_law ["_law_script"] (spLaw K) := by
  refine nm_of F hm sc_law (fun vs H Q E h => ?_) fun cdv A outer s H vs Q E hr h => ?_
  · obtain ⟨p, ns, rfl, _⟩ := h
    rfl
  · obtain ⟨a, ns, rfl, hS, hl, hO, k⟩ := h
    refine ⟨_, (pss_one (ps_ret (pe_callB (call_allK (K := K) rfl rfl) (by rfl) T.b_all (by decide +kernel) (pa_cons (pe_lc (own := [("_law_k", 1)]) (g := (gName 1)) (by rfl) sc_law.nd (pi_range1 (by rfl) T.b_range (pa_cons (pe_callB (call_max2 rfl) (by rfl) T.b_max (by decide +kernel) (pa_cons pe_int (pa_cons (pe_callB (call_min2 rfl) (by rfl) T.b_min (by decide +kernel) (pa_cons pe_int (pa_cons (pe_callB (call_lenK (K := K) rfl) (by rfl) T.b_len PySem.boot_len (pa_cons (pv 0) pa_nil)) pa_nil))) pa_nil))) pa_nil)) (blkOk_by (own := [("_law_k", 1)]) (N := ["_law_script", "_law_k"]) (sc := defScope s_law) (by decide +kernel)) (fun _ _ _ _ _ => (pg_name (i := 1) sc_law.nd rfl (by first | exact Or.inl rfl | exact Or.inr rfl))) (fun _ _ _ _ _ => pts_nil) (fun _ _ _ _ _ => (pe_g c_law_right hr (by decide) L2.pass0 bp_law_right (by rfl) (pa_cons (pe_g c_law_pot hr (by decide) L2.pass0 bp_law_pot (by rfl) (pa_cons (pv 0) (pa_cons (pv 1) pa_nil))) pa_nil)))) pa_nil)))), ?_⟩
    have hlen : ((ns.map V.int).length : Int) = (ns.length : Int) := by rw [List.length_map]
    repeat walk_at "s1"
    rename_i D nD
    refine lc_it walk_range (fun i H1 => H1 D = some (.lst ((List.replicate i true).map V.bl)) ∧ i ≤ 4 ∧ Same H H1) ⟨upd_same, by decide, fun b o e => updn (nonn nD e) e⟩ (fun _ _ _ _ => trivial) ?_ ?_
    · rintro i x H1 H2 hi ⟨hD, h5, sm⟩ ⟨rfl, rfl⟩
      have hi4 : i < 4 := by
        have q : i < Int.toNat (if (if ((ns.map V.int).length : Int) < 4 then ((ns.map V.int).length : Int) else 4) > 1 then (if ((ns.map V.int).length : Int) < 4 then ((ns.map V.int).length : Int) else 4) else 1) := hi
        split at q <;> (try split at q) <;> omega
      refine ⟨rfl, ?_⟩
      dsimp only [tYes]
      rw [if_pos rfl]
      repeat walk_at "s1"
      refine pot_go (sm.seq hS) hl (by omega) (by omega) fun p H3 np hp s3 => ?_
      repeat walk_at "s1"
      refine right_go hp fun H4 g4 => ?_
      have s4 : Same H2 H4 := fun b o e => g4.keep b o (s3 b o e) (nonn np e)
      refine ⟨_, s4 _ _ hD, szt (by rw [List.length_map, List.length_replicate]; omega), ?_, by omega, fun b o e => updn (nonn nD e) (s4 _ _ (sm _ _ e))⟩
      rw [upd_same, List.replicate_succ', List.map_append]
      rfl
    · rintro H1 ⟨hD, h5, sm⟩
      refine ⟨_, _, rfl, SqL.of hD, ?_⟩
      rw [all_rep]
      exact k H1
end
theorem Nm.fn {P : Program} {w : World} {K : PySem.W.Frag} {mg : Str → Option Value} {base : Heap} {CX : CXT} {k : Nat} {x : Str} {st : Stmt} {ps : List Str} {sp : Sp} {f : Addr} {fd : FuncData} (c : Nm P w K mg base CX k x st ps sp) (F : Fun K x x st f fd) (hm : mg x = some (.ref f)) : FnG P w K mg base CX k f fd ps sp := by
  obtain ⟨f', fd', F', hm', G⟩ := c.ex
  obtain rfl : f' = f := by
    have e := hm'.symm.trans hm
    injection e with e
    injection e
  obtain ⟨_, _, _, _, _, _, _, _, _, _, l1, _⟩ := F.ex
  obtain ⟨_, _, _, _, _, _, _, _, _, _, l2, _⟩ := F'.ex
  have e := l2.symm.trans l1
  injection e with e
  injection e with _ _ e _
  injection e with e
  subst e
  exact G
theorem all_mk {l : PySem.W.OpenLaw} {w : World} {K : PySem.W.Frag} {h : Heap} {mg : Str → Option Value} {fa f0 f1 f2 f3 f4 f5 f6 f7 f8 f9 f10 f11 f12 f13 f14 f15 f16 f17 : Addr} (X : K.In h) (G : h.Ns mainGlobals mg) (hfa : mg "law" = some (.ref fa))
    {od0 an0 od1 an1 od2 an2 od3 an3 od4 an4 od5 an5 od6 an6 od7 an7 od8 an8 od9 an9 od10 an10 od11 an11 od12 an12 od13 an13 od14 an14 od15 an15 od16 an16 od17 an17 : Option Addr} {sl0 sl1 sl2 sl3 sl4 sl5 sl6 sl7 sl8 sl9 sl10 sl11 sl12 sl13 sl14 sl15 sl16 sl17 : Array (Option Value)} {oc0 kV0 dc0 pm0 cd0 ct0 oc1 kV1 dc1 pm1 cd1 ct1 oc2 kV2 dc2 pm2 cd2 ct2 oc3 kV3 dc3 pm3 cd3 ct3 oc4 kV4 dc4 pm4 cd4 ct4 oc5 kV5 dc5 pm5 cd5 ct5 oc6 kV6 dc6 pm6 cd6 ct6 oc7 kV7 dc7 pm7 cd7 ct7 oc8 kV8 dc8 pm8 cd8 ct8 oc9 kV9 dc9 pm9 cd9 ct9 oc10 kV10 dc10 pm10 cd10 ct10 oc11 kV11 dc11 pm11 cd11 ct11 oc12 kV12 dc12 pm12 cd12 ct12 oc13 kV13 dc13 pm13 cd13 ct13 oc14 kV14 dc14 pm14 cd14 ct14 oc15 kV15 dc15 pm15 cd15 ct15 oc16 kV16 dc16 pm16 cd16 ct16 oc17 kV17 dc17 pm17 cd17 ct17 : Value}
    (a0 : PySem.W.nsIn K mainGlobals "_law_draw" = some (some (.ref f0))) (l0 : K.lookup f0 = some ⟨oc0, od0, .func (PySem.W.fnOf "_law_draw" "_law_draw" (defArgs s_law_draw) (defBody s_law_draw) (defScope s_law_draw) .none kV0 dc0 pm0 an0 cd0 ct0), sl0⟩) (c0 : PySem.W.codeIn K cd0 "_law_draw" = true) (k0 : PySem.W.keepIn K (.ref f0) = true)
    (a1 : PySem.W.nsIn K mainGlobals "_law_pot" = some (some (.ref f1))) (l1 : K.lookup f1 = some ⟨oc1, od1, .func (PySem.W.fnOf "_law_pot" "_law_pot" (defArgs s_law_pot) (defBody s_law_pot) (defScope s_law_pot) .none kV1 dc1 pm1 an1 cd1 ct1), sl1⟩) (c1 : PySem.W.codeIn K cd1 "_law_pot" = true) (k1 : PySem.W.keepIn K (.ref f1) = true)
    (a2 : PySem.W.nsIn K mainGlobals "_law_pick" = some (some (.ref f2))) (l2 : K.lookup f2 = some ⟨oc2, od2, .func (PySem.W.fnOf "_law_pick" "_law_pick" (defArgs s_law_pick) (defBody s_law_pick) (defScope s_law_pick) .none kV2 dc2 pm2 an2 cd2 ct2), sl2⟩) (c2 : PySem.W.codeIn K cd2 "_law_pick" = true) (k2 : PySem.W.keepIn K (.ref f2) = true)
    (a3 : PySem.W.nsIn K mainGlobals "_law_spot" = some (some (.ref f3))) (l3 : K.lookup f3 = some ⟨oc3, od3, .func (PySem.W.fnOf "_law_spot" "_law_spot" (defArgs s_law_spot) (defBody s_law_spot) (defScope s_law_spot) .none kV3 dc3 pm3 an3 cd3 ct3), sl3⟩) (c3 : PySem.W.codeIn K cd3 "_law_spot" = true) (k3 : PySem.W.keepIn K (.ref f3) = true)
    (a4 : PySem.W.nsIn K mainGlobals "_law_near" = some (some (.ref f4))) (l4 : K.lookup f4 = some ⟨oc4, od4, .func (PySem.W.fnOf "_law_near" "_law_near" (defArgs s_law_near) (defBody s_law_near) (defScope s_law_near) .none kV4 dc4 pm4 an4 cd4 ct4), sl4⟩) (c4 : PySem.W.codeIn K cd4 "_law_near" = true) (k4 : PySem.W.keepIn K (.ref f4) = true)
    (a5 : PySem.W.nsIn K mainGlobals "_law_path" = some (some (.ref f5))) (l5 : K.lookup f5 = some ⟨oc5, od5, .func (PySem.W.fnOf "_law_path" "_law_path" (defArgs s_law_path) (defBody s_law_path) (defScope s_law_path) .none kV5 dc5 pm5 an5 cd5 ct5), sl5⟩) (c5 : PySem.W.codeIn K cd5 "_law_path" = true) (k5 : PySem.W.keepIn K (.ref f5) = true)
    (a6 : PySem.W.nsIn K mainGlobals "is_count" = some (some (.ref f6))) (l6 : K.lookup f6 = some ⟨oc6, od6, .func (PySem.W.fnOf "is_count" "is_count" (defArgs s_is_count) (defBody s_is_count) (defScope s_is_count) .none kV6 dc6 pm6 an6 cd6 ct6), sl6⟩) (c6 : PySem.W.codeIn K cd6 "is_count" = true) (k6 : PySem.W.keepIn K (.ref f6) = true)
    (a7 : PySem.W.nsIn K mainGlobals "is_width" = some (some (.ref f7))) (l7 : K.lookup f7 = some ⟨oc7, od7, .func (PySem.W.fnOf "is_width" "is_width" (defArgs s_is_width) (defBody s_is_width) (defScope s_is_width) .none kV7 dc7 pm7 an7 cd7 ct7), sl7⟩) (c7 : PySem.W.codeIn K cd7 "is_width" = true) (k7 : PySem.W.keepIn K (.ref f7) = true)
    (a8 : PySem.W.nsIn K mainGlobals "is_bits" = some (some (.ref f8))) (l8 : K.lookup f8 = some ⟨oc8, od8, .func (PySem.W.fnOf "is_bits" "is_bits" (defArgs s_is_bits) (defBody s_is_bits) (defScope s_is_bits) .none kV8 dc8 pm8 an8 cd8 ct8), sl8⟩) (c8 : PySem.W.codeIn K cd8 "is_bits" = true) (k8 : PySem.W.keepIn K (.ref f8) = true)
    (a9 : PySem.W.nsIn K mainGlobals "check_width" = some (some (.ref f9))) (l9 : K.lookup f9 = some ⟨oc9, od9, .func (PySem.W.fnOf "check_width" "check_width" (defArgs s_check_width) (defBody s_check_width) (defScope s_check_width) .none kV9 dc9 pm9 an9 cd9 ct9), sl9⟩) (c9 : PySem.W.codeIn K cd9 "check_width" = true) (k9 : PySem.W.keepIn K (.ref f9) = true)
    (a10 : PySem.W.nsIn K mainGlobals "is_stretch" = some (some (.ref f10))) (l10 : K.lookup f10 = some ⟨oc10, od10, .func (PySem.W.fnOf "is_stretch" "is_stretch" (defArgs s_is_stretch) (defBody s_is_stretch) (defScope s_is_stretch) .none kV10 dc10 pm10 an10 cd10 ct10), sl10⟩) (c10 : PySem.W.codeIn K cd10 "is_stretch" = true) (k10 : PySem.W.keepIn K (.ref f10) = true)
    (a11 : PySem.W.nsIn K mainGlobals "is_address" = some (some (.ref f11))) (l11 : K.lookup f11 = some ⟨oc11, od11, .func (PySem.W.fnOf "is_address" "is_address" (defArgs s_is_address) (defBody s_is_address) (defScope s_is_address) .none kV11 dc11 pm11 an11 cd11 ct11), sl11⟩) (c11 : PySem.W.codeIn K cd11 "is_address" = true) (k11 : PySem.W.keepIn K (.ref f11) = true)
    (a12 : PySem.W.nsIn K mainGlobals "check_address" = some (some (.ref f12))) (l12 : K.lookup f12 = some ⟨oc12, od12, .func (PySem.W.fnOf "check_address" "check_address" (defArgs s_check_address) (defBody s_check_address) (defScope s_check_address) .none kV12 dc12 pm12 an12 cd12 ct12), sl12⟩) (c12 : PySem.W.codeIn K cd12 "check_address" = true) (k12 : PySem.W.keepIn K (.ref f12) = true)
    (a13 : PySem.W.nsIn K mainGlobals "common" = some (some (.ref f13))) (l13 : K.lookup f13 = some ⟨oc13, od13, .func (PySem.W.fnOf "common" "common" (defArgs s_common) (defBody s_common) (defScope s_common) .none kV13 dc13 pm13 an13 cd13 ct13), sl13⟩) (c13 : PySem.W.codeIn K cd13 "common" = true) (k13 : PySem.W.keepIn K (.ref f13) = true)
    (a14 : PySem.W.nsIn K mainGlobals "path" = some (some (.ref f14))) (l14 : K.lookup f14 = some ⟨oc14, od14, .func (PySem.W.fnOf "path" "path" (defArgs s_path) (defBody s_path) (defScope s_path) .none kV14 dc14 pm14 an14 cd14 ct14), sl14⟩) (c14 : PySem.W.codeIn K cd14 "path" = true) (k14 : PySem.W.keepIn K (.ref f14) = true)
    (a15 : PySem.W.nsIn K mainGlobals "_law_pair_right" = some (some (.ref f15))) (l15 : K.lookup f15 = some ⟨oc15, od15, .func (PySem.W.fnOf "_law_pair_right" "_law_pair_right" (defArgs s_law_pair_right) (defBody s_law_pair_right) (defScope s_law_pair_right) .none kV15 dc15 pm15 an15 cd15 ct15), sl15⟩) (c15 : PySem.W.codeIn K cd15 "_law_pair_right" = true) (k15 : PySem.W.keepIn K (.ref f15) = true)
    (a16 : PySem.W.nsIn K mainGlobals "_law_right" = some (some (.ref f16))) (l16 : K.lookup f16 = some ⟨oc16, od16, .func (PySem.W.fnOf "_law_right" "_law_right" (defArgs s_law_right) (defBody s_law_right) (defScope s_law_right) .none kV16 dc16 pm16 an16 cd16 ct16), sl16⟩) (c16 : PySem.W.codeIn K cd16 "_law_right" = true) (k16 : PySem.W.keepIn K (.ref f16) = true)
    (a17 : PySem.W.nsIn K mainGlobals "law" = some (some (.ref f17))) (l17 : K.lookup f17 = some ⟨oc17, od17, .func (PySem.W.fnOf "law" "law" (defArgs s_law) (defBody s_law) (defScope s_law) .none kV17 dc17 pm17 an17 cd17 ct17), sl17⟩) (c17 : PySem.W.codeIn K cd17 "law" = true) (k17 : PySem.W.keepIn K (.ref f17) = true)
    (z0 : PySem.W.nsIn K mainGlobals "len" = some none)
    (z1 : PySem.W.nsIn K mainGlobals "abs" = some none)
    (z2 : PySem.W.nsIn K mainGlobals "max" = some none)
    (z3 : PySem.W.nsIn K mainGlobals "min" = some none)
    (z4 : PySem.W.nsIn K mainGlobals "int" = some none)
    (z5 : PySem.W.nsIn K mainGlobals "divmod" = some none)
    (z6 : PySem.W.nsIn K mainGlobals "range" = some none)
    (z7 : PySem.W.nsIn K mainGlobals "repr" = some none)
    (z8 : PySem.W.nsIn K mainGlobals "all" = some none)
    (z9 : PySem.W.nsIn K mainGlobals "str" = some none)
    (z10 : PySem.W.nsIn K mainGlobals "bool" = some none)
    (z11 : PySem.W.nsIn K mainGlobals "isinstance" = some none)
    (z12 : PySem.W.nsIn K mainGlobals "tuple" = some none)
    (z13 : PySem.W.nsIn K mainGlobals "dict" = some none)
    (z14 : PySem.W.nsIn K mainGlobals "list" = some none)
    (z15 : PySem.W.nsIn K mainGlobals "sorted" = some none)
    (z16 : PySem.W.nsIn K mainGlobals "zip" = some none)
    {tk_MOST_WIDTH : Tok} (m_MOST_WIDTH : PySem.W.nsIn K mainGlobals "MOST_WIDTH" = some (some (.int 100 tk_MOST_WIDTH)))
    : ∃ fd : FuncData, (∀ (s : Shared) (v : Value), BindsTo s fd ⟨[v], []⟩ [("_law_script", v)]) ∧ ∀ base : Heap, K.In base → base.Ns mainGlobals mg → FnG l.prog w K mg base CX0 10 fa fd ["_law_script"] (spLaw K) := by
  have e := hfa.symm.trans (PySem.W.mg_of X G a17)
  cases e
  have T : Txt K mg := ⟨PySem.W.mg_none_of X G z0, PySem.W.mg_none_of X G z1, PySem.W.mg_none_of X G z2, PySem.W.mg_none_of X G z3, PySem.W.mg_none_of X G z4, PySem.W.mg_none_of X G z5, PySem.W.mg_none_of X G z6, PySem.W.mg_none_of X G z7, PySem.W.mg_none_of X G z8, PySem.W.mg_none_of X G z9, PySem.W.mg_none_of X G z10, PySem.W.mg_none_of X G z11, PySem.W.mg_none_of X G z12, PySem.W.mg_none_of X G z13, PySem.W.mg_none_of X G z14, PySem.W.mg_none_of X G z15, PySem.W.mg_none_of X G z16⟩
  have C : Cst K mg := ⟨⟨_, PySem.W.mg_of X G m_MOST_WIDTH, ⟨_, rfl⟩⟩⟩
  have F0 := fun_mk (st := s_law_draw) l0 c0 k0
  have F1 := fun_mk (st := s_law_pot) l1 c1 k1
  have F2 := fun_mk (st := s_law_pick) l2 c2 k2
  have F3 := fun_mk (st := s_law_spot) l3 c3 k3
  have F4 := fun_mk (st := s_law_near) l4 c4 k4
  have F5 := fun_mk (st := s_law_path) l5 c5 k5
  have F6 := fun_mk (st := s_is_count) l6 c6 k6
  have F7 := fun_mk (st := s_is_width) l7 c7 k7
  have F8 := fun_mk (st := s_is_bits) l8 c8 k8
  have F9 := fun_mk (st := s_check_width) l9 c9 k9
  have F10 := fun_mk (st := s_is_stretch) l10 c10 k10
  have F11 := fun_mk (st := s_is_address) l11 c11 k11
  have F12 := fun_mk (st := s_check_address) l12 c12 k12
  have F13 := fun_mk (st := s_common) l13 c13 k13
  have F14 := fun_mk (st := s_path) l14 c14 k14
  have F15 := fun_mk (st := s_law_pair_right) l15 c15 k15
  have F16 := fun_mk (st := s_law_right) l16 c16 k16
  have F17 := fun_mk (st := s_law) l17 c17 k17
  refine ⟨PySem.W.fnOf "law" "law" (defArgs s_law) (defBody s_law) (defScope s_law) .none kV17 dc17 pm17 an17 cd17 ct17, fun s v => .of_eq rfl, fun base _ _ => ?_⟩
  have n_law_draw := ok_draw (P := l.prog) (w := w) (base := base) F0 (PySem.W.mg_of X G a0) T
  have n_law_pot := ok_pot (P := l.prog) (w := w) (base := base) F1 (PySem.W.mg_of X G a1) T
  have n_law_pick := ok_pick (P := l.prog) (w := w) (base := base) F2 (PySem.W.mg_of X G a2) T n_law_draw
  have n_law_spot := ok_spot (P := l.prog) (w := w) (base := base) F3 (PySem.W.mg_of X G a3) T n_law_draw
  have n_law_near := ok_near (P := l.prog) (w := w) (base := base) F4 (PySem.W.mg_of X G a4) T n_law_draw n_law_spot
  have n_law_path := ok_law_path (P := l.prog) (w := w) (base := base) F5 (PySem.W.mg_of X G a5) T
  have n_is_count := ok_is_count (P := l.prog) (w := w) (base := base) F6 (PySem.W.mg_of X G a6) T
  have n_is_width := ok_is_width (P := l.prog) (w := w) (base := base) F7 (PySem.W.mg_of X G a7) T C n_is_count
  have n_is_bits := ok_is_bits (P := l.prog) (w := w) (base := base) F8 (PySem.W.mg_of X G a8) T
  have n_check_width := ok_check_width (P := l.prog) (w := w) (base := base) F9 (PySem.W.mg_of X G a9) T n_is_width
  have n_is_stretch := ok_is_stretch (P := l.prog) (w := w) (base := base) F10 (PySem.W.mg_of X G a10) T n_check_width n_is_bits
  have n_is_address := ok_is_address (P := l.prog) (w := w) (base := base) F11 (PySem.W.mg_of X G a11) T n_is_stretch
  have n_check_address := ok_check_address (P := l.prog) (w := w) (base := base) F12 (PySem.W.mg_of X G a12) T n_is_address
  have n_common := ok_common (P := l.prog) (w := w) (base := base) F13 (PySem.W.mg_of X G a13) T n_is_bits
  have n_path := ok_path (P := l.prog) (w := w) (base := base) F14 (PySem.W.mg_of X G a14) T n_check_width n_is_address n_check_address n_common
  have n_law_pair_right := ok_pair_right (P := l.prog) (w := w) (base := base) F15 (PySem.W.mg_of X G a15) T n_law_path n_path n_is_stretch n_common
  have n_law_right := ok_law_right (P := l.prog) (w := w) (base := base) F16 (PySem.W.mg_of X G a16) T n_law_pick n_law_spot n_law_near n_law_pair_right n_path n_law_path
  have n_law := ok_law (P := l.prog) (w := w) (base := base) F17 (PySem.W.mg_of X G a17) T n_law_pot n_law_right
  exact n_law.fn F17 (PySem.W.mg_of X G a17)
theorem walk {l : PySem.W.OpenLaw} {q : Program} {loose : List Str} {XP : (Str → Option Value) → Heap → Prop} {YP : World → Heap → Prop} {d : DefRec} {K : Params → PySem.W.Frag} (hn : l.most = some 63) (hdf : d.params.defaults = [])
    (hY : ∀ (w : World) (h : Heap), YP w h → (K w.params).In h)
    (F : ∀ (w : World) (mg : Str → Option Value) (fa : Addr) (h : Heap), (K w.params).In h → h.Ns mainGlobals mg → mg d.name = some (.ref fa) →
      ∃ fd : FuncData, (∀ (s : Shared) (u : Value), BindsTo s fd ⟨[u], []⟩ [("_law_script", u)]) ∧ ∀ base : Heap, (K w.params).In base → base.Ns mainGlobals mg → FnG l.prog w (K w.params) mg base CX0 10 fa fd ["_law_script"] (spLaw (K w.params))) :
    PySem.W.WalkO q loose XP YP l.row.toRowW d [] (fun f vs => PySem.call f vs) :=
  walk_g (n := 63) (k := 10) (x := "_law_script") (CX := fun _ => CX0) (sp := fun w => spLaw (K w.params)) hn (by decide) hdf roomTop hY F (fun _ _ a ns h1 h2 h3 => ⟨a, ns, rfl, h2, h1, h3, fun _ => rfl⟩) fun _ _ _ _ _ z => z
end Cov
open PySem PySem.W PyProof.Rows
set_option maxRecDepth 100000 in
set_option maxHeartbeats 0 in
theorem PySem.Challenge.cw_coverways_k34_whole_paths_holds : PySem.Challenge.rw_coverways_k34_whole_paths.Holds := by
  w_on; o_law; k_head; (case hw => w_witness2)
  k_fill
  refine Cov.walk (l := PySem.Challenge.rw_coverways_k34_whole_paths) rfl rfl (fun w h Y => PySem.W.kIn_of Y) ?F
  case F =>
    intro w mg fa h KX G hmg
    refine' Cov.all_mk KX G hmg ?a0 ?l0 ?c0 ?k0 ?a1 ?l1 ?c1 ?k1 ?a2 ?l2 ?c2 ?k2 ?a3 ?l3 ?c3 ?k3 ?a4 ?l4 ?c4 ?k4 ?a5 ?l5 ?c5 ?k5 ?a6 ?l6 ?c6 ?k6 ?a7 ?l7 ?c7 ?k7 ?a8 ?l8 ?c8 ?k8 ?a9 ?l9 ?c9 ?k9 ?a10 ?l10 ?c10 ?k10 ?a11 ?l11 ?c11 ?k11 ?a12 ?l12 ?c12 ?k12 ?a13 ?l13 ?c13 ?k13 ?a14 ?l14 ?c14 ?k14 ?a15 ?l15 ?c15 ?k15 ?a16 ?l16 ?c16 ?k16 ?a17 ?l17 ?c17 ?k17 ?z0 ?z1 ?z2 ?z3 ?z4 ?z5 ?z6 ?z7 ?z8 ?z9 ?z10 ?z11 ?z12 ?z13 ?z14 ?z15 ?z16 ?m_MOST_WIDTH
    (case a0 => k_is)
    (case l0 => k_is)
    (case c0 => k_is)
    (case k0 => k_is)
    (case a1 => k_is)
    (case l1 => k_is)
    (case c1 => k_is)
    (case k1 => k_is)
    (case a2 => k_is)
    (case l2 => k_is)
    (case c2 => k_is)
    (case k2 => k_is)
    (case a3 => k_is)
    (case l3 => k_is)
    (case c3 => k_is)
    (case k3 => k_is)
    (case a4 => k_is)
    (case l4 => k_is)
    (case c4 => k_is)
    (case k4 => k_is)
    (case a5 => k_is)
    (case l5 => k_is)
    (case c5 => k_is)
    (case k5 => k_is)
    (case a6 => k_is)
    (case l6 => k_is)
    (case c6 => k_is)
    (case k6 => k_is)
    (case a7 => k_is)
    (case l7 => k_is)
    (case c7 => k_is)
    (case k7 => k_is)
    (case a8 => k_is)
    (case l8 => k_is)
    (case c8 => k_is)
    (case k8 => k_is)
    (case a9 => k_is)
    (case l9 => k_is)
    (case c9 => k_is)
    (case k9 => k_is)
    (case a10 => k_is)
    (case l10 => k_is)
    (case c10 => k_is)
    (case k10 => k_is)
    (case a11 => k_is)
    (case l11 => k_is)
    (case c11 => k_is)
    (case k11 => k_is)
    (case a12 => k_is)
    (case l12 => k_is)
    (case c12 => k_is)
    (case k12 => k_is)
    (case a13 => k_is)
    (case l13 => k_is)
    (case c13 => k_is)
    (case k13 => k_is)
    (case a14 => k_is)
    (case l14 => k_is)
    (case c14 => k_is)
    (case k14 => k_is)
    (case a15 => k_is)
    (case l15 => k_is)
    (case c15 => k_is)
    (case k15 => k_is)
    (case a16 => k_is)
    (case l16 => k_is)
    (case c16 => k_is)
    (case k16 => k_is)
    (case a17 => k_is)
    (case l17 => k_is)
    (case c17 => k_is)
    (case k17 => k_is)
    (case z0 => k_is)
    (case z1 => k_is)
    (case z2 => k_is)
    (case z3 => k_is)
    (case z4 => k_is)
    (case z5 => k_is)
    (case z6 => k_is)
    (case z7 => k_is)
    (case z8 => k_is)
    (case z9 => k_is)
    (case z10 => k_is)
    (case z11 => k_is)
    (case z12 => k_is)
    (case z13 => k_is)
    (case z14 => k_is)
    (case z15 => k_is)
    (case z16 => k_is)
    (case m_MOST_WIDTH => k_is)

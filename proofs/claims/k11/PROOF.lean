import PyProof.Rows.All
import Wide.All
import OpenK.AllK
import Wide.FinOn
import HandS.ForMost
import HandS.IsInst
import HandS.WideBits
import HandS.Codes
import HandS.Walk
import PySem.Challenge.RW_coverways_k11_words
set_option Elab.async false
set_option linter.all false
set_option maxRecDepth 100000
set_option maxHeartbeats 2000000
namespace Cov
open PySem PySem.Spec PyProof.Rows L2
/-! ## texts of data: repr -/
def kD : Key → PyData
  | .inl i => .int i
  | .inr x => .str x
def vD : V → Option PyData
  | .non => some .none
  | .bl b => some (.bool b)
  | .int i => some (.int i)
  | .str x => some (.str x)
  | _ => none
inductive Flat : List (Key × V) → List (PyData × PyData) → Prop
  | nil : Flat [] []
  | cons {k : Key} {v : V} {d : PyData} {r : List (Key × V)} {ds : List (PyData × PyData)} : vD v = some d → Flat r ds → Flat ((k, v) :: r) ((kD k, d) :: ds)
/-- what a value's text is made of -/
inductive Rp (K : PySem.W.Frag) (H : Hp) : V → PyData → Prop
  | dat {x : V} {d : PyData} : Dp K H x d → PyData.hasDict d = false → Rp K H x d
  | dct {a : Addr} {kvs : List (Key × V)} {ds : List (PyData × PyData)} : H a = some (.dK kvs) → Flat kvs ds → Rp K H (.ref a) (.dict ds)
section
variable {X : Cx} {pins : List (Addr × Obj)} {σ : L2.St} {H : Hp} {s : Shared}
theorem vD_reads {h : Heap} {v : V} {d : PyData} {u : Value} (e : vD v = some d) (r : RelV v u) : Reads h u d [] := by
  cases v with
  | non => cases e; cases (show u = Value.none from r); exact .none
  | bl b => cases e; cases (show u = Value.bool b from r); exact .bool b
  | int i => cases e; obtain ⟨t, rfl⟩ := (show ∃ t, u = Value.int i t from r); exact .int i t
  | str x => cases e; obtain ⟨t, rfl⟩ := (show ∃ t, u = Value.str x t from r); exact .str x t
  | byt b => cases e
  | flt b => cases e
  | ref a => cases e
  | ty n => cases e
theorem flat_reads {P : Program} {w : World} {h : Heap} : ∀ {kvs : List (Key × V)} {ds : List (PyData × PyData)} {es : List DictEntry} {vs : List (Key × Value)}, Flat kvs ds → KV kvs vs → PySem.Pairs (mixKind P w) es vs →
    ReadsAll h (es.map (·.key)) (ds.map (·.1)) [] ∧ ReadsAll h (es.map (·.val)) (ds.map (·.2)) []
  | _, _, _, _, .nil, .nil, .nil => ⟨.nil, .nil⟩
  | _, _, _, _, .cons hv hr, .cons hk hkr, .cons he1 he2 her => by
    obtain ⟨i1, i2⟩ := flat_reads hr hkr her
    obtain ⟨q1, q2⟩ := hk
    refine ⟨ReadsAll.cons (as := []) (bs := []) ?_ i1, ReadsAll.cons (as := []) (bs := []) ?_ i2⟩
    · have he1' := he1
      rw [mixKind_is, ← q1] at he1'
      rcases keyIs_shape he1' with ⟨i, t, e1, e2⟩ | ⟨x, t, e1, e2⟩
      · simp only at e1; subst e1; show Reads h _ (PyData.int i) []; simp only [e2]; exact Reads.int i t
      · simp only at e1; subst e1; show Reads h _ (PyData.str x) []; simp only [e2]; exact Reads.str x t
    · simp only [he2]; exact vD_reads hv q2
theorem Rp.reads (I : Inv X pins σ H s) {x : V} {d : PyData} {u : Value} (h : Rp X.K H x d) (r : RelV x u) : ∃ as, Reads s.heap u d as ∧ (PyData.hasDict d = true → sysModules ∉ as) := by
  cases h with
  | dat h0 h1 =>
    obtain ⟨as, q⟩ := Dp.reads I d x u h0 r
    exact ⟨as, q, fun z => by rw [h1] at z; cases z⟩
  | @dct a kvs ds ha hf =>
    obtain ⟨z, ns, vs, rel, o, es, ep, e1, e2, e3, e4, e5, e6⟩ := dk_of I.hok ha
    cases (show u = Value.ref a from r)
    obtain ⟨r1, r2⟩ := flat_reads (h := s.heap) hf rel e5
    refine ⟨_, Reads.dict e1 e2.1 e3 r1 r2, fun _ hm => ?_⟩
    rw [List.append_nil, List.mem_singleton] at hm
    exact (beq_eq_false_iff_ne.mp ns) hm.symm
/-- repr(x), where nothing around is being shown -/
@[irreducible] def rRepr (K : PySem.W.Frag) : List V → Hp → VK → Prop := fun xs H Q => ∃ (x : V) (d : PyData), xs = [x] ∧ Rp K H x d ∧ PyData.showable d = true ∧ PyData.depth d ≤ 50 ∧ d.shown.length ≤ sizeLine ∧ Q (.str d.shown) H
theorem call_repr (hg : X.A.guards = some []) (hu : X.A.units + 60 < cLine) : CallR X (.builtin "repr") (rRepr X.K) := by
  intro pins s σ H xs us Q I r h
  unfold rRepr at h
  obtain ⟨x, d, rfl, hx, hs, hd, hz, q⟩ := h
  obtain ⟨u, rfl, ru⟩ := vals1 r
  obtain ⟨as, rd, hm⟩ := hx.reads I ru
  cases rd with
  | none => exact PySem.P.repr_of_none ⟨.str _, H, I.tok _, ⟨_, rfl⟩, by simpa only [PyData.shown] using q⟩
  | bool b => exact PySem.P.repr_of_bool ⟨.str _, H, I.tok _, ⟨_, rfl⟩, by simpa only [PyData.shown] using q⟩
  | int i t => exact PySem.P.repr_of_int (by simpa [PyData.showable] using hs) ⟨.str _, H, I.tok _, ⟨_, rfl⟩, by simpa only [PyData.shown] using q⟩
  | str y t => exact PySem.P.repr_of_str (hsz := by simpa only [PyData.shown] using hz) ⟨.str _, H, I.tok _, ⟨_, rfl⟩, by simpa only [PyData.shown] using q⟩
  | list h1 h2 h3 h4 => exact repr_of_reads' (.list h1 h2 h3 h4) hs hm hg (by omega) (fun _ _ e => e) (fun h' u tk hk => ⟨.str _, H, I.kept hk, ⟨_, rfl⟩, q⟩) hz
  | tuple h1 h2 h3 h4 => exact repr_of_reads' (.tuple h1 h2 h3 h4) hs hm hg (by omega) (fun _ _ e => e) (fun h' u tk hk => ⟨.str _, H, I.kept hk, ⟨_, rfl⟩, q⟩) hz
  | dict h1 h2 h3 h4 h5 => exact repr_of_reads' (.dict h1 h2 h3 h4 h5) hs hm hg (by omega) (fun _ _ e => e) (fun h' u tk hk => ⟨.str _, H, I.kept hk, ⟨_, rfl⟩, q⟩) hz
end
theorem repr_go {K : PySem.W.Frag} {H : Hp} {Q : VK} {x : V} {d : PyData} (h : Rp K H x d ∧ PyData.showable d = true ∧ PyData.depth d ≤ 50 ∧ d.shown.length ≤ sizeLine) (q : Q (.str d.shown) H) : rRepr K [x] H Q := by
  unfold rRepr
  exact ⟨x, d, rfl, h.1, h.2.1, h.2.2.1, h.2.2.2, q⟩
open PySem PySem.Spec PyProof.Rows L2
/-! ## room in which nothing is being shown -/
structure RoomG (k : Nat) (A : Around) : Prop where
  r : Room k A
  g : A.guards = some []
theorem RoomG.mono {j k : Nat} {A : Around} (x : RoomG k A) (h : j ≤ k) : RoomG j A := ⟨x.r.mono h, x.g⟩
theorem RoomG.deeper {k : Nat} {A : Around} (x : RoomG (k + 1) A) (e : Env) : RoomG k (A.deeper e) := ⟨x.r.deeper e, x.g⟩
theorem RoomG.u {k : Nat} {A : Around} (x : RoomG k A) : A.units + 60 < cLine := Nat.lt_trans (by omega) x.r.units
theorem RoomG.u1 {k : Nat} {A : Around} (x : RoomG k A) : A.units + 1 < cLine := by have := x.u; omega
theorem RoomG.u64 {k : Nat} {A : Around} (x : RoomG k A) : A.units + 64 < cLine := x.r.units
/-! ## promises that hold where nothing is being shown -/
structure FnG (P : Program) (w : World) (K : PySem.W.Frag) (mg : Str → Option Value) (base : Heap) (CX : CXT) (k : Nat) (f : Addr) (fd : FuncData) (ps : List Str) (sp : Sp) : Prop where
  len : ∀ vs H Q E, sp vs H Q E → vs.length = ps.length
  run : ∀ (A : Around) (outer : List Env) (s : Shared) (H : Hp) (args : Args) (us : List Value) (vs : List V) (Q : VK) (E : XK),
    RoomG k A → Env0 P w K mg base A outer s H → BindsTo s fd args (ps.zip us) → Vals vs us → sp vs H Q E → codeAny (model P w) A (.call (.ref f) args) (CR CX outer P w H s Q E) s
theorem FnG.of {P : Program} {w : World} {K : PySem.W.Frag} {mg : Str → Option Value} {base : Heap} {CX : CXT} {k : Nat} {f : Addr} {fd : FuncData} {ps : List Str} {sp : Sp} (F : FnOk P w K mg base CX k f fd ps sp) : FnG P w K mg base CX k f fd ps sp :=
  ⟨F.len, fun A outer s H args us vs Q E hr => F.run A outer s H args us vs Q E hr.r⟩
/-- a def by its name: st its statement, ps its parameters -/
structure Nm (P : Program) (w : World) (K : PySem.W.Frag) (mg : Str → Option Value) (base : Heap) (CX : CXT) (k : Nat) (x : Str) (st : Stmt) (ps : List Str) (sp : Sp) : Prop where
  ex : ∃ (f : Addr) (fd : FuncData), Fun K x x st f fd ∧ mg x = some (.ref f) ∧ FnG P w K mg base CX k f fd ps sp
section
variable {P : Program} {w : World} {K : PySem.W.Frag} {mg : Str → Option Value} {base : Heap} {CX : CXT}
/-- THE RULE for a def -/
theorem nm_of {x : Str} {st : Stmt} {f : Addr} {fd : FuncData} {N ps : List Str} {k : Nat} {sp : Sp} (F : Fun K x x st f fd) (hm : mg x = some (.ref f)) (S : FnScope N ps (defScope st)) (len : ∀ vs H Q E, sp vs H Q E → vs.length = ps.length)
    (hb : ∀ (cdv : Value) (A : Around) (outer : List Env) (s : Shared) (H : Hp) (vs : List V) (Q : VK) (E : XK), RoomG k (A.deeper (envOfC x (defScope st) s.heap.objs.size f cdv)) → sp vs H Q E →
      ∃ t, PSs (cxOf CX P w K mg base N x (defScope st) f cdv A outer s H E) (defBody st) t ∧ t { nx := fun _ H' => Q .non H', rt := Q } (start N vs) H) : Nm P w K mg base CX (k + 1) x st ps sp := by
  refine ⟨f, fd, F, hm, len, ?_⟩
  obtain ⟨oc, od, kV, doc, pm, an, cdv, ct, osl, rfl, lk, hcd⟩ := F.ex
  intro A outer s H args us vs Q E hr e0 bt rv hs
  have hl := len _ _ _ _ hs
  have kin : K.In s.heap := e0.mod.kin.keeps fun b o e => (e0.bs b o e).1
  have nol : s.heap.NoLimit := e0.mod.nolimit.keeps fun b o e => (e0.bs b o e).1
  refine codeAny_call_function hr.r.depth (kin _ _ lk) rfl S.co S.gen rfl (PySem.W.codeRec_of kin hcd) (bt _ _ _ _ ?_)
  refine wpAny_newFunctionEnv_cells S.kind (fun ⟨n, v⟩ hy => ?_) fun env he s1 x1 => ?_
  · cases S.par n (List.of_mem_zip hy).1 with
    | inl q => exact .inl q
    | inr q => exact .inr ⟨q, PySem.W.cellsFrom_some _ _ _ (.inl q)⟩
  · subst he
    refine ⟨nol.keeps x1.toInCall.keep, codeAny_func ?_⟩
    obtain ⟨t, ht, hq⟩ := hb cdv A outer s H vs Q E (hr.deeper _) hs
    have I : Inv (cxOf CX P w K mg base N x (defScope st) f cdv A outer s H E) [] (start N vs) H s1 := inv_start S hr.r.hd e0 hl rv x1
    refine wpAny_mono (ht.run [] s1 (start N vs) H _ I hq) (fun fl s' z => ?_) fun e s' z => z
    cases fl with
    | ret u => obtain ⟨v, σ', H', J, r2, q⟩ := z; exact ⟨v, H', J.os, J.bare, J.base, J.hok, r2, q⟩
    | next => obtain ⟨σ', H', J, q⟩ := z; exact ⟨.non, H', J.os, J.bare, J.base, J.hok, rfl, q⟩
    | brk => obtain ⟨_, _, _, q⟩ := z; exact q.elim
    | cont => obtain ⟨_, _, _, q⟩ := z; exact q.elim
end
section
variable {X : Cx} {CX : CXT} {k j : Nat} {f : Addr} {fd : FuncData} {st : Stmt} {ps ks : List Str} {sp : Sp} {E : XK} {x : Str} {p pos : Pos} {e : Expr} {es : List Expr} {kws : List Keyword} {t tk : TA}
theorem run_g {pins : List (Addr × Obj)} {σ : L2.St} {H : Hp} {s : Shared} {Q : VK} {us ws : List Value} {kw : List (Str × Value)} {vs : List V} (F : FnG X.prog X.w X.K X.mg X.base CX k f fd ps sp) (hr : RoomG k X.A)
    (hb : BindsTo s fd ⟨us, kw⟩ (ps.zip ws)) (hx : Passes CX X E) (I : Inv X pins σ H s) (r : Vals vs ws) (h : sp vs H Q E) : wpAny (model X.prog X.w) X.A (call (.ref f) us kw) (EP X pins σ Q) X.xe s := by
  refine wpAny_call (codeAny_mono (F.run X.A X.stack s H ⟨us, kw⟩ ws vs Q E hr I.env0 hb r h) fun y s' z => ?_)
  match y, z with
  | .error e, z => exact hx pins σ H s e s' I z
  | .ok (.ret u), z => exact I.after z
  | .ok .next, z => exact z.elim
  | .ok .brk, z => exact z.elim
  | .ok .cont, z => exact z.elim
/-- a selection of places -/
def sel {α : Type} (ix : List Nat) (l : List α) : List α := ix.filterMap fun i => l[i]?
theorem sel_vals {xs : List V} {us : List Value} (r : Vals xs us) : ∀ ix : List Nat, Vals (sel ix xs) (sel ix us)
  | [] => .nil
  | i :: ix => by
    unfold sel
    rw [List.filterMap_cons, List.filterMap_cons]
    cases e : xs[i]? with
    | none => rw [r.none_of e]; exact sel_vals r ix
    | some v =>
      obtain ⟨u, h1, h2⟩ := r.get e
      rw [h1]
      exact .cons h2 (sel_vals r ix)
/-- how arguments written by place (n of them) and by name (ks) come to the parameters -/
def Bnd (x : Str) (st : Stmt) (ps : List Str) (n : Nat) (ks : List Str) (ix : List Nat) : Prop :=
  ∀ (kV doc pm cdv ct : Value) (an : Option Addr) (us ws : List Value), us.length = n → ws.length = ks.length →
    bindArgs (PySem.W.fnOf x x (defArgs st) (defBody st) (defScope st) .none kV doc pm an cdv ct) ⟨us, ks.zip ws⟩ = pure (ps.zip (sel ix (us ++ ws)))
def tG (sp : Sp) (E : XK) (t : TA) : TE := fun σ H Q => t σ H fun vs H1 => sp vs H1 Q E
def tGK (sp : Sp) (n m : Nat) (ix : List Nat) (E : XK) (t tk : TA) : TE := fun σ H Q => t σ H fun vs H1 => tk σ H1 fun zs H2 => vs.length = n ∧ zs.length = m ∧ sp (sel ix (vs ++ zs)) H2 Q E
/-- plain positional binding -/
def BndP (x : Str) (st : Stmt) (ps : List Str) : Prop :=
  ∀ (kV doc pm cdv ct : Value) (an : Option Addr) (us : List Value), us.length = ps.length → bindArgs (PySem.W.fnOf x x (defArgs st) (defBody st) (defScope st) .none kV doc pm an cdv ct) ⟨us, []⟩ = pure (ps.zip us)
/-- x(e, ..) -/
theorem pe_g (c : Nm X.prog X.w X.K X.mg X.base CX k x st ps sp) (hr : RoomG j X.A) (hk : k ≤ j) (hx : Passes CX X E) (b : BndP x st ps) (hg : Gl X x) (ha : PA X (e :: es) t)
    (hdb : (x == ("__debug__" : Str)) = false := by decide) (he : starEach (e :: es) X.env = (false, eval e X.env) :: starEach es X.env := by rfl) (hpl : (backTo pos (starEach es X.env)).any (·.1) = false := by rfl) :
    PE X (.Call (.Name x p) (e :: es) [] pos) (tG sp E t) := by
  obtain ⟨f, fd, F, hm, G⟩ := c.ex
  have kp := F.kp
  obtain ⟨oc, od, kV, doc, pm, an, cdv, ct, osl, rfl, lk, hcd⟩ := F.ex
  refine ⟨fun pins s σ H Q I h => wpAny_Call_Name_kw (ld_glob I hg hm (PySem.W.callWith_K (h₀ := X.base) I.ok.mod.kin kp (thn (ha.run pos pins s σ H _ I h) fun us s1 ⟨vs, H1, I1, r, q⟩ => ⟨I1.kIn, ?_⟩) he hpl) hdb)⟩
  have q' : sp vs H1 Q E := q
  have h0 := r.length
  have h1 := G.len _ _ _ _ q'
  exact run_g (kw := []) G (hr.mono hk) (.of_eq (b kV doc pm cdv ct an us (by omega))) hx I1 r q'
/-- x(e, .., k = e, ..) -/
theorem pe_gK {ix : List Nat} (c : Nm X.prog X.w X.K X.mg X.base CX k x st ps sp) (hr : RoomG j X.A) (hk : k ≤ j) (hx : Passes CX X E) (b : Bnd x st ps (e :: es).length ks ix) (hg : Gl X x) (ha : PA X (e :: es) t) (hkw : PK X kws tk)
    (hall : (backToKw pos (keywordEach kws X.env)).all (·.1.isSome) = true := by rfl) (hks : (backToKw pos (keywordEach kws X.env)).filterMap (·.1) = ks := by rfl)
    (hdb : (x == ("__debug__" : Str)) = false := by decide) (he : starEach (e :: es) X.env = (false, eval e X.env) :: starEach es X.env := by rfl)
    (hpl : ((backTo pos (starEach (e :: es) X.env)).any (·.1) || (backToKw pos (keywordEach kws X.env)).any (·.1.isNone)) = false := by rfl) :
    PE X (.Call (.Name x p) (e :: es) kws pos) (tGK sp (e :: es).length ks.length ix E t tk) := by
  obtain ⟨f, fd, F, hm, G⟩ := c.ex
  have kp := F.kp
  obtain ⟨oc, od, kV, doc, pm, an, cdv, ct, osl, rfl, lk, hcd⟩ := F.ex
  refine ⟨fun pins s σ H Q I h => wpAny_Call_Name_kw (ld_glob I hg hm (PySem.W.callWith_KW (h₀ := X.base) I.ok.mod.kin kp hall (thn (ha.run pos pins s σ H _ I h) fun us s1 ⟨vs, H1, I1, r, q⟩ => ?_) hpl he) hdb)⟩
  refine thn (hkw.run pos pins s1 σ H1 _ I1 q) fun ws s2 ⟨zs, H2, I2, rz, l1, l2, q2⟩ => ⟨I2.kIn, ?_⟩
  rw [hks]
  exact run_g G (hr.mono hk) (.of_eq (b kV doc pm cdv ct an us ws (r.length.symm.trans l1) (rz.length.symm.trans l2))) hx I2 (sel_vals (r.append rz) ix) q2
/-- x(k = e, ..) -/
theorem pe_gK0 {ix : List Nat} (c : Nm X.prog X.w X.K X.mg X.base CX k x st ps sp) (hr : RoomG j X.A) (hk : k ≤ j) (hx : Passes CX X E) (b : Bnd x st ps 0 ks ix) (hg : Gl X x) (hkw : PK X kws tk)
    (hall : (backToKw pos (keywordEach kws X.env)).all (·.1.isSome) = true := by rfl) (hks : (backToKw pos (keywordEach kws X.env)).filterMap (·.1) = ks := by rfl)
    (hdb : (x == ("__debug__" : Str)) = false := by decide)
    (hpl : ((backTo pos (starEach [] X.env)).any (·.1) || (backToKw pos (keywordEach kws X.env)).any (·.1.isNone)) = false := by rfl) :
    PE X (.Call (.Name x p) [] kws pos) (tGK sp 0 ks.length ix E tNil tk) := by
  obtain ⟨f, fd, F, hm, G⟩ := c.ex
  have kp := F.kp
  obtain ⟨oc, od, kV, doc, pm, an, cdv, ct, osl, rfl, lk, hcd⟩ := F.ex
  refine ⟨fun pins s σ H Q I h => wpAny_Call_Name_kw (ld_glob I hg hm (PySem.W.callWith_KW0 (h₀ := X.base) I.ok.mod.kin kp hall ?_ hpl) hdb)⟩
  refine thn (hkw.run pos pins s σ H _ I h) fun ws s2 ⟨zs, H2, I2, rz, l1, l2, q2⟩ => ⟨I2.kIn, ?_⟩
  rw [hks]
  exact run_g G (hr.mono hk) (.of_eq (b kV doc pm cdv ct an [] ws rfl (rz.length.symm.trans l2))) hx I2 (sel_vals (xs := [] ++ zs) (us := [] ++ ws) rz ix) q2
end
/-! ## the law's own call -/
theorem law_g {P : Program} {w : World} {K : PySem.W.Frag} {mg mb : Str → Option Value} {CX : CXT} {k : Nat} {a fa : Addr} {fd : FuncData} {x : Str} {sp : Sp} {s₁ : Shared} {vs : List Value} {ns : List Int}
    (KX : K.In s₁.heap) (hG : s₁.heap.Ns mainGlobals mg) (hB : s₁.heap.Ns builtinsNs mb) (hBB : ∀ x : Str, x ≠ "__name__" → mb x = bootBuiltins x) (hL : s₁.heap.NoLimit) (hgen : s₁.gens = #[])
    (ha : s₁.heap.get? a = some { cls := .type "list", data := .seq vs.toArray }) (hi : IntsAre vs ns) (hl : ns.length ≤ sizeLine) (hr : RoomG k callerA)
    (F : ∀ base : Heap, K.In base → base.Ns mainGlobals mg → FnG P w K mg base CX k fa fd [x] sp) (hbind : ∀ (s : Shared) (u : Value), BindsTo s fd ⟨[u], []⟩ [(x, u)])
    (hsp : ∀ H : Hp, SqL K H a (ns.map V.int) → (∀ b, H b = none ∨ b = a) → sp [.ref a] H (fun v _ => v = .bl true) fun _ _ _ => False)
    (hCX : ∀ H e s', CX [] H s₁ (fun _ _ _ => False) e s' → False) :
    codeAny (model P w) callerA (.call (.ref fa) ⟨[.ref a], []⟩) (fun r s' => r = .ok (.ret (.bool true)) ∧ OldK s₁.heap s'.heap ∧ s'.os = s₁.os ∧ AllBare s'.gens) s₁ := by
  -- the script is tracked, locked, where it is no object of the text's own
  let so : Obj := { cls := .type "list", data := .seq vs.toArray }
  have main : ∀ H : Hp, (∀ b, H b = none ∨ (b = a ∧ K.lookup a = none ∧ H b = some (.frz so (.lst (ns.map V.int))))) → SqL K H a (ns.map V.int) → HOk P w H s₁.heap →
      codeAny (model P w) callerA (.call (.ref fa) ⟨[.ref a], []⟩) (fun r s' => r = .ok (.ret (.bool true)) ∧ OldK s₁.heap s'.heap ∧ s'.os = s₁.os ∧ AllBare s'.gens) s₁ := by
    intro H only hS hok
    have isNone : ∀ {b : Addr} {o : Obj}, s₁.heap.get? b = some o → (∀ (y : H b = some (.frz so (.lst (ns.map V.int)))), b = a → K.lookup a = none → o = so → False) → H b = none := fun {b o} e n => by
      rcases only b with q | ⟨q1, q2, q3⟩
      · exact q
      · refine (n q3 q1 q2 ?_).elim
        subst q1
        exact Option.some.inj (e.symm.trans ha)
    have nsOf : ∀ {b : Addr} {m : Str → Option Value}, s₁.heap.Ns b m → (hidT s₁.heap H).Ns b m := fun {b m} ⟨o, es, ep, e, d, r⟩ =>
      ⟨o, es, ep, hidT_get e (isNone e fun _ _ _ z => by subst z; cases d), d, r⟩
    have hK : K.In (hidT s₁.heap H) := fun b o e => hidT_get (KX b o e) (isNone (KX b o e) fun _ y z _ => by subst y; rw [z] at e; cases e)
    have hM : Mod K mg (hidT s₁.heap H) := ⟨hK, nsOf hG, ⟨mb, nsOf hB, hBB⟩, hL.elim fun mc z => ⟨mc, nsOf z.1, z.2⟩⟩
    have nofr : ∀ b : Addr, b ∉ frs ([] : List Env) := fun b z => by cases z
    have e0 : Env0 P w K mg (hidT s₁.heap H) callerA [] s₁ H := ⟨rfl, hM, fun b o e => of_hidT e, by rw [hidT_size] <;> exact Nat.le_refl _, trivial, fun b z => (nofr b z).elim, hok, .of_eq hgen⟩
    have hs : sp [.ref a] H (fun v _ => v = .bl true) fun _ _ _ => False := hsp H hS fun b => (only b).elim Or.inl fun z => Or.inr z.1
    refine codeAny_mono ((F _ hK (nsOf hG)).run callerA [] s₁ H ⟨[.ref a], []⟩ [.ref a] [.ref a] _ _ hr e0 (hbind s₁ (.ref a)) (.cons rfl .nil) hs) fun r s' z => ?_
    match r, z with
    | .error e, z => exact (hCX H e s' z).elim
    | .ok .next, z => exact z.elim
    | .ok .brk, z => exact z.elim
    | .ok .cont, z => exact z.elim
    | .ok (.ret u), ⟨v, H', os, bare, un, hok', rv, q⟩ =>
      obtain rfl : v = .bl true := q
      obtain rfl : u = Value.bool true := rv
      refine ⟨rfl, OldK.of_keep fun b o e => ?_, os, bare⟩
      rcases only b with y | ⟨_, _, y⟩
      · exact un.keep b o e y (nofr b) (by intro c; cases c)
      · obtain ⟨e1, _⟩ := hok b _ y
        obtain ⟨e2, _⟩ := hok' b _ (un.frzs b _ _ y)
        exact e2.trans (e1.symm.trans e)
  cases hk : K.lookup a with
  | some o =>
    have e : o = so := Option.some.inj ((KX a o hk).symm.trans ha)
    subst e
    exact main (fun _ => none) (fun _ => .inl rfl) (.inr ⟨so, vs.toArray, _, hk, rfl, rfl, rfl, by rw [List.size_toArray, hi.length]; exact hl, by simpa using vals_ints hi⟩) fun b u z => by cases z
  | none =>
    have at_a : (fun b : Addr => if b = a then some (HO.frz so (.lst (ns.map V.int))) else none) a = some (HO.frz so (.lst (ns.map V.int))) := if_pos rfl
    refine main (fun b => if b = a then some (.frz so (.lst (ns.map V.int))) else none) (fun b => ?_) (.inl (.inr ⟨so, at_a⟩)) fun b u z => ?_
    · by_cases y : b = a
      · exact .inr ⟨y, hk, if_pos y⟩
      · exact .inl (if_neg y)
    · by_cases y : b = a
      · subst y
        obtain rfl : HO.frz so (.lst (ns.map V.int)) = u := Option.some.inj (at_a.symm.trans z)
        exact ⟨ha, by rw [List.length_map] <;> exact hl, vs, _, vals_ints hi, ha⟩
      · have z' : (none : Option HO) = some u := (if_neg y).symm.trans z
        cases z'
theorem walk_g {l : PySem.W.OpenLaw} {n k : Nat} {q : Program} {loose : List Str} {XP : (Str → Option Value) → Heap → Prop} {YP : World → Heap → Prop} {d : DefRec} {K : Params → PySem.W.Frag} {CX : World → CXT} {sp : World → Sp} {x : Str}
    (hn : l.most = some n) (hn2 : n ≤ sizeLine) (hdf : d.params.defaults = []) (hr : RoomG k callerA) (hY : ∀ (w : World) (h : Heap), YP w h → (K w.params).In h)
    (F : ∀ (w : World) (mg : Str → Option Value) (fa : Addr) (h : Heap), (K w.params).In h → h.Ns mainGlobals mg → mg d.name = some (.ref fa) →
      ∃ fd : FuncData, (∀ (s : Shared) (u : Value), BindsTo s fd ⟨[u], []⟩ [(x, u)]) ∧ ∀ base : Heap, (K w.params).In base → base.Ns mainGlobals mg → FnG l.prog w (K w.params) mg base (CX w) k fa fd [x] (sp w))
    (hsp : ∀ (w : World) (H : Hp) (a : Addr) (ns : List Int), ns.length ≤ n → SqL (K w.params) H a (ns.map V.int) → (∀ b, H b = none ∨ b = a) → sp w [.ref a] H (fun v _ => v = .bl true) fun _ _ _ => False)
    (hCX : ∀ (w : World) (H : Hp) (s : Shared) (e : Value) (s' : Shared), CX w [] H s (fun _ _ _ => False) e s' → False) : PySem.W.WalkO q loose XP YP l.row.toRowW d [] (fun f vs => PySem.call f vs) := by
  refine Att.attach_call hn hdf fun w s₀ s₁ mg mb fa o pm cd doc a vs ns G Y ho hd hcd hmg hobj hints hlen hg => ?_
  obtain ⟨fd, hb, hF⟩ := F w mg fa _ (hY w _ Y) G.T.g hmg
  exact law_g (hY w _ Y) G.T.g G.T.b G.T.builtins G.T.nolimit hg hobj hints (Nat.le_trans hlen hn2) hr hF hb (fun H hS hO => hsp w H a ns hlen hS hO) fun H e s' => hCX w H s₁ e s'
theorem roomTop {k : Nat} (h : k ≤ 60 := by decide) : RoomG k callerA := ⟨⟨rfl, by show 1 + claimMargin + 3 * k + 5 < recursionLimit; have : claimMargin + 200 < recursionLimit := (by decide); omega, by show 4 + 16 * k + 200 < cLine; have : 2000 < cLine := (by decide); omega⟩, rfl⟩
open PySem PySem.Spec PyProof.Rows L2
/-! ## rules told over a given written part -/
section
variable {X : Cx} {K : PySem.W.Frag}
theorem ix_seqK (e : X.K = K) : IxR X (rIx K) := by subst e; exact ix_seq
theorem ix_listK (e : X.K = K) : IxR X (rIxL K) := by subst e; exact ix_list
theorem ix_tupK (e : X.K = K) : IxR X (rIxT K) := by subst e; exact ix_tup
theorem call_lenK (e : X.K = K) : CallR X (.builtin "len") (fun xs H Q => ∃ x n, xs = [x] ∧ LenV K x H n ∧ Q (.int n) H) := by subst e; exact call_len
theorem call_isiK' (e : X.K = K) : CallR X (.builtin "isinstance") (rIsi K) := by subst e; exact call_isi
theorem op_inK (e : X.K = K) : OpR X (compareOp .In) (rIn K false) := by subst e; exact op_in_seq
theorem op_notInK (e : X.K = K) : OpR X (compareOp .NotIn) (rIn K true) := by subst e; exact op_notIn_seq
theorem call_reprK (e : X.K = K) (hg : X.A.guards = some []) (hu : X.A.units + 60 < cLine) : CallR X (.builtin "repr") (rRepr K) := by subst e; exact call_repr hg hu
theorem call_allK (e : X.K = K) (hc : X.calm = true) : CallR X (.builtin "all") (rAll K) := by subst e; exact cr_all hc
theorem op_eqDK (e : X.K = K) (hu : X.A.units + 64 < cLine) : OpR X (compareOp .Eq) (rEqD K) := by subst e; exact op_eqD hu
theorem op_neDK (e : X.K = K) (hu : X.A.units + 64 < cLine) : OpR X (compareOp .NotEq) (rNeD K) := by subst e; exact op_neD hu
theorem pi_listK {tg l : Expr} {tl : TE} (e : X.K = K) (hl : PE X l tl) : PI X tg l (iList K tl) := by subst e; exact pi_list hl
/-- a built-in class by its name, a constant of the text -/
theorem pe_ty {x : Str} {pos : Pos} (n : String) (hg : Gl X x) (hm : X.mg x = none) (hv : bootBuiltins x = some (.type n)) (hn : x ≠ "__name__" := by decide) (hd : (x == ("__debug__" : Str)) = false := by decide) : PE X (.Name x pos) (tC (.ty n)) :=
  pe_bltn hg hm hv rfl hn hd
theorem pe_cst {x : Str} {pos : Pos} {v : V} (hg : Gl X x) (h : ∃ u, X.mg x = some u ∧ RelV v u) (hd : (x == ("__debug__" : Str)) = false := by decide) : PE X (.Name x pos) (tC v) :=
  let ⟨_, hm, r⟩ := h
  pe_glob hg hm r hd
/-- a text times a number -/
def rMulS : R2 := fun x y H Q => ∃ (z : Str) (n : Int), x = .str z ∧ y = .int n ∧ z.length ≤ 1000 ∧ -1000 ≤ n ∧ n ≤ 10000 ∧ Q (.str ⟨(List.replicate n.toNat z.cps.toList).flatten.toArray⟩) H
theorem fold_app : ∀ (l : List (Array Nat)) (acc : Array Nat), l.foldl (· ++ ·) acc = acc ++ (l.map Array.toList).flatten.toArray
  | [], acc => by simp
  | x :: l, acc => by
    rw [List.foldl_cons, fold_app l (acc ++ x)]
    apply Array.ext'
    simp
theorem op_mul_str : OpR X (binaryOp .Mult) rMulS := by
  intro pins s σ H x y v u Q I rx ry h
  obtain ⟨z, n, rfl, rfl, hz, h1, h2, q⟩ := h
  obtain ⟨t, rfl⟩ := rx
  obtain ⟨t', rfl⟩ := ry
  have big : 1000 * 10000 ≤ sizeLine := by decide
  have e : ∀ k : Nat, ((List.replicate k z.cps).foldl (· ++ ·) #[] : Array Nat) = (List.replicate k z.cps.toList).flatten.toArray := fun k => by
    rw [fold_app, List.map_replicate]; simp
  have hzn : z.length * n.toNat ≤ 1000 * 10000 := Nat.mul_le_mul hz (by omega)
  refine PySem.P.mul_str (by rw [decide_eq_false (by omega), decide_eq_false (by omega)]; rfl) (fun a _ => ?_) (fun a _ => ?_) ?_
  · have : (1001 : Int) ≤ (2 ^ 63 - 1) / n := Int.le_ediv_of_mul_le (by omega) (by omega)
    omega
  · exact decide_eq_false (by omega)
  · by_cases c1 : n < 1
    · rw [if_pos c1]
      have e0 : n.toNat = 0 := by omega
      rw [e0] at q
      exact ⟨Nat.zero_le _, .str _, H, I.tok _, ⟨_, rfl⟩, q⟩
    · rw [if_neg c1]
      by_cases c2 : (n == 1 || z.length == 0) = true
      · rw [if_pos c2]
        refine ⟨.str z, H, I, ⟨t, rfl⟩, ?_⟩
        have ez : (⟨(List.replicate n.toNat z.cps.toList).flatten.toArray⟩ : Str) = z := by
          rw [Bool.or_eq_true, beq_iff_eq, beq_iff_eq] at c2
          rcases c2 with c2 | c2
          · subst c2
            show (⟨(List.replicate 1 z.cps.toList).flatten.toArray⟩ : Str) = z
            simp
          · have hz0 : z.cps.toList = [] := by
              have : z.cps.toList.length = 0 := by rw [Array.length_toList]; exact c2
              exact List.length_eq_zero_iff.mp this
            obtain ⟨cps⟩ := z
            have hz1 : cps.toList = [] := hz0
            have : cps = #[] := by apply Array.ext'; rw [hz1]
            subst this
            simp
        rw [ez] at q
        exact q
      · rw [if_neg c2, e]
        refine ⟨?_, .str _, H, I.tok _, ⟨_, rfl⟩, q⟩
        show (List.replicate n.toNat z.cps.toList).flatten.toArray.size ≤ sizeLine
        rw [List.size_toArray, List.length_flatten, List.map_replicate, List.sum_replicate_nat, Array.length_toList]
        have : n.toNat * z.cps.size = z.length * n.toNat := Nat.mul_comm _ _
        omega
end
open PySem PySem.Spec PyProof.Rows
open L2 hiding pass0
open L2 (cxOf)
def top (i : Nat) : Stmt := PySem.Challenge.pw_coverways_k11_words.main.body.getD i (.Pass ⟨0, 0, 0, 0⟩)
abbrev s_law_pot : Stmt := top 18
theorem sc_law_pot : FnScope ["_law_script", "_law_k", "_law_cell"] ["_law_script", "_law_k"] (defScope s_law_pot) := ⟨rfl, rfl, rfl, by decide +kernel, rfl, by decide +kernel, by decide +kernel⟩
theorem bp_law_pot : BndP "_law_pot" s_law_pot ["_law_script", "_law_k"] := fun _ _ _ _ _ _ us h => match us, h with | [_, _], _ => rfl
abbrev s_law_draw : Stmt := top 19
theorem sc_law_draw : FnScope ["_law_pot_here", "_law_many", "_law_digit"] ["_law_pot_here", "_law_many"] (defScope s_law_draw) := ⟨rfl, rfl, rfl, by decide +kernel, rfl, by decide +kernel, by decide +kernel⟩
theorem bp_law_draw : BndP "_law_draw" s_law_draw ["_law_pot_here", "_law_many"] := fun _ _ _ _ _ _ us h => match us, h with | [_, _], _ => rfl
abbrev s_law_among : Stmt := top 20
theorem sc_law_among : FnScope ["_law_pot_here", "_law_some"] ["_law_pot_here", "_law_some"] (defScope s_law_among) := ⟨rfl, rfl, rfl, by decide +kernel, rfl, by decide +kernel, by decide +kernel⟩
theorem bp_law_among : BndP "_law_among" s_law_among ["_law_pot_here", "_law_some"] := fun _ _ _ _ _ _ us h => match us, h with | [_, _], _ => rfl
abbrev s_law_bits : Stmt := top 21
theorem sc_law_bits : FnScope ["_law_pot_here", "_law_least", "_law_most", "_law_turn"] ["_law_pot_here", "_law_least", "_law_most"] (defScope s_law_bits) := ⟨rfl, rfl, rfl, by decide +kernel, rfl, by decide +kernel, by decide +kernel⟩
theorem bp_law_bits : BndP "_law_bits" s_law_bits ["_law_pot_here", "_law_least", "_law_most"] := fun _ _ _ _ _ _ us h => match us, h with | [_, _, _], _ => rfl
/-- what the top leaves of the built-in names -/
structure Txt (K : PySem.W.Frag) (mg : Str → Option Value) : Prop where
  b_len : mg "len" = none
  b_abs : mg "abs" = none
  b_max : mg "max" = none
  b_min : mg "min" = none
  b_int : mg "int" = none
  b_divmod : mg "divmod" = none
  b_range : mg "range" = none
  b_repr : mg "repr" = none
  b_all : mg "all" = none
  b_str : mg "str" = none
  b_bool : mg "bool" = none
  b_isinstance : mg "isinstance" = none
/-! ### draws -/
def PotAt (H : Hp) (p : Addr) : Prop := ∃ a b : Int, H p = some (.lst [.int a, .int b]) ∧ 0 ≤ a ∧ 0 ≤ b ∧ b < 2147483648
/-- all that stood stands, but for the pot at p -/
structure Go (p : Addr) (H H' : Hp) : Prop where
  pot : PotAt H' p
  keep : ∀ a o, H a = some o → a ≠ p → H' a = some o
theorem Go.trans {p : Addr} {H H1 H2 : Hp} (a : Go p H H1) (b : Go p H1 H2) : Go p H H2 := ⟨b.pot, fun c o h n => b.keep c o (a.keep c o h n) n⟩
theorem Go.refl {p : Addr} {H : Hp} (h : PotAt H p) : Go p H H := ⟨h, fun _ _ e _ => e⟩
theorem Go.new {p q : Addr} {H H1 : Hp} {o : HO} (g : Go p H H1) (h : H1 q = none) : Go p H (upd H1 q o) := by
  obtain ⟨a, b, e, r⟩ := g.pot
  refine ⟨⟨a, b, by rw [upd_ne (ne_of_none e h)]; exact e, r⟩, fun c u hc n => ?_⟩
  have := g.keep c u hc n
  rw [upd_ne (ne_of_none this h)]
  exact this
theorem Go.lst {K : PySem.W.Frag} {p a : Addr} {H H' : Hp} {xs : List V} (g : Go p H H') (n : a ≠ p) (h : SqL K H a xs) : SqL K H' a xs := by
  rcases h with (h | ⟨o, h⟩) | h
  · exact .inl (.inl (g.keep _ _ h n))
  · exact .inl (.inr ⟨o, g.keep _ _ h n⟩)
  · exact .inr h
theorem Go.fresh {p q : Addr} {H H' : Hp} (g : Go p H H') (hp : PotAt H p) (h : H' q = none) : H q = none := by
  cases e : H q with
  | none => rfl
  | some o =>
    by_cases n : q = p
    · subst n
      obtain ⟨a, b, e2, _⟩ := g.pot
      rw [h] at e2
      cases e2
    · have := g.keep q o e n
      rw [h] at this
      cases this
theorem szl {n : Nat} (h : n ≤ 1000000) : n ≤ sizeLine := Nat.le_trans h (by decide)
theorem szt {n : Nat} (h : n < 1000000) : n < sizeLine := Nat.lt_of_lt_of_le h (by decide)
theorem nonn {H : Hp} {a b : Addr} {o : HO} (h' : H b = none) (h : H a = some o) : a ≠ b := ne_of_none h h'
theorem Go.kp {p a : Addr} {H H' : Hp} {o : HO} (g : Go p H H') (h : H a = some o) (n : a ≠ p) : H' a = some o := g.keep a o h n
theorem updn {H : Hp} {a b : Addr} {o u : HO} (n : b ≠ a) (h : H b = some u) : upd H a o b = some u := (upd_ne n).trans h
local macro_rules | `(tactic| walk_at "hp") => `(tactic| first | assumption | exact upd_same | exact updn (by walk_at "ne") (by walk_at "hp") | exact Go.kp (by assumption) (by walk_at "hp") (by walk_at "ne"))
local macro_rules | `(tactic| walk_at "ne") => `(tactic| first | assumption | exact Ne.symm (by assumption) | exact nonn (by assumption) (by walk_at "hp") | exact Ne.symm (nonn (by assumption) (by walk_at "hp")))
local macro_rules | `(tactic| walk_at "sq") => `(tactic| first | assumption | exact SqL.of (by walk_at "hp") | exact SqT.of (by walk_at "hp") | exact Go.lst (by assumption) (by walk_at "ne") (by walk_at "sq"))
local macro_rules | `(tactic| walk_at "sz") => `(tactic| first | assumption | exact szl (Nat.le_of_ble_eq_true rfl) | (apply szl; first | omega | (simp; omega)) | (apply szt; first | omega | (simp; omega)))
local macro_rules | `(tactic| walk_at "len") => `(tactic| first | exact Or.inl ⟨_, (by walk_at "sq"), rfl⟩ | exact ⟨(by walk_at "sz"), rfl⟩ | exact Or.inr ⟨_, (by walk_at "sq"), rfl⟩)
local macro_rules | `(tactic| walk_at "ar") => `(tactic| first | assumption | omega | decide | exact upd_same | rfl | walk_at "sz" | (simp only [CDiv, CMul, CPow]; first | omega | decide) | (refine ⟨?_, ?_⟩ <;> first | omega | decide))
local macro_rules | `(tactic| walk_at "at") => `(tactic| first | rfl | assumption | decide)
/-! one step of a reading -/
local macro_rules | `(tactic| walk_at "s1") => `(tactic| first
  | (refine ⟨_, rfl, ?_⟩)
  | (refine ⟨_, _, rfl, rfl, ?_⟩)
  | (refine Or.inl ⟨_, _, _, _, rfl, rfl, by walk_at "sq", by walk_at "at", ?_⟩)
  | (refine Or.inl ⟨_, rfl, ?_⟩)
  | (refine And.intro (by walk_at "ar") ?_)
  | (refine ⟨_, _, rfl, ?_⟩)
  | (refine ⟨_, _, rfl, (by walk_at "sq"), rfl, ?_⟩)
  | (refine ⟨_, _, rfl, (by walk_at "len"), ?_⟩)
  | (refine ⟨_, _, _, _, rfl, rfl, (by walk_at "hp"), rfl, ?_⟩)
  | (refine fun q (hq : _ = none) => ?_)
  | (intro _; intros))
local macro_rules | `(tactic| walk_at "go") => `(tactic| first | assumption | exact Go.refl (by assumption) | exact Go.new (by walk_at "go") (by assumption) | exact Go.trans (by walk_at "go") (by assumption))
local macro_rules | `(tactic| walk_at "pot") => `(tactic| first | assumption | exact Go.pot (by assumption) | exact Go.pot (by walk_at "go"))
theorem atI_ok {α : Type} {xs : List α} {d : Int} (h0 : 0 ≤ d) (h1 : d < (xs.length : Int)) : ∃ v, v ∈ xs ∧ atI xs d = some v := by
  obtain ⟨j, rfl⟩ := Int.eq_ofNat_of_zero_le h0
  have hj : j < xs.length := by omega
  exact ⟨xs[j], List.getElem_mem hj, atI_nat (by simp [hj])⟩
theorem max0 {x : Int} : 0 ≤ (if x > 0 then x else 0) := by split <;> omega
theorem Go.mut {p D : Addr} {H H1 : Hp} {o : HO} (g : Go p H H1) (n : H D = none) (np : D ≠ p) : Go p H (upd H1 D o) := by
  obtain ⟨a, b, e, r⟩ := g.pot
  exact ⟨⟨a, b, by rw [upd_ne (Ne.symm np)]; exact e, r⟩, fun c u hc nc => by rw [upd_ne (ne_of_none hc n)]; exact g.keep c u hc nc⟩
theorem PotAt.ne {p q : Addr} {H : Hp} (h : PotAt H p) (n : H q = none) : q ≠ p := by
  obtain ⟨a, b, e, _⟩ := h
  exact (ne_of_none e n).symm
/-- texts of single signs -/
def sg (c : Nat) : Str := ⟨#[c]⟩
theorem joinL_sg : ∀ zs : List Nat, TL.joinL [] (zs.map fun c => [c]) = zs
  | [] => rfl
  | [c] => rfl
  | c :: d :: r => by
    show [c] ++ [] ++ TL.joinL [] ((d :: r).map fun c => [c]) = c :: d :: r
    rw [joinL_sg (d :: r)]
    rfl
theorem join_sg (zs : List Nat) : Txt.join ("" : Str) (zs.map sg) = SX.S zs := by
  have h := SX.join_S [] (zs.map fun c => [c])
  rw [joinL_sg, List.map_map] at h
  exact h
theorem sum_sg : ∀ zs : List Nat, ((zs.map sg).map (·.length)).sum = zs.length
  | [] => rfl
  | c :: r => by
    rw [List.map_cons, List.map_cons, List.sum_cons, sum_sg r]
    show 1 + r.length = r.length + 1
    omega
theorem Go.put {p : Addr} {H H1 : Hp} {a b : Int} (g : Go p H H1) (ha : 0 ≤ a) (hb : 0 ≤ b) (hb2 : b < 2147483648) : Go p H (upd H1 p (.lst [.int a, .int b])) :=
  ⟨⟨a, b, upd_same, ha, hb, hb2⟩, fun c o e n => by rw [upd_ne n]; exact g.keep c o e n⟩
theorem Go.any {p : Addr} {H : Hp} (q : Addr) (o : HO) (h : PotAt H p) (n : H q = none) : Go p H (upd H q o) := (Go.refl h).new n
@[irreducible] def spPot (K : PySem.W.Frag) : Sp := fun vs H Q _ => ∃ (a : Addr) (ns : List Int) (k : Int), vs = [.ref a, .int k] ∧ SqL K H a (ns.map V.int) ∧ ns.length ≤ 63 ∧ 0 ≤ k ∧ k ≤ 100 ∧
  ∀ p H', H p = none → PotAt H' p → (∀ b o, H b = some o → H' b = some o) → Q (.ref p) H'
@[irreducible] def spDraw : Sp := fun vs H Q _ => ∃ (p : Addr) (n : Int), vs = [.ref p, .int n] ∧ PotAt H p ∧ 0 < n ∧ n < 1073741824 ∧ ∀ (d : Int) H', 0 ≤ d → d < n → Go p H H' → Q (.int d) H'
@[irreducible] def spAmong (K : PySem.W.Frag) : Sp := fun vs H Q _ => ∃ (p : Addr) (x : V), vs = [.ref p, x] ∧ PotAt H p ∧
  ((∃ (a : Addr) (xs : List V), x = .ref a ∧ a ≠ p ∧ SqL K H a xs ∧ 0 < xs.length ∧ xs.length ≤ 1000 ∧ ∀ v ∈ xs, ∀ H', Go p H H' → Q v H') ∨
   (∃ z : Str, x = .str z ∧ 0 < z.length ∧ z.length ≤ 1000 ∧ ∀ c ∈ z.cps.toList, ∀ H', Go p H H' → Q (.str ⟨#[c]⟩) H'))
def Bits (z : Str) : Prop := ∀ c ∈ z.cps.toList, c = 48 ∨ c = 49
@[irreducible] def spBits : Sp := fun vs H Q _ => ∃ (p : Addr) (lo hi : Int), vs = [.ref p, .int lo, .int hi] ∧ PotAt H p ∧ 0 ≤ lo ∧ lo ≤ hi ∧ hi ≤ 1000 ∧
  ∀ (z : Str) H', Bits z → lo ≤ (z.length : Int) → (z.length : Int) ≤ hi → Go p H H' → Q (.str z) H'
section
variable {K : PySem.W.Frag} {p a : Addr} {n lo hi k : Int} {H : Hp} {Q : VK} {E : XK} {xs : List V} {z : Str} {ns : List Int}
theorem pot_go (hS : SqL K H a (ns.map V.int)) (hl : ns.length ≤ 63) (h0 : 0 ≤ k) (h1 : k ≤ 100) (q : ∀ p H', H p = none → PotAt H' p → (∀ b o, H b = some o → H' b = some o) → Q (.ref p) H') : spPot K [.ref a, .int k] H Q E := by
  unfold spPot
  exact ⟨a, ns, k, rfl, hS, hl, h0, h1, q⟩
theorem draw_go (hp : PotAt H p) (h0 : 0 < n) (h1 : n < 1073741824) (q : ∀ (d : Int) H', 0 ≤ d → d < n → Go p H H' → Q (.int d) H') : spDraw [.ref p, .int n] H Q E := by
  unfold spDraw
  exact ⟨p, n, rfl, hp, h0, h1, q⟩
theorem among_l (hp : PotAt H p) (na : a ≠ p) (hS : SqL K H a xs) (h0 : 0 < xs.length) (h1 : xs.length ≤ 1000) (q : ∀ v ∈ xs, ∀ H', Go p H H' → Q v H') : spAmong K [.ref p, .ref a] H Q E := by
  unfold spAmong
  exact ⟨p, _, rfl, hp, .inl ⟨a, xs, rfl, na, hS, h0, h1, q⟩⟩
theorem among_s (hp : PotAt H p) (h0 : 0 < z.length) (h1 : z.length ≤ 1000) (q : ∀ c ∈ z.cps.toList, ∀ H', Go p H H' → Q (.str ⟨#[c]⟩) H') : spAmong K [.ref p, .str z] H Q E := by
  unfold spAmong
  exact ⟨p, _, rfl, hp, .inr ⟨z, rfl, h0, h1, q⟩⟩
theorem bits_go (hp : PotAt H p) (h0 : 0 ≤ lo) (h1 : lo ≤ hi) (h2 : hi ≤ 1000) (q : ∀ (z : Str) H', Bits z → lo ≤ (z.length : Int) → (z.length : Int) ≤ hi → Go p H H' → Q (.str z) H') : spBits [.ref p, .int lo, .int hi] H Q E := by
  unfold spBits
  exact ⟨p, lo, hi, rfl, hp, h0, h1, h2, q⟩
end
section
variable {P : Program} {w : World} {K : PySem.W.Frag} {mg : Str → Option Value} {base : Heap} {f : Addr} {fd : FuncData}
theorem ok_draw (F : Fun K "_law_draw" "_law_draw" s_law_draw f fd) (hm : mg "_law_draw" = some (.ref f)) (T : Txt K mg) : Nm P w K mg base CX0 1 "_law_draw" s_law_draw ["_law_pot_here", "_law_many"] spDraw := by
  refine nm_of F hm sc_law_draw (fun vs H Q E h => ?_) fun cdv A outer s H vs Q E hr h => ?_
  · unfold spDraw at h
    obtain ⟨p, n, rfl, _⟩ := h
    rfl
  · unfold spDraw at h
    obtain ⟨p, n, rfl, ⟨a, b, hp, ha, hb, hb2⟩, hn, hn2, k⟩ := h
    refine ⟨_, (pss_cons (ps_if (pt_cmpR op_gt (pe_ix (ix_seqK (K := K) rfl) (pv 0) pe_int (fun _ _ => rfl)) pe_int (nomark _)) (pss_cons (ps_asg (pe_callB call_divmod (by rfl) T.b_divmod (by decide +kernel) (pa_cons (pe_ix (ix_seqK (K := K) rfl) (pv 0) pe_int (fun _ _ => rfl)) (pa_cons (pv 1) pa_nil))) (pg_tup (by rfl) (pgs_cons (pg_sub (pv 0) pe_int set_list) (pgs_cons (pg_name (i := 2) sc_law_draw.nd rfl (by first | exact Or.inl rfl | exact Or.inr rfl)) pgs_nil))))
      (pss_one (ps_ret (pv 2)))) pss_nil)
      (pss_cons (ps_asg (pe_op op_mod (pe_callTy call_int1 (by rfl) T.b_int (by decide +kernel) (pa_cons (pe_op op_add (pe_op op_mul (pe_ix (ix_seqK (K := K) rfl) (pv 0) pe_int (fun _ _ => rfl)) pe_int) pe_int) pa_nil)) pe_int) (pg_sub (pv 0) pe_int set_list))
      (pss_one (ps_ret (pe_op op_mod (pe_callTy call_int1 (by rfl) T.b_int (by decide +kernel) (pa_cons (pe_op op_fdiv (pe_op op_mod (pe_callTy call_int1 (by rfl) T.b_int (by decide +kernel) (pa_cons (pe_op op_mul (pe_ix (ix_seqK (K := K) rfl) (pv 0) pe_int (fun _ _ => rfl)) (pe_ix (ix_seqK (K := K) rfl) (pv 0) pe_int (fun _ _ => rfl))) pa_nil)) pe_int) pe_int) pa_nil)) (pv 1)))))), ?_⟩
    have g0 : PotAt H p := ⟨a, b, hp, ha, hb, hb2⟩
    repeat walk_at "s1"
    refine ite2 (fun c => ?_) fun c => ?_
    · have c' : 0 < a := of_decide_eq_true c
      repeat walk_at "s1"
      rename_i q hq
      exact k _ _ (Int.emod_nonneg _ (by omega)) (Int.emod_lt_of_pos _ hn) (((Go.refl g0).new hq).put (Int.ediv_nonneg ha (by omega)) hb hb2)
    · repeat walk_at "s1"
      exact k _ _ (Int.emod_nonneg _ (by omega)) (Int.emod_lt_of_pos _ hn) ((Go.refl g0).put ha (Int.emod_nonneg _ (by decide)) (by have := Int.emod_lt_of_pos (b * 48271 + 7035) (show (0 : Int) < 2147483563 by decide); show (b * 48271 + 7035) % 2147483563 < _; omega))
theorem ok_pot (F : Fun K "_law_pot" "_law_pot" s_law_pot f fd) (hm : mg "_law_pot" = some (.ref f)) (T : Txt K mg) : Nm P w K mg base CX0 1 "_law_pot" s_law_pot ["_law_script", "_law_k"] (spPot K) := by
  refine nm_of F hm sc_law_pot (fun vs H Q E h => ?_) fun cdv A outer s H vs Q E hr h => ?_
  · unfold spPot at h
    obtain ⟨a, ns, k, rfl, _⟩ := h
    rfl
  · unfold spPot at h
    obtain ⟨a, ns, k, rfl, hS, hl, hk, hk2, kk⟩ := h
    refine ⟨_, (pss_cons (ps_set (i := 2) sc_law_pot.nd rfl (by first | exact Or.inl rfl | exact Or.inr rfl) (pe_op op_add (pe_op op_mul pe_int (pv 1)) pe_int))
      (pss_cons (ps_if (pt_cmpR op_lt (pv 1) (pe_callB (call_lenK (K := K) rfl) (by rfl) T.b_len PySem.boot_len (pa_cons (pv 0) pa_nil)) (nomark _)) (pss_one (ps_set (i := 2) sc_law_pot.nd rfl (by first | exact Or.inl rfl | exact Or.inr rfl) (pe_callB call_abs (by rfl) T.b_abs (by decide +kernel) (pa_cons (pe_ix (ix_seqK (K := K) rfl) (pv 0) (pv 1) (fun _ _ => rfl)) pa_nil)))) pss_nil)
      (pss_one (ps_ret (pe_lst (pa_cons (pe_callB (call_max2 rfl) (by rfl) T.b_max (by decide +kernel) (pa_cons pe_int (pa_cons (pe_op op_sub (pv 2) (pe_op op_pow pe_int pe_int)) pa_nil))) (pa_cons (pe_op op_add (pe_op op_mod (pe_callTy call_int1 (by rfl) T.b_int (by decide +kernel) (pa_cons (pe_op op_add (pe_op op_add (pe_op op_mul (pe_op op_mod (pe_callTy call_int1 (by rfl) T.b_int (by decide +kernel) (pa_cons (pv 2) pa_nil)) pe_int) pe_int) (pe_op op_mul pe_int (pv 1))) pe_int) pa_nil)) pe_int) pe_int) pa_nil))))))), ?_⟩
    repeat walk_at "s1"
    refine ite2 (fun c => ?_) fun c => ?_
    · have c' : k < (ns.length : Int) := by have := of_decide_eq_true c; rw [List.length_map] at this; exact this
      have hat : atI (ns.map V.int) k = some (.int (ns.getD k.toNat 0)) := by
        obtain ⟨j, rfl⟩ := Int.eq_ofNat_of_zero_le hk
        have hj : j < ns.length := by omega
        refine atI_nat ?_
        simp [List.getElem?_map, hj, List.getD]
      iterate 30 (try walk_at "s1")
      refine kk _ _ (by assumption) ⟨_, _, upd_same, ?_, ?_, ?_⟩ fun b o e => updn (nonn (by assumption) e) e
      · exact max0
      · show (0 : Int) ≤ (_ : Int) % 2147483587 + 1
        have := Int.emod_nonneg ((if ns.getD k.toNat 0 < 0 then -ns.getD k.toNat 0 else ns.getD k.toNat 0) % 2147483629 * 48271 + 7013 * k + 61) (show (2147483587 : Int) ≠ 0 by decide)
        omega
      · show (_ : Int) % 2147483587 + 1 < 2147483648
        have := Int.emod_lt_of_pos ((if ns.getD k.toNat 0 < 0 then -ns.getD k.toNat 0 else ns.getD k.toNat 0) % 2147483629 * 48271 + 7013 * k + 61) (show (0 : Int) < 2147483587 by decide)
        omega
    · iterate 30 (try walk_at "s1")
      refine kk _ _ (by assumption) ⟨_, _, upd_same, ?_, ?_, ?_⟩ fun b o e => updn (nonn (by assumption) e) e
      · exact max0
      · show (0 : Int) ≤ (_ : Int) % 2147483587 + 1
        have := Int.emod_nonneg ((43 * k + 23) % 2147483629 * 48271 + 7013 * k + 61) (show (2147483587 : Int) ≠ 0 by decide)
        omega
      · show (_ : Int) % 2147483587 + 1 < 2147483648
        have := Int.emod_lt_of_pos ((43 * k + 23) % 2147483629 * 48271 + 7013 * k + 61) (show (0 : Int) < 2147483587 by decide)
        omega
theorem ok_among (F : Fun K "_law_among" "_law_among" s_law_among f fd) (hm : mg "_law_among" = some (.ref f)) (T : Txt K mg) (c_law_draw : Nm P w K mg base CX0 1 "_law_draw" s_law_draw ["_law_pot_here", "_law_many"] spDraw) :
    Nm P w K mg base CX0 2 "_law_among" s_law_among ["_law_pot_here", "_law_some"] (spAmong K) := by
  refine nm_of F hm sc_law_among (fun vs H Q E h => ?_) fun cdv A outer s H vs Q E hr h => ?_
  · unfold spAmong at h
    obtain ⟨p, x, rfl, _⟩ := h
    rfl
  · unfold spAmong at h
    obtain ⟨p, x, rfl, hp, h⟩ := h
    refine ⟨_, (pss_one (ps_ret (pe_ix (ix_seqK (K := K) rfl) (pv 1) (pe_g c_law_draw hr (by decide) L2.pass0 bp_law_draw (by rfl) (pa_cons (pv 0) (pa_cons (pe_callB (call_lenK (K := K) rfl) (by rfl) T.b_len PySem.boot_len (pa_cons (pv 1) pa_nil)) pa_nil))) (fun _ _ => rfl)))), ?_⟩
    rcases h with ⟨a, xs, rfl, na, hS, l0, l1, k⟩ | ⟨z, rfl, l0, l1, k⟩
    · iterate 4 walk_at "s1"
      refine draw_go hp (by omega) (by omega) fun d H' h0 h1 g => ?_
      obtain ⟨v, hv, hat⟩ := atI_ok (xs := xs) h0 h1
      exact Or.inl ⟨_, _, _, _, rfl, rfl, g.lst na hS, hat, k v hv H' g⟩
    · iterate 4 walk_at "s1"
      refine draw_go hp (by omega) (by omega) fun d H' h0 h1 g => ?_
      obtain ⟨c, hc, hat⟩ := atI_ok (xs := z.cps.toList) h0 (by rw [Array.length_toList]; exact h1)
      exact Or.inr (Or.inr ⟨_, _, c, rfl, rfl, szl (by omega), hat, k c hc H' g⟩)
theorem ok_bits (F : Fun K "_law_bits" "_law_bits" s_law_bits f fd) (hm : mg "_law_bits" = some (.ref f)) (T : Txt K mg) (c_law_draw : Nm P w K mg base CX0 1 "_law_draw" s_law_draw ["_law_pot_here", "_law_many"] spDraw)
    (c_law_among : Nm P w K mg base CX0 2 "_law_among" s_law_among ["_law_pot_here", "_law_some"] (spAmong K)) :
    Nm P w K mg base CX0 3 "_law_bits" s_law_bits ["_law_pot_here", "_law_least", "_law_most"] spBits := by
  refine nm_of F hm sc_law_bits (fun vs H Q E h => ?_) fun cdv A outer s H vs Q E hr h => ?_
  · unfold spBits at h
    obtain ⟨p, lo, hi, rfl, _⟩ := h
    rfl
  · unfold spBits at h
    obtain ⟨p, lo, hi, rfl, hp, h0, h1, h2, k⟩ := h
    refine ⟨_, (pss_one (ps_ret (pe_join pe_str (pe_lc (own := [("_law_turn", 3)]) (g := (gName 3)) (by rfl) sc_law_bits.nd (pi_range1 (by rfl) T.b_range (pa_cons (pe_op op_add (pv 1) (pe_g c_law_draw hr (by decide) L2.pass0 bp_law_draw (by rfl) (pa_cons (pv 0) (pa_cons (pe_op op_add (pe_op op_sub (pv 2) (pv 1)) pe_int) pa_nil)))) pa_nil)) (blkOk_by (own := [("_law_turn", 3)]) (N := ["_law_pot_here", "_law_least", "_law_most", "_law_turn"]) (sc := defScope s_law_bits) (by decide +kernel)) (fun _ _ _ _ _ => (pg_name (i := 3) sc_law_bits.nd rfl (by first | exact Or.inl rfl | exact Or.inr rfl))) (fun _ _ _ _ _ => pts_nil) (fun _ _ _ _ _ => (pe_g c_law_among hr (by decide) L2.pass0 bp_law_among (by rfl) (pa_cons (pv 0) (pa_cons pe_str pa_nil)))))))), ?_⟩
    refine ⟨⟨_, rfl⟩, ?_⟩
    iterate 6 (try walk_at "s1")
    refine draw_go hp (by omega) (by omega) fun d H1 d0 d1 g => ?_
    have d1' : d < hi - lo + 1 := d1
    iterate 2 (try walk_at "s1")
    refine ⟨by show -(2 ^ 62) ≤ lo + d; omega, by show lo + d < 2 ^ 62; omega, fun D nD => ?_⟩
    have nDp : D ≠ p := g.pot.ne nD
    refine lc_it walk_range (fun i H => ∃ zs : List Nat, H D = some (.lst ((zs.map sg).map V.str)) ∧ zs.length = i ∧ (∀ c ∈ zs, c = 48 ∨ c = 49) ∧ Go p H1 H) ⟨[], upd_same, rfl, (fun c hc => by cases hc), (Go.refl g.pot).new nD⟩ (fun _ _ _ _ => trivial) ?_ ?_
    · rintro i x H2 H3 hi ⟨zs, hD, hl, hz, g2⟩ ⟨rfl, rfl⟩
      refine ⟨rfl, ?_⟩
      dsimp only [tYes]
      rw [if_pos rfl]
      walk_at "s1"
      refine among_s g2.pot (by decide) (by decide) fun c hc H4 g3 => ?_
      refine ⟨_, g3.kp hD nDp, szt (by rw [List.length_map, List.length_map, hl]; have := d1'; omega), zs ++ [c], ?_, ?_, ?_, (g2.trans g3).mut nD nDp⟩
      · rw [upd_same, List.map_append, List.map_append]; rfl
      · rw [List.length_append, hl]; rfl
      · intro e he
        rcases List.mem_append.mp he with he | he
        · exact hz e he
        · rw [List.mem_singleton] at he
          subst he
          have : e ∈ [48, 49] := hc
          simpa using this
    · rintro H2 ⟨zs, hD, hl, hz, g2⟩
      have hn : ((lo + d - 0).toNat : Int) = lo + d := by omega
      refine ⟨_, _, zs.map sg, rfl, rfl, Or.inl (SqL.of hD), ?_, ?_⟩
      · rw [sum_sg, List.length_map]
        show zs.length + zs.length * 0 ≤ _
        omega
      · show Q (.str (Txt.join "" (zs.map sg))) H2
        rw [join_sg]
        refine k _ _ hz ?_ ?_ (g.trans g2)
        · rw [SX.S_len]; omega
        · rw [SX.S_len]; omega
end
open PySem PySem.Spec PyProof.Rows
open L2 hiding pass0
abbrev s_law_letters : Stmt := top 22
theorem sc_law_letters : FnScope ["_law_pot_here", "_law_least", "_law_most", "_law_letters_here", "_law_turn"] ["_law_pot_here", "_law_least", "_law_most"] (defScope s_law_letters) := ⟨rfl, rfl, rfl, by decide +kernel, rfl, by decide +kernel, by decide +kernel⟩
theorem bp_law_letters : BndP "_law_letters" s_law_letters ["_law_pot_here", "_law_least", "_law_most"] := fun _ _ _ _ _ _ us h => match us, h with | [_, _, _], _ => rfl
abbrev s_law_mixed_in : Stmt := top 23
theorem sc_law_mixed_in : FnScope ["_law_pot_here", "_law_text", "_law_signs", "_law_at"] ["_law_pot_here", "_law_text", "_law_signs"] (defScope s_law_mixed_in) := ⟨rfl, rfl, rfl, by decide +kernel, rfl, by decide +kernel, by decide +kernel⟩
theorem bp_law_mixed_in : BndP "_law_mixed_in" s_law_mixed_in ["_law_pot_here", "_law_text", "_law_signs"] := fun _ _ _ _ _ _ us h => match us, h with | [_, _, _], _ => rfl
/-! ### texts -/
def Low (z : Str) : Prop := ∀ c ∈ z.cps.toList, c < 128
@[irreducible] def spLetters : Sp := fun vs H Q _ => ∃ (p : Addr) (lo hi : Int), vs = [.ref p, .int lo, .int hi] ∧ PotAt H p ∧ 0 ≤ lo ∧ lo ≤ hi ∧ hi ≤ 1000 ∧
  ∀ (z : Str) H', Low z → lo ≤ (z.length : Int) → (z.length : Int) ≤ hi → Go p H H' → Q (.str z) H'
@[irreducible] def spMixed : Sp := fun vs H Q _ => ∃ (p : Addr) (t g : Str), vs = [.ref p, .str t, .str g] ∧ PotAt H p ∧ t.length ≤ 1000 ∧ Low t ∧ Low g ∧ 0 < g.length ∧ g.length ≤ 1000 ∧
  ∀ (z : Str) H', Low z → z.length = t.length + 1 → Go p H H' → Q (.str z) H'
theorem cutS_len (z : Str) (a b : Option Int) : (cutS z a b).length ≤ z.length := by
  show (List.toArray _).size ≤ z.cps.size
  rw [List.size_toArray, List.length_take, List.length_drop, Array.length_toList]
  omega
theorem cut_to (z : Str) {d : Int} (h : 0 ≤ d) : cutS z none (some d) = SX.S (z.cps.toList.take d.toNat) := by
  obtain ⟨j, rfl⟩ := Int.eq_ofNat_of_zero_le h
  show SX.S _ = SX.S _
  refine congrArg SX.S ?_
  show (z.cps.toList.drop 0).take (HT.sIx z.length z.length (some (j : Int)) - 0) = z.cps.toList.take j
  rw [HT.sIx_nat, List.drop_zero, Nat.sub_zero]
  have hl : z.cps.toList.length = z.length := Array.length_toList
  by_cases c : j ≤ z.length
  · rw [Nat.min_eq_left c]
  · rw [List.take_of_length_le (by omega), List.take_of_length_le (by omega)]
theorem cut_from (z : Str) {d : Int} (h : 0 ≤ d) : cutS z (some d) none = SX.S (z.cps.toList.drop d.toNat) := by
  obtain ⟨j, rfl⟩ := Int.eq_ofNat_of_zero_le h
  show SX.S _ = SX.S _
  refine congrArg SX.S ?_
  show (z.cps.toList.drop (HT.sIx z.length 0 (some (j : Int)))).take (z.length - HT.sIx z.length 0 (some (j : Int))) = z.cps.toList.drop j
  rw [HT.sIx_nat]
  have hl : z.cps.toList.length = z.length := Array.length_toList
  by_cases c : j ≤ z.length
  · rw [Nat.min_eq_left c, List.take_of_length_le (by rw [List.length_drop]; omega)]
  · rw [Nat.min_eq_right (by omega), List.drop_of_length_le (by omega), List.drop_of_length_le (by omega), List.take_nil]
theorem Bits.low {z : Str} (h : Bits z) : Low z := fun c hc => by
  have := h c hc
  omega
section
variable {p : Addr} {lo hi : Int} {H : Hp} {Q : VK} {E : XK} {t g : Str}
theorem letters_go (hp : PotAt H p) (h0 : 0 ≤ lo) (h1 : lo ≤ hi) (h2 : hi ≤ 1000) (q : ∀ (z : Str) H', Low z → lo ≤ (z.length : Int) → (z.length : Int) ≤ hi → Go p H H' → Q (.str z) H') : spLetters [.ref p, .int lo, .int hi] H Q E := by
  unfold spLetters
  exact ⟨p, lo, hi, rfl, hp, h0, h1, h2, q⟩
theorem mixed_go (hp : PotAt H p) (h0 : t.length ≤ 1000) (h1 : Low t) (h2 : Low g) (h3 : 0 < g.length) (h4 : g.length ≤ 1000) (q : ∀ (z : Str) H', Low z → z.length = t.length + 1 → Go p H H' → Q (.str z) H') : spMixed [.ref p, .str t, .str g] H Q E := by
  unfold spMixed
  exact ⟨p, t, g, rfl, hp, h0, h1, h2, h3, h4, q⟩
end
section
variable {P : Program} {w : World} {K : PySem.W.Frag} {mg : Str → Option Value} {base : Heap} {f : Addr} {fd : FuncData}
theorem ok_letters (F : Fun K "_law_letters" "_law_letters" s_law_letters f fd) (hm : mg "_law_letters" = some (.ref f)) (T : Txt K mg) (c_law_draw : Nm P w K mg base CX0 1 "_law_draw" s_law_draw ["_law_pot_here", "_law_many"] spDraw) :
    Nm P w K mg base CX0 3 "_law_letters" s_law_letters ["_law_pot_here", "_law_least", "_law_most"] spLetters := by
  refine nm_of F hm sc_law_letters (fun vs H Q E h => ?_) fun cdv A outer s H vs Q E hr h => ?_
  · unfold spLetters at h
    obtain ⟨p, lo, hi, rfl, _⟩ := h
    rfl
  · unfold spLetters at h
    obtain ⟨p, lo, hi, rfl, hp, h0, h1, h2, k⟩ := h
    refine ⟨_, (pss_cons (ps_set (i := 3) sc_law_letters.nd rfl (by first | exact Or.inl rfl | exact Or.inr rfl) pe_str)
      (pss_one (ps_ret (pe_join pe_str (pe_lc (own := [("_law_turn", 4)]) (g := (gName 4)) (by rfl) sc_law_letters.nd (pi_range1 (by rfl) T.b_range (pa_cons (pe_op op_add (pv 1) (pe_g c_law_draw hr (by decide) L2.pass0 bp_law_draw (by rfl) (pa_cons (pv 0) (pa_cons (pe_op op_add (pe_op op_sub (pv 2) (pv 1)) pe_int) pa_nil)))) pa_nil)) (blkOk_by (own := [("_law_turn", 4)]) (N := ["_law_pot_here", "_law_least", "_law_most", "_law_letters_here", "_law_turn"]) (sc := defScope s_law_letters) (by decide +kernel)) (fun _ _ _ _ _ => (pg_name (i := 4) sc_law_letters.nd rfl (by first | exact Or.inl rfl | exact Or.inr rfl))) (fun _ _ _ _ _ => pts_nil) (fun _ _ _ _ _ => (pe_ix (ix_seqK (K := K) rfl) (pv 3) (pe_g c_law_draw hr (by decide) L2.pass0 bp_law_draw (by rfl) (pa_cons (pv 0) (pa_cons pe_int pa_nil))) (fun _ _ => rfl)))))))), ?_⟩
    refine ⟨⟨_, rfl⟩, ?_⟩
    iterate 6 (try walk_at "s1")
    refine draw_go hp (by omega) (by omega) fun d H1 d0 d1 g => ?_
    have d1' : d < hi - lo + 1 := d1
    iterate 2 (try walk_at "s1")
    refine ⟨by show -(2 ^ 62) ≤ lo + d; omega, by show lo + d < 2 ^ 62; omega, fun D nD => ?_⟩
    have nDp : D ≠ p := g.pot.ne nD
    refine lc_it walk_range (fun i H => ∃ zs : List Nat, H D = some (.lst ((zs.map sg).map V.str)) ∧ zs.length = i ∧ (∀ c ∈ zs, c < 128) ∧ Go p H1 H) ⟨[], upd_same, rfl, (fun c hc => by cases hc), (Go.refl g.pot).new nD⟩ (fun _ _ _ _ => trivial) ?_ ?_
    · rintro i x H2 H3 hi ⟨zs, hD, hl, hz, g2⟩ ⟨rfl, rfl⟩
      refine ⟨rfl, ?_⟩
      dsimp only [tYes]
      rw [if_pos rfl]
      repeat walk_at "s1"
      refine draw_go g2.pot (by decide) (by decide) fun e H4 e0 e1 g3 => ?_
      obtain ⟨c, hc, hat⟩ := atI_ok (xs := ("abcdefghijklmnopqrstuvwxyz" : Str).cps.toList) e0 e1
      refine Or.inr (Or.inr ⟨_, _, c, rfl, rfl, szl (by decide), hat, ?_⟩)
      refine ⟨_, g3.kp hD nDp, szt (by rw [List.length_map, List.length_map, hl]; have := d1'; omega), zs ++ [c], ?_, ?_, ?_, (g2.trans g3).mut nD nDp⟩
      · rw [upd_same, List.map_append, List.map_append]; rfl
      · rw [List.length_append, hl]; rfl
      · intro e he
        rcases List.mem_append.mp he with he | he
        · exact hz e he
        · rw [List.mem_singleton] at he
          subst he
          have h9 : ∀ x ∈ ("abcdefghijklmnopqrstuvwxyz" : Str).cps.toList, x < 128 := by decide +kernel
          exact h9 e hc
    · rintro H2 ⟨zs, hD, hl, hz, g2⟩
      have hn : ((lo + d - 0).toNat : Int) = lo + d := by omega
      refine ⟨_, _, zs.map sg, rfl, rfl, Or.inl (SqL.of hD), ?_, ?_⟩
      · rw [sum_sg, List.length_map]
        show zs.length + zs.length * 0 ≤ _
        omega
      · show Q (.str (Txt.join "" (zs.map sg))) H2
        rw [join_sg]
        refine k _ _ hz ?_ ?_ (g.trans g2)
        · rw [SX.S_len]; omega
        · rw [SX.S_len]; omega
theorem ok_mixed (F : Fun K "_law_mixed_in" "_law_mixed_in" s_law_mixed_in f fd) (hm : mg "_law_mixed_in" = some (.ref f)) (T : Txt K mg) (c_law_draw : Nm P w K mg base CX0 1 "_law_draw" s_law_draw ["_law_pot_here", "_law_many"] spDraw) :
    Nm P w K mg base CX0 2 "_law_mixed_in" s_law_mixed_in ["_law_pot_here", "_law_text", "_law_signs"] spMixed := by
  refine nm_of F hm sc_law_mixed_in (fun vs H Q E h => ?_) fun cdv A outer s H vs Q E hr h => ?_
  · unfold spMixed at h
    obtain ⟨p, t, g, rfl, _⟩ := h
    rfl
  · unfold spMixed at h
    obtain ⟨p, t, g, rfl, hp, h0, h1, h2, h3, h4, k⟩ := h
    refine ⟨_, (pss_cons (ps_set (i := 3) sc_law_mixed_in.nd rfl (by first | exact Or.inl rfl | exact Or.inr rfl) (pe_g c_law_draw hr (by decide) L2.pass0 bp_law_draw (by rfl) (pa_cons (pv 0) (pa_cons (pe_op op_add (pe_callB (call_lenK (K := K) rfl) (by rfl) T.b_len PySem.boot_len (pa_cons (pv 1) pa_nil)) pe_int) pa_nil))))
      (pss_one (ps_ret (pe_op op_add_str (pe_op op_add_str (pe_slice sl_str (pv 1) po_none (po_some (pv 3))) (pe_ix (ix_seqK (K := K) rfl) (pv 2) (pe_g c_law_draw hr (by decide) L2.pass0 bp_law_draw (by rfl) (pa_cons (pv 0) (pa_cons (pe_callB (call_lenK (K := K) rfl) (by rfl) T.b_len PySem.boot_len (pa_cons (pv 2) pa_nil)) pa_nil))) (fun _ _ => rfl))) (pe_slice sl_str (pv 1) (po_some (pv 3)) po_none))))), ?_⟩
    repeat walk_at "s1"
    refine draw_go hp (by omega) (by omega) fun d H1 d0 d1 g1 => ?_
    have l1 := cutS_len t none (some d)
    have l2 := cutS_len t (some d) none
    repeat walk_at "s1"
    refine draw_go g1.pot (by omega) (by omega) fun e H2 e0 e1 g2 => ?_
    obtain ⟨c, hc, hat⟩ := atI_ok (xs := g.cps.toList) e0 (by rw [Array.length_toList]; exact e1)
    refine Or.inr (Or.inr ⟨_, _, c, rfl, rfl, szl (by omega), hat, ?_⟩)
    refine ⟨_, _, rfl, rfl, szl (by show _ + 1 ≤ _; omega), ?_⟩
    have z1 := cut_to t d0
    have z2 := cut_from t d0
    have zz : cutS t none (some d) ++ ({ cps := #[c] } : Str) ++ cutS t (some d) none = SX.S (t.cps.toList.take d.toNat ++ [c] ++ t.cps.toList.drop d.toNat) := by
      rw [z1, z2]
      show SX.S _ ++ SX.S [c] ++ SX.S _ = _
      rw [SX.S_cat, SX.S_cat]
    have zl : (SX.S (t.cps.toList.take d.toNat ++ [c] ++ t.cps.toList.drop d.toNat)).length = t.length + 1 := by
      rw [SX.S_len, List.length_append, List.length_append, List.length_take, List.length_drop, Array.length_toList]
      show min d.toNat t.length + 1 + (t.length - d.toNat) = t.length + 1
      omega
    repeat walk_at "s1"
    refine And.intro ?_ ?_
    · have : (cutS t none (some d) ++ ({ cps := #[c] } : Str)).length = (cutS t none (some d)).length + 1 := by
        rw [z1]
        show (SX.S _ ++ SX.S [c]).length = _
        rw [SX.S_cat, SX.S_len, SX.S_len, List.length_append]
        rfl
      rw [this]
      exact szl (by omega)
    · rw [zz]
      refine k _ _ (fun y hy => ?_) zl (g1.trans g2)
      have hy' : y ∈ t.cps.toList.take d.toNat ++ [c] ++ t.cps.toList.drop d.toNat := hy
      rw [List.mem_append, List.mem_append, List.mem_singleton] at hy'
      rcases hy' with (hy' | rfl) | hy'
      · exact h1 y (List.mem_of_mem_take hy')
      · exact h2 y hc
      · exact h1 y (List.mem_of_mem_drop hy')
end
open PySem PySem.Spec PyProof.Rows
open L2 hiding pass0
abbrev s_law_value : Stmt := top 24
theorem sc_law_value : FnScope ["_law_pot_here", "_law_span", "_law_way"] ["_law_pot_here", "_law_span"] (defScope s_law_value) := ⟨rfl, rfl, rfl, by decide +kernel, rfl, by decide +kernel, by decide +kernel⟩
theorem bp_law_value : BndP "_law_value" s_law_value ["_law_pot_here", "_law_span"] := fun _ _ _ _ _ _ us h => match us, h with | [_, _], _ => rfl
/-! ### values of all kinds -/
inductive GoodD (H : Hp) : V → PyData → Prop
  | int {i : Int} (h : i.natAbs < 10000000000000000000000000000000) : GoodD H (.int i) (.int i)
  | bl (b : Bool) : GoodD H (.bl b) (.bool b)
  | non : GoodD H .non .none
  | str {z : Str} (h : Low z) (l : z.length ≤ 200) : GoodD H (.str z) (.str z)
  | lst0 {a : Addr} (e : H a = some (.lst [])) : GoodD H (.ref a) (.list [])
  | lstS {a : Addr} (e : H a = some (.lst [.str "0"])) : GoodD H (.ref a) (.list [.str "0"])
  | lstI {a : Addr} (e : H a = some (.lst [.int 1])) : GoodD H (.ref a) (.list [.int 1])
  | tup0 {a : Addr} (e : H a = some (.tup [])) : GoodD H (.ref a) (.tuple [])
  | tup1 {a : Addr} (e : H a = some (.tup [.str "01"])) : GoodD H (.ref a) (.tuple [.str "01"])
  | dct0 {a : Addr} (e : H a = some (.dK [])) : GoodD H (.ref a) (.dict [])
  | dct1 {a : Addr} (e : H a = some (.dK [(Sum.inr "0", .int 1)])) : GoodD H (.ref a) (.dict [(.str "0", .int 1)])
@[irreducible] def spValue : Sp := fun vs H Q _ => ∃ (p : Addr) (n : Int), vs = [.ref p, .int n] ∧ PotAt H p ∧ 1 ≤ n ∧ n ≤ 100 ∧ ∀ v d H', GoodD H' v d → Go p H H' → Q v H'
theorem value_go {p : Addr} {n : Int} {H : Hp} {Q : VK} {E : XK} (hp : PotAt H p) (h0 : 1 ≤ n) (h1 : n ≤ 100) (q : ∀ v d H', GoodD H' v d → Go p H H' → Q v H') : spValue [.ref p, .int n] H Q E := by
  unfold spValue
  exact ⟨p, n, rfl, hp, h0, h1, q⟩
theorem lowOf {z : Str} (h : (z.cps.toList.all fun c => decide (c < 128)) = true) : Low z := fun c hc => of_decide_eq_true (List.all_eq_true.mp h c hc)
section
variable {P : Program} {w : World} {K : PySem.W.Frag} {mg : Str → Option Value} {base : Heap} {f : Addr} {fd : FuncData}
theorem ok_value (F : Fun K "_law_value" "_law_value" s_law_value f fd) (hm : mg "_law_value" = some (.ref f)) (T : Txt K mg) (c_law_draw : Nm P w K mg base CX0 1 "_law_draw" s_law_draw ["_law_pot_here", "_law_many"] spDraw)
    (c_law_among : Nm P w K mg base CX0 2 "_law_among" s_law_among ["_law_pot_here", "_law_some"] (spAmong K)) (c_law_bits : Nm P w K mg base CX0 3 "_law_bits" s_law_bits ["_law_pot_here", "_law_least", "_law_most"] spBits)
    (c_law_letters : Nm P w K mg base CX0 3 "_law_letters" s_law_letters ["_law_pot_here", "_law_least", "_law_most"] spLetters) (c_law_mixed_in : Nm P w K mg base CX0 2 "_law_mixed_in" s_law_mixed_in ["_law_pot_here", "_law_text", "_law_signs"] spMixed) :
    Nm P w K mg base CX0 4 "_law_value" s_law_value ["_law_pot_here", "_law_span"] spValue := by
  refine nm_of F hm sc_law_value (fun vs H Q E h => ?_) fun cdv A outer s H vs Q E hr h => ?_
  · unfold spValue at h
    obtain ⟨p, n, rfl, _⟩ := h
    rfl
  · unfold spValue at h
    obtain ⟨p, n, rfl, hp, h0, h1, k⟩ := h
    have k' : ∀ {v d H'}, GoodD H' v d → Go p H H' → Q v H' := fun {v d H'} a b => k v d H' a b
    refine ⟨_, (pss_cons (ps_set (i := 2) sc_law_value.nd rfl (by first | exact Or.inl rfl | exact Or.inr rfl) (pe_g c_law_draw hr (by decide) L2.pass0 bp_law_draw (by rfl) (pa_cons (pv 0) (pa_cons pe_int pa_nil))))
      (pss_cons (ps_if (pt_cmpR op_eq (pv 2) pe_int (nomark _)) (pss_one (ps_ret (pe_g c_law_among hr (by decide) L2.pass0 bp_law_among (by rfl) (pa_cons (pv 0) (pa_cons (pe_lst (pa_cons pe_int (pa_cons pe_int (pa_cons pe_int (pa_cons pe_int (pa_cons pe_int (pa_cons pe_int (pa_cons (pe_un un_neg pe_int) (pa_cons (pe_op op_sub (pe_op op_pow pe_int pe_int) (pe_g c_law_draw hr (by decide) L2.pass0 bp_law_draw (by rfl) (pa_cons (pv 0) (pa_cons pe_int pa_nil)))) (pa_cons (pe_op op_sub pe_int (pe_op op_pow pe_int pe_int)) pa_nil)))))))))) pa_nil))))) pss_nil)
      (pss_cons (ps_if (pt_cmpR op_eq (pv 2) pe_int (nomark _)) (pss_one (ps_ret (pe_g c_law_among hr (by decide) L2.pass0 bp_law_among (by rfl) (pa_cons (pv 0) (pa_cons (pe_lst (pa_cons pe_bl (pa_cons pe_bl (pa_cons pe_non (pa_cons (pe_lst pa_nil) (pa_cons (pe_tup pa_nil) (pa_cons pe_dnewK (pa_cons (pe_lst (pa_cons pe_str pa_nil)) (pa_cons (pe_tup (pa_cons pe_str pa_nil)) (pa_cons (pe_disp (pps_cons pe_str pe_int pps_nil) (by rfl) (by rfl) (fun z => by cases z) (by decide)) (pa_cons (pe_lst (pa_cons pe_int pa_nil)) pa_nil))))))))))) pa_nil))))) pss_nil)
      (pss_cons (ps_if (pt_cmpR op_lt (pv 2) pe_int (nomark _)) (pss_one (ps_ret (pe_g c_law_bits hr (by decide) L2.pass0 bp_law_bits (by rfl) (pa_cons (pv 0) (pa_cons pe_int (pa_cons pe_int pa_nil)))))) pss_nil)
      (pss_cons (ps_if (pt_cmpR op_eq (pv 2) pe_int (nomark _)) (pss_one (ps_ret (pe_op op_add_str (pe_g c_law_bits hr (by decide) L2.pass0 bp_law_bits (by rfl) (pa_cons (pv 0) (pa_cons pe_int (pa_cons pe_int pa_nil)))) (pe_op op_mul_str (pe_ix (ix_seqK (K := K) rfl) pe_str (pe_g c_law_draw hr (by decide) L2.pass0 bp_law_draw (by rfl) (pa_cons (pv 0) (pa_cons pe_int pa_nil))) (fun _ _ => rfl)) (pe_op op_sub (pe_op op_add (pv 1) (pe_g c_law_draw hr (by decide) L2.pass0 bp_law_draw (by rfl) (pa_cons (pv 0) (pa_cons pe_int pa_nil)))) pe_int))))) pss_nil)
      (pss_cons (ps_if (pt_cmpR op_eq (pv 2) pe_int (nomark _)) (pss_one (ps_ret (pe_g c_law_bits hr (by decide) L2.pass0 bp_law_bits (by rfl) (pa_cons (pv 0) (pa_cons (pv 1) (pa_cons (pv 1) pa_nil)))))) pss_nil)
      (pss_cons (ps_if (pt_cmpR op_eq (pv 2) pe_int (nomark _)) (pss_one (ps_ret (pe_g c_law_mixed_in hr (by decide) L2.pass0 bp_law_mixed_in (by rfl) (pa_cons (pv 0) (pa_cons (pe_g c_law_bits hr (by decide) L2.pass0 bp_law_bits (by rfl) (pa_cons (pv 0) (pa_cons pe_int (pa_cons pe_int pa_nil)))) (pa_cons pe_str pa_nil)))))) pss_nil)
      (pss_cons (ps_if (pt_cmpR op_lt (pv 2) pe_int (nomark _)) (pss_one (ps_ret (pe_g c_law_letters hr (by decide) L2.pass0 bp_law_letters (by rfl) (pa_cons (pv 0) (pa_cons pe_int (pa_cons pe_int pa_nil)))))) pss_nil)
      (pss_cons (ps_if (pt_cmpR op_eq (pv 2) pe_int (nomark _)) (pss_one (ps_ret (pe_g c_law_mixed_in hr (by decide) L2.pass0 bp_law_mixed_in (by rfl) (pa_cons (pv 0) (pa_cons (pe_g c_law_letters hr (by decide) L2.pass0 bp_law_letters (by rfl) (pa_cons (pv 0) (pa_cons pe_int (pa_cons pe_int pa_nil)))) (pa_cons pe_str pa_nil)))))) pss_nil)
      (pss_one (ps_ret (pe_g c_law_among hr (by decide) L2.pass0 bp_law_among (by rfl) (pa_cons (pv 0) (pa_cons (pe_lst (pa_cons pe_str (pa_cons pe_str (pa_cons pe_str (pa_cons pe_str (pa_cons pe_str (pa_cons pe_str (pa_cons pe_str (pa_cons pe_str (pa_cons pe_str (pa_cons pe_str (pa_cons pe_str (pa_cons pe_str pa_nil))))))))))))) pa_nil)))))))))))))), ?_⟩
    repeat walk_at "s1"
    refine draw_go hp (by decide) (by decide) fun way H1 _ _ g1 => ?_
    repeat walk_at "s1"
    refine ite2 (fun _ => ?_) fun _ => ?_
    · repeat walk_at "s1"
      refine draw_go g1.pot (by decide) (by decide) fun e H2 e0 e1 g2 => ?_
      repeat walk_at "s1"
      have np := PotAt.ne g2.pot (by assumption)
      have e30 : (10 : Int) ^ Int.toNat 30 = 1000000000000000000000000000000 := by decide
      refine among_l (by walk_at "pot") np (SqL.of upd_same) (Nat.le_of_ble_eq_true rfl) (Nat.le_of_ble_eq_true rfl) fun v hv H3 g3 => ?_
      have gg : Go p H H3 := ((g1.trans g2).new (by assumption)).trans g3
      simp only [List.mem_cons, List.not_mem_nil, or_false] at hv
      rcases hv with rfl | rfl | rfl | rfl | rfl | rfl | rfl | rfl | rfl
      · exact k' (.int (by decide)) gg
      · exact k' (.int (by decide)) gg
      · exact k' (.int (by decide)) gg
      · exact k' (.int (by decide)) gg
      · exact k' (.int (by decide)) gg
      · exact k' (.int (by decide)) gg
      · exact k' (.int (by decide)) gg
      · exact k' (.int (by rw [e30]; omega)) gg
      · exact k' (.int (by rw [e30]; decide)) gg
    repeat walk_at "s1"
    refine ite2 (fun _ => ?_) fun _ => ?_
    · repeat walk_at "s1"
      refine ⟨[(Sum.inr "0", .int 1)], rfl, by decide, ?_⟩
      rw [upd_upd]
      repeat walk_at "s1"
      rename_i q1 n1 q2 n2 q3 n3 q4 n4 q5 n5 q6 n6 q7 n7 q8 n8
      have a1 := Go.new (o := HO.lst []) g1 n1
      have a2 := Go.new (o := HO.tup []) a1 n2
      have a3 := Go.new (o := HO.dK []) a2 n3
      have a4 := Go.new (o := HO.lst [V.str "0"]) a3 n4
      have a5 := Go.new (o := HO.tup [V.str "01"]) a4 n5
      have a6 := Go.new (o := HO.dK [(Sum.inr "0", .int 1)]) a5 n6
      have a7 := Go.new (o := HO.lst [V.int 1]) a6 n7
      have e1 := g1.pot.ne n1
      have e2 := a1.pot.ne n2
      have e3 := a2.pot.ne n3
      have e4 := a3.pot.ne n4
      have e5 := a4.pot.ne n5
      have e6 := a5.pot.ne n6
      have e7 := a6.pot.ne n7
      have e8 := a7.pot.ne n8
      refine among_l (a7.new n8).pot e8 (SqL.of upd_same) (Nat.le_of_ble_eq_true rfl) (Nat.le_of_ble_eq_true rfl) fun v hv H3 g3 => ?_
      have gg : Go p H H3 := (a7.new n8).trans g3
      clear a1 a2 a3 a4 a5 a6 a7
      simp only [List.mem_cons, List.not_mem_nil, or_false] at hv
      rcases hv with rfl | rfl | rfl | rfl | rfl | rfl | rfl | rfl | rfl | rfl
      · exact k' (.bl true) gg
      · exact k' (.bl false) gg
      · exact k' .non gg
      · exact k' (.lst0 (g3.kp (by walk_at "hp") e1)) gg
      · exact k' (.tup0 (g3.kp (by walk_at "hp") e2)) gg
      · exact k' (.dct0 (g3.kp (by walk_at "hp") e3)) gg
      · exact k' (.lstS (g3.kp (by walk_at "hp") e4)) gg
      · exact k' (.tup1 (g3.kp (by walk_at "hp") e5)) gg
      · exact k' (.dct1 (g3.kp (by walk_at "hp") e6)) gg
      · exact k' (.lstI (g3.kp (by walk_at "hp") e7)) gg
    repeat walk_at "s1"
    refine ite2 (fun _ => ?_) fun _ => ?_
    · repeat walk_at "s1"
      refine bits_go g1.pot (by decide) (by decide) (by decide) fun z H3 hz _ hl g3 => ?_
      exact k' (.str hz.low (by omega)) (g1.trans g3)
    repeat walk_at "s1"
    refine ite2 (fun _ => ?_) fun _ => ?_
    · repeat walk_at "s1"
      refine bits_go g1.pot (by decide) (by decide) (by decide) fun z H3 hz _ hl g3 => ?_
      repeat walk_at "s1"
      refine draw_go g3.pot (by decide) (by decide) fun d H4 d0 d1 g4 => ?_
      obtain ⟨c, hc, hat⟩ := atI_ok (xs := ("01" : Str).cps.toList) d0 d1
      refine Or.inr (Or.inr ⟨_, _, c, rfl, rfl, szl (by decide), hat, ?_⟩)
      repeat walk_at "s1"
      refine draw_go g4.pot (by decide) (by decide) fun e H5 e0 e1 g5 => ?_
      repeat walk_at "s1"
      have hz0 : z.length = 0 := by omega
      have er : (List.replicate (n + e - 1).toNat ((⟨#[c]⟩ : Str).cps.toList)).flatten = List.replicate (n + e - 1).toNat c := by
        show (List.replicate (n + e - 1).toNat [c]).flatten = _
        induction (n + e - 1).toNat with
        | zero => rfl
        | succ m ih => rw [List.replicate_succ, List.flatten_cons, ih]; rfl
      refine ⟨(by show 1 ≤ 1000; decide), by omega, by omega, ?_⟩
      have cat : z ++ (⟨(List.replicate (n + e - 1).toNat ((⟨#[c]⟩ : Str).cps.toList)).flatten.toArray⟩ : Str) = SX.S (z.cps.toList ++ List.replicate (n + e - 1).toNat c) := by
        rw [er, ← SX.S_cat, SX.S_tl]
      have hl2 : (SX.S (z.cps.toList ++ List.replicate (n + e - 1).toNat c)).length ≤ 200 := by
        rw [SX.S_len, List.length_append, List.length_replicate, Array.length_toList]
        show z.length + _ ≤ 200
        omega
      refine ⟨_, _, rfl, rfl, szl ?_, ?_⟩
      · show z.length + (List.toArray _).size ≤ _
        rw [er, List.size_toArray, List.length_replicate]
        omega
      · have fin : Q (.str (z ++ (⟨(List.replicate (n + e - 1).toNat ((⟨#[c]⟩ : Str).cps.toList)).flatten.toArray⟩ : Str))) H5 := by
          rw [cat]
          refine k' (.str (fun y hy => ?_) hl2) (((g1.trans g3).trans g4).trans g5)
          have hy' : y ∈ z.cps.toList ++ List.replicate (n + e - 1).toNat c := hy
          rcases List.mem_append.mp hy' with hy' | hy'
          · exact hz.low y hy'
          · have := (List.mem_replicate.mp hy').2
            subst this
            have h9 : ∀ x ∈ ("01" : Str).cps.toList, x < 128 := by decide +kernel
            exact h9 y hc
        exact fin
    repeat walk_at "s1"
    refine ite2 (fun _ => ?_) fun _ => ?_
    · repeat walk_at "s1"
      refine bits_go g1.pot (by omega) (by omega) (by omega) fun z H3 hz _ hl g3 => ?_
      exact k' (.str hz.low (by omega)) (g1.trans g3)
    repeat walk_at "s1"
    refine ite2 (fun _ => ?_) fun _ => ?_
    · repeat walk_at "s1"
      refine bits_go g1.pot (by decide) (by decide) (by decide) fun z H3 hz _ hl g3 => ?_
      repeat walk_at "s1"
      refine mixed_go g3.pot (by omega) hz.low (lowOf (by decide +kernel)) (by decide) (by decide) fun y H4 hy hl2 g4 => ?_
      exact k' (.str hy (by omega)) ((g1.trans g3).trans g4)
    repeat walk_at "s1"
    refine ite2 (fun _ => ?_) fun _ => ?_
    · repeat walk_at "s1"
      refine letters_go g1.pot (by decide) (by decide) (by decide) fun z H3 hz _ hl g3 => ?_
      exact k' (.str hz (by omega)) (g1.trans g3)
    repeat walk_at "s1"
    refine ite2 (fun _ => ?_) fun _ => ?_
    · repeat walk_at "s1"
      refine letters_go g1.pot (by decide) (by decide) (by decide) fun z H3 hz _ hl g3 => ?_
      repeat walk_at "s1"
      refine mixed_go g3.pot (by omega) hz (lowOf (by decide +kernel)) (by decide) (by decide) fun y H4 hy hl2 g4 => ?_
      exact k' (.str hy (by omega)) ((g1.trans g3).trans g4)
    repeat walk_at "s1"
    rename_i q n1
    refine among_l (g1.new n1).pot (g1.pot.ne n1) (SqL.of upd_same) (Nat.le_of_ble_eq_true rfl) (Nat.le_of_ble_eq_true rfl) fun v hv H3 g3 => ?_
    have gg : Go p H H3 := (g1.new n1).trans g3
    simp only [List.mem_cons, List.not_mem_nil, or_false] at hv
    rcases hv with rfl | rfl | rfl | rfl | rfl | rfl | rfl | rfl | rfl | rfl | rfl | rfl <;> exact k' (.str (lowOf (by decide +kernel)) (by decide +kernel)) gg
end
open PySem PySem.Spec PyProof.Rows
open L2 hiding pass0
abbrev s_is_count : Stmt := top 9
theorem sc_is_count : FnScope ["value"] ["value"] (defScope s_is_count) := ⟨rfl, rfl, rfl, by decide +kernel, rfl, by decide +kernel, by decide +kernel⟩
theorem bp_is_count : BndP "is_count" s_is_count ["value"] := fun _ _ _ _ _ _ us h => match us, h with | [_], _ => rfl
abbrev s_is_width : Stmt := top 10
theorem sc_is_width : FnScope ["value"] ["value"] (defScope s_is_width) := ⟨rfl, rfl, rfl, by decide +kernel, rfl, by decide +kernel, by decide +kernel⟩
theorem bp_is_width : BndP "is_width" s_is_width ["value"] := fun _ _ _ _ _ _ us h => match us, h with | [_], _ => rfl
abbrev s_is_bits : Stmt := top 11
theorem sc_is_bits : FnScope ["value", "bit"] ["value"] (defScope s_is_bits) := ⟨rfl, rfl, rfl, by decide +kernel, rfl, by decide +kernel, by decide +kernel⟩
theorem bp_is_bits : BndP "is_bits" s_is_bits ["value"] := fun _ _ _ _ _ _ us h => match us, h with | [_], _ => rfl
abbrev s_is_name : Stmt := top 12
theorem sc_is_name : FnScope ["value", "letter"] ["value"] (defScope s_is_name) := ⟨rfl, rfl, rfl, by decide +kernel, rfl, by decide +kernel, by decide +kernel⟩
theorem bp_is_name : BndP "is_name" s_is_name ["value"] := fun _ _ _ _ _ _ us h => match us, h with | [_], _ => rfl
abbrev s_is_goal : Stmt := top 13
theorem sc_is_goal : FnScope ["value"] ["value"] (defScope s_is_goal) := ⟨rfl, rfl, rfl, by decide +kernel, rfl, by decide +kernel, by decide +kernel⟩
theorem bp_is_goal : BndP "is_goal" s_is_goal ["value"] := fun _ _ _ _ _ _ us h => match us, h with | [_], _ => rfl
abbrev s_check_width : Stmt := top 16
theorem sc_check_width : FnScope ["width"] ["width"] (defScope s_check_width) := ⟨rfl, rfl, rfl, by decide +kernel, rfl, by decide +kernel, by decide +kernel⟩
theorem bp_check_width : BndP "check_width" s_check_width ["width"] := fun _ _ _ _ _ _ us h => match us, h with | [_], _ => rfl
abbrev s_is_stretch : Stmt := top 15
theorem sc_is_stretch : FnScope ["width", "value"] ["width", "value"] (defScope s_is_stretch) := ⟨rfl, rfl, rfl, by decide +kernel, rfl, by decide +kernel, by decide +kernel⟩
theorem bp_is_stretch : BndP "is_stretch" s_is_stretch ["width", "value"] := fun _ _ _ _ _ _ us h => match us, h with | [_, _], _ => rfl
abbrev s_is_address : Stmt := top 14
theorem sc_is_address : FnScope ["width", "value"] ["width", "value"] (defScope s_is_address) := ⟨rfl, rfl, rfl, by decide +kernel, rfl, by decide +kernel, by decide +kernel⟩
theorem bp_is_address : BndP "is_address" s_is_address ["width", "value"] := fun _ _ _ _ _ _ us h => match us, h with | [_, _], _ => rfl
abbrev s_law_is_bits : Stmt := top 25
theorem sc_law_is_bits : FnScope ["_law_thing", "_law_sign"] ["_law_thing"] (defScope s_law_is_bits) := ⟨rfl, rfl, rfl, by decide +kernel, rfl, by decide +kernel, by decide +kernel⟩
theorem bp_law_is_bits : BndP "_law_is_bits" s_law_is_bits ["_law_thing"] := fun _ _ _ _ _ _ us h => match us, h with | [_], _ => rfl
abbrev s_law_is_name : Stmt := top 26
theorem sc_law_is_name : FnScope ["_law_thing", "_law_sign"] ["_law_thing"] (defScope s_law_is_name) := ⟨rfl, rfl, rfl, by decide +kernel, rfl, by decide +kernel, by decide +kernel⟩
theorem bp_law_is_name : BndP "_law_is_name" s_law_is_name ["_law_thing"] := fun _ _ _ _ _ _ us h => match us, h with | [_], _ => rfl
/-- the constants of the text -/
structure Con11 (K : PySem.W.Frag) (mg : Str → Option Value) where
  c_MOST_WIDTH : ∃ u, mg "MOST_WIDTH" = some u ∧ RelV (.int 100) u
  c_MOST_LETTERS : ∃ u, mg "MOST_LETTERS" = some u ∧ RelV (.int 6) u
  c_LETTERS : ∃ u, mg "LETTERS" = some u ∧ RelV (.str "abcdefghijklmnopqrstuvwxyz") u
  aN : Addr
  c_NO_NAMES : ∃ u, mg "NO_NAMES" = some u ∧ RelV (.ref aN) u
  tN : ∀ H, SqT K H aN [.str "home", .str "hole", .str "ring", .str "all", .str "none"]
  aE : Addr
  c_ENDS : ∃ u, mg "ENDS" = some u ∧ RelV (.ref aE) u
  tE : ∀ H, SqT K H aE [.str "home", .str "hole"]
/-! ### kinds -/
def tyN : PyData → String
  | .none => "NoneType"
  | .bool _ => "bool"
  | .int _ => "int"
  | .str _ => "str"
  | .list _ => "list"
  | .tuple _ => "tuple"
  | .dict _ => "dict"
theorem GoodD.ty {K : PySem.W.Frag} {H : Hp} {x : V} {d : PyData} (g : GoodD H x d) : TyX K H x (.type (tyN d)) := by
  cases g with
  | int h => exact .base (.int _)
  | bl b => exact .base (.bl b)
  | non => exact .base .non
  | str h l => exact .base (.str _)
  | lst0 e => exact .base (.lst e)
  | lstS e => exact .base (.lst e)
  | lstI e => exact .base (.lst e)
  | tup0 e => exact .base (.tup e)
  | tup1 e => exact .base (.tup e)
  | dct0 e => exact .base (.dK e)
  | dct1 e => exact .base (.dK e)
theorem isi_go {K : PySem.W.Frag} {H : Hp} {Q : VK} {x : V} {d : PyData} {T : String} {b : Bool} (g : GoodD H x d) (h : kitB (tyN d) T = some b) (q : Q (.bl b) H) : rIsi K [x, .ty T] H Q :=
  ⟨x, .ty T, _, _, b, rfl, .ty T, g.ty, kit_ty h, q⟩
/-- of which kind -/
inductive KindV (x : V) (d : PyData) : Prop
  | int {i : Int} (e : x = .int i) (f : d = .int i)
  | bl {b : Bool} (e : x = .bl b) (f : d = .bool b)
  | str {z : Str} (e : x = .str z) (f : d = .str z) (h : Low z) (l : z.length ≤ 200)
  | oth (e : x = .non ∨ ∃ a, x = .ref a) (h1 : kitB (tyN d) "int" = some false) (h2 : kitB (tyN d) "bool" = some false) (h3 : kitB (tyN d) "str" = some false)
theorem GoodD.kind {H : Hp} {x : V} {d : PyData} (g : GoodD H x d) : KindV x d := by
  cases g with
  | int h => exact .int rfl rfl
  | bl b => exact .bl rfl rfl
  | non => exact .oth (.inl rfl) (by decide +kernel) (by decide +kernel) (by decide +kernel)
  | str h l => exact .str rfl rfl h l
  | lst0 e => exact .oth (.inr ⟨_, rfl⟩) (by decide +kernel) (by decide +kernel) (by decide +kernel)
  | lstS e => exact .oth (.inr ⟨_, rfl⟩) (by decide +kernel) (by decide +kernel) (by decide +kernel)
  | lstI e => exact .oth (.inr ⟨_, rfl⟩) (by decide +kernel) (by decide +kernel) (by decide +kernel)
  | tup0 e => exact .oth (.inr ⟨_, rfl⟩) (by decide +kernel) (by decide +kernel) (by decide +kernel)
  | tup1 e => exact .oth (.inr ⟨_, rfl⟩) (by decide +kernel) (by decide +kernel) (by decide +kernel)
  | dct0 e => exact .oth (.inr ⟨_, rfl⟩) (by decide +kernel) (by decide +kernel) (by decide +kernel)
  | dct1 e => exact .oth (.inr ⟨_, rfl⟩) (by decide +kernel) (by decide +kernel) (by decide +kernel)
theorem kb_ii (i : Int) : kitB (tyN (.int i)) "int" = some true := by show kitB "int" "int" = _; decide +kernel
theorem kb_ib (i : Int) : kitB (tyN (.int i)) "bool" = some false := by show kitB "int" "bool" = _; decide +kernel
theorem kb_is (i : Int) : kitB (tyN (.int i)) "str" = some false := by show kitB "int" "str" = _; decide +kernel
theorem kb_bi (b : Bool) : kitB (tyN (.bool b)) "int" = some true := by show kitB "bool" "int" = _; decide +kernel
theorem kb_bb (b : Bool) : kitB (tyN (.bool b)) "bool" = some true := by show kitB "bool" "bool" = _; decide +kernel
theorem kb_bs (b : Bool) : kitB (tyN (.bool b)) "str" = some false := by show kitB "bool" "str" = _; decide +kernel
theorem kb_si (b : Str) : kitB (tyN (.str b)) "int" = some false := by show kitB "str" "int" = _; decide +kernel
theorem kb_ss (b : Str) : kitB (tyN (.str b)) "str" = some true := by show kitB "str" "str" = _; decide +kernel
/-! ### what is told of a value -/
def cV : V → Bool
  | .int i => decide (0 ≤ i)
  | _ => false
def wV : V → Bool
  | .int i => decide (1 ≤ i) && decide (i ≤ 100)
  | _ => false
def bV : V → Bool
  | .str z => z.cps.toList.all fun c => decide (c ∈ ("01" : Str).cps.toList)
  | _ => false
def nV : V → Bool
  | .str z => decide (1 ≤ (z.length : Int)) && decide ((z.length : Int) ≤ 6) && !inV (.str z) [.str "home", .str "hole", .str "ring", .str "all", .str "none"] && z.cps.toList.all fun c => decide (c ∈ ("abcdefghijklmnopqrstuvwxyz" : Str).cps.toList)
  | _ => false
def gV : V → Bool
  | .str z => nV (.str z) || inV (.str z) [.str "home", .str "hole"]
  | _ => false
def aV (w : Int) : V → Bool
  | .str z => bV (.str z) && decide ((z.length : Int) = w)
  | _ => false
def sV (w : Int) : V → Bool
  | .str z => bV (.str z) && decide ((z.length : Int) ≤ w)
  | _ => false
@[irreducible] def spB (g : V → Bool) : Sp := fun vs H Q _ => ∃ x d, vs = [x] ∧ GoodD H x d ∧ ∀ H', Same H H' → Q (.bl (g x)) H'
@[irreducible] def spW (g : Int → V → Bool) : Sp := fun vs H Q _ => ∃ w x d, vs = [.int w, x] ∧ 1 ≤ w ∧ w ≤ 100 ∧ GoodD H x d ∧ ∀ H', Same H H' → Q (.bl (g w x)) H'
@[irreducible] def spC : Sp := fun vs H Q _ => ∃ w : Int, vs = [.int w] ∧ 1 ≤ w ∧ w ≤ 100 ∧ ∀ H', Same H H' → Q .non H'
section
variable {g : V → Bool} {g2 : Int → V → Bool} {x : V} {d : PyData} {w : Int} {H : Hp} {Q : VK} {E : XK}
theorem b_go (h : GoodD H x d) (q : ∀ H', Same H H' → Q (.bl (g x)) H') : spB g [x] H Q E := by
  unfold spB
  exact ⟨x, d, rfl, h, q⟩
theorem w_go (h0 : 1 ≤ w) (h1 : w ≤ 100) (h : GoodD H x d) (q : ∀ H', Same H H' → Q (.bl (g2 w x)) H') : spW g2 [.int w, x] H Q E := by
  unfold spW
  exact ⟨w, x, d, rfl, h0, h1, h, q⟩
theorem c_go (h0 : 1 ≤ w) (h1 : w ≤ 100) (q : ∀ H', Same H H' → Q .non H') : spC [.int w] H Q E := by
  unfold spC
  exact ⟨w, rfl, h0, h1, q⟩
end
section
variable {P : Program} {w : World} {K : PySem.W.Frag} {mg : Str → Option Value} {base : Heap} {f : Addr} {fd : FuncData}
theorem ok_is_count (F : Fun K "is_count" "is_count" s_is_count f fd) (hm : mg "is_count" = some (.ref f)) (T : Txt K mg) : Nm P w K mg base CX0 1 "is_count" s_is_count ["value"] (spB cV) := by
  refine nm_of F hm sc_is_count (fun vs H Q E h => ?_) fun cdv A outer s H vs Q E hr h => ?_
  · unfold spB at h
    obtain ⟨x, d, rfl, _⟩ := h
    rfl
  · unfold spB at h
    obtain ⟨x, d, rfl, hg, k⟩ := h
    refine ⟨_, (pss_one (ps_ret (pe_and (pe_callB (call_isiK' (K := K) rfl) (by rfl) T.b_isinstance (by decide +kernel) (pa_cons (pv 0) (pa_cons (pe_ty "int" (by rfl) T.b_int (by decide +kernel)) pa_nil))) (pe_and (pe_not (pe_callB (call_isiK' (K := K) rfl) (by rfl) T.b_isinstance (by decide +kernel) (pa_cons (pv 0) (pa_cons (pe_ty "bool" (by rfl) T.b_bool (by decide +kernel)) pa_nil)))) (pe_one (pe_cmpR op_ge (pv 0) pe_int (nomark _))))))), ?_⟩
    repeat walk_at "s1"
    cases hg.kind with
    | int e f =>
      subst e f
      refine ⟨_, _, _, _, _, rfl, .ty _, hg.ty, kit_ty (kb_ii _), ?_⟩
      refine ⟨_, rfl, ?_⟩
      rw [if_pos rfl]
      repeat walk_at "s1"
      refine ⟨_, _, _, _, _, rfl, .ty _, hg.ty, kit_ty (kb_ib _), ?_⟩
      repeat walk_at "s1"
      exact k H (Same.refl H)
    | bl e f =>
      subst e f
      refine ⟨_, _, _, _, _, rfl, .ty _, hg.ty, kit_ty (kb_bi _), ?_⟩
      refine ⟨_, rfl, ?_⟩
      rw [if_pos rfl]
      repeat walk_at "s1"
      refine ⟨_, _, _, _, _, rfl, .ty _, hg.ty, kit_ty (kb_bb _), ?_⟩
      repeat walk_at "s1"
      rw [if_neg (by decide)]
      exact k H (Same.refl H)
    | str e f _ _ =>
      subst e f
      refine ⟨_, _, _, _, _, rfl, .ty _, hg.ty, kit_ty (kb_si _), ?_⟩
      refine ⟨_, rfl, ?_⟩
      rw [if_neg Bool.false_ne_true]
      exact k H (Same.refl H)
    | oth e h1 h2 h3 =>
      refine ⟨_, _, _, _, _, rfl, .ty _, hg.ty, kit_ty h1, ?_⟩
      refine ⟨_, rfl, ?_⟩
      rw [if_neg Bool.false_ne_true]
      rcases e with rfl | ⟨a, rfl⟩ <;> exact k H (Same.refl H)
theorem ok_is_width (F : Fun K "is_width" "is_width" s_is_width f fd) (hm : mg "is_width" = some (.ref f)) (T : Txt K mg) (C : Con11 K mg) (c_is_count : Nm P w K mg base CX0 1 "is_count" s_is_count ["value"] (spB cV)) : Nm P w K mg base CX0 2 "is_width" s_is_width ["value"] (spB wV) := by
  refine nm_of F hm sc_is_width (fun vs H Q E h => ?_) fun cdv A outer s H vs Q E hr h => ?_
  · unfold spB at h
    obtain ⟨x, d, rfl, _⟩ := h
    rfl
  · unfold spB at h
    obtain ⟨x, d, rfl, hg, k⟩ := h
    refine ⟨_, (pss_one (ps_ret (pe_and (pe_g c_is_count hr (by decide) L2.pass0 bp_is_count (by rfl) (pa_cons (pv 0) pa_nil)) (pe_one (pe_chain op_le op_le pe_int (pv 0) (pe_cst (by rfl) C.c_MOST_WIDTH)))))), ?_⟩
    repeat walk_at "s1"
    refine b_go hg fun H1 sm => ?_
    have hk := k H1 sm
    refine ⟨_, rfl, ?_⟩
    cases hg.kind with
    | @int z e f =>
      subst e f
      refine ite2 (fun c => ?_) fun c => ?_
      · repeat walk_at "s1"
        refine ite2 (fun c1 => ?_) fun c1 => ?_
        · repeat walk_at "s1"
          have e : wV (V.int _) = _ := show (decide _ && decide _) = _ by rw [decide_eq_true (of_decide_eq_true c1), Bool.true_and]
          rw [e] at hk
          exact hk
        · have e : wV (V.int _) = _ := show (decide _ && decide _) = _ by rw [Bool.eq_false_iff.mpr c1, Bool.false_and]
          rw [e] at hk
          exact hk
      · have c' : ¬ 0 ≤ z := fun q => c (decide_eq_true q)
        have e : wV (V.int z) = false := by show (decide _ && decide _) = false; rw [decide_eq_false (show ¬ 1 ≤ z by omega)]; rfl
        have e2 : cV (V.int z) = false := decide_eq_false c'
        rw [e] at hk
        exact hk
    | bl e f => subst e f; exact iteF hk
    | str e f _ _ => subst e f; exact iteF hk
    | oth e h1 h2 h3 => rcases e with rfl | ⟨a, rfl⟩ <;> exact iteF hk
theorem ok_check_width (F : Fun K "check_width" "check_width" s_check_width f fd) (hm : mg "check_width" = some (.ref f)) (T : Txt K mg) (C : Con11 K mg) (c_is_width : Nm P w K mg base CX0 2 "is_width" s_is_width ["value"] (spB wV)) : Nm P w K mg base CX0 3 "check_width" s_check_width ["width"] spC := by
  refine nm_of F hm sc_check_width (fun vs H Q E h => ?_) fun cdv A outer s H vs Q E hr h => ?_
  · unfold spC at h
    obtain ⟨x, rfl, _⟩ := h
    rfl
  · unfold spC at h
    obtain ⟨x, rfl, h0, h1, k⟩ := h
    refine ⟨_, (pss_one (ps_if (pt_not (pt_val (pe_g c_is_width hr (by decide) L2.pass0 bp_is_width (by rfl) (pa_cons (pv 0) pa_nil)))) (pss_one ps_never) pss_nil)), ?_⟩
    repeat walk_at "s1"
    refine b_go (d := .int x) (.int (by omega)) fun H1 sm => ?_
    repeat walk_at "s1"
    have e : wV (V.int x) = true := by simp [wV, h0, h1]
    rw [e]
    refine iteF ?_
    exact k H1 sm
theorem ok_is_bits (F : Fun K "is_bits" "is_bits" s_is_bits f fd) (hm : mg "is_bits" = some (.ref f)) (T : Txt K mg) (C : Con11 K mg) : Nm P w K mg base CX0 1 "is_bits" s_is_bits ["value"] (spB bV) := by
  refine nm_of F hm sc_is_bits (fun vs H Q E h => ?_) fun cdv A outer s H vs Q E hr h => ?_
  · unfold spB at h
    obtain ⟨x, d, rfl, _⟩ := h
    rfl
  · unfold spB at h
    obtain ⟨x, d, rfl, hg, k⟩ := h
    refine ⟨_, (pss_one (ps_ret (pe_and (pe_callB (call_isiK' (K := K) rfl) (by rfl) T.b_isinstance (by decide +kernel) (pa_cons (pv 0) (pa_cons (pe_ty "str" (by rfl) T.b_str (by decide +kernel)) pa_nil))) (pe_one (pe_callB (call_allK (K := K) rfl rfl) (by rfl) T.b_all (by decide +kernel) (pa_cons (pe_lc (own := [("bit", 1)]) (g := (gName 1)) (by rfl) sc_is_bits.nd (pi_str (pv 0)) (blkOk_by (own := [("bit", 1)]) (N := ["value", "bit"]) (sc := defScope s_is_bits) (by decide +kernel)) (fun _ _ _ _ _ => (pg_name (i := 1) sc_is_bits.nd rfl (by first | exact Or.inl rfl | exact Or.inr rfl))) (fun _ _ _ _ _ => pts_nil) (fun _ _ _ _ _ => (pe_cmpR op_in_sign (pv 1) pe_str rfl))) pa_nil)))))), ?_⟩
    repeat walk_at "s1"
    cases hg.kind with
    | int e f =>
      subst e f
      refine ⟨_, _, _, _, _, rfl, .ty _, hg.ty, kit_ty (kb_is _), ?_⟩
      refine ⟨_, rfl, ?_⟩
      rw [if_neg Bool.false_ne_true]
      exact k H (Same.refl H)
    | bl e f =>
      subst e f
      refine ⟨_, _, _, _, _, rfl, .ty _, hg.ty, kit_ty (kb_bs _), ?_⟩
      refine ⟨_, rfl, ?_⟩
      rw [if_neg Bool.false_ne_true]
      exact k H (Same.refl H)
    | oth e h1 h2 h3 =>
      refine ⟨_, _, _, _, _, rfl, .ty _, hg.ty, kit_ty h3, ?_⟩
      refine ⟨_, rfl, ?_⟩
      rw [if_neg Bool.false_ne_true]
      rcases e with rfl | ⟨a, rfl⟩ <;> exact k H (Same.refl H)
    | @str z e f hl hz =>
      subst e f
      refine ⟨_, _, _, _, _, rfl, .ty _, hg.ty, kit_ty (kb_ss _), ?_⟩
      refine ⟨_, rfl, ?_⟩
      rw [if_pos rfl]
      repeat walk_at "s1"
      rename_i D nD
      have hz' : z.cps.size ≤ 200 := hz
      refine lc_it walk_str (fun i H1 => H1 D = some (.lst (((z.cps.toList.take i).map fun c => decide (c ∈ ("01" : Str).cps.toList)).map V.bl)) ∧ Same H H1) ⟨upd_same, fun b o e => updn (nonn nD e) e⟩ (fun _ _ _ _ => trivial) ?_ ?_
      · rintro i x H1 H2 hi ⟨hD, sm⟩ ⟨rfl, c, hc, rfl⟩
        refine ⟨rfl, ?_⟩
        dsimp only [tYes]
        rw [if_pos rfl]
        repeat walk_at "s1"
        refine ⟨_, hD, szt (by rw [List.length_map, List.length_map, List.length_take]; omega), ?_, fun b o e => updn (nonn nD e) (sm b o e)⟩
        rw [upd_same, List.take_add_one, Array.getElem?_toList, hc, List.map_append, List.map_append]
        rfl
      · rintro H1 ⟨hD, sm⟩
        rw [List.take_of_length_le (by rw [Array.length_toList]; exact Nat.le_refl _)] at hD
        refine ⟨_, _, rfl, SqL.of hD, ?_⟩
        have hk := k H1 sm
        have e : bV (V.str z) = ((z.cps.toList.map fun c => decide (c ∈ ("01" : Str).cps.toList)).all id) := by rw [List.all_map]; rfl
        rw [e] at hk
        exact hk
theorem ok_is_name (F : Fun K "is_name" "is_name" s_is_name f fd) (hm : mg "is_name" = some (.ref f)) (T : Txt K mg) (C : Con11 K mg) : Nm P w K mg base CX0 1 "is_name" s_is_name ["value"] (spB nV) := by
  refine nm_of F hm sc_is_name (fun vs H Q E h => ?_) fun cdv A outer s H vs Q E hr h => ?_
  · unfold spB at h
    obtain ⟨x, d, rfl, _⟩ := h
    rfl
  · unfold spB at h
    obtain ⟨x, d, rfl, hg, k⟩ := h
    refine ⟨_, (pss_cons (ps_if (PW.pt (pw_or (pt_not (pt_val (pe_callB (call_isiK' (K := K) rfl) (by rfl) T.b_isinstance (by decide +kernel) (pa_cons (pv 0) (pa_cons (pe_ty "str" (by rfl) T.b_str (by decide +kernel)) pa_nil))))) (pw_or1 (pt_not (pt_chain op_le op_le pe_int (pe_callB (call_lenK (K := K) rfl) (by rfl) T.b_len PySem.boot_len (pa_cons (pv 0) pa_nil)) (pe_cst (by rfl) C.c_MOST_LETTERS)))))) (pss_one (ps_ret pe_bl)) pss_nil)
      (pss_one (ps_ret (pe_and (pe_cmpR (op_notInK (K := K) rfl) (pv 0) (pe_cst (by rfl) C.c_NO_NAMES) rfl) (pe_one (pe_callB (call_allK (K := K) rfl rfl) (by rfl) T.b_all (by decide +kernel) (pa_cons (pe_lc (own := [("letter", 1)]) (g := (gName 1)) (by rfl) sc_is_name.nd (pi_str (pv 0)) (blkOk_by (own := [("letter", 1)]) (N := ["value", "letter"]) (sc := defScope s_is_name) (by decide +kernel)) (fun _ _ _ _ _ => (pg_name (i := 1) sc_is_name.nd rfl (by first | exact Or.inl rfl | exact Or.inr rfl))) (fun _ _ _ _ _ => pts_nil) (fun _ _ _ _ _ => (pe_cmpR op_in_sign (pv 1) (pe_cst (by rfl) C.c_LETTERS) rfl))) pa_nil))))))), ?_⟩
    repeat walk_at "s1"
    cases hg.kind with
    | int e f =>
      subst e f
      refine ⟨_, _, _, _, _, rfl, .ty _, hg.ty, kit_ty (kb_is _), ?_⟩
      refine ⟨_, rfl, ?_⟩
      refine iteT ?_
      refine iteT ?_
      exact k H (Same.refl H)
    | bl e f =>
      subst e f
      refine ⟨_, _, _, _, _, rfl, .ty _, hg.ty, kit_ty (kb_bs _), ?_⟩
      refine ⟨_, rfl, ?_⟩
      refine iteT ?_
      refine iteT ?_
      exact k H (Same.refl H)
    | oth e h1 h2 h3 =>
      refine ⟨_, _, _, _, _, rfl, .ty _, hg.ty, kit_ty h3, ?_⟩
      refine ⟨_, rfl, ?_⟩
      refine iteT ?_
      refine iteT ?_
      rcases e with rfl | ⟨a, rfl⟩ <;> exact k H (Same.refl H)
    | @str z e f hl hz =>
      subst e f
      refine ⟨_, _, _, _, _, rfl, .ty _, hg.ty, kit_ty (kb_ss _), ?_⟩
      refine ⟨_, rfl, ?_⟩
      refine iteF ?_
      repeat walk_at "s1"
      refine ite2 (fun c1 => ?_) fun c1 => ?_
      · have c1' := of_decide_eq_true c1
        repeat walk_at "s1"
        by_cases c2 : (z.length : Int) ≤ 6
        · rw [decide_eq_true c2]
          refine iteF ?_
          repeat walk_at "s1"
          refine ⟨_, _, rfl, Or.inr (C.tN _), rfl, rfl, ?_⟩
          refine ⟨_, rfl, ?_⟩
          cases c3 : inV (V.str z) [.str "home", .str "hole", .str "ring", .str "all", .str "none"] with
          | true =>
            refine iteF ?_
            have hk := k H (Same.refl H)
            have e : nV (V.str z) = false := by
              show (decide _ && decide _ && !inV _ _ && _) = false
              rw [c3]
              simp
            rw [e] at hk
            exact hk
          | false =>
            refine iteT ?_
            repeat walk_at "s1"
            rename_i D nD
            have hz' : z.cps.size ≤ 200 := hz
            refine lc_it walk_str (fun i H1 => H1 D = some (.lst (((z.cps.toList.take i).map fun c => decide (c ∈ ("abcdefghijklmnopqrstuvwxyz" : Str).cps.toList)).map V.bl)) ∧ Same H H1) ⟨upd_same, fun b o e => updn (nonn nD e) e⟩ (fun _ _ _ _ => trivial) ?_ ?_
            · rintro i x H1 H2 hi ⟨hD, sm⟩ ⟨rfl, c, hc, rfl⟩
              refine ⟨rfl, ?_⟩
              dsimp only [tYes]
              rw [if_pos rfl]
              repeat walk_at "s1"
              refine ⟨_, hD, szt (by rw [List.length_map, List.length_map, List.length_take]; omega), ?_, fun b o e => updn (nonn nD e) (sm b o e)⟩
              rw [upd_same, List.take_add_one, Array.getElem?_toList, hc, List.map_append, List.map_append]
              rfl
            · rintro H1 ⟨hD, sm⟩
              rw [List.take_of_length_le (by rw [Array.length_toList]; exact Nat.le_refl _)] at hD
              refine ⟨_, _, rfl, SqL.of hD, ?_⟩
              have hk := k H1 sm
              have e : nV (V.str z) = ((z.cps.toList.map fun c => decide (c ∈ ("abcdefghijklmnopqrstuvwxyz" : Str).cps.toList)).all id) := by
                show (decide _ && decide _ && !inV _ _ && _) = _
                rw [c3, decide_eq_true c1', decide_eq_true c2, List.all_map]
                rfl
              rw [e] at hk
              exact hk
        · rw [decide_eq_false c2]
          refine iteT ?_
          have hk := k H (Same.refl H)
          have e : nV (V.str z) = false := by
            show (decide _ && decide _ && !inV _ _ && _) = false
            rw [decide_eq_false c2]
            simp
          rw [e] at hk
          exact hk
      · repeat walk_at "s1"
        refine iteT ?_
        have hk := k H (Same.refl H)
        have e : nV (V.str z) = false := by
          show (decide (1 ≤ (z.length : Int)) && decide _ && !inV _ _ && _) = false
          rw [Bool.eq_false_iff.mpr c1]
          simp
        rw [e] at hk
        exact hk
end
open PySem PySem.Spec PyProof.Rows
open L2 hiding pass0
theorem GoodD.same {H H' : Hp} {x : V} {d : PyData} (g : GoodD H x d) (s : Same H H') : GoodD H' x d := by
  cases g with
  | int h => exact .int h
  | bl b => exact .bl b
  | non => exact .non
  | str h l => exact .str h l
  | lst0 e => exact .lst0 (s _ _ e)
  | lstS e => exact .lstS (s _ _ e)
  | lstI e => exact .lstI (s _ _ e)
  | tup0 e => exact .tup0 (s _ _ e)
  | tup1 e => exact .tup1 (s _ _ e)
  | dct0 e => exact .dct0 (s _ _ e)
  | dct1 e => exact .dct1 (s _ _ e)
section
variable {P : Program} {w : World} {K : PySem.W.Frag} {mg : Str → Option Value} {base : Heap} {f : Addr} {fd : FuncData}
theorem ok_is_goal (F : Fun K "is_goal" "is_goal" s_is_goal f fd) (hm : mg "is_goal" = some (.ref f)) (T : Txt K mg) (C : Con11 K mg) (c_is_name : Nm P w K mg base CX0 1 "is_name" s_is_name ["value"] (spB nV)) : Nm P w K mg base CX0 2 "is_goal" s_is_goal ["value"] (spB gV) := by
  refine nm_of F hm sc_is_goal (fun vs H Q E h => ?_) fun cdv A outer s H vs Q E hr h => ?_
  · unfold spB at h
    obtain ⟨x, d, rfl, _⟩ := h
    rfl
  · unfold spB at h
    obtain ⟨x, d, rfl, hg, k⟩ := h
    refine ⟨_, (pss_one (ps_ret (pe_or (pe_g c_is_name hr (by decide) L2.pass0 bp_is_name (by rfl) (pa_cons (pv 0) pa_nil)) (pe_one (pe_and (pe_callB (call_isiK' (K := K) rfl) (by rfl) T.b_isinstance (by decide +kernel) (pa_cons (pv 0) (pa_cons (pe_ty "str" (by rfl) T.b_str (by decide +kernel)) pa_nil))) (pe_one (pe_cmpR (op_inK (K := K) rfl) (pv 0) (pe_cst (by rfl) C.c_ENDS) rfl))))))), ?_⟩
    repeat walk_at "s1"
    refine b_go hg fun H1 sm => ?_
    refine ⟨_, rfl, ?_⟩
    cases hg.kind with
    | int e f =>
      subst e f
      refine iteF ?_
      repeat walk_at "s1"
      refine ⟨_, _, _, _, _, rfl, .ty _, (hg.same sm).ty, kit_ty (kb_is _), ?_⟩
      refine ⟨_, rfl, ?_⟩
      refine iteF ?_
      exact k H1 sm
    | bl e f =>
      subst e f
      refine iteF ?_
      repeat walk_at "s1"
      refine ⟨_, _, _, _, _, rfl, .ty _, (hg.same sm).ty, kit_ty (kb_bs _), ?_⟩
      refine ⟨_, rfl, ?_⟩
      refine iteF ?_
      exact k H1 sm
    | oth e h1 h2 h3 =>
      have e0 : nV x = false := by rcases e with rfl | ⟨a, rfl⟩ <;> rfl
      rw [e0]
      refine iteF ?_
      repeat walk_at "s1"
      refine ⟨_, _, _, _, _, rfl, .ty _, (hg.same sm).ty, kit_ty h3, ?_⟩
      refine ⟨_, rfl, ?_⟩
      refine iteF ?_
      rcases e with rfl | ⟨a, rfl⟩ <;> exact k H1 sm
    | @str z e f hl hz =>
      subst e f
      have hk := k H1 sm
      cases c : nV (V.str z) with
      | true =>
        refine iteT ?_
        have e : gV (V.str z) = true := by show (nV _ || _) = true; rw [c]; rfl
        rw [e] at hk
        exact hk
      | false =>
        refine iteF ?_
        repeat walk_at "s1"
        refine ⟨_, _, _, _, _, rfl, .ty _, (hg.same sm).ty, kit_ty (kb_ss _), ?_⟩
        refine ⟨_, rfl, ?_⟩
        refine iteT ?_
        repeat walk_at "s1"
        refine ⟨_, _, rfl, Or.inr (C.tE _), rfl, rfl, ?_⟩
        have e : gV (V.str z) = inV (V.str z) [.str "home", .str "hole"] := by show (nV _ || _) = _; rw [c]; rfl
        rw [e] at hk
        exact hk
theorem ok_is_stretch (F : Fun K "is_stretch" "is_stretch" s_is_stretch f fd) (hm : mg "is_stretch" = some (.ref f)) (T : Txt K mg) (C : Con11 K mg) (c_check_width : Nm P w K mg base CX0 3 "check_width" s_check_width ["width"] spC) (c_is_bits : Nm P w K mg base CX0 1 "is_bits" s_is_bits ["value"] (spB bV)) : Nm P w K mg base CX0 4 "is_stretch" s_is_stretch ["width", "value"] (spW sV) := by
  refine nm_of F hm sc_is_stretch (fun vs H Q E h => ?_) fun cdv A outer s H vs Q E hr h => ?_
  · unfold spW at h
    obtain ⟨n, x, d, rfl, _⟩ := h
    rfl
  · unfold spW at h
    obtain ⟨n, x, d, rfl, h0, h1, hg, k⟩ := h
    refine ⟨_, (pss_cons (ps_expr (pe_g c_check_width hr (by decide) L2.pass0 bp_check_width (by rfl) (pa_cons (pv 0) pa_nil)))
      (pss_one (ps_ret (pe_and (pe_g c_is_bits hr (by decide) L2.pass0 bp_is_bits (by rfl) (pa_cons (pv 1) pa_nil)) (pe_one (pe_cmpR op_le (pe_callB (call_lenK (K := K) rfl) (by rfl) T.b_len PySem.boot_len (pa_cons (pv 1) pa_nil)) (pv 0) (nomark _))))))), ?_⟩
    repeat walk_at "s1"
    refine c_go h0 h1 fun H1 sm => ?_
    have hg1 := hg.same sm
    repeat walk_at "s1"
    refine b_go hg1 fun H2 sm2 => ?_
    have hk := k H2 (sm.trans sm2)
    refine ⟨_, rfl, ?_⟩
    cases hg.kind with
    | int e f =>
      subst e f
      exact iteF hk
    | bl e f =>
      subst e f
      exact iteF hk
    | oth e h1 h2 h3 =>
      rcases e with rfl | ⟨a, rfl⟩ <;> exact iteF hk
    | @str z e f hl hz =>
      subst e f
      cases c : bV (V.str z) with
      | true =>
        refine iteT ?_
        repeat walk_at "s1"
        have e : sV n (V.str z) = decide ((z.length : Int) ≤ n) := by show (bV _ && _) = _; rw [c]; rfl
        rw [e] at hk
        exact hk
      | false =>
        have e : sV n (V.str z) = false := by show (bV _ && _) = _; rw [c]; rfl
        rw [e] at hk
        exact iteF hk
theorem ok_is_address (F : Fun K "is_address" "is_address" s_is_address f fd) (hm : mg "is_address" = some (.ref f)) (T : Txt K mg) (C : Con11 K mg) (c_is_stretch : Nm P w K mg base CX0 4 "is_stretch" s_is_stretch ["width", "value"] (spW sV)) : Nm P w K mg base CX0 5 "is_address" s_is_address ["width", "value"] (spW aV) := by
  refine nm_of F hm sc_is_address (fun vs H Q E h => ?_) fun cdv A outer s H vs Q E hr h => ?_
  · unfold spW at h
    obtain ⟨n, x, d, rfl, _⟩ := h
    rfl
  · unfold spW at h
    obtain ⟨n, x, d, rfl, h0, h1, hg, k⟩ := h
    refine ⟨_, (pss_one (ps_ret (pe_and (pe_g c_is_stretch hr (by decide) L2.pass0 bp_is_stretch (by rfl) (pa_cons (pv 0) (pa_cons (pv 1) pa_nil))) (pe_one (pe_cmpR op_eq (pe_callB (call_lenK (K := K) rfl) (by rfl) T.b_len PySem.boot_len (pa_cons (pv 1) pa_nil)) (pv 0) (nomark _)))))), ?_⟩
    repeat walk_at "s1"
    refine w_go h0 h1 hg fun H2 sm2 => ?_
    have hk := k H2 sm2
    refine ⟨_, rfl, ?_⟩
    cases hg.kind with
    | int e f =>
      subst e f
      exact iteF hk
    | bl e f =>
      subst e f
      exact iteF hk
    | oth e h1 h2 h3 =>
      rcases e with rfl | ⟨a, rfl⟩ <;> exact iteF hk
    | @str z e f hl hz =>
      subst e f
      cases c : sV n (V.str z) with
      | true =>
        refine iteT ?_
        repeat walk_at "s1"
        have c' : (bV (V.str z) && decide ((z.length : Int) ≤ n)) = true := c
        have e : aV n (V.str z) = decide (V.int (z.length : Int) = V.int n) := by
          show (bV (V.str z) && decide ((z.length : Int) = n)) = _
          rw [Bool.and_eq_true] at c'
          rw [c'.1, Bool.true_and]
          exact decide_eq_decide.mpr ⟨fun q => by rw [q], fun q => V.int.inj q⟩
        rw [e] at hk
        exact hk
      | false =>
        have e : aV n (V.str z) = false := by
          have c' : (bV (V.str z) && decide ((z.length : Int) ≤ n)) = false := c
          show (bV (V.str z) && decide ((z.length : Int) = n)) = false
          cases b : bV (V.str z) with
          | false => rfl
          | true =>
            rw [b, Bool.true_and] at c'
            have := of_decide_eq_false c'
            rw [Bool.true_and]
            exact decide_eq_false (by omega)
        rw [e] at hk
        exact iteF hk
theorem ok_law_is_bits (F : Fun K "_law_is_bits" "_law_is_bits" s_law_is_bits f fd) (hm : mg "_law_is_bits" = some (.ref f)) (T : Txt K mg) : Nm P w K mg base CX0 1 "_law_is_bits" s_law_is_bits ["_law_thing"] (spB bV) := by
  refine nm_of F hm sc_law_is_bits (fun vs H Q E h => ?_) fun cdv A outer s H vs Q E hr h => ?_
  · unfold spB at h
    obtain ⟨x, d, rfl, _⟩ := h
    rfl
  · unfold spB at h
    obtain ⟨x, d, rfl, hg, k⟩ := h
    refine ⟨_, (pss_one (ps_ret (pe_and (pe_callB (call_isiK' (K := K) rfl) (by rfl) T.b_isinstance (by decide +kernel) (pa_cons (pv 0) (pa_cons (pe_ty "str" (by rfl) T.b_str (by decide +kernel)) pa_nil))) (pe_one (pe_callB (call_allK (K := K) rfl rfl) (by rfl) T.b_all (by decide +kernel) (pa_cons (pe_lc (own := [("_law_sign", 1)]) (g := (gName 1)) (by rfl) sc_law_is_bits.nd (pi_str (pv 0)) (blkOk_by (own := [("_law_sign", 1)]) (N := ["_law_thing", "_law_sign"]) (sc := defScope s_law_is_bits) (by decide +kernel)) (fun _ _ _ _ _ => (pg_name (i := 1) sc_law_is_bits.nd rfl (by first | exact Or.inl rfl | exact Or.inr rfl))) (fun _ _ _ _ _ => pts_nil) (fun _ _ _ _ _ => (pe_cmpR op_in_sign (pv 1) pe_str rfl))) pa_nil)))))), ?_⟩
    repeat walk_at "s1"
    cases hg.kind with
    | int e f =>
      subst e f
      refine ⟨_, _, _, _, _, rfl, .ty _, hg.ty, kit_ty (kb_is _), ?_⟩
      refine ⟨_, rfl, ?_⟩
      refine iteF ?_
      exact k H (Same.refl H)
    | bl e f =>
      subst e f
      refine ⟨_, _, _, _, _, rfl, .ty _, hg.ty, kit_ty (kb_bs _), ?_⟩
      refine ⟨_, rfl, ?_⟩
      refine iteF ?_
      exact k H (Same.refl H)
    | oth e h1 h2 h3 =>
      refine ⟨_, _, _, _, _, rfl, .ty _, hg.ty, kit_ty h3, ?_⟩
      refine ⟨_, rfl, ?_⟩
      refine iteF ?_
      rcases e with rfl | ⟨a, rfl⟩ <;> exact k H (Same.refl H)
    | @str z e f hl hz =>
      subst e f
      refine ⟨_, _, _, _, _, rfl, .ty _, hg.ty, kit_ty (kb_ss _), ?_⟩
      refine ⟨_, rfl, ?_⟩
      refine iteT ?_
      repeat walk_at "s1"
      rename_i D nD
      have hz' : z.cps.size ≤ 200 := hz
      refine lc_it walk_str (fun i H1 => H1 D = some (.lst (((z.cps.toList.take i).map fun c => decide (c ∈ ("01" : Str).cps.toList)).map V.bl)) ∧ Same H H1) ⟨upd_same, fun b o e => updn (nonn nD e) e⟩ (fun _ _ _ _ => trivial) ?_ ?_
      · rintro i x H1 H2 hi ⟨hD, sm⟩ ⟨rfl, c, hc, rfl⟩
        refine ⟨rfl, ?_⟩
        dsimp only [tYes]
        rw [if_pos rfl]
        repeat walk_at "s1"
        refine ⟨_, hD, szt (by rw [List.length_map, List.length_map, List.length_take]; omega), ?_, fun b o e => updn (nonn nD e) (sm b o e)⟩
        rw [upd_same, List.take_add_one, Array.getElem?_toList, hc, List.map_append, List.map_append]
        rfl
      · rintro H1 ⟨hD, sm⟩
        rw [List.take_of_length_le (by rw [Array.length_toList]; exact Nat.le_refl _)] at hD
        refine ⟨_, _, rfl, SqL.of hD, ?_⟩
        have hk := k H1 sm
        have e : bV (V.str z) = ((z.cps.toList.map fun c => decide (c ∈ ("01" : Str).cps.toList)).all id) := by rw [List.all_map]; rfl
        rw [e] at hk
        exact hk
theorem ok_law_is_name (F : Fun K "_law_is_name" "_law_is_name" s_law_is_name f fd) (hm : mg "_law_is_name" = some (.ref f)) (T : Txt K mg) : Nm P w K mg base CX0 1 "_law_is_name" s_law_is_name ["_law_thing"] (spB nV) := by
  refine nm_of F hm sc_law_is_name (fun vs H Q E h => ?_) fun cdv A outer s H vs Q E hr h => ?_
  · unfold spB at h
    obtain ⟨x, d, rfl, _⟩ := h
    rfl
  · unfold spB at h
    obtain ⟨x, d, rfl, hg, k⟩ := h
    refine ⟨_, (pss_cons (ps_if (PW.pt (pw_or (pt_not (pt_val (pe_callB (call_isiK' (K := K) rfl) (by rfl) T.b_isinstance (by decide +kernel) (pa_cons (pv 0) (pa_cons (pe_ty "str" (by rfl) T.b_str (by decide +kernel)) pa_nil))))) (pw_or (pt_not (pt_chain op_le op_le pe_int (pe_callB (call_lenK (K := K) rfl) (by rfl) T.b_len PySem.boot_len (pa_cons (pv 0) pa_nil)) pe_int)) (pw_or1 (pt_cmpR (op_inK (K := K) rfl) (pv 0) (pe_lst (pa_cons pe_str (pa_cons pe_str (pa_cons pe_str (pa_cons pe_str (pa_cons pe_str pa_nil)))))) rfl))))) (pss_one (ps_ret pe_bl)) pss_nil)
      (pss_one (ps_ret (pe_callB (call_allK (K := K) rfl rfl) (by rfl) T.b_all (by decide +kernel) (pa_cons (pe_lc (own := [("_law_sign", 1)]) (g := (gName 1)) (by rfl) sc_law_is_name.nd (pi_str (pv 0)) (blkOk_by (own := [("_law_sign", 1)]) (N := ["_law_thing", "_law_sign"]) (sc := defScope s_law_is_name) (by decide +kernel)) (fun _ _ _ _ _ => (pg_name (i := 1) sc_law_is_name.nd rfl (by first | exact Or.inl rfl | exact Or.inr rfl))) (fun _ _ _ _ _ => pts_nil) (fun _ _ _ _ _ => (pe_cmpR op_in_sign (pv 1) pe_str rfl))) pa_nil))))), ?_⟩
    repeat walk_at "s1"
    cases hg.kind with
    | int e f =>
      subst e f
      refine ⟨_, _, _, _, _, rfl, .ty _, hg.ty, kit_ty (kb_is _), ?_⟩
      refine ⟨_, rfl, ?_⟩
      refine iteT ?_
      refine iteT ?_
      exact k H (Same.refl H)
    | bl e f =>
      subst e f
      refine ⟨_, _, _, _, _, rfl, .ty _, hg.ty, kit_ty (kb_bs _), ?_⟩
      refine ⟨_, rfl, ?_⟩
      refine iteT ?_
      refine iteT ?_
      exact k H (Same.refl H)
    | oth e h1 h2 h3 =>
      refine ⟨_, _, _, _, _, rfl, .ty _, hg.ty, kit_ty h3, ?_⟩
      refine ⟨_, rfl, ?_⟩
      refine iteT ?_
      refine iteT ?_
      rcases e with rfl | ⟨a, rfl⟩ <;> exact k H (Same.refl H)
    | @str z e f hl hz =>
      subst e f
      refine ⟨_, _, _, _, _, rfl, .ty _, hg.ty, kit_ty (kb_ss _), ?_⟩
      refine ⟨_, rfl, ?_⟩
      refine iteF ?_
      repeat walk_at "s1"
      refine ite2 (fun c1 => ?_) fun c1 => ?_
      · have c1' := of_decide_eq_true c1
        repeat walk_at "s1"
        by_cases c2 : (z.length : Int) ≤ 6
        · rw [decide_eq_true c2]
          refine iteF ?_
          walk_at "s1"
          refine ⟨szl (Nat.le_of_ble_eq_true rfl), fun L nL => ?_⟩
          refine ⟨_, _, rfl, Or.inl (SqL.of upd_same), rfl, rfl, ?_⟩
          refine ⟨_, rfl, ?_⟩
          have sL : Same H (upd H L (.lst [.str "home", .str "hole", .str "ring", .str "all", .str "none"])) := fun b o e => updn (nonn nL e) e
          cases c3 : inV (V.str z) [.str "home", .str "hole", .str "ring", .str "all", .str "none"] with
          | true =>
            refine iteT ?_
            have hk := k _ sL
            have e : nV (V.str z) = false := by
              show (decide _ && decide _ && !inV _ _ && _) = false
              rw [c3]
              simp
            rw [e] at hk
            exact hk
          | false =>
            refine iteF ?_
            repeat walk_at "s1"
            rename_i D nD
            have hz' : z.cps.size ≤ 200 := hz
            refine lc_it walk_str (fun i H1 => H1 D = some (.lst (((z.cps.toList.take i).map fun c => decide (c ∈ ("abcdefghijklmnopqrstuvwxyz" : Str).cps.toList)).map V.bl)) ∧ Same (upd H L (.lst [.str "home", .str "hole", .str "ring", .str "all", .str "none"])) H1) ⟨upd_same, fun b o e => updn (nonn nD e) e⟩ (fun _ _ _ _ => trivial) ?_ ?_
            · rintro i x H1 H2 hi ⟨hD, sm⟩ ⟨rfl, c, hc, rfl⟩
              refine ⟨rfl, ?_⟩
              dsimp only [tYes]
              rw [if_pos rfl]
              repeat walk_at "s1"
              refine ⟨_, hD, szt (by rw [List.length_map, List.length_map, List.length_take]; omega), ?_, fun b o e => updn (nonn nD e) (sm b o e)⟩
              rw [upd_same, List.take_add_one, Array.getElem?_toList, hc, List.map_append, List.map_append]
              rfl
            · rintro H1 ⟨hD, sm⟩
              rw [List.take_of_length_le (by rw [Array.length_toList]; exact Nat.le_refl _)] at hD
              refine ⟨_, _, rfl, SqL.of hD, ?_⟩
              have hk := k H1 (sL.trans sm)
              have e : nV (V.str z) = ((z.cps.toList.map fun c => decide (c ∈ ("abcdefghijklmnopqrstuvwxyz" : Str).cps.toList)).all id) := by
                show (decide _ && decide _ && !inV _ _ && _) = _
                rw [c3, decide_eq_true c1', decide_eq_true c2, List.all_map]
                rfl
              rw [e] at hk
              exact hk
        · rw [decide_eq_false c2]
          refine iteT ?_
          have hk := k H (Same.refl H)
          have e : nV (V.str z) = false := by
            show (decide _ && decide _ && !inV _ _ && _) = false
            rw [decide_eq_false c2]
            simp
          rw [e] at hk
          exact hk
      · repeat walk_at "s1"
        refine iteT ?_
        have hk := k H (Same.refl H)
        have e : nV (V.str z) = false := by
          show (decide (1 ≤ (z.length : Int)) && decide _ && !inV _ _ && _) = false
          rw [Bool.eq_false_iff.mpr c1]
          simp
        rw [e] at hk
        exact hk
end
open PySem PySem.Spec PyProof.Rows
open L2 hiding pass0
abbrev s_law_due : Stmt := top 27
theorem sc_law_due : FnScope ["_law_span", "_law_thing", "_law_is_whole", "_law_is_bit_row", "_law_is_word", "_law_is_aim"] ["_law_span", "_law_thing"] (defScope s_law_due) := ⟨rfl, rfl, rfl, by decide +kernel, rfl, by decide +kernel, by decide +kernel⟩
theorem bp_law_due : BndP "_law_due" s_law_due ["_law_span", "_law_thing"] := fun _ _ _ _ _ _ us h => match us, h with | [_, _], _ => rfl
def dueV (w : Int) (x : V) : List V := [.bl (wV x), .bl (bV x), .bl (nV x), .bl (gV x), .bl (aV w x), .bl (sV w x)]
@[irreducible] def spDue : Sp := fun vs H Q _ => ∃ w x d, vs = [.int w, x] ∧ 1 ≤ w ∧ w ≤ 100 ∧ GoodD H x d ∧ ∀ a H', Same H H' → H' a = some (.lst (dueV w x)) → Q (.ref a) H'
theorem due_go {x : V} {d : PyData} {w : Int} {H : Hp} {Q : VK} {E : XK} (h0 : 1 ≤ w) (h1 : w ≤ 100) (h : GoodD H x d) (q : ∀ a H', Same H H' → H' a = some (.lst (dueV w x)) → Q (.ref a) H') : spDue [.int w, x] H Q E := by
  unfold spDue
  exact ⟨w, x, d, rfl, h0, h1, h, q⟩
section
variable {P : Program} {w : World} {K : PySem.W.Frag} {mg : Str → Option Value} {base : Heap} {f : Addr} {fd : FuncData}
theorem ok_law_due (F : Fun K "_law_due" "_law_due" s_law_due f fd) (hm : mg "_law_due" = some (.ref f)) (T : Txt K mg) (c_law_is_bits : Nm P w K mg base CX0 1 "_law_is_bits" s_law_is_bits ["_law_thing"] (spB bV)) (c_law_is_name : Nm P w K mg base CX0 1 "_law_is_name" s_law_is_name ["_law_thing"] (spB nV)) : Nm P w K mg base CX0 2 "_law_due" s_law_due ["_law_span", "_law_thing"] spDue := by
  refine nm_of F hm sc_law_due (fun vs H Q E h => ?_) fun cdv A outer s H vs Q E hr h => ?_
  · unfold spDue at h
    obtain ⟨n, x, d, rfl, _⟩ := h
    rfl
  · unfold spDue at h
    obtain ⟨n, x, d, rfl, h0, h1, hg, k⟩ := h
    refine ⟨_, (C8.pss_cut (ps_set (i := 2) sc_law_due.nd rfl (by first | exact Or.inl rfl | exact Or.inr rfl) (pe_and (pe_callB (call_isiK' (K := K) rfl) (by rfl) T.b_isinstance (by decide +kernel) (pa_cons (pv 1) (pa_cons (pe_ty "int" (by rfl) T.b_int (by decide +kernel)) pa_nil))) (pe_and (pe_not (pe_callB (call_isiK' (K := K) rfl) (by rfl) T.b_isinstance (by decide +kernel) (pa_cons (pv 1) (pa_cons (pe_ty "bool" (by rfl) T.b_bool (by decide +kernel)) pa_nil)))) (pe_one (pe_chain op_le op_le pe_int (pv 1) pe_int)))))
      (pss_cons (ps_set (i := 3) sc_law_due.nd rfl (by first | exact Or.inl rfl | exact Or.inr rfl) (pe_g c_law_is_bits hr (by decide) L2.pass0 bp_law_is_bits (by rfl) (pa_cons (pv 1) pa_nil)))
      (pss_cons (ps_set (i := 4) sc_law_due.nd rfl (by first | exact Or.inl rfl | exact Or.inr rfl) (pe_g c_law_is_name hr (by decide) L2.pass0 bp_law_is_name (by rfl) (pa_cons (pv 1) pa_nil)))
      (C8.pss_cut (ps_set (i := 5) sc_law_due.nd rfl (by first | exact Or.inl rfl | exact Or.inr rfl) (pe_or (pv 4) (pe_one (pe_and (pe_callB (call_isiK' (K := K) rfl) (by rfl) T.b_isinstance (by decide +kernel) (pa_cons (pv 1) (pa_cons (pe_ty "str" (by rfl) T.b_str (by decide +kernel)) pa_nil))) (pe_one (pe_cmpR (op_inK (K := K) rfl) (pv 1) (pe_lst (pa_cons pe_str (pa_cons pe_str pa_nil))) rfl))))))
      (pss_one (ps_ret (pe_lst (pa_cons (pv 2) (pa_cons (pv 3) (pa_cons (pv 4) (pa_cons (pv 5) (pa_cons (pe_and (pv 3) (pe_one (pe_cmpR op_eq (pe_callB (call_lenK (K := K) rfl) (by rfl) T.b_len PySem.boot_len (pa_cons (pv 1) pa_nil)) (pv 0) (nomark _)))) (pa_cons (pe_and (pv 3) (pe_one (pe_cmpR op_le (pe_callB (call_lenK (K := K) rfl) (by rfl) T.b_len PySem.boot_len (pa_cons (pv 1) pa_nil)) (pv 0) (nomark _)))) pa_nil))))))))))))), ?_⟩
    refine ⟨fun σ' H' => σ' = [some (.int n), some x, some (.bl (wV x)), none, none, none] ∧ H' = H, ?_, ?_⟩
    · walk_at "s1"
      cases hg.kind with
      | int e f =>
        subst e f
        refine ⟨_, _, _, _, _, rfl, .ty _, hg.ty, kit_ty (kb_ii _), ?_⟩
        refine ⟨_, rfl, ?_⟩
        refine iteT ?_
        repeat walk_at "s1"
        refine ⟨_, _, _, _, _, rfl, .ty _, hg.ty, kit_ty (kb_ib _), ?_⟩
        repeat walk_at "s1"
        refine ite2 (fun c => ?_) fun c => ?_
        · have c' := of_decide_eq_true c
          repeat walk_at "s1"
          refine ⟨?_, rfl⟩
          show [_, _, some (V.bl _), _, _, _] = [_, _, some (V.bl (decide _ && decide _)), _, _, _]
          rw [decide_eq_true c', Bool.true_and]
        · refine ⟨?_, rfl⟩
          show [_, _, some (V.bl _), _, _, _] = [_, _, some (V.bl (decide _ && decide _)), _, _, _]
          rw [Bool.eq_false_iff.mpr c, Bool.false_and]
      | bl e f =>
        subst e f
        refine ⟨_, _, _, _, _, rfl, .ty _, hg.ty, kit_ty (kb_bi _), ?_⟩
        refine ⟨_, rfl, ?_⟩
        refine iteT ?_
        repeat walk_at "s1"
        refine ⟨_, _, _, _, _, rfl, .ty _, hg.ty, kit_ty (kb_bb _), ?_⟩
        repeat walk_at "s1"
        rfl
      | str e f _ _ =>
        subst e f
        refine ⟨_, _, _, _, _, rfl, .ty _, hg.ty, kit_ty (kb_si _), ?_⟩
        refine ⟨_, rfl, ?_⟩
        refine iteF ?_
        exact ⟨rfl, rfl⟩
      | oth e a1 a2 a3 =>
        refine ⟨_, _, _, _, _, rfl, .ty _, hg.ty, kit_ty a1, ?_⟩
        refine ⟨_, rfl, ?_⟩
        refine iteF ?_
        rcases e with rfl | ⟨a, rfl⟩ <;> exact ⟨rfl, rfl⟩
    · rintro σ' H' ⟨rfl, rfl⟩
      repeat walk_at "s1"
      refine b_go hg fun H1 sm1 => ?_
      repeat walk_at "s1"
      refine b_go (hg.same sm1) fun H2 sm2 => ?_
      have g2 := (hg.same sm1).same sm2
      refine ⟨fun σ' H3 => σ' = [some (.int n), some x, some (.bl (wV x)), some (.bl (bV x)), some (.bl (nV x)), some (.bl (gV x))] ∧ Same H2 H3, ?_, ?_⟩
      · walk_at "s1"
        cases hg.kind with
        | int e f =>
          subst e f
          refine ⟨_, rfl, ?_⟩
          refine iteF ?_
          repeat walk_at "s1"
          refine ⟨_, _, _, _, _, rfl, .ty _, g2.ty, kit_ty (kb_is _), ?_⟩
          refine ⟨_, rfl, ?_⟩
          refine iteF ?_
          exact ⟨rfl, Same.refl _⟩
        | bl e f =>
          subst e f
          refine ⟨_, rfl, ?_⟩
          refine iteF ?_
          repeat walk_at "s1"
          refine ⟨_, _, _, _, _, rfl, .ty _, g2.ty, kit_ty (kb_bs _), ?_⟩
          refine ⟨_, rfl, ?_⟩
          refine iteF ?_
          exact ⟨rfl, Same.refl _⟩
        | oth e a1 a2 a3 =>
          have e0 : nV x = false := by rcases e with rfl | ⟨a, rfl⟩ <;> rfl
          have e1 : gV x = false := by rcases e with rfl | ⟨a, rfl⟩ <;> rfl
          refine ⟨_, rfl, ?_⟩
          rw [e0]
          refine iteF ?_
          repeat walk_at "s1"
          refine ⟨_, _, _, _, _, rfl, .ty _, g2.ty, kit_ty a3, ?_⟩
          refine ⟨_, rfl, ?_⟩
          refine iteF ?_
          rw [e1]
          exact ⟨rfl, Same.refl _⟩
        | @str z e f hl hz =>
          subst e f
          refine ⟨_, rfl, ?_⟩
          cases c : nV (V.str z) with
          | true =>
            refine iteT ?_
            have e : gV (V.str z) = true := by show (nV _ || _) = true; rw [c]; rfl
            rw [e]
            exact ⟨rfl, Same.refl _⟩
          | false =>
            refine iteF ?_
            repeat walk_at "s1"
            refine ⟨_, _, _, _, _, rfl, .ty _, g2.ty, kit_ty (kb_ss _), ?_⟩
            refine ⟨_, rfl, ?_⟩
            refine iteT ?_
            walk_at "s1"
            refine ⟨szl (Nat.le_of_ble_eq_true rfl), fun L nL => ?_⟩
            refine ⟨_, _, rfl, Or.inl (SqL.of upd_same), rfl, rfl, ?_⟩
            have e : gV (V.str z) = inV (V.str z) [.str "home", .str "hole"] := by show (nV _ || _) = _; rw [c]; rfl
            rw [e]
            exact ⟨rfl, fun b o e => updn (nonn nL e) e⟩
      · rintro σ' H3 ⟨rfl, sm3⟩
        have sm : Same H' H3 := (sm1.trans sm2).trans sm3
        have fin : ∀ a H4, Same H3 H4 → H4 a = some (.lst (dueV n x)) → Q (.ref a) H4 := fun a H4 s4 e => k a H4 (sm.trans s4) e
        clear k
        cases hg.kind with
        | int e f =>
          subst e f
          repeat walk_at "s1"
          rename_i L nL
          exact fin _ _ (fun b o e => updn (nonn nL e) e) upd_same
        | bl e f =>
          subst e f
          repeat walk_at "s1"
          rename_i L nL
          exact fin _ _ (fun b o e => updn (nonn nL e) e) upd_same
        | oth e a1 a2 a3 =>
          rcases e with rfl | ⟨a, rfl⟩
          · repeat walk_at "s1"
            rename_i L nL
            exact fin _ _ (fun b o e => updn (nonn nL e) e) upd_same
          · repeat walk_at "s1"
            rename_i L nL
            exact fin _ _ (fun b o e => updn (nonn nL e) e) upd_same
        | @str z e f hl hz =>
          subst e f
          iterate 6 walk_at "s1"
          cases c : bV (V.str z) with
          | true =>
            refine iteT ?_
            repeat walk_at "s1"
            rename_i L nL
            refine fin _ _ (fun b o e => updn (nonn nL e) e) ?_
            rw [upd_same]
            have e1 : aV n (V.str z) = decide (V.int (z.length : Int) = V.int n) := by
              show (bV (V.str z) && decide ((z.length : Int) = n)) = _
              rw [c, Bool.true_and]
              exact decide_eq_decide.mpr ⟨fun q => by rw [q], fun q => V.int.inj q⟩
            have e2 : sV n (V.str z) = decide ((z.length : Int) ≤ n) := by show (bV _ && _) = _; rw [c]; rfl
            show _ = some (HO.lst [_, .bl (bV _), _, _, .bl (aV n (V.str z)), .bl (sV n (V.str z))])
            rw [e1, e2, c]
          | false =>
            refine iteF ?_
            repeat walk_at "s1"
            rename_i L nL
            refine fin _ _ (fun b o e => updn (nonn nL e) e) ?_
            rw [upd_same]
            have e1 : aV n (V.str z) = false := by show (bV _ && _) = _; rw [c]; rfl
            have e2 : sV n (V.str z) = false := by show (bV _ && _) = _; rw [c]; rfl
            show _ = some (HO.lst [_, .bl (bV _), _, _, .bl (aV n (V.str z)), .bl (sV n (V.str z))])
            rw [e1, e2, c]
end
open PySem PySem.Spec PyProof.Rows
open L2 hiding pass0
abbrev s_law_right : Stmt := top 28
theorem sc_law_right : FnScope ["_law_pot_here", "_law_span", "_law_turn", "_law_thing", "_law_kept", "_law_told", "_law_named", "_law_due_here"] ["_law_pot_here"] (defScope s_law_right) := ⟨rfl, rfl, rfl, by decide +kernel, rfl, by decide +kernel, by decide +kernel⟩
theorem bp_law_right : BndP "_law_right" s_law_right ["_law_pot_here"] := fun _ _ _ _ _ _ us h => match us, h with | [_], _ => rfl
theorem bk_is_width_0_value : Bnd "is_width" s_is_width ["value"] 0 ["value"] [0] := fun _ _ _ _ _ _ us ws h1 h2 => match us, ws, h1, h2 with | [], [_], _, _ => rfl
theorem bk_is_bits_0_value : Bnd "is_bits" s_is_bits ["value"] 0 ["value"] [0] := fun _ _ _ _ _ _ us ws h1 h2 => match us, ws, h1, h2 with | [], [_], _, _ => rfl
theorem bk_is_name_0_value : Bnd "is_name" s_is_name ["value"] 0 ["value"] [0] := fun _ _ _ _ _ _ us ws h1 h2 => match us, ws, h1, h2 with | [], [_], _, _ => rfl
theorem bk_is_goal_0_value : Bnd "is_goal" s_is_goal ["value"] 0 ["value"] [0] := fun _ _ _ _ _ _ us ws h1 h2 => match us, ws, h1, h2 with | [], [_], _, _ => rfl
theorem bk_is_address_0_value_width : Bnd "is_address" s_is_address ["width", "value"] 0 ["value", "width"] [1, 0] := fun _ _ _ _ _ _ us ws h1 h2 => match us, ws, h1, h2 with | [], [_, _], _, _ => rfl
theorem bk_is_stretch_0_value_width : Bnd "is_stretch" s_is_stretch ["width", "value"] 0 ["value", "width"] [1, 0] := fun _ _ _ _ _ _ us ws h1 h2 => match us, ws, h1, h2 with | [], [_, _], _, _ => rfl
/-! ### texts of the values -/
theorem str_fits {z : Str} (h : Low z) (l : z.length ≤ 200) : (reprText z).length ≤ sizeLine := by
  have := PySem.StrLaws.reprText_len z fun c hc => by have := h c hc; omega
  exact szl (by omega)
theorem GoodD.rp {K : PySem.W.Frag} {H : Hp} {x : V} {d : PyData} (g : GoodD H x d) : Rp K H x d ∧ PyData.showable d = true ∧ PyData.depth d ≤ 50 ∧ d.shown.length ≤ sizeLine := by
  cases g with
  | int h =>
    rename_i i
    have h2 : i.natAbs.log2 < 1920 := by
      refine Nat.lt_of_le_of_lt (m := 200) ?_ (by decide)
      rcases Nat.eq_zero_or_pos i.natAbs with e | e
      · rw [e]; decide
      · have := (Nat.log2_lt (by omega)).mpr (show i.natAbs < 2 ^ 201 from Nat.lt_trans h (by decide))
        omega
    exact ⟨.dat (.int _) rfl, decide_eq_true h2, Nat.zero_le _, int_text_fits h2⟩
  | bl b => exact ⟨.dat (.bl b) rfl, rfl, Nat.zero_le _, by cases b <;> exact szl (by decide)⟩
  | non => exact ⟨.dat .non rfl, rfl, by decide, szl (by decide)⟩
  | str h l => exact ⟨.dat (.str _) rfl, rfl, Nat.zero_le _, str_fits h l⟩
  | lst0 e => exact ⟨.dat (.lst (SqL.of e) .nil) rfl, rfl, by decide, szl (by decide +kernel)⟩
  | lstS e => exact ⟨.dat (.lst (SqL.of e) (.cons (.str _) .nil)) rfl, rfl, by decide, szl (by decide +kernel)⟩
  | lstI e => exact ⟨.dat (.lst (SqL.of e) (.cons (.int _) .nil)) rfl, by decide +kernel, by decide, szl (by decide +kernel)⟩
  | tup0 e => exact ⟨.dat (.tup (SqT.of e) .nil) rfl, rfl, by decide, szl (by decide +kernel)⟩
  | tup1 e => exact ⟨.dat (.tup (SqT.of e) (.cons (.str _) .nil)) rfl, rfl, by decide, szl (by decide +kernel)⟩
  | dct0 e => exact ⟨.dct e .nil, rfl, by decide, szl (by decide +kernel)⟩
  | dct1 e => exact ⟨.dct e (.cons rfl .nil), by decide +kernel, by decide, szl (by decide +kernel)⟩
/-- a def that raises nothing -/
theorem nm_of0 {P : Program} {w : World} {K : PySem.W.Frag} {mg : Str → Option Value} {base : Heap} {CX : CXT} {x : Str} {st : Stmt} {f : Addr} {fd : FuncData} {N ps : List Str} {k : Nat} {sp : Sp} (F : Fun K x x st f fd) (hm : mg x = some (.ref f)) (S : FnScope N ps (defScope st)) (len : ∀ vs H Q E, sp vs H Q E → vs.length = ps.length)
    (hb : ∀ (cdv : Value) (A : Around) (outer : List Env) (s : Shared) (H : Hp) (vs : List V) (Q : VK) (E : XK), RoomG k (A.deeper (envOfC x (defScope st) s.heap.objs.size f cdv)) → sp vs H Q E →
      ∃ t, PSs (cxOf CX P w K mg base N x (defScope st) f cdv A outer s H E).nox (defBody st) t ∧ t { nx := fun _ H' => Q .non H', rt := Q } (start N vs) H) : Nm P w K mg base CX (k + 1) x st ps sp :=
  nm_of F hm S len fun cdv A outer s H vs Q E hr h => let ⟨t, h1, h2⟩ := hb cdv A outer s H vs Q E hr h; ⟨t, h1.nox, h2⟩
def dueD (w : Int) (x : V) : PyData := .list [.bool (wV x), .bool (bV x), .bool (nV x), .bool (gV x), .bool (aV w x), .bool (sV w x)]
theorem due_dp {K : PySem.W.Frag} {H : Hp} {a : Addr} {w : Int} {x : V} (e : H a = some (.lst (dueV w x))) : Dp K H (.ref a) (dueD w x) :=
  .lst (SqL.of e) (.cons (.bl _) (.cons (.bl _) (.cons (.bl _) (.cons (.bl _) (.cons (.bl _) (.cons (.bl _) .nil))))))
theorem due2_rp {K : PySem.W.Frag} {H : Hp} {L a b : Addr} {w : Int} {x : V} (eL : H L = some (.lst [.ref a, .ref b])) (ea : H a = some (.lst (dueV w x))) (eb : H b = some (.lst (dueV w x))) :
    Rp K H (.ref L) (.list [dueD w x, dueD w x]) ∧ PyData.showable (.list [dueD w x, dueD w x]) = true ∧ PyData.depth (.list [dueD w x, dueD w x]) ≤ 50 ∧ (PyData.list [dueD w x, dueD w x]).shown.length ≤ sizeLine :=
  ⟨.dat (.lst (SqL.of eL) (.cons (due_dp ea) (.cons (due_dp eb) .nil))) rfl, rfl, Nat.le_of_ble_eq_true rfl, PyData.shown_fits (B := 8) (by decide) (by decide) rfl (Nat.le_of_ble_eq_true rfl)⟩
@[irreducible] def spRight : Sp := fun vs H Q _ => ∃ p, vs = [.ref p] ∧ PotAt H p ∧ ∀ H', Go p H H' → Q (.bl true) H'
theorem right_go {p : Addr} {H : Hp} {Q : VK} {E : XK} (h : PotAt H p) (q : ∀ H', Go p H H' → Q (.bl true) H') : spRight [.ref p] H Q E := by
  unfold spRight
  exact ⟨p, rfl, h, q⟩
theorem Go.of {p : Addr} {H H' : Hp} (h : PotAt H p) (s : Same H H') : Go p H H' := by
  obtain ⟨a, b, e, r⟩ := h
  exact ⟨⟨a, b, s _ _ e, r⟩, fun c o e _ => s c o e⟩
section
variable {P : Program} {w : World} {K : PySem.W.Frag} {mg : Str → Option Value} {base : Heap} {f : Addr} {fd : FuncData}
theorem ok_law_right (F : Fun K "_law_right" "_law_right" s_law_right f fd) (hm : mg "_law_right" = some (.ref f)) (T : Txt K mg)
    (c_law_among : Nm P w K mg base CX0 2 "_law_among" s_law_among ["_law_pot_here", "_law_some"] (spAmong K))
    (c_law_value : Nm P w K mg base CX0 4 "_law_value" s_law_value ["_law_pot_here", "_law_span"] spValue)
    (c_law_due : Nm P w K mg base CX0 2 "_law_due" s_law_due ["_law_span", "_law_thing"] spDue)
    (c_is_width : Nm P w K mg base CX0 2 "is_width" s_is_width ["value"] (spB wV))
    (c_is_bits : Nm P w K mg base CX0 1 "is_bits" s_is_bits ["value"] (spB bV))
    (c_is_name : Nm P w K mg base CX0 1 "is_name" s_is_name ["value"] (spB nV))
    (c_is_goal : Nm P w K mg base CX0 2 "is_goal" s_is_goal ["value"] (spB gV))
    (c_is_address : Nm P w K mg base CX0 5 "is_address" s_is_address ["width", "value"] (spW aV))
    (c_is_stretch : Nm P w K mg base CX0 4 "is_stretch" s_is_stretch ["width", "value"] (spW sV)) : Nm P w K mg base CX0 6 "_law_right" s_law_right ["_law_pot_here"] spRight := by
  refine nm_of0 F hm sc_law_right (fun vs H Q E h => ?_) fun cdv A outer s H vs Q E hr h => ?_
  · unfold spRight at h
    obtain ⟨p, rfl, _⟩ := h
    rfl
  · unfold spRight at h
    obtain ⟨p, rfl, hp, k⟩ := h
    refine ⟨_, (pss_cons (ps_set (i := 1) sc_law_right.nd rfl (by first | exact Or.inl rfl | exact Or.inr rfl) (pe_g c_law_among hr (by decide) L2.pass0 bp_law_among (by rfl) (pa_cons (pv 0) (pa_cons (pe_lst (pa_cons pe_int (pa_cons pe_int (pa_cons pe_int (pa_cons pe_int (pa_cons pe_int (pa_cons pe_int (pa_cons pe_int pa_nil)))))))) pa_nil))))
      (pss_cons (ps_for PassesOwn.never rfl (pi_range1 (by rfl) T.b_range (pa_cons pe_int pa_nil)) (pg_name (i := 2) sc_law_right.nd rfl (by first | exact Or.inl rfl | exact Or.inr rfl)) (pss_cons (ps_set (i := 3) sc_law_right.nd rfl (by first | exact Or.inl rfl | exact Or.inr rfl) (pe_g c_law_value hr (by decide) L2.pass0 bp_law_value (by rfl) (pa_cons (pv 0) (pa_cons (pv 1) pa_nil))))
      (pss_cons (ps_set (i := 4) sc_law_right.nd rfl (by first | exact Or.inl rfl | exact Or.inr rfl) (pe_callB (call_reprK (K := K) rfl hr.g hr.u) (by rfl) T.b_repr (by decide +kernel) (pa_cons (pv 3) pa_nil)))
      (pss_cons (ps_set (i := 5) sc_law_right.nd rfl (by first | exact Or.inl rfl | exact Or.inr rfl) (pe_lst (pa_cons (pe_g c_is_width hr (by decide) L2.pass0 bp_is_width (by rfl) (pa_cons (pv 3) pa_nil)) (pa_cons (pe_g c_is_bits hr (by decide) L2.pass0 bp_is_bits (by rfl) (pa_cons (pv 3) pa_nil)) (pa_cons (pe_g c_is_name hr (by decide) L2.pass0 bp_is_name (by rfl) (pa_cons (pv 3) pa_nil)) (pa_cons (pe_g c_is_goal hr (by decide) L2.pass0 bp_is_goal (by rfl) (pa_cons (pv 3) pa_nil)) pa_nil))))))
      (pss_cons (ps_set (i := 5) sc_law_right.nd rfl (by first | exact Or.inl rfl | exact Or.inr rfl) (pe_op op_cat (pv 5) (pe_lst (pa_cons (pe_g c_is_address hr (by decide) L2.pass0 bp_is_address (by rfl) (pa_cons (pv 1) (pa_cons (pv 3) pa_nil))) (pa_cons (pe_g c_is_stretch hr (by decide) L2.pass0 bp_is_stretch (by rfl) (pa_cons (pv 1) (pa_cons (pv 3) pa_nil))) pa_nil)))))
      (pss_cons (ps_set (i := 6) sc_law_right.nd rfl (by first | exact Or.inl rfl | exact Or.inr rfl) (pe_lst (pa_cons (pe_gK0 c_is_width hr (by decide) L2.pass0 bk_is_width_0_value (by rfl) (pk_cons (pv 3) pk_nil)) (pa_cons (pe_gK0 c_is_bits hr (by decide) L2.pass0 bk_is_bits_0_value (by rfl) (pk_cons (pv 3) pk_nil)) (pa_cons (pe_gK0 c_is_name hr (by decide) L2.pass0 bk_is_name_0_value (by rfl) (pk_cons (pv 3) pk_nil)) (pa_cons (pe_gK0 c_is_goal hr (by decide) L2.pass0 bk_is_goal_0_value (by rfl) (pk_cons (pv 3) pk_nil)) pa_nil))))))
      (pss_cons (ps_set (i := 6) sc_law_right.nd rfl (by first | exact Or.inl rfl | exact Or.inr rfl) (pe_op op_cat (pv 6) (pe_lst (pa_cons (pe_gK0 c_is_address hr (by decide) L2.pass0 bk_is_address_0_value_width (by rfl) (pk_cons (pv 3) (pk_cons (pv 1) pk_nil))) (pa_cons (pe_gK0 c_is_stretch hr (by decide) L2.pass0 bk_is_stretch_0_value_width (by rfl) (pk_cons (pv 3) (pk_cons (pv 1) pk_nil))) pa_nil)))))
      (pss_cons (ps_set (i := 7) sc_law_right.nd rfl (by first | exact Or.inl rfl | exact Or.inr rfl) (pe_g c_law_due hr (by decide) L2.pass0 bp_law_due (by rfl) (pa_cons (pv 1) (pa_cons (pv 3) pa_nil))))
      (pss_one (ps_if (PW.pt (pw_or (pt_cmpR op_ne (pe_callB (call_reprK (K := K) rfl hr.g hr.u) (by rfl) T.b_repr (by decide +kernel) (pa_cons (pe_lst (pa_cons (pv 5) (pa_cons (pv 6) pa_nil))) pa_nil)) (pe_callB (call_reprK (K := K) rfl hr.g hr.u) (by rfl) T.b_repr (by decide +kernel) (pa_cons (pe_lst (pa_cons (pv 7) (pa_cons (pv 7) pa_nil))) pa_nil)) (nomark _)) (pw_or1 (pt_cmpR op_ne (pe_callB (call_reprK (K := K) rfl hr.g hr.u) (by rfl) T.b_repr (by decide +kernel) (pa_cons (pv 3) pa_nil)) (pv 4) (nomark _))))) (pss_one (ps_ret pe_bl)) pss_nil))))))))))
      (pss_one (ps_ret pe_bl)))), ?_⟩
    walk_at "s1"
    refine ⟨szl (Nat.le_of_ble_eq_true rfl), fun L nL => ?_⟩
    refine among_l ((Go.refl hp).new nL).pot (hp.ne nL) (SqL.of upd_same) (Nat.le_of_ble_eq_true rfl) (Nat.le_of_ble_eq_true rfl) fun v hv H1 g1 => ?_
    have gg : Go p H H1 := ((Go.refl hp).new nL).trans g1
    obtain ⟨n, rfl, h0, h1⟩ : ∃ n : Int, v = .int n ∧ 1 ≤ n ∧ n ≤ 100 := by
      simp only [List.mem_cons, List.not_mem_nil, or_false] at hv
      rcases hv with rfl | rfl | rfl | rfl | rfl | rfl | rfl <;> exact ⟨_, rfl, by decide, by decide⟩
    clear hv g1
    refine ⟨30, rfl, by decide, by decide, for_it walk_range (fun i σ' H2 => ∃ a2 a3 a4 a5 a6 a7, σ' = [some (.ref p), some (.int n), a2, a3, a4, a5, a6, a7] ∧ Go p H H2) ⟨_, _, _, _, _, _, rfl, gg⟩ (fun _ _ _ _ _ => trivial) ?_ ?_⟩
    · rintro i x σ' H2 H2' hi ⟨a2, a3, a4, a5, a6, a7, rfl, g2⟩ ⟨rfl, rfl⟩
      repeat walk_at "s1"
      refine value_go g2.pot h0 h1 fun v d H3 gd g3 => ?_
      repeat walk_at "s1"
      refine repr_go gd.rp ?_
      repeat walk_at "s1"
      -- told
      refine b_go gd fun u1 us1 => ?_
      have ud1 := gd.same us1
      repeat walk_at "s1"
      refine b_go ud1 fun u2 us2 => ?_
      have ud2 := ud1.same us2
      repeat walk_at "s1"
      refine b_go ud2 fun u3 us3 => ?_
      have ud3 := ud2.same us3
      repeat walk_at "s1"
      refine b_go ud3 fun u4 us4 => ?_
      have ud4 := ud3.same us4
      refine ⟨szl (Nat.le_of_ble_eq_true rfl), fun uA1 unA1 => ?_⟩
      have us5 : Same u4 (upd u4 uA1 (.lst [.bl (wV v), .bl (bV v), .bl (nV v), .bl (gV v)])) := fun b o e => updn (nonn unA1 e) e
      have ud5 := ud4.same us5
      have ue5 : (upd u4 uA1 (.lst [.bl (wV v), .bl (bV v), .bl (nV v), .bl (gV v)])) uA1 = some (.lst [.bl (wV v), .bl (bV v), .bl (nV v), .bl (gV v)]) := upd_same
      generalize upd u4 uA1 (.lst [.bl (wV v), .bl (bV v), .bl (nV v), .bl (gV v)]) = u5 at us5 ud5 ue5 ⊢
      repeat walk_at "s1"
      refine w_go h0 h1 ud5 fun u6 us6 => ?_
      have ud6 := ud5.same us6
      repeat walk_at "s1"
      refine w_go h0 h1 ud6 fun u7 us7 => ?_
      have ud7 := ud6.same us7
      refine ⟨szl (Nat.le_of_ble_eq_true rfl), fun uA2 unA2 => ?_⟩
      have us8 : Same u7 (upd u7 uA2 (.lst [.bl (aV n v), .bl (sV n v)])) := fun b o e => updn (nonn unA2 e) e
      have ue8 : (upd u7 uA2 (.lst [.bl (aV n v), .bl (sV n v)])) uA2 = some (.lst [.bl (aV n v), .bl (sV n v)]) := upd_same
      generalize upd u7 uA2 (.lst [.bl (aV n v), .bl (sV n v)]) = u8 at us8 ue8 ⊢
      refine ⟨_, _, _, _, rfl, rfl, us8 _ _ (us7 _ _ (us6 _ _ ue5)), ue8, szl (Nat.le_of_ble_eq_true rfl), fun uA3 unA3 => ?_⟩
      have us9 : Same u8 (upd u8 uA3 (.lst ([.bl (wV v), .bl (bV v), .bl (nV v), .bl (gV v)] ++ [.bl (aV n v), .bl (sV n v)]))) := fun b o e => updn (nonn unA3 e) e
      have ue9 : (upd u8 uA3 (.lst ([.bl (wV v), .bl (bV v), .bl (nV v), .bl (gV v)] ++ [.bl (aV n v), .bl (sV n v)]))) uA3 = some (.lst (dueV n v)) := upd_same
      generalize upd u8 uA3 (.lst ([.bl (wV v), .bl (bV v), .bl (nV v), .bl (gV v)] ++ [.bl (aV n v), .bl (sV n v)])) = u9 at us9 ue9 ⊢
      have ud9 := (ud7.same us8).same us9
      have uss : Same H3 u9 := (((((((us1.trans us2).trans us3).trans us4).trans us5).trans us6).trans us7).trans us8).trans us9
      clear us1 us2 us3 us4 us5 us6 us7 us8 us9 ud1 ud2 ud3 ud4 ud5 ud6 ud7 ue5 ue8 unA1 unA2 unA3
      repeat walk_at "s1"
      refine b_go ud9 fun v1 vs1 => ?_
      have vd1 := ud9.same vs1
      repeat walk_at "s1"
      refine b_go vd1 fun v2 vs2 => ?_
      have vd2 := vd1.same vs2
      repeat walk_at "s1"
      refine b_go vd2 fun v3 vs3 => ?_
      have vd3 := vd2.same vs3
      repeat walk_at "s1"
      refine b_go vd3 fun v4 vs4 => ?_
      have vd4 := vd3.same vs4
      refine ⟨szl (Nat.le_of_ble_eq_true rfl), fun vA1 vnA1 => ?_⟩
      have vs5 : Same v4 (upd v4 vA1 (.lst [.bl (wV v), .bl (bV v), .bl (nV v), .bl (gV v)])) := fun b o e => updn (nonn vnA1 e) e
      have vd5 := vd4.same vs5
      have ve5 : (upd v4 vA1 (.lst [.bl (wV v), .bl (bV v), .bl (nV v), .bl (gV v)])) vA1 = some (.lst [.bl (wV v), .bl (bV v), .bl (nV v), .bl (gV v)]) := upd_same
      generalize upd v4 vA1 (.lst [.bl (wV v), .bl (bV v), .bl (nV v), .bl (gV v)]) = v5 at vs5 vd5 ve5 ⊢
      repeat walk_at "s1"
      refine w_go h0 h1 vd5 fun v6 vs6 => ?_
      have vd6 := vd5.same vs6
      repeat walk_at "s1"
      refine w_go h0 h1 vd6 fun v7 vs7 => ?_
      have vd7 := vd6.same vs7
      refine ⟨szl (Nat.le_of_ble_eq_true rfl), fun vA2 vnA2 => ?_⟩
      have vs8 : Same v7 (upd v7 vA2 (.lst [.bl (aV n v), .bl (sV n v)])) := fun b o e => updn (nonn vnA2 e) e
      have ve8 : (upd v7 vA2 (.lst [.bl (aV n v), .bl (sV n v)])) vA2 = some (.lst [.bl (aV n v), .bl (sV n v)]) := upd_same
      generalize upd v7 vA2 (.lst [.bl (aV n v), .bl (sV n v)]) = v8 at vs8 ve8 ⊢
      refine ⟨_, _, _, _, rfl, rfl, vs8 _ _ (vs7 _ _ (vs6 _ _ ve5)), ve8, szl (Nat.le_of_ble_eq_true rfl), fun vA3 vnA3 => ?_⟩
      have vs9 : Same v8 (upd v8 vA3 (.lst ([.bl (wV v), .bl (bV v), .bl (nV v), .bl (gV v)] ++ [.bl (aV n v), .bl (sV n v)]))) := fun b o e => updn (nonn vnA3 e) e
      have ve9 : (upd v8 vA3 (.lst ([.bl (wV v), .bl (bV v), .bl (nV v), .bl (gV v)] ++ [.bl (aV n v), .bl (sV n v)]))) vA3 = some (.lst (dueV n v)) := upd_same
      generalize upd v8 vA3 (.lst ([.bl (wV v), .bl (bV v), .bl (nV v), .bl (gV v)] ++ [.bl (aV n v), .bl (sV n v)])) = v9 at vs9 ve9 ⊢
      have vd9 := (vd7.same vs8).same vs9
      have vss : Same u9 v9 := (((((((vs1.trans vs2).trans vs3).trans vs4).trans vs5).trans vs6).trans vs7).trans vs8).trans vs9
      clear vs1 vs2 vs3 vs4 vs5 vs6 vs7 vs8 vs9 vd1 vd2 vd3 vd4 vd5 vd6 vd7 ve5 ve8 vnA1 vnA2 vnA3
      repeat walk_at "s1"
      refine due_go h0 h1 vd9 fun A7 G10 s10 e10 => ?_
      have d10 := vd9.same s10
      have eu := s10 _ _ (vss _ _ ue9)
      have ev := s10 _ _ ve9
      have ss : Same H3 G10 := (uss.trans vss).trans s10
      clear uss vss s10 vd9 ud9 ue9 ve9
      walk_at "s1"
      walk_at "s1"
      refine ⟨szl (Nat.le_of_ble_eq_true rfl), fun L1 nL1 => ?_⟩
      have sL1 : Same G10 (upd G10 L1 (.lst [.ref uA3, .ref vA3])) := fun b o e => updn (nonn nL1 e) e
      refine repr_go (due2_rp upd_same (sL1 _ _ eu) (sL1 _ _ ev)) ?_
      walk_at "s1"
      walk_at "s1"
      refine ⟨szl (Nat.le_of_ble_eq_true rfl), fun L2 nL2 => ?_⟩
      have sL2 : Same (upd G10 L1 (.lst [.ref uA3, .ref vA3])) (upd (upd G10 L1 (.lst [.ref uA3, .ref vA3])) L2 (.lst [.ref A7, .ref A7])) := fun b o e => updn (nonn nL2 e) e
      refine repr_go (due2_rp upd_same (sL2 _ _ (sL1 _ _ e10)) (sL2 _ _ (sL1 _ _ e10))) ?_
      refine ⟨rfl, ?_⟩
      refine ⟨_, rfl, ?_⟩
      refine iteNS rfl ?_
      repeat walk_at "s1"
      refine repr_go ((d10.same sL1).same sL2).rp ?_
      repeat walk_at "s1"
      refine iteNS rfl ?_
      exact ⟨_, _, _, _, _, _, rfl, (g2.trans g3).trans (Go.of g3.pot ((ss.trans sL1).trans sL2))⟩
    · rintro σ' H2 ⟨a2, a3, a4, a5, a6, a7, rfl, g2⟩
      exact k H2 g2
end
open PySem PySem.Spec PyProof.Rows
open L2 hiding pass0
abbrev s_law : Stmt := top 29
theorem sc_law : FnScope ["_law_script", "_law_k"] ["_law_script"] (defScope s_law) := ⟨rfl, rfl, rfl, by decide +kernel, rfl, by decide +kernel, by decide +kernel⟩
theorem bp_law : BndP "law" s_law ["_law_script"] := fun _ _ _ _ _ _ us h => match us, h with | [_], _ => rfl
theorem all_rep : ∀ n : Nat, (List.replicate n true).all id = true
  | 0 => rfl
  | n + 1 => by rw [List.replicate_succ, List.all_cons, all_rep n]; rfl
def spLaw (K : PySem.W.Frag) : Sp := fun vs H Q _ => ∃ (a : Addr) (ns : List Int), vs = [.ref a] ∧ SqL K H a (ns.map V.int) ∧ ns.length ≤ 63 ∧ (∀ b, H b = none ∨ b = a) ∧ ∀ H', Q (.bl true) H'
section
variable {P : Program} {w : World} {K : PySem.W.Frag} {mg : Str → Option Value} {base : Heap} {f : Addr} {fd : FuncData}
theorem ok_law (F : Fun K "law" "law" s_law f fd) (hm : mg "law" = some (.ref f)) (T : Txt K mg)
    (c_law_pot : Nm P w K mg base CX0 1 "_law_pot" s_law_pot ["_law_script", "_law_k"] (spPot K))
    (c_law_right : Nm P w K mg base CX0 6 "_law_right" s_law_right ["_law_pot_here"] spRight) : Nm P w K mg base CX0 7 "law" s_law ["_law_script"] (spLaw K) := by
  refine nm_of F hm sc_law (fun vs H Q E h => ?_) fun cdv A outer s H vs Q E hr h => ?_
  · obtain ⟨p, ns, rfl, _⟩ := h
    rfl
  · obtain ⟨a, ns, rfl, hS, hl, hO, k⟩ := h
    refine ⟨_, (pss_one (ps_ret (pe_callB (call_allK (K := K) rfl rfl) (by rfl) T.b_all (by decide +kernel) (pa_cons (pe_lc (own := [("_law_k", 1)]) (g := (gName 1)) (by rfl) sc_law.nd (pi_range1 (by rfl) T.b_range (pa_cons (pe_callB (call_max2 rfl) (by rfl) T.b_max (by decide +kernel) (pa_cons pe_int (pa_cons (pe_callB (call_min2 rfl) (by rfl) T.b_min (by decide +kernel) (pa_cons pe_int (pa_cons (pe_callB (call_lenK (K := K) rfl) (by rfl) T.b_len PySem.boot_len (pa_cons (pv 0) pa_nil)) pa_nil))) pa_nil))) pa_nil)) (blkOk_by (own := [("_law_k", 1)]) (N := ["_law_script", "_law_k"]) (sc := defScope s_law) (by decide +kernel)) (fun _ _ _ _ _ => (pg_name (i := 1) sc_law.nd rfl (by first | exact Or.inl rfl | exact Or.inr rfl))) (fun _ _ _ _ _ => pts_nil) (fun _ _ _ _ _ => (pe_g c_law_right hr (by decide) L2.pass0 bp_law_right (by rfl) (pa_cons (pe_g c_law_pot hr (by decide) L2.pass0 bp_law_pot (by rfl) (pa_cons (pv 0) (pa_cons (pv 1) pa_nil))) pa_nil)))) pa_nil)))), ?_⟩
    have hlen : ((ns.map V.int).length : Int) = (ns.length : Int) := by rw [List.length_map]
    repeat walk_at "s1"
    rename_i D nD
    refine lc_it walk_range (fun i H1 => H1 D = some (.lst ((List.replicate i true).map V.bl)) ∧ i ≤ 5 ∧ Same H H1) ⟨upd_same, by decide, fun b o e => updn (nonn nD e) e⟩ (fun _ _ _ _ => trivial) ?_ ?_
    · rintro i x H1 H2 hi ⟨hD, h5, sm⟩ ⟨rfl, rfl⟩
      have hi5 : i < 5 := by
        have q : i < Int.toNat (if (if ((ns.map V.int).length : Int) < 5 then ((ns.map V.int).length : Int) else 5) > 1 then (if ((ns.map V.int).length : Int) < 5 then ((ns.map V.int).length : Int) else 5) else 1) := hi
        split at q <;> (try split at q) <;> omega
      refine ⟨rfl, ?_⟩
      dsimp only [tYes]
      rw [if_pos rfl]
      repeat walk_at "s1"
      refine pot_go (sm.seq hS) hl (by omega) (by omega) fun p H3 np hp s3 => ?_
      repeat walk_at "s1"
      refine right_go hp fun H4 g4 => ?_
      have s4 : Same H2 H4 := fun b o e => g4.keep b o (s3 b o e) (nonn np e)
      refine ⟨_, s4 _ _ hD, szt (by rw [List.length_map, List.length_replicate]; omega), ?_, by omega, fun b o e => updn (nonn nD e) (s4 _ _ (sm _ _ e))⟩
      rw [upd_same, List.replicate_succ', List.map_append]
      rfl
    · rintro H1 ⟨hD, h5, sm⟩
      refine ⟨_, _, rfl, SqL.of hD, ?_⟩
      rw [all_rep]
      exact k H1
end
theorem Nm.fn {P : Program} {w : World} {K : PySem.W.Frag} {mg : Str → Option Value} {base : Heap} {CX : CXT} {k : Nat} {x : Str} {st : Stmt} {ps : List Str} {sp : Sp} {f : Addr} {fd : FuncData} (c : Nm P w K mg base CX k x st ps sp) (F : Fun K x x st f fd) (hm : mg x = some (.ref f)) : FnG P w K mg base CX k f fd ps sp := by
  obtain ⟨f', fd', F', hm', G⟩ := c.ex
  obtain rfl : f' = f := by
    have e := hm'.symm.trans hm
    injection e with e
    injection e
  obtain ⟨_, _, _, _, _, _, _, _, _, _, l1, _⟩ := F.ex
  obtain ⟨_, _, _, _, _, _, _, _, _, _, l2, _⟩ := F'.ex
  have e := l2.symm.trans l1
  injection e with e
  injection e with _ _ e _
  injection e with e
  subst e
  exact G
theorem all_mk {l : PySem.W.OpenLaw} {w : World} {K : PySem.W.Frag} {h : Heap} {mg : Str → Option Value} {fa f0 f1 f2 f3 f4 f5 f6 f7 f8 f9 f10 f11 f12 f13 f14 f15 f16 f17 f18 f19 : Addr} (X : K.In h) (G : h.Ns mainGlobals mg) (hfa : mg "law" = some (.ref fa))
    {od0 an0 od1 an1 od2 an2 od3 an3 od4 an4 od5 an5 od6 an6 od7 an7 od8 an8 od9 an9 od10 an10 od11 an11 od12 an12 od13 an13 od14 an14 od15 an15 od16 an16 od17 an17 od18 an18 od19 an19 : Option Addr} {sl0 sl1 sl2 sl3 sl4 sl5 sl6 sl7 sl8 sl9 sl10 sl11 sl12 sl13 sl14 sl15 sl16 sl17 sl18 sl19 : Array (Option Value)} {oc0 kV0 dc0 pm0 cd0 ct0 oc1 kV1 dc1 pm1 cd1 ct1 oc2 kV2 dc2 pm2 cd2 ct2 oc3 kV3 dc3 pm3 cd3 ct3 oc4 kV4 dc4 pm4 cd4 ct4 oc5 kV5 dc5 pm5 cd5 ct5 oc6 kV6 dc6 pm6 cd6 ct6 oc7 kV7 dc7 pm7 cd7 ct7 oc8 kV8 dc8 pm8 cd8 ct8 oc9 kV9 dc9 pm9 cd9 ct9 oc10 kV10 dc10 pm10 cd10 ct10 oc11 kV11 dc11 pm11 cd11 ct11 oc12 kV12 dc12 pm12 cd12 ct12 oc13 kV13 dc13 pm13 cd13 ct13 oc14 kV14 dc14 pm14 cd14 ct14 oc15 kV15 dc15 pm15 cd15 ct15 oc16 kV16 dc16 pm16 cd16 ct16 oc17 kV17 dc17 pm17 cd17 ct17 oc18 kV18 dc18 pm18 cd18 ct18 oc19 kV19 dc19 pm19 cd19 ct19 : Value}
    (a0 : PySem.W.nsIn K mainGlobals "_law_draw" = some (some (.ref f0))) (l0 : K.lookup f0 = some ⟨oc0, od0, .func (PySem.W.fnOf "_law_draw" "_law_draw" (defArgs s_law_draw) (defBody s_law_draw) (defScope s_law_draw) .none kV0 dc0 pm0 an0 cd0 ct0), sl0⟩) (c0 : PySem.W.codeIn K cd0 "_law_draw" = true) (k0 : PySem.W.keepIn K (.ref f0) = true)
    (a1 : PySem.W.nsIn K mainGlobals "_law_pot" = some (some (.ref f1))) (l1 : K.lookup f1 = some ⟨oc1, od1, .func (PySem.W.fnOf "_law_pot" "_law_pot" (defArgs s_law_pot) (defBody s_law_pot) (defScope s_law_pot) .none kV1 dc1 pm1 an1 cd1 ct1), sl1⟩) (c1 : PySem.W.codeIn K cd1 "_law_pot" = true) (k1 : PySem.W.keepIn K (.ref f1) = true)
    (a2 : PySem.W.nsIn K mainGlobals "_law_among" = some (some (.ref f2))) (l2 : K.lookup f2 = some ⟨oc2, od2, .func (PySem.W.fnOf "_law_among" "_law_among" (defArgs s_law_among) (defBody s_law_among) (defScope s_law_among) .none kV2 dc2 pm2 an2 cd2 ct2), sl2⟩) (c2 : PySem.W.codeIn K cd2 "_law_among" = true) (k2 : PySem.W.keepIn K (.ref f2) = true)
    (a3 : PySem.W.nsIn K mainGlobals "_law_bits" = some (some (.ref f3))) (l3 : K.lookup f3 = some ⟨oc3, od3, .func (PySem.W.fnOf "_law_bits" "_law_bits" (defArgs s_law_bits) (defBody s_law_bits) (defScope s_law_bits) .none kV3 dc3 pm3 an3 cd3 ct3), sl3⟩) (c3 : PySem.W.codeIn K cd3 "_law_bits" = true) (k3 : PySem.W.keepIn K (.ref f3) = true)
    (a4 : PySem.W.nsIn K mainGlobals "_law_letters" = some (some (.ref f4))) (l4 : K.lookup f4 = some ⟨oc4, od4, .func (PySem.W.fnOf "_law_letters" "_law_letters" (defArgs s_law_letters) (defBody s_law_letters) (defScope s_law_letters) .none kV4 dc4 pm4 an4 cd4 ct4), sl4⟩) (c4 : PySem.W.codeIn K cd4 "_law_letters" = true) (k4 : PySem.W.keepIn K (.ref f4) = true)
    (a5 : PySem.W.nsIn K mainGlobals "_law_mixed_in" = some (some (.ref f5))) (l5 : K.lookup f5 = some ⟨oc5, od5, .func (PySem.W.fnOf "_law_mixed_in" "_law_mixed_in" (defArgs s_law_mixed_in) (defBody s_law_mixed_in) (defScope s_law_mixed_in) .none kV5 dc5 pm5 an5 cd5 ct5), sl5⟩) (c5 : PySem.W.codeIn K cd5 "_law_mixed_in" = true) (k5 : PySem.W.keepIn K (.ref f5) = true)
    (a6 : PySem.W.nsIn K mainGlobals "_law_value" = some (some (.ref f6))) (l6 : K.lookup f6 = some ⟨oc6, od6, .func (PySem.W.fnOf "_law_value" "_law_value" (defArgs s_law_value) (defBody s_law_value) (defScope s_law_value) .none kV6 dc6 pm6 an6 cd6 ct6), sl6⟩) (c6 : PySem.W.codeIn K cd6 "_law_value" = true) (k6 : PySem.W.keepIn K (.ref f6) = true)
    (a7 : PySem.W.nsIn K mainGlobals "is_count" = some (some (.ref f7))) (l7 : K.lookup f7 = some ⟨oc7, od7, .func (PySem.W.fnOf "is_count" "is_count" (defArgs s_is_count) (defBody s_is_count) (defScope s_is_count) .none kV7 dc7 pm7 an7 cd7 ct7), sl7⟩) (c7 : PySem.W.codeIn K cd7 "is_count" = true) (k7 : PySem.W.keepIn K (.ref f7) = true)
    (a8 : PySem.W.nsIn K mainGlobals "is_width" = some (some (.ref f8))) (l8 : K.lookup f8 = some ⟨oc8, od8, .func (PySem.W.fnOf "is_width" "is_width" (defArgs s_is_width) (defBody s_is_width) (defScope s_is_width) .none kV8 dc8 pm8 an8 cd8 ct8), sl8⟩) (c8 : PySem.W.codeIn K cd8 "is_width" = true) (k8 : PySem.W.keepIn K (.ref f8) = true)
    (a9 : PySem.W.nsIn K mainGlobals "is_bits" = some (some (.ref f9))) (l9 : K.lookup f9 = some ⟨oc9, od9, .func (PySem.W.fnOf "is_bits" "is_bits" (defArgs s_is_bits) (defBody s_is_bits) (defScope s_is_bits) .none kV9 dc9 pm9 an9 cd9 ct9), sl9⟩) (c9 : PySem.W.codeIn K cd9 "is_bits" = true) (k9 : PySem.W.keepIn K (.ref f9) = true)
    (a10 : PySem.W.nsIn K mainGlobals "is_name" = some (some (.ref f10))) (l10 : K.lookup f10 = some ⟨oc10, od10, .func (PySem.W.fnOf "is_name" "is_name" (defArgs s_is_name) (defBody s_is_name) (defScope s_is_name) .none kV10 dc10 pm10 an10 cd10 ct10), sl10⟩) (c10 : PySem.W.codeIn K cd10 "is_name" = true) (k10 : PySem.W.keepIn K (.ref f10) = true)
    (a11 : PySem.W.nsIn K mainGlobals "check_width" = some (some (.ref f11))) (l11 : K.lookup f11 = some ⟨oc11, od11, .func (PySem.W.fnOf "check_width" "check_width" (defArgs s_check_width) (defBody s_check_width) (defScope s_check_width) .none kV11 dc11 pm11 an11 cd11 ct11), sl11⟩) (c11 : PySem.W.codeIn K cd11 "check_width" = true) (k11 : PySem.W.keepIn K (.ref f11) = true)
    (a12 : PySem.W.nsIn K mainGlobals "is_goal" = some (some (.ref f12))) (l12 : K.lookup f12 = some ⟨oc12, od12, .func (PySem.W.fnOf "is_goal" "is_goal" (defArgs s_is_goal) (defBody s_is_goal) (defScope s_is_goal) .none kV12 dc12 pm12 an12 cd12 ct12), sl12⟩) (c12 : PySem.W.codeIn K cd12 "is_goal" = true) (k12 : PySem.W.keepIn K (.ref f12) = true)
    (a13 : PySem.W.nsIn K mainGlobals "is_stretch" = some (some (.ref f13))) (l13 : K.lookup f13 = some ⟨oc13, od13, .func (PySem.W.fnOf "is_stretch" "is_stretch" (defArgs s_is_stretch) (defBody s_is_stretch) (defScope s_is_stretch) .none kV13 dc13 pm13 an13 cd13 ct13), sl13⟩) (c13 : PySem.W.codeIn K cd13 "is_stretch" = true) (k13 : PySem.W.keepIn K (.ref f13) = true)
    (a14 : PySem.W.nsIn K mainGlobals "is_address" = some (some (.ref f14))) (l14 : K.lookup f14 = some ⟨oc14, od14, .func (PySem.W.fnOf "is_address" "is_address" (defArgs s_is_address) (defBody s_is_address) (defScope s_is_address) .none kV14 dc14 pm14 an14 cd14 ct14), sl14⟩) (c14 : PySem.W.codeIn K cd14 "is_address" = true) (k14 : PySem.W.keepIn K (.ref f14) = true)
    (a15 : PySem.W.nsIn K mainGlobals "_law_is_bits" = some (some (.ref f15))) (l15 : K.lookup f15 = some ⟨oc15, od15, .func (PySem.W.fnOf "_law_is_bits" "_law_is_bits" (defArgs s_law_is_bits) (defBody s_law_is_bits) (defScope s_law_is_bits) .none kV15 dc15 pm15 an15 cd15 ct15), sl15⟩) (c15 : PySem.W.codeIn K cd15 "_law_is_bits" = true) (k15 : PySem.W.keepIn K (.ref f15) = true)
    (a16 : PySem.W.nsIn K mainGlobals "_law_is_name" = some (some (.ref f16))) (l16 : K.lookup f16 = some ⟨oc16, od16, .func (PySem.W.fnOf "_law_is_name" "_law_is_name" (defArgs s_law_is_name) (defBody s_law_is_name) (defScope s_law_is_name) .none kV16 dc16 pm16 an16 cd16 ct16), sl16⟩) (c16 : PySem.W.codeIn K cd16 "_law_is_name" = true) (k16 : PySem.W.keepIn K (.ref f16) = true)
    (a17 : PySem.W.nsIn K mainGlobals "_law_due" = some (some (.ref f17))) (l17 : K.lookup f17 = some ⟨oc17, od17, .func (PySem.W.fnOf "_law_due" "_law_due" (defArgs s_law_due) (defBody s_law_due) (defScope s_law_due) .none kV17 dc17 pm17 an17 cd17 ct17), sl17⟩) (c17 : PySem.W.codeIn K cd17 "_law_due" = true) (k17 : PySem.W.keepIn K (.ref f17) = true)
    (a18 : PySem.W.nsIn K mainGlobals "_law_right" = some (some (.ref f18))) (l18 : K.lookup f18 = some ⟨oc18, od18, .func (PySem.W.fnOf "_law_right" "_law_right" (defArgs s_law_right) (defBody s_law_right) (defScope s_law_right) .none kV18 dc18 pm18 an18 cd18 ct18), sl18⟩) (c18 : PySem.W.codeIn K cd18 "_law_right" = true) (k18 : PySem.W.keepIn K (.ref f18) = true)
    (a19 : PySem.W.nsIn K mainGlobals "law" = some (some (.ref f19))) (l19 : K.lookup f19 = some ⟨oc19, od19, .func (PySem.W.fnOf "law" "law" (defArgs s_law) (defBody s_law) (defScope s_law) .none kV19 dc19 pm19 an19 cd19 ct19), sl19⟩) (c19 : PySem.W.codeIn K cd19 "law" = true) (k19 : PySem.W.keepIn K (.ref f19) = true)
    (z0 : PySem.W.nsIn K mainGlobals "len" = some none)
    (z1 : PySem.W.nsIn K mainGlobals "abs" = some none)
    (z2 : PySem.W.nsIn K mainGlobals "max" = some none)
    (z3 : PySem.W.nsIn K mainGlobals "min" = some none)
    (z4 : PySem.W.nsIn K mainGlobals "int" = some none)
    (z5 : PySem.W.nsIn K mainGlobals "divmod" = some none)
    (z6 : PySem.W.nsIn K mainGlobals "range" = some none)
    (z7 : PySem.W.nsIn K mainGlobals "repr" = some none)
    (z8 : PySem.W.nsIn K mainGlobals "all" = some none)
    (z9 : PySem.W.nsIn K mainGlobals "str" = some none)
    (z10 : PySem.W.nsIn K mainGlobals "bool" = some none)
    (z11 : PySem.W.nsIn K mainGlobals "isinstance" = some none)
    {tk_MOST_WIDTH : Tok} (m_MOST_WIDTH : PySem.W.nsIn K mainGlobals "MOST_WIDTH" = some (some (.int 100 tk_MOST_WIDTH)))
    {tk_MOST_LETTERS : Tok} (m_MOST_LETTERS : PySem.W.nsIn K mainGlobals "MOST_LETTERS" = some (some (.int 6 tk_MOST_LETTERS)))
    {tk_LETTERS : Tok} (m_LETTERS : PySem.W.nsIn K mainGlobals "LETTERS" = some (some (.str "abcdefghijklmnopqrstuvwxyz" tk_LETTERS)))
    {ad_NO_NAMES : Addr} {od_NO_NAMES : Option Addr} {nn_NO_NAMES : Nat} {sl_NO_NAMES : Array (Option Value)} {tk_NO_NAMES0 tk_NO_NAMES1 tk_NO_NAMES2 tk_NO_NAMES3 tk_NO_NAMES4 : Tok} (m_NO_NAMES : PySem.W.nsIn K mainGlobals "NO_NAMES" = some (some (.ref ad_NO_NAMES))) (t_NO_NAMES : K.lookup ad_NO_NAMES = some ⟨.type "tuple", od_NO_NAMES, .seq #[.str "home" tk_NO_NAMES0, .str "hole" tk_NO_NAMES1, .str "ring" tk_NO_NAMES2, .str "all" tk_NO_NAMES3, .str "none" tk_NO_NAMES4] nn_NO_NAMES, sl_NO_NAMES⟩)
    {ad_ENDS : Addr} {od_ENDS : Option Addr} {nn_ENDS : Nat} {sl_ENDS : Array (Option Value)} {tk_ENDS0 tk_ENDS1 : Tok} (m_ENDS : PySem.W.nsIn K mainGlobals "ENDS" = some (some (.ref ad_ENDS))) (t_ENDS : K.lookup ad_ENDS = some ⟨.type "tuple", od_ENDS, .seq #[.str "home" tk_ENDS0, .str "hole" tk_ENDS1] nn_ENDS, sl_ENDS⟩)
    : ∃ fd : FuncData, (∀ (s : Shared) (v : Value), BindsTo s fd ⟨[v], []⟩ [("_law_script", v)]) ∧ ∀ base : Heap, K.In base → base.Ns mainGlobals mg → FnG l.prog w K mg base CX0 7 fa fd ["_law_script"] (spLaw K) := by
  have e := hfa.symm.trans (PySem.W.mg_of X G a19)
  cases e
  have T : Txt K mg := ⟨PySem.W.mg_none_of X G z0, PySem.W.mg_none_of X G z1, PySem.W.mg_none_of X G z2, PySem.W.mg_none_of X G z3, PySem.W.mg_none_of X G z4, PySem.W.mg_none_of X G z5, PySem.W.mg_none_of X G z6, PySem.W.mg_none_of X G z7, PySem.W.mg_none_of X G z8, PySem.W.mg_none_of X G z9, PySem.W.mg_none_of X G z10, PySem.W.mg_none_of X G z11⟩
  have C : Con11 K mg := ⟨⟨_, PySem.W.mg_of X G m_MOST_WIDTH, ⟨_, rfl⟩⟩, ⟨_, PySem.W.mg_of X G m_MOST_LETTERS, ⟨_, rfl⟩⟩, ⟨_, PySem.W.mg_of X G m_LETTERS, ⟨_, rfl⟩⟩, ad_NO_NAMES, ⟨_, PySem.W.mg_of X G m_NO_NAMES, rfl⟩, fun _ => .inr ⟨_, _, _, t_NO_NAMES, rfl, rfl, szl (Nat.le_of_ble_eq_true rfl), .cons ⟨_, rfl⟩ (.cons ⟨_, rfl⟩ (.cons ⟨_, rfl⟩ (.cons ⟨_, rfl⟩ (.cons ⟨_, rfl⟩ .nil))))⟩, ad_ENDS, ⟨_, PySem.W.mg_of X G m_ENDS, rfl⟩, fun _ => .inr ⟨_, _, _, t_ENDS, rfl, rfl, szl (Nat.le_of_ble_eq_true rfl), .cons ⟨_, rfl⟩ (.cons ⟨_, rfl⟩ .nil)⟩⟩
  have F0 := fun_mk (st := s_law_draw) l0 c0 k0
  have F1 := fun_mk (st := s_law_pot) l1 c1 k1
  have F2 := fun_mk (st := s_law_among) l2 c2 k2
  have F3 := fun_mk (st := s_law_bits) l3 c3 k3
  have F4 := fun_mk (st := s_law_letters) l4 c4 k4
  have F5 := fun_mk (st := s_law_mixed_in) l5 c5 k5
  have F6 := fun_mk (st := s_law_value) l6 c6 k6
  have F7 := fun_mk (st := s_is_count) l7 c7 k7
  have F8 := fun_mk (st := s_is_width) l8 c8 k8
  have F9 := fun_mk (st := s_is_bits) l9 c9 k9
  have F10 := fun_mk (st := s_is_name) l10 c10 k10
  have F11 := fun_mk (st := s_check_width) l11 c11 k11
  have F12 := fun_mk (st := s_is_goal) l12 c12 k12
  have F13 := fun_mk (st := s_is_stretch) l13 c13 k13
  have F14 := fun_mk (st := s_is_address) l14 c14 k14
  have F15 := fun_mk (st := s_law_is_bits) l15 c15 k15
  have F16 := fun_mk (st := s_law_is_name) l16 c16 k16
  have F17 := fun_mk (st := s_law_due) l17 c17 k17
  have F18 := fun_mk (st := s_law_right) l18 c18 k18
  have F19 := fun_mk (st := s_law) l19 c19 k19
  refine ⟨PySem.W.fnOf "law" "law" (defArgs s_law) (defBody s_law) (defScope s_law) .none kV19 dc19 pm19 an19 cd19 ct19, fun s v => .of_eq rfl, fun base _ _ => ?_⟩
  have n_law_draw := ok_draw (P := l.prog) (w := w) (base := base) F0 (PySem.W.mg_of X G a0) T
  have n_law_pot := ok_pot (P := l.prog) (w := w) (base := base) F1 (PySem.W.mg_of X G a1) T
  have n_law_among := ok_among (P := l.prog) (w := w) (base := base) F2 (PySem.W.mg_of X G a2) T n_law_draw
  have n_law_bits := ok_bits (P := l.prog) (w := w) (base := base) F3 (PySem.W.mg_of X G a3) T n_law_draw n_law_among
  have n_law_letters := ok_letters (P := l.prog) (w := w) (base := base) F4 (PySem.W.mg_of X G a4) T n_law_draw
  have n_law_mixed_in := ok_mixed (P := l.prog) (w := w) (base := base) F5 (PySem.W.mg_of X G a5) T n_law_draw
  have n_law_value := ok_value (P := l.prog) (w := w) (base := base) F6 (PySem.W.mg_of X G a6) T n_law_draw n_law_among n_law_bits n_law_letters n_law_mixed_in
  have n_is_count := ok_is_count (P := l.prog) (w := w) (base := base) F7 (PySem.W.mg_of X G a7) T
  have n_is_width := ok_is_width (P := l.prog) (w := w) (base := base) F8 (PySem.W.mg_of X G a8) T C n_is_count
  have n_is_bits := ok_is_bits (P := l.prog) (w := w) (base := base) F9 (PySem.W.mg_of X G a9) T C
  have n_is_name := ok_is_name (P := l.prog) (w := w) (base := base) F10 (PySem.W.mg_of X G a10) T C
  have n_check_width := ok_check_width (P := l.prog) (w := w) (base := base) F11 (PySem.W.mg_of X G a11) T C n_is_width
  have n_is_goal := ok_is_goal (P := l.prog) (w := w) (base := base) F12 (PySem.W.mg_of X G a12) T C n_is_name
  have n_is_stretch := ok_is_stretch (P := l.prog) (w := w) (base := base) F13 (PySem.W.mg_of X G a13) T C n_check_width n_is_bits
  have n_is_address := ok_is_address (P := l.prog) (w := w) (base := base) F14 (PySem.W.mg_of X G a14) T C n_is_stretch
  have n_law_is_bits := ok_law_is_bits (P := l.prog) (w := w) (base := base) F15 (PySem.W.mg_of X G a15) T
  have n_law_is_name := ok_law_is_name (P := l.prog) (w := w) (base := base) F16 (PySem.W.mg_of X G a16) T
  have n_law_due := ok_law_due (P := l.prog) (w := w) (base := base) F17 (PySem.W.mg_of X G a17) T n_law_is_bits n_law_is_name
  have n_law_right := ok_law_right (P := l.prog) (w := w) (base := base) F18 (PySem.W.mg_of X G a18) T n_law_among n_law_value n_law_due n_is_width n_is_bits n_is_name n_is_goal n_is_address n_is_stretch
  have n_law := ok_law (P := l.prog) (w := w) (base := base) F19 (PySem.W.mg_of X G a19) T n_law_pot n_law_right
  exact n_law.fn F19 (PySem.W.mg_of X G a19)
theorem walk {l : PySem.W.OpenLaw} {q : Program} {loose : List Str} {XP : (Str → Option Value) → Heap → Prop} {YP : World → Heap → Prop} {d : DefRec} {K : Params → PySem.W.Frag} (hn : l.most = some 63) (hdf : d.params.defaults = [])
    (hY : ∀ (w : World) (h : Heap), YP w h → (K w.params).In h)
    (F : ∀ (w : World) (mg : Str → Option Value) (fa : Addr) (h : Heap), (K w.params).In h → h.Ns mainGlobals mg → mg d.name = some (.ref fa) →
      ∃ fd : FuncData, (∀ (s : Shared) (u : Value), BindsTo s fd ⟨[u], []⟩ [("_law_script", u)]) ∧ ∀ base : Heap, (K w.params).In base → base.Ns mainGlobals mg → FnG l.prog w (K w.params) mg base CX0 7 fa fd ["_law_script"] (spLaw (K w.params))) :
    PySem.W.WalkO q loose XP YP l.row.toRowW d [] (fun f vs => PySem.call f vs) :=
  walk_g (n := 63) (k := 7) (x := "_law_script") (CX := fun _ => CX0) (sp := fun w => spLaw (K w.params)) hn (by decide) hdf roomTop hY F (fun _ _ a ns h1 h2 h3 => ⟨a, ns, rfl, h2, h1, h3, fun _ => rfl⟩) fun _ _ _ _ _ z => z
end Cov
open PySem PySem.W PyProof.Rows
set_option maxRecDepth 100000 in
set_option maxHeartbeats 0 in
theorem PySem.Challenge.cw_coverways_k11_words_holds : PySem.Challenge.rw_coverways_k11_words.Holds := by
  w_on; o_law; k_head; (case hw => w_witness2)
  k_fill
  refine Cov.walk (l := PySem.Challenge.rw_coverways_k11_words) rfl rfl (fun w h Y => PySem.W.kIn_of Y) ?F
  case F =>
    intro w mg fa h KX G hmg
    refine' Cov.all_mk KX G hmg ?a0 ?l0 ?c0 ?k0 ?a1 ?l1 ?c1 ?k1 ?a2 ?l2 ?c2 ?k2 ?a3 ?l3 ?c3 ?k3 ?a4 ?l4 ?c4 ?k4 ?a5 ?l5 ?c5 ?k5 ?a6 ?l6 ?c6 ?k6 ?a7 ?l7 ?c7 ?k7 ?a8 ?l8 ?c8 ?k8 ?a9 ?l9 ?c9 ?k9 ?a10 ?l10 ?c10 ?k10 ?a11 ?l11 ?c11 ?k11 ?a12 ?l12 ?c12 ?k12 ?a13 ?l13 ?c13 ?k13 ?a14 ?l14 ?c14 ?k14 ?a15 ?l15 ?c15 ?k15 ?a16 ?l16 ?c16 ?k16 ?a17 ?l17 ?c17 ?k17 ?a18 ?l18 ?c18 ?k18 ?a19 ?l19 ?c19 ?k19 ?z0 ?z1 ?z2 ?z3 ?z4 ?z5 ?z6 ?z7 ?z8 ?z9 ?z10 ?z11 ?m_MOST_WIDTH ?m_MOST_LETTERS ?m_LETTERS ?m_NO_NAMES ?t_NO_NAMES ?m_ENDS ?t_ENDS
    (case a0 => k_is)
    (case l0 => k_is)
    (case c0 => k_is)
    (case k0 => k_is)
    (case a1 => k_is)
    (case l1 => k_is)
    (case c1 => k_is)
    (case k1 => k_is)
    (case a2 => k_is)
    (case l2 => k_is)
    (case c2 => k_is)
    (case k2 => k_is)
    (case a3 => k_is)
    (case l3 => k_is)
    (case c3 => k_is)
    (case k3 => k_is)
    (case a4 => k_is)
    (case l4 => k_is)
    (case c4 => k_is)
    (case k4 => k_is)
    (case a5 => k_is)
    (case l5 => k_is)
    (case c5 => k_is)
    (case k5 => k_is)
    (case a6 => k_is)
    (case l6 => k_is)
    (case c6 => k_is)
    (case k6 => k_is)
    (case a7 => k_is)
    (case l7 => k_is)
    (case c7 => k_is)
    (case k7 => k_is)
    (case a8 => k_is)
    (case l8 => k_is)
    (case c8 => k_is)
    (case k8 => k_is)
    (case a9 => k_is)
    (case l9 => k_is)
    (case c9 => k_is)
    (case k9 => k_is)
    (case a10 => k_is)
    (case l10 => k_is)
    (case c10 => k_is)
    (case k10 => k_is)
    (case a11 => k_is)
    (case l11 => k_is)
    (case c11 => k_is)
    (case k11 => k_is)
    (case a12 => k_is)
    (case l12 => k_is)
    (case c12 => k_is)
    (case k12 => k_is)
    (case a13 => k_is)
    (case l13 => k_is)
    (case c13 => k_is)
    (case k13 => k_is)
    (case a14 => k_is)
    (case l14 => k_is)
    (case c14 => k_is)
    (case k14 => k_is)
    (case a15 => k_is)
    (case l15 => k_is)
    (case c15 => k_is)
    (case k15 => k_is)
    (case a16 => k_is)
    (case l16 => k_is)
    (case c16 => k_is)
    (case k16 => k_is)
    (case a17 => k_is)
    (case l17 => k_is)
    (case c17 => k_is)
    (case k17 => k_is)
    (case a18 => k_is)
    (case l18 => k_is)
    (case c18 => k_is)
    (case k18 => k_is)
    (case a19 => k_is)
    (case l19 => k_is)
    (case c19 => k_is)
    (case k19 => k_is)
    (case z0 => k_is)
    (case z1 => k_is)
    (case z2 => k_is)
    (case z3 => k_is)
    (case z4 => k_is)
    (case z5 => k_is)
    (case z6 => k_is)
    (case z7 => k_is)
    (case z8 => k_is)
    (case z9 => k_is)
    (case z10 => k_is)
    (case z11 => k_is)
    (case m_MOST_WIDTH => k_is)
    (case m_MOST_LETTERS => k_is)
    (case m_LETTERS => k_is)
    (case m_NO_NAMES => k_is)
    (case t_NO_NAMES => k_is)
    (case m_ENDS => k_is)
    (case t_ENDS => k_is)

import PyProof.Rows.All
import Wide.All
import OpenK.AllK
import Wide.FinOn
import HandS.ForMost
import HandS.IsInst
import HandS.WideBits
import HandS.Codes
import HandS.Walk
import KE.SortKeyHeap
import HandS.SortKw
import HandS.More
import HandS.Star
import HandS.Property
import HandS.MakeKw
import PyProof.DictUpdate
import PyProof.DictDisplay
import PyProof.ZipIter
import HandS.Zip0
import HandS.Iter
import PyProof.P3Eq
import PyProof.ReprBulk
import KE.KEqDict
import HandS.DictComp
import PyProof.InstNe
import HandS.DictTup
import KE.SortData
import HandS.ListItems
import HandS.WordsDict
import HandS.Style
import HandS.Small
import PySem.Challenge.RW_coverways_k18_whole_tables_by_dicts
set_option Elab.async false
set_option linter.all false
set_option maxRecDepth 100000
set_option maxHeartbeats 2000000
namespace Cov
open PySem PySem.Spec PyProof.Rows L2
/-! ## texts of data: repr -/
def kD : Key → PyData
  | .inl i => .int i
  | .inr x => .str x
def vD : V → Option PyData
  | .non => some .none
  | .bl b => some (.bool b)
  | .int i => some (.int i)
  | .str x => some (.str x)
  | _ => none
inductive Flat : List (Key × V) → List (PyData × PyData) → Prop
  | nil : Flat [] []
  | cons {k : Key} {v : V} {d : PyData} {r : List (Key × V)} {ds : List (PyData × PyData)} : vD v = some d → Flat r ds → Flat ((k, v) :: r) ((kD k, d) :: ds)
/-- what a value's text is made of -/
inductive Rp (K : PySem.W.Frag) (H : Hp) : V → PyData → Prop
  | dat {x : V} {d : PyData} : Dp K H x d → PyData.hasDict d = false → Rp K H x d
  | dct {a : Addr} {kvs : List (Key × V)} {ds : List (PyData × PyData)} : H a = some (.dK kvs) → Flat kvs ds → Rp K H (.ref a) (.dict ds)
section
variable {X : Cx} {pins : List (Addr × Obj)} {σ : L2.St} {H : Hp} {s : Shared}
theorem vD_reads {h : Heap} {v : V} {d : PyData} {u : Value} (e : vD v = some d) (r : RelV v u) : Reads h u d [] := by
  cases v with
  | non => cases e; cases (show u = Value.none from r); exact .none
  | bl b => cases e; cases (show u = Value.bool b from r); exact .bool b
  | int i => cases e; obtain ⟨t, rfl⟩ := (show ∃ t, u = Value.int i t from r); exact .int i t
  | str x => cases e; obtain ⟨t, rfl⟩ := (show ∃ t, u = Value.str x t from r); exact .str x t
  | byt b => cases e
  | flt b => cases e
  | ref a => cases e
  | ty n => cases e
theorem flat_reads {P : Program} {w : World} {h : Heap} : ∀ {kvs : List (Key × V)} {ds : List (PyData × PyData)} {es : List DictEntry} {vs : List (Key × Value)}, Flat kvs ds → KV kvs vs → PySem.Pairs (mixKind P w) es vs →
    ReadsAll h (es.map (·.key)) (ds.map (·.1)) [] ∧ ReadsAll h (es.map (·.val)) (ds.map (·.2)) []
  | _, _, _, _, .nil, .nil, .nil => ⟨.nil, .nil⟩
  | _, _, _, _, .cons hv hr, .cons hk hkr, .cons he1 he2 her => by
    obtain ⟨i1, i2⟩ := flat_reads hr hkr her
    obtain ⟨q1, q2⟩ := hk
    refine ⟨ReadsAll.cons (as := []) (bs := []) ?_ i1, ReadsAll.cons (as := []) (bs := []) ?_ i2⟩
    · have he1' := he1
      rw [mixKind_is, ← q1] at he1'
      rcases keyIs_shape he1' with ⟨i, t, e1, e2⟩ | ⟨x, t, e1, e2⟩
      · simp only at e1; subst e1; show Reads h _ (PyData.int i) []; simp only [e2]; exact Reads.int i t
      · simp only at e1; subst e1; show Reads h _ (PyData.str x) []; simp only [e2]; exact Reads.str x t
    · simp only [he2]; exact vD_reads hv q2
theorem Rp.reads (I : Inv X pins σ H s) {x : V} {d : PyData} {u : Value} (h : Rp X.K H x d) (r : RelV x u) : ∃ as, Reads s.heap u d as ∧ (PyData.hasDict d = true → sysModules ∉ as) := by
  cases h with
  | dat h0 h1 =>
    obtain ⟨as, q⟩ := Dp.reads I d x u h0 r
    exact ⟨as, q, fun z => by rw [h1] at z; cases z⟩
  | @dct a kvs ds ha hf =>
    obtain ⟨z, ns, vs, rel, o, es, ep, e1, e2, e3, e4, e5, e6⟩ := dk_of I.hok ha
    cases (show u = Value.ref a from r)
    obtain ⟨r1, r2⟩ := flat_reads (h := s.heap) hf rel e5
    refine ⟨_, Reads.dict e1 e2.1 e3 r1 r2, fun _ hm => ?_⟩
    rw [List.append_nil, List.mem_singleton] at hm
    exact (beq_eq_false_iff_ne.mp ns) hm.symm
/-- repr(x), where nothing around is being shown -/
@[irreducible] def rRepr (K : PySem.W.Frag) : List V → Hp → VK → Prop := fun xs H Q => ∃ (x : V) (d : PyData), xs = [x] ∧ Rp K H x d ∧ PyData.showable d = true ∧ PyData.depth d ≤ 50 ∧ d.shown.length ≤ sizeLine ∧ Q (.str d.shown) H
theorem call_repr (hg : X.A.guards = some []) (hu : X.A.units + 60 < cLine) : CallR X (.builtin "repr") (rRepr X.K) := by
  intro pins s σ H xs us Q I r h
  unfold rRepr at h
  obtain ⟨x, d, rfl, hx, hs, hd, hz, q⟩ := h
  obtain ⟨u, rfl, ru⟩ := vals1 r
  obtain ⟨as, rd, hm⟩ := hx.reads I ru
  cases rd with
  | none => exact PySem.P.repr_of_none ⟨.str _, H, I.tok _, ⟨_, rfl⟩, by simpa only [PyData.shown] using q⟩
  | bool b => exact PySem.P.repr_of_bool ⟨.str _, H, I.tok _, ⟨_, rfl⟩, by simpa only [PyData.shown] using q⟩
  | int i t => exact PySem.P.repr_of_int (by simpa [PyData.showable] using hs) ⟨.str _, H, I.tok _, ⟨_, rfl⟩, by simpa only [PyData.shown] using q⟩
  | str y t => exact PySem.P.repr_of_str (hsz := by simpa only [PyData.shown] using hz) ⟨.str _, H, I.tok _, ⟨_, rfl⟩, by simpa only [PyData.shown] using q⟩
  | list h1 h2 h3 h4 => exact repr_of_reads' (.list h1 h2 h3 h4) hs hm hg (by omega) (fun _ _ e => e) (fun h' u tk hk => ⟨.str _, H, I.kept hk, ⟨_, rfl⟩, q⟩) hz
  | tuple h1 h2 h3 h4 => exact repr_of_reads' (.tuple h1 h2 h3 h4) hs hm hg (by omega) (fun _ _ e => e) (fun h' u tk hk => ⟨.str _, H, I.kept hk, ⟨_, rfl⟩, q⟩) hz
  | dict h1 h2 h3 h4 h5 => exact repr_of_reads' (.dict h1 h2 h3 h4 h5) hs hm hg (by omega) (fun _ _ e => e) (fun h' u tk hk => ⟨.str _, H, I.kept hk, ⟨_, rfl⟩, q⟩) hz
end
theorem repr_go {K : PySem.W.Frag} {H : Hp} {Q : VK} {x : V} {d : PyData} (h : Rp K H x d ∧ PyData.showable d = true ∧ PyData.depth d ≤ 50 ∧ d.shown.length ≤ sizeLine) (q : Q (.str d.shown) H) : rRepr K [x] H Q := by
  unfold rRepr
  exact ⟨x, d, rfl, h.1, h.2.1, h.2.2.1, h.2.2.2, q⟩
open PySem PySem.Spec PyProof.Rows L2
/-! ## room in which nothing is being shown -/
structure RoomG (k : Nat) (A : Around) : Prop where
  r : Room k A
  g : A.guards = some []
theorem RoomG.mono {j k : Nat} {A : Around} (x : RoomG k A) (h : j ≤ k) : RoomG j A := ⟨x.r.mono h, x.g⟩
theorem RoomG.deeper {k : Nat} {A : Around} (x : RoomG (k + 1) A) (e : Env) : RoomG k (A.deeper e) := ⟨x.r.deeper e, x.g⟩
theorem RoomG.u {k : Nat} {A : Around} (x : RoomG k A) : A.units + 60 < cLine := Nat.lt_trans (by omega) x.r.units
theorem RoomG.u1 {k : Nat} {A : Around} (x : RoomG k A) : A.units + 1 < cLine := by have := x.u; omega
theorem RoomG.u64 {k : Nat} {A : Around} (x : RoomG k A) : A.units + 64 < cLine := x.r.units
/-! ## promises that hold where nothing is being shown -/
structure FnG (P : Program) (w : World) (K : PySem.W.Frag) (mg : Str → Option Value) (base : Heap) (CX : CXT) (k : Nat) (f : Addr) (fd : FuncData) (ps : List Str) (sp : Sp) : Prop where
  len : ∀ vs H Q E, sp vs H Q E → vs.length = ps.length
  run : ∀ (A : Around) (outer : List Env) (s : Shared) (H : Hp) (args : Args) (us : List Value) (vs : List V) (Q : VK) (E : XK),
    RoomG k A → Env0 P w K mg base A outer s H → BindsTo s fd args (ps.zip us) → Vals vs us → sp vs H Q E → codeAny (model P w) A (.call (.ref f) args) (CR CX outer P w H s Q E) s
theorem FnG.of {P : Program} {w : World} {K : PySem.W.Frag} {mg : Str → Option Value} {base : Heap} {CX : CXT} {k : Nat} {f : Addr} {fd : FuncData} {ps : List Str} {sp : Sp} (F : FnOk P w K mg base CX k f fd ps sp) : FnG P w K mg base CX k f fd ps sp :=
  ⟨F.len, fun A outer s H args us vs Q E hr => F.run A outer s H args us vs Q E hr.r⟩
/-- a def by its name: st its statement, ps its parameters -/
structure Nm (P : Program) (w : World) (K : PySem.W.Frag) (mg : Str → Option Value) (base : Heap) (CX : CXT) (k : Nat) (x : Str) (st : Stmt) (ps : List Str) (sp : Sp) : Prop where
  ex : ∃ (f : Addr) (fd : FuncData), Fun K x x st f fd ∧ mg x = some (.ref f) ∧ FnG P w K mg base CX k f fd ps sp
section
variable {P : Program} {w : World} {K : PySem.W.Frag} {mg : Str → Option Value} {base : Heap} {CX : CXT}
/-- THE RULE for a def -/
theorem nm_of {x : Str} {st : Stmt} {f : Addr} {fd : FuncData} {N ps : List Str} {k : Nat} {sp : Sp} (F : Fun K x x st f fd) (hm : mg x = some (.ref f)) (S : FnScope N ps (defScope st)) (len : ∀ vs H Q E, sp vs H Q E → vs.length = ps.length)
    (hb : ∀ (cdv : Value) (A : Around) (outer : List Env) (s : Shared) (H : Hp) (vs : List V) (Q : VK) (E : XK), RoomG k (A.deeper (envOfC x (defScope st) s.heap.objs.size f cdv)) → sp vs H Q E →
      ∃ t, PSs (cxOf CX P w K mg base N x (defScope st) f cdv A outer s H E) (defBody st) t ∧ t { nx := fun _ H' => Q .non H', rt := Q } (start N vs) H) : Nm P w K mg base CX (k + 1) x st ps sp := by
  refine ⟨f, fd, F, hm, len, ?_⟩
  obtain ⟨oc, od, kV, doc, pm, an, cdv, ct, osl, rfl, lk, hcd⟩ := F.ex
  intro A outer s H args us vs Q E hr e0 bt rv hs
  have hl := len _ _ _ _ hs
  have kin : K.In s.heap := e0.mod.kin.keeps fun b o e => (e0.bs b o e).1
  have nol : s.heap.NoLimit := e0.mod.nolimit.keeps fun b o e => (e0.bs b o e).1
  refine codeAny_call_function hr.r.depth (kin _ _ lk) rfl S.co S.gen rfl (PySem.W.codeRec_of kin hcd) (bt _ _ _ _ ?_)
  refine wpAny_newFunctionEnv_cells S.kind (fun ⟨n, v⟩ hy => ?_) fun env he s1 x1 => ?_
  · cases S.par n (List.of_mem_zip hy).1 with
    | inl q => exact .inl q
    | inr q => exact .inr ⟨q, PySem.W.cellsFrom_some _ _ _ (.inl q)⟩
  · subst he
    refine ⟨nol.keeps x1.toInCall.keep, codeAny_func ?_⟩
    obtain ⟨t, ht, hq⟩ := hb cdv A outer s H vs Q E (hr.deeper _) hs
    have I : Inv (cxOf CX P w K mg base N x (defScope st) f cdv A outer s H E) [] (start N vs) H s1 := inv_start S hr.r.hd e0 hl rv x1
    refine wpAny_mono (ht.run [] s1 (start N vs) H _ I hq) (fun fl s' z => ?_) fun e s' z => z
    cases fl with
    | ret u => obtain ⟨v, σ', H', J, r2, q⟩ := z; exact ⟨v, H', J.os, J.bare, J.base, J.hok, r2, q⟩
    | next => obtain ⟨σ', H', J, q⟩ := z; exact ⟨.non, H', J.os, J.bare, J.base, J.hok, rfl, q⟩
    | brk => obtain ⟨_, _, _, q⟩ := z; exact q.elim
    | cont => obtain ⟨_, _, _, q⟩ := z; exact q.elim
end
section
variable {X : Cx} {CX : CXT} {k j : Nat} {f : Addr} {fd : FuncData} {st : Stmt} {ps ks : List Str} {sp : Sp} {E : XK} {x : Str} {p pos : Pos} {e : Expr} {es : List Expr} {kws : List Keyword} {t tk : TA}
theorem run_g {pins : List (Addr × Obj)} {σ : L2.St} {H : Hp} {s : Shared} {Q : VK} {us ws : List Value} {kw : List (Str × Value)} {vs : List V} (F : FnG X.prog X.w X.K X.mg X.base CX k f fd ps sp) (hr : RoomG k X.A)
    (hb : BindsTo s fd ⟨us, kw⟩ (ps.zip ws)) (hx : Passes CX X E) (I : Inv X pins σ H s) (r : Vals vs ws) (h : sp vs H Q E) : wpAny (model X.prog X.w) X.A (call (.ref f) us kw) (EP X pins σ Q) X.xe s := by
  refine wpAny_call (codeAny_mono (F.run X.A X.stack s H ⟨us, kw⟩ ws vs Q E hr I.env0 hb r h) fun y s' z => ?_)
  match y, z with
  | .error e, z => exact hx pins σ H s e s' I z
  | .ok (.ret u), z => exact I.after z
  | .ok .next, z => exact z.elim
  | .ok .brk, z => exact z.elim
  | .ok .cont, z => exact z.elim
/-- a selection of places -/
def sel {α : Type} (ix : List Nat) (l : List α) : List α := ix.filterMap fun i => l[i]?
theorem sel_vals {xs : List V} {us : List Value} (r : Vals xs us) : ∀ ix : List Nat, Vals (sel ix xs) (sel ix us)
  | [] => .nil
  | i :: ix => by
    unfold sel
    rw [List.filterMap_cons, List.filterMap_cons]
    cases e : xs[i]? with
    | none => rw [r.none_of e]; exact sel_vals r ix
    | some v =>
      obtain ⟨u, h1, h2⟩ := r.get e
      rw [h1]
      exact .cons h2 (sel_vals r ix)
/-- how arguments written by place (n of them) and by name (ks) come to the parameters -/
def Bnd (x : Str) (st : Stmt) (ps : List Str) (n : Nat) (ks : List Str) (ix : List Nat) : Prop :=
  ∀ (kV doc pm cdv ct : Value) (an : Option Addr) (us ws : List Value), us.length = n → ws.length = ks.length →
    bindArgs (PySem.W.fnOf x x (defArgs st) (defBody st) (defScope st) .none kV doc pm an cdv ct) ⟨us, ks.zip ws⟩ = pure (ps.zip (sel ix (us ++ ws)))
def tG (sp : Sp) (E : XK) (t : TA) : TE := fun σ H Q => t σ H fun vs H1 => sp vs H1 Q E
def tGK (sp : Sp) (n m : Nat) (ix : List Nat) (E : XK) (t tk : TA) : TE := fun σ H Q => t σ H fun vs H1 => tk σ H1 fun zs H2 => vs.length = n ∧ zs.length = m ∧ sp (sel ix (vs ++ zs)) H2 Q E
/-- plain positional binding -/
def BndP (x : Str) (st : Stmt) (ps : List Str) : Prop :=
  ∀ (kV doc pm cdv ct : Value) (an : Option Addr) (us : List Value), us.length = ps.length → bindArgs (PySem.W.fnOf x x (defArgs st) (defBody st) (defScope st) .none kV doc pm an cdv ct) ⟨us, []⟩ = pure (ps.zip us)
/-- x(e, ..) -/
theorem pe_g (c : Nm X.prog X.w X.K X.mg X.base CX k x st ps sp) (hr : RoomG j X.A) (hk : k ≤ j) (hx : Passes CX X E) (b : BndP x st ps) (hg : Gl X x) (ha : PA X (e :: es) t)
    (hdb : (x == ("__debug__" : Str)) = false := by decide) (he : starEach (e :: es) X.env = (false, eval e X.env) :: starEach es X.env := by rfl) (hpl : (backTo pos (starEach es X.env)).any (·.1) = false := by rfl) :
    PE X (.Call (.Name x p) (e :: es) [] pos) (tG sp E t) := by
  obtain ⟨f, fd, F, hm, G⟩ := c.ex
  have kp := F.kp
  obtain ⟨oc, od, kV, doc, pm, an, cdv, ct, osl, rfl, lk, hcd⟩ := F.ex
  refine ⟨fun pins s σ H Q I h => wpAny_Call_Name_kw (ld_glob I hg hm (PySem.W.callWith_K (h₀ := X.base) I.ok.mod.kin kp (thn (ha.run pos pins s σ H _ I h) fun us s1 ⟨vs, H1, I1, r, q⟩ => ⟨I1.kIn, ?_⟩) he hpl) hdb)⟩
  have q' : sp vs H1 Q E := q
  have h0 := r.length
  have h1 := G.len _ _ _ _ q'
  exact run_g (kw := []) G (hr.mono hk) (.of_eq (b kV doc pm cdv ct an us (by omega))) hx I1 r q'
/-- x(e, .., k = e, ..) -/
theorem pe_gK {ix : List Nat} (c : Nm X.prog X.w X.K X.mg X.base CX k x st ps sp) (hr : RoomG j X.A) (hk : k ≤ j) (hx : Passes CX X E) (b : Bnd x st ps (e :: es).length ks ix) (hg : Gl X x) (ha : PA X (e :: es) t) (hkw : PK X kws tk)
    (hall : (backToKw pos (keywordEach kws X.env)).all (·.1.isSome) = true := by rfl) (hks : (backToKw pos (keywordEach kws X.env)).filterMap (·.1) = ks := by rfl)
    (hdb : (x == ("__debug__" : Str)) = false := by decide) (he : starEach (e :: es) X.env = (false, eval e X.env) :: starEach es X.env := by rfl)
    (hpl : ((backTo pos (starEach (e :: es) X.env)).any (·.1) || (backToKw pos (keywordEach kws X.env)).any (·.1.isNone)) = false := by rfl) :
    PE X (.Call (.Name x p) (e :: es) kws pos) (tGK sp (e :: es).length ks.length ix E t tk) := by
  obtain ⟨f, fd, F, hm, G⟩ := c.ex
  have kp := F.kp
  obtain ⟨oc, od, kV, doc, pm, an, cdv, ct, osl, rfl, lk, hcd⟩ := F.ex
  refine ⟨fun pins s σ H Q I h => wpAny_Call_Name_kw (ld_glob I hg hm (PySem.W.callWith_KW (h₀ := X.base) I.ok.mod.kin kp hall (thn (ha.run pos pins s σ H _ I h) fun us s1 ⟨vs, H1, I1, r, q⟩ => ?_) hpl he) hdb)⟩
  refine thn (hkw.run pos pins s1 σ H1 _ I1 q) fun ws s2 ⟨zs, H2, I2, rz, l1, l2, q2⟩ => ⟨I2.kIn, ?_⟩
  rw [hks]
  exact run_g G (hr.mono hk) (.of_eq (b kV doc pm cdv ct an us ws (r.length.symm.trans l1) (rz.length.symm.trans l2))) hx I2 (sel_vals (r.append rz) ix) q2
/-- x(k = e, ..) -/
theorem pe_gK0 {ix : List Nat} (c : Nm X.prog X.w X.K X.mg X.base CX k x st ps sp) (hr : RoomG j X.A) (hk : k ≤ j) (hx : Passes CX X E) (b : Bnd x st ps 0 ks ix) (hg : Gl X x) (hkw : PK X kws tk)
    (hall : (backToKw pos (keywordEach kws X.env)).all (·.1.isSome) = true := by rfl) (hks : (backToKw pos (keywordEach kws X.env)).filterMap (·.1) = ks := by rfl)
    (hdb : (x == ("__debug__" : Str)) = false := by decide)
    (hpl : ((backTo pos (starEach [] X.env)).any (·.1) || (backToKw pos (keywordEach kws X.env)).any (·.1.isNone)) = false := by rfl) :
    PE X (.Call (.Name x p) [] kws pos) (tGK sp 0 ks.length ix E tNil tk) := by
  obtain ⟨f, fd, F, hm, G⟩ := c.ex
  have kp := F.kp
  obtain ⟨oc, od, kV, doc, pm, an, cdv, ct, osl, rfl, lk, hcd⟩ := F.ex
  refine ⟨fun pins s σ H Q I h => wpAny_Call_Name_kw (ld_glob I hg hm (PySem.W.callWith_KW0 (h₀ := X.base) I.ok.mod.kin kp hall ?_ hpl) hdb)⟩
  refine thn (hkw.run pos pins s σ H _ I h) fun ws s2 ⟨zs, H2, I2, rz, l1, l2, q2⟩ => ⟨I2.kIn, ?_⟩
  rw [hks]
  exact run_g G (hr.mono hk) (.of_eq (b kV doc pm cdv ct an [] ws rfl (rz.length.symm.trans l2))) hx I2 (sel_vals (xs := [] ++ zs) (us := [] ++ ws) rz ix) q2
end
/-! ## the law's own call -/
theorem law_g {P : Program} {w : World} {K : PySem.W.Frag} {mg mb : Str → Option Value} {CX : CXT} {k : Nat} {a fa : Addr} {fd : FuncData} {x : Str} {sp : Sp} {s₁ : Shared} {vs : List Value} {ns : List Int}
    (KX : K.In s₁.heap) (hG : s₁.heap.Ns mainGlobals mg) (hB : s₁.heap.Ns builtinsNs mb) (hBB : ∀ x : Str, x ≠ "__name__" → mb x = bootBuiltins x) (hL : s₁.heap.NoLimit) (hgen : s₁.gens = #[])
    (ha : s₁.heap.get? a = some { cls := .type "list", data := .seq vs.toArray }) (hi : IntsAre vs ns) (hl : ns.length ≤ sizeLine) (hr : RoomG k callerA)
    (F : ∀ base : Heap, K.In base → base.Ns mainGlobals mg → FnG P w K mg base CX k fa fd [x] sp) (hbind : ∀ (s : Shared) (u : Value), BindsTo s fd ⟨[u], []⟩ [(x, u)])
    (hsp : ∀ H : Hp, SqL K H a (ns.map V.int) → (∀ b, H b = none ∨ b = a) → sp [.ref a] H (fun v _ => v = .bl true) fun _ _ _ => False)
    (hCX : ∀ H e s', CX [] H s₁ (fun _ _ _ => False) e s' → False) :
    codeAny (model P w) callerA (.call (.ref fa) ⟨[.ref a], []⟩) (fun r s' => r = .ok (.ret (.bool true)) ∧ OldK s₁.heap s'.heap ∧ s'.os = s₁.os ∧ AllBare s'.gens) s₁ := by
  -- the script is tracked, locked, where it is no object of the text's own
  let so : Obj := { cls := .type "list", data := .seq vs.toArray }
  have main : ∀ H : Hp, (∀ b, H b = none ∨ (b = a ∧ K.lookup a = none ∧ H b = some (.frz so (.lst (ns.map V.int))))) → SqL K H a (ns.map V.int) → HOk P w H s₁.heap →
      codeAny (model P w) callerA (.call (.ref fa) ⟨[.ref a], []⟩) (fun r s' => r = .ok (.ret (.bool true)) ∧ OldK s₁.heap s'.heap ∧ s'.os = s₁.os ∧ AllBare s'.gens) s₁ := by
    intro H only hS hok
    have isNone : ∀ {b : Addr} {o : Obj}, s₁.heap.get? b = some o → (∀ (y : H b = some (.frz so (.lst (ns.map V.int)))), b = a → K.lookup a = none → o = so → False) → H b = none := fun {b o} e n => by
      rcases only b with q | ⟨q1, q2, q3⟩
      · exact q
      · refine (n q3 q1 q2 ?_).elim
        subst q1
        exact Option.some.inj (e.symm.trans ha)
    have nsOf : ∀ {b : Addr} {m : Str → Option Value}, s₁.heap.Ns b m → (hidT s₁.heap H).Ns b m := fun {b m} ⟨o, es, ep, e, d, r⟩ =>
      ⟨o, es, ep, hidT_get e (isNone e fun _ _ _ z => by subst z; cases d), d, r⟩
    have hK : K.In (hidT s₁.heap H) := fun b o e => hidT_get (KX b o e) (isNone (KX b o e) fun _ y z _ => by subst y; rw [z] at e; cases e)
    have hM : Mod K mg (hidT s₁.heap H) := ⟨hK, nsOf hG, ⟨mb, nsOf hB, hBB⟩, hL.elim fun mc z => ⟨mc, nsOf z.1, z.2⟩⟩
    have nofr : ∀ b : Addr, b ∉ frs ([] : List Env) := fun b z => by cases z
    have e0 : Env0 P w K mg (hidT s₁.heap H) callerA [] s₁ H := ⟨rfl, hM, fun b o e => of_hidT e, by rw [hidT_size] <;> exact Nat.le_refl _, trivial, fun b z => (nofr b z).elim, hok, .of_eq hgen⟩
    have hs : sp [.ref a] H (fun v _ => v = .bl true) fun _ _ _ => False := hsp H hS fun b => (only b).elim Or.inl fun z => Or.inr z.1
    refine codeAny_mono ((F _ hK (nsOf hG)).run callerA [] s₁ H ⟨[.ref a], []⟩ [.ref a] [.ref a] _ _ hr e0 (hbind s₁ (.ref a)) (.cons rfl .nil) hs) fun r s' z => ?_
    match r, z with
    | .error e, z => exact (hCX H e s' z).elim
    | .ok .next, z => exact z.elim
    | .ok .brk, z => exact z.elim
    | .ok .cont, z => exact z.elim
    | .ok (.ret u), ⟨v, H', os, bare, un, hok', rv, q⟩ =>
      obtain rfl : v = .bl true := q
      obtain rfl : u = Value.bool true := rv
      refine ⟨rfl, OldK.of_keep fun b o e => ?_, os, bare⟩
      rcases only b with y | ⟨_, _, y⟩
      · exact un.keep b o e y (nofr b) (by intro c; cases c)
      · obtain ⟨e1, _⟩ := hok b _ y
        obtain ⟨e2, _⟩ := hok' b _ (un.frzs b _ _ y)
        exact e2.trans (e1.symm.trans e)
  cases hk : K.lookup a with
  | some o =>
    have e : o = so := Option.some.inj ((KX a o hk).symm.trans ha)
    subst e
    exact main (fun _ => none) (fun _ => .inl rfl) (.inr ⟨so, vs.toArray, _, hk, rfl, rfl, rfl, by rw [List.size_toArray, hi.length]; exact hl, by simpa using vals_ints hi⟩) fun b u z => by cases z
  | none =>
    have at_a : (fun b : Addr => if b = a then some (HO.frz so (.lst (ns.map V.int))) else none) a = some (HO.frz so (.lst (ns.map V.int))) := if_pos rfl
    refine main (fun b => if b = a then some (.frz so (.lst (ns.map V.int))) else none) (fun b => ?_) (.inl (.inr ⟨so, at_a⟩)) fun b u z => ?_
    · by_cases y : b = a
      · exact .inr ⟨y, hk, if_pos y⟩
      · exact .inl (if_neg y)
    · by_cases y : b = a
      · subst y
        obtain rfl : HO.frz so (.lst (ns.map V.int)) = u := Option.some.inj (at_a.symm.trans z)
        exact ⟨ha, by rw [List.length_map] <;> exact hl, vs, _, vals_ints hi, ha⟩
      · have z' : (none : Option HO) = some u := (if_neg y).symm.trans z
        cases z'
theorem walk_g {l : PySem.W.OpenLaw} {n k : Nat} {q : Program} {loose : List Str} {XP : (Str → Option Value) → Heap → Prop} {YP : World → Heap → Prop} {d : DefRec} {K : Params → PySem.W.Frag} {CX : World → CXT} {sp : World → Sp} {x : Str}
    (hn : l.most = some n) (hn2 : n ≤ sizeLine) (hdf : d.params.defaults = []) (hr : RoomG k callerA) (hY : ∀ (w : World) (h : Heap), YP w h → (K w.params).In h)
    (F : ∀ (w : World) (mg : Str → Option Value) (fa : Addr) (h : Heap), (K w.params).In h → h.Ns mainGlobals mg → mg d.name = some (.ref fa) →
      ∃ fd : FuncData, (∀ (s : Shared) (u : Value), BindsTo s fd ⟨[u], []⟩ [(x, u)]) ∧ ∀ base : Heap, (K w.params).In base → base.Ns mainGlobals mg → FnG l.prog w (K w.params) mg base (CX w) k fa fd [x] (sp w))
    (hsp : ∀ (w : World) (H : Hp) (a : Addr) (ns : List Int), ns.length ≤ n → SqL (K w.params) H a (ns.map V.int) → (∀ b, H b = none ∨ b = a) → sp w [.ref a] H (fun v _ => v = .bl true) fun _ _ _ => False)
    (hCX : ∀ (w : World) (H : Hp) (s : Shared) (e : Value) (s' : Shared), CX w [] H s (fun _ _ _ => False) e s' → False) : PySem.W.WalkO q loose XP YP l.row.toRowW d [] (fun f vs => PySem.call f vs) := by
  refine Att.attach_call hn hdf fun w s₀ s₁ mg mb fa o pm cd doc a vs ns G Y ho hd hcd hmg hobj hints hlen hg => ?_
  obtain ⟨fd, hb, hF⟩ := F w mg fa _ (hY w _ Y) G.T.g hmg
  exact law_g (hY w _ Y) G.T.g G.T.b G.T.builtins G.T.nolimit hg hobj hints (Nat.le_trans hlen hn2) hr hF hb (fun H hS hO => hsp w H a ns hlen hS hO) fun H e s' => hCX w H s₁ e s'
theorem roomTop {k : Nat} (h : k ≤ 60 := by decide) : RoomG k callerA := ⟨⟨rfl, by show 1 + claimMargin + 3 * k + 5 < recursionLimit; have : claimMargin + 200 < recursionLimit := (by decide); omega, by show 4 + 16 * k + 200 < cLine; have : 2000 < cLine := (by decide); omega⟩, rfl⟩
open PySem PySem.Spec PyProof.Rows L2
/-! ## rules told over a given written part -/
section
variable {X : Cx} {K : PySem.W.Frag}
theorem ix_seqK (e : X.K = K) : IxR X (rIx K) := by subst e; exact ix_seq
theorem ix_listK (e : X.K = K) : IxR X (rIxL K) := by subst e; exact ix_list
theorem ix_tupK (e : X.K = K) : IxR X (rIxT K) := by subst e; exact ix_tup
theorem call_lenK (e : X.K = K) : CallR X (.builtin "len") (fun xs H Q => ∃ x n, xs = [x] ∧ LenV K x H n ∧ Q (.int n) H) := by subst e; exact call_len
theorem call_isiK' (e : X.K = K) : CallR X (.builtin "isinstance") (rIsi K) := by subst e; exact call_isi
theorem op_inK (e : X.K = K) : OpR X (compareOp .In) (rIn K false) := by subst e; exact op_in_seq
theorem op_notInK (e : X.K = K) : OpR X (compareOp .NotIn) (rIn K true) := by subst e; exact op_notIn_seq
theorem call_reprK (e : X.K = K) (hg : X.A.guards = some []) (hu : X.A.units + 60 < cLine) : CallR X (.builtin "repr") (rRepr K) := by subst e; exact call_repr hg hu
theorem call_allK (e : X.K = K) (hc : X.calm = true) : CallR X (.builtin "all") (rAll K) := by subst e; exact cr_all hc
theorem op_eqDK (e : X.K = K) (hu : X.A.units + 64 < cLine) : OpR X (compareOp .Eq) (rEqD K) := by subst e; exact op_eqD hu
theorem op_neDK (e : X.K = K) (hu : X.A.units + 64 < cLine) : OpR X (compareOp .NotEq) (rNeD K) := by subst e; exact op_neD hu
theorem pi_listK {tg l : Expr} {tl : TE} (e : X.K = K) (hl : PE X l tl) : PI X tg l (iList K tl) := by subst e; exact pi_list hl
/-- a built-in class by its name, a constant of the text -/
theorem pe_ty {x : Str} {pos : Pos} (n : String) (hg : Gl X x) (hm : X.mg x = none) (hv : bootBuiltins x = some (.type n)) (hn : x ≠ "__name__" := by decide) (hd : (x == ("__debug__" : Str)) = false := by decide) : PE X (.Name x pos) (tC (.ty n)) :=
  pe_bltn hg hm hv rfl hn hd
theorem pe_cst {x : Str} {pos : Pos} {v : V} (hg : Gl X x) (h : ∃ u, X.mg x = some u ∧ RelV v u) (hd : (x == ("__debug__" : Str)) = false := by decide) : PE X (.Name x pos) (tC v) :=
  let ⟨_, hm, r⟩ := h
  pe_glob hg hm r hd
/-- a text times a number -/
def rMulS : R2 := fun x y H Q => ∃ (z : Str) (n : Int), x = .str z ∧ y = .int n ∧ z.length ≤ 1000 ∧ -1000 ≤ n ∧ n ≤ 10000 ∧ Q (.str ⟨(List.replicate n.toNat z.cps.toList).flatten.toArray⟩) H
theorem fold_app : ∀ (l : List (Array Nat)) (acc : Array Nat), l.foldl (· ++ ·) acc = acc ++ (l.map Array.toList).flatten.toArray
  | [], acc => by simp
  | x :: l, acc => by
    rw [List.foldl_cons, fold_app l (acc ++ x)]
    apply Array.ext'
    simp
theorem op_mul_str : OpR X (binaryOp .Mult) rMulS := by
  intro pins s σ H x y v u Q I rx ry h
  obtain ⟨z, n, rfl, rfl, hz, h1, h2, q⟩ := h
  obtain ⟨t, rfl⟩ := rx
  obtain ⟨t', rfl⟩ := ry
  have big : 1000 * 10000 ≤ sizeLine := by decide
  have e : ∀ k : Nat, ((List.replicate k z.cps).foldl (· ++ ·) #[] : Array Nat) = (List.replicate k z.cps.toList).flatten.toArray := fun k => by
    rw [fold_app, List.map_replicate]; simp
  have hzn : z.length * n.toNat ≤ 1000 * 10000 := Nat.mul_le_mul hz (by omega)
  refine PySem.P.mul_str (by rw [decide_eq_false (by omega), decide_eq_false (by omega)]; rfl) (fun a _ => ?_) (fun a _ => ?_) ?_
  · have : (1001 : Int) ≤ (2 ^ 63 - 1) / n := Int.le_ediv_of_mul_le (by omega) (by omega)
    omega
  · exact decide_eq_false (by omega)
  · by_cases c1 : n < 1
    · rw [if_pos c1]
      have e0 : n.toNat = 0 := by omega
      rw [e0] at q
      exact ⟨Nat.zero_le _, .str _, H, I.tok _, ⟨_, rfl⟩, q⟩
    · rw [if_neg c1]
      by_cases c2 : (n == 1 || z.length == 0) = true
      · rw [if_pos c2]
        refine ⟨.str z, H, I, ⟨t, rfl⟩, ?_⟩
        have ez : (⟨(List.replicate n.toNat z.cps.toList).flatten.toArray⟩ : Str) = z := by
          rw [Bool.or_eq_true, beq_iff_eq, beq_iff_eq] at c2
          rcases c2 with c2 | c2
          · subst c2
            show (⟨(List.replicate 1 z.cps.toList).flatten.toArray⟩ : Str) = z
            simp
          · have hz0 : z.cps.toList = [] := by
              have : z.cps.toList.length = 0 := by rw [Array.length_toList]; exact c2
              exact List.length_eq_zero_iff.mp this
            obtain ⟨cps⟩ := z
            have hz1 : cps.toList = [] := hz0
            have : cps = #[] := by apply Array.ext'; rw [hz1]
            subst this
            simp
        rw [ez] at q
        exact q
      · rw [if_neg c2, e]
        refine ⟨?_, .str _, H, I.tok _, ⟨_, rfl⟩, q⟩
        show (List.replicate n.toNat z.cps.toList).flatten.toArray.size ≤ sizeLine
        rw [List.size_toArray, List.length_flatten, List.map_replicate, List.sum_replicate_nat, Array.length_toList]
        have : n.toNat * z.cps.size = z.length * n.toNat := Nat.mul_comm _ _
        omega
end
open PySem PySem.Spec PyProof.Rows L2
/-! ## texts in order -/
def tLt (a b : Str) : Bool := decide (a.cps.toList < b.cps.toList)
theorem tLt_irr (a : Str) : tLt a a = false := PyProof.Rows.strKind.irrefl _
theorem tLt_tr {a b c : Str} (h1 : tLt a b = true) (h2 : tLt b c = true) : tLt a c = true := PyProof.Rows.strKind.trans _ _ _ h1 h2
theorem tLt_tot {a b : Str} (h1 : tLt a b = false) (h2 : tLt b a = false) : a = b := by
  have e : a.cps.toList = b.cps.toList := PyProof.Rows.strKind.total _ _ h1 h2
  obtain ⟨⟨a⟩⟩ := a
  obtain ⟨⟨b⟩⟩ := b
  cases e
  rfl
/-- rising -/
abbrev TS (ys : List Str) : Prop := ys.Pairwise fun a b => tLt b a = false
theorem tLe_tr {a b c : Str} (h1 : tLt b a = false) (h2 : tLt c b = false) : tLt c a = false := by
  cases e : tLt c a with
  | false => rfl
  | true => rcases PyProof.Rows.strKind.negTrans _ b.cps.toList _ e with z | z
            · exact absurd (show tLt c b = true from z) (by rw [h2]; decide)
            · exact absurd (show tLt b a = true from z) (by rw [h1]; decide)
theorem ts_of_rising : ∀ {ys : List Str} {p : Str}, risingS p ys = true → (∀ y ∈ ys, tLt y p = false) ∧ TS ys
  | [], _, _ => ⟨(fun _ h => by cases h), List.Pairwise.nil⟩
  | y :: ys, p, h => by
    obtain ⟨h1, h2⟩ := Bool.and_eq_true_iff.mp (show (!ltCps y.cps.toList p.cps.toList && risingS y ys) = true from h)
    have h1' : tLt y p = false := by
      have e : ltCps y.cps.toList p.cps.toList = tLt y p := by
        first | rfl | (unfold tLt; exact ltCps_eq _ _)
      rw [← e]
      simpa using h1
    obtain ⟨a, b⟩ := ts_of_rising h2
    refine ⟨fun z hz => ?_, .cons a b⟩
    rcases List.mem_cons.mp hz with rfl | hz
    · exact h1'
    · exact tLe_tr h1' (a z hz)
theorem ts_of_sortedS {ys : List Str} (h : sortedS ys = true) : TS ys := by
  cases ys with
  | nil => exact List.Pairwise.nil
  | cons y ys =>
    obtain ⟨a, b⟩ := ts_of_rising (show risingS y ys = true from h)
    exact .cons a b
theorem ts_uniq {xs ys : List Str} (h : xs.Perm ys) (h1 : TS xs) (h2 : TS ys) : xs = ys :=
  h.eq_of_pairwise (le := fun a b => tLt b a = false) (fun a b _ _ h1 h2 => tLt_tot h2 h1) h1 h2
theorem dle_str (a b : Str) : PySem.W.dataLe false (fun x : Str => PyData.str x) a b = !tLt b a := by
  show (!(PyProof.Rows.lexLt PyProof.Rows.itemOrd [.inr b.cps.toList] [.inr a.cps.toList])) = _
  have e : PyProof.Rows.lexLt PyProof.Rows.itemOrd [.inr b.cps.toList] [.inr a.cps.toList] = tLt b a := by
    rw [PyProof.Rows.lex_cons]
    show (tLt b a || (!tLt a b && false)) = _
    rw [Bool.and_false, Bool.or_false]
  rw [e]
/-- the texts in order -/
def tsort (xs : List Str) : List Str := xs.mergeSort (PySem.W.dataLe false fun x : Str => PyData.str x)
theorem tsort_perm (xs : List Str) : (tsort xs).Perm xs := List.mergeSort_perm _ _
theorem tsort_ts (xs : List Str) : TS (tsort xs) := by
  have h := List.pairwise_mergeSort (le := PySem.W.dataLe false fun x : Str => PyData.str x) (fun a b c h1 h2 => by
    rw [dle_str] at *
    have h1' : tLt b a = false := by simpa using h1
    have h2' : tLt c b = false := by simpa using h2
    rw [tLe_tr h1' h2']
    rfl) (fun a b => by
    rw [dle_str, dle_str]
    cases e : tLt b a with
    | false => rfl
    | true =>
      cases e2 : tLt a b with
      | false => rfl
      | true => exact absurd (tLt_tr e e2) (by rw [tLt_irr]; decide)) xs
  refine h.imp fun {a b} z => ?_
  rw [dle_str] at z
  simpa using z
theorem tsort_uniq {xs ys : List Str} (h : ys.Perm xs) (h1 : TS ys) : ys = tsort xs := ts_uniq (h.trans (tsort_perm xs).symm) h1 (tsort_ts xs)
/-! ## sorted(.., key=str) -/
theorem t_key (a : Addr) : Builtin.«list.sort» ⟨[.ref a], [(Str.ofString "key", .type "str")]⟩ = ksk_tree a (.type "str") false := rfl
theorem ea_strs : ∀ {vs : List Value} {xs : List Str}, StrsAre vs xs → PySem.W.EachIs (fun v x => ∃ t, v = Value.str x t) vs xs
  | _, _, .nil => .nil
  | _, _, .cons x t h => .cons ⟨t, rfl⟩ (ea_strs h)
theorem strs_ea : ∀ {vs : List Value} {xs : List Str}, PySem.W.EachIs (fun v x => ∃ t, v = Value.str x t) vs xs → StrsAre vs xs
  | _, _, .nil => .nil
  | _, _, .cons ⟨t, e⟩ h => by cases e; exact .cons _ t (strs_ea h)
theorem strs_alike (xs : List Str) : PySem.W.AllAlike (xs.map fun x => PyData.str x) := fun d hd d' hd' => by
  obtain ⟨_, _, rfl⟩ := List.mem_map.mp hd
  obtain ⟨_, _, rfl⟩ := List.mem_map.mp hd'
  first | rfl | (unfold PySem.W.alike; rfl)
theorem strs_sortable (xs : List Str) : PySem.W.Sortable (xs.map fun x => PyData.str x) := .inr fun d hd => by
  obtain ⟨_, _, rfl⟩ := List.mem_map.mp hd
  exact ⟨(fun z => by cases z), (fun _ z => by cases z)⟩
theorem str_depth (x : Str) : (PyData.str x).depth ≤ 1 := by first | decide | (unfold PyData.depth; decide) | simp [PyData.depth]
theorem str_turn {prog : Program} {w : World} {A : Around} {s : Shared} (v : Value) (x : Str) (e : ∃ t, v = Value.str x t) (h : Heap) (tk : Nat) :
    wpAny (model prog w) A (call (.type "str") [v]) (PySem.W.KeyPure (.str x) { s with heap := h, toks := tk }) (fun _ _ => False) { s with heap := h, toks := tk } := by
  obtain ⟨t, rfl⟩ := e
  exact PySem.P.str_of_str ⟨h, tk, rfl, fun _ _ z => z, .str x t⟩
section
variable {X : Cx}
def rSortK (K : PySem.W.Frag) : List V → List V → Hp → VK → Prop := fun vs zs H Q => ∃ (a : Addr) (xs : List Str), vs = [V.ref a] ∧ zs = [.ty "str"] ∧ SqL K H a (xs.map V.str) ∧ ∀ p, H p = none → Q (.ref p) (upd H p (.lst ((tsort xs).map V.str)))
theorem sortK_out {pins : List (Addr × Obj)} {s : Shared} {σ : L2.St} {H : Hp} {Q : VK} {xs : List Str} {p : Addr} {out : List Value} {c : Nat} {h' : Heap} {tk : Nat} (I : L2.Inv X pins σ H s) (hz : xs.length ≤ sizeLine) (hp : s.heap.objs.size ≤ p)
    (q : ∀ (p : Addr), H p = none → Q (V.ref p) (upd H p (HO.lst ((tsort xs).map V.str)))) (k : ∀ (b : Addr) (o : Obj), s.heap.get? b = some o → h'.get? b = some o) (e : h'.get? p = some (seqObj "list" out.toArray c))
    (ea : PySem.W.EachIs (fun v x => ∃ t, v = Value.str x t) out (tsort xs)) : EP X pins σ Q (Value.ref p) { s with heap := h', toks := tk } := by
  have hlen : ((tsort xs).map V.str).length ≤ sizeLine := by rw [List.length_map, (tsort_perm xs).length_eq]; exact hz
  exact ⟨.ref p, upd H p (.lst ((tsort xs).map V.str)), I.laid (t' := tk) k hp ⟨hlen, out, c, vals_of_strs (strs_ea ea), e⟩, rfl, q _ (I.hok.fresh hp)⟩
theorem cr_sortK (hu : X.A.units + 60 < cLine) : CallRK X (.builtin "sorted") [Str.ofString "key"] (rSortK X.K) := by
  intro pins s σ H vs zs us ws Q I r rz h
  obtain ⟨a, xs, rfl, rfl, hs, q⟩ := h
  obtain rfl := Vals.ref1 r
  obtain ⟨w1, rfl, e1⟩ := vals1 rz
  obtain rfl : w1 = Value.type "str" := e1
  obtain ⟨its, rv, hl, hz⟩ := I.list hs
  rw [List.length_map] at hz
  exact PySem.W.sorted_key_data (fun x : Str => PyData.str x) hl.isList (ea_strs rv.strs) (strs_alike xs) (strs_sortable xs) hz (fun x _ => by have := str_depth x; omega) (PyProof.Rows.ksk_s1 _ _) (fun _ => PyProof.Rows.ksk_l1 _ _) t_key
    (fun v x e _ h tk _ => str_turn v x e h tk) fun out c h' tk k _ e _ ea => sortK_out I hz (Nat.le_succ _) q k e ea
/-- .. of a dict whose keys are texts -/
def rSortKD : List V → List V → Hp → VK → Prop := fun vs zs H Q => ∃ (a : Addr) (kvs : List (Key × V)) (xs : List Str), vs = [V.ref a] ∧ zs = [.ty "str"] ∧ Rd H a (.dK kvs) ∧ kvs.map (·.1) = xs.map Sum.inr ∧ ∀ p, H p = none → Q (.ref p) (upd H p (.lst ((tsort xs).map V.str)))
theorem cr_sortKD (hu : X.A.units + 60 < cLine) (hcalm : X.calm = true) : CallRK X (.builtin "sorted") [Str.ofString "key"] rSortKD := by
  intro pins s σ H vs zs us ws Q I r rz h
  obtain ⟨a, kvs, ks, rfl, rfl, hd, hks, q⟩ := h
  obtain rfl := Vals.ref1 r
  obtain ⟨w1, rfl, e1⟩ := vals1 rz
  obtain rfl : w1 = Value.type "str" := e1
  obtain ⟨z, lo, vs, rel, dd⟩ := dk_rd I.hok hd
  obtain ⟨ep, hat⟩ := dd.dictAt
  have hkeys : vs.map (·.1) = ks.map Sum.inr := rel.keys.symm.trans hks
  have hl : vs.length = ks.length := by
    have e := congrArg List.length hkeys
    rw [List.length_map, List.length_map] at e
    exact e
  have hl2 : kvs.length = ks.length := by
    have e := congrArg List.length hks
    rw [List.length_map, List.length_map] at e
    exact e
  have h16 : vs.length ≤ sizeLine := by rw [hl, ← hl2]; exact z
  refine PyProof.Rows.call_function_entry_kw PyProof.Rows.kind_sorted PyProof.Rows.plain_sorted PyProof.Rows.entry_sorted (PyProof.Rows.ksk_s1 _ _) ?_
  unfold Builtin.«sorted»
  refine wpAny_bind (m := checkCount "sorted" 1 1 _) (wpAny_pure ?_)
  refine wpAny_bind (PySem.W.kdu_collect (A := X.A.in1) (PySem.W.kdl_dict (knd := mixKind X.prog X.w) (kvs := vs) (ep := ep) lo) (I.ok.hd hcalm) hat h16 fun h' tk acc hk hacc => ?_)
  have hal : acc.toList.length = ks.length := by rw [Array.length_toList, hacc.1, hl]
  have hS : StrsAre acc.toList ks := strs_at hal fun j v e => by
    obtain ⟨k, x, e1, e2⟩ := hacc.2 j v (by rw [← Array.getElem?_toList]; exact e)
    have e3 : (vs.map (·.1))[j]? = some k := by rw [List.getElem?_map, e1]; all_goals rfl
    rw [hkeys, List.getElem?_map] at e3
    cases e4 : ks[j]? with
    | none => rw [e4] at e3; cases e3
    | some y =>
      rw [e4] at e3
      have e5 : Sum.inr y = k := Option.some.inj e3
      subst e5
      obtain ⟨t, ev⟩ := Value.isStrOf_shape (x := y) (v := v) e2
      exact ⟨y, t, rfl, ev⟩
  have I1 : Inv X pins σ H { s with heap := h', toks := tk } := I.kept hk
  have hzk : ks.length ≤ sizeLine := by rw [← hl]; exact h16
  refine wpAny_bind (wpAny_newList ?_ (by rw [hal]; exact hzk))
  have hoL : (h'.push (seqObj "list" acc.toList.toArray 0)).get? h'.objs.size = some (seqObj "list" acc.toList.toArray 0) := Heap.get?_push_size _ rfl
  show wpAny _ _ _ _ _ { s with heap := h'.push (seqObj "list" acc.toList.toArray 0), toks := tk }
  have ea := ea_strs hS
  have up : ∀ {g : Heap}, PySem.W.KeepsBut h'.objs.size (h'.push (seqObj "list" acc.toList.toArray 0)) g → ∀ b o, h'.get? b = some o → g.get? b = some o := fun {g} kp b o e =>
    kp b o (Nat.ne_of_lt (Heap.lt_size e)) (Heap.get?_push_of_some _ e)
  refine wpAny_bind (wpAny_holding (wpAny_call_entry_kw PyProof.Rows.slot_list_sort ⟨_, hoL, rfl⟩ PyProof.Rows.entry_list_sort ?_ (PyProof.Rows.ksk_l1 _ _)))
  show wpAny _ _ (Builtin.«list.sort» ⟨[.ref h'.objs.size], [(Str.ofString "key", .type "str")]⟩) _ _ _
  rw [t_key]
  refine PySem.W.keyH_tree (s := { s with heap := h'.push (seqObj "list" acc.toList.toArray 0), toks := tk }) (kz := ks.map fun x => PyData.str x) hoL (by rw [List.length_map, hal]) (by rw [hal]; exact hzk) (strs_alike ks) (strs_sortable ks) (fun d hd => ?_)
    (PySem.W.keyH_turns (k := fun x : Str => PyData.str x) ea fun v x e _ h tk _ => str_turn v x e h tk) fun h2 tk2 out c kp e ko => ⟨_, rfl, wpAny_pure ⟨_, rfl, ?_⟩⟩
  · obtain ⟨x, _, rfl⟩ := List.mem_map.mp hd
    have := str_depth x
    show X.A.units + 1 + 1 + _ < _
    omega
  · have h3 : EP X pins σ Q (Value.ref h'.objs.size) { ({ s with heap := h', toks := tk } : Shared) with heap := h2, toks := tk2 } := sortK_out I1 hzk (Nat.le_refl _) q (up kp) e (PySem.W.keyedOut_each (fun x : Str => PyData.str x) ko ea)
    exact h3
end
open PySem PySem.Spec PyProof.Rows L2
theorem RoomG.in1 {k : Nat} {A : Around} (x : RoomG (k + 1) A) : RoomG k A.in1 := ⟨x.r.in1, x.g⟩
theorem RoomG.make {k : Nat} {A : Around} (x : RoomG (k + 1) A) (C : Addr) (us : List Value) (kw : List (Str × Value)) : RoomG k (A.under (.builtin "type.__call__" ⟨.ref C :: us, kw⟩)) :=
  ⟨x.r.make C us kw, by
    show pushGuards (Code.guards (.builtin "type.__call__" ⟨.ref C :: us, kw⟩)) A.guards = _
    rw [x.g]
    have e : Code.isGuard (.builtin "type.__call__" ⟨.ref C :: us, kw⟩) = false := by first | rfl | decide | (unfold Code.isGuard; decide)
    unfold Code.guards
    rw [e]
    rfl⟩
section
variable {P : Program} {w : World} {K : PySem.W.Frag} {mg : Str → Option Value} {base : Heap} {CX : CXT}
theorem fnG_core {f : Addr} {x q : Str} {args : Arguments} {body : List Stmt} {scope : Scope} {oc : Value} {od : Option Addr} {dV kV doc pm cdv ct : Value} {an : Option Addr} {osl : Array (Option Value)} {N ps : List Str} {k : Nat} {sp : Sp}
    (lk : K.lookup f = some ⟨oc, od, .func (PySem.W.fnOf x q args body scope dV kV doc pm an cdv ct), osl⟩) (hcd : PySem.W.codeIn K cdv q = true) (S : FnScope N ps scope) (len : ∀ vs H Q E, sp vs H Q E → vs.length = ps.length)
    (hb : ∀ (A : Around) (outer : List Env) (s : Shared) (H : Hp) (vs : List V) (Q : VK) (E : XK), RoomG k (A.deeper (envOfC q scope s.heap.objs.size f cdv)) → sp vs H Q E →
      ∃ t, PSs (cxOf CX P w K mg base N q scope f cdv A outer s H E) body t ∧ t { nx := fun _ H' => Q .non H', rt := Q } (start N vs) H) : FnG P w K mg base CX (k + 1) f (PySem.W.fnOf x q args body scope dV kV doc pm an cdv ct) ps sp := by
  refine ⟨len, ?_⟩
  intro A outer s H args us vs Q E hr e0 bt rv hs
  have hl := len _ _ _ _ hs
  have kin : K.In s.heap := e0.mod.kin.keeps fun b o e => (e0.bs b o e).1
  have nol : s.heap.NoLimit := e0.mod.nolimit.keeps fun b o e => (e0.bs b o e).1
  refine codeAny_call_function hr.r.depth (kin _ _ lk) rfl S.co S.gen rfl (PySem.W.codeRec_of kin hcd) (bt _ _ _ _ ?_)
  refine wpAny_newFunctionEnv_cells S.kind (fun ⟨n, v⟩ hy => ?_) fun env he s1 x1 => ?_
  · cases S.par n (List.of_mem_zip hy).1 with
    | inl q => exact .inl q
    | inr q => exact .inr ⟨q, PySem.W.cellsFrom_some _ _ _ (.inl q)⟩
  · subst he
    refine ⟨nol.keeps x1.toInCall.keep, codeAny_func ?_⟩
    obtain ⟨t, ht, hq⟩ := hb A outer s H vs Q E (hr.deeper _) hs
    have I : Inv (cxOf CX P w K mg base N q scope f cdv A outer s H E) [] (start N vs) H s1 := inv_start S hr.r.hd e0 hl rv x1
    refine wpAny_mono (ht.run [] s1 (start N vs) H _ I hq) (fun fl s' z => ?_) fun e s' z => z
    cases fl with
    | ret u => obtain ⟨v, σ', H', J, r2, q⟩ := z; exact ⟨v, H', J.os, J.bare, J.base, J.hok, r2, q⟩
    | next => obtain ⟨σ', H', J, q⟩ := z; exact ⟨.non, H', J.os, J.bare, J.base, J.hok, rfl, q⟩
    | brk => obtain ⟨_, _, _, q⟩ := z; exact q.elim
    | cont => obtain ⟨_, _, _, q⟩ := z; exact q.elim
/-- a method m of the class at C, of the class's own body: q its qualified name, st its statement -/
structure Mth (P : Program) (w : World) (K : PySem.W.Frag) (mg : Str → Option Value) (base : Heap) (CX : CXT) (k : Nat) (C : Addr) (m q : Str) (st : Stmt) (ps : List Str) (sp : Sp) : Prop where
  ex : ∃ (f : Addr) (fd : FuncData), Fun K m q st f fd ∧ Meth K C m f ∧ PySem.W.fnIn K f = true ∧ FnG P w K mg base CX k f fd ps sp
/-- THE RULE for a method -/
theorem mth_of {m q : Str} {st : Stmt} {C f : Addr} {fd : FuncData} {N ps : List Str} {k : Nat} {sp : Sp} (F : Fun K m q st f fd) (hm : Meth K C m f) (S : FnScope N ps (defScope st)) (len : ∀ vs H Q E, sp vs H Q E → vs.length = ps.length)
    (hb : ∀ (cdv : Value) (A : Around) (outer : List Env) (s : Shared) (H : Hp) (vs : List V) (Q : VK) (E : XK), RoomG k (A.deeper (envOfC q (defScope st) s.heap.objs.size f cdv)) → sp vs H Q E →
      ∃ t, PSs (cxOf CX P w K mg base N q (defScope st) f cdv A outer s H E) (defBody st) t ∧ t { nx := fun _ H' => Q .non H', rt := Q } (start N vs) H) : Mth P w K mg base CX (k + 1) C m q st ps sp := by
  refine ⟨f, fd, F, hm, ?_, ?_⟩
  · obtain ⟨oc, od, kV, doc, pm, an, cdv, ct, osl, rfl, lk, hcd⟩ := F.ex
    unfold PySem.W.fnIn
    rw [lk]
  · obtain ⟨oc, od, kV, doc, pm, an, cdv, ct, osl, rfl, lk, hcd⟩ := F.ex
    exact fnG_core lk hcd S len fun A outer s H vs Q E hr h => hb cdv A outer s H vs Q E hr h
theorem mth_of0 {m q : Str} {st : Stmt} {C f : Addr} {fd : FuncData} {N ps : List Str} {k : Nat} {sp : Sp} (F : Fun K m q st f fd) (hm : Meth K C m f) (S : FnScope N ps (defScope st)) (len : ∀ vs H Q E, sp vs H Q E → vs.length = ps.length)
    (hb : ∀ (cdv : Value) (A : Around) (outer : List Env) (s : Shared) (H : Hp) (vs : List V) (Q : VK) (E : XK), RoomG k (A.deeper (envOfC q (defScope st) s.heap.objs.size f cdv)) → sp vs H Q E →
      ∃ t, PSs (cxOf CX P w K mg base N q (defScope st) f cdv A outer s H E).nox (defBody st) t ∧ t { nx := fun _ H' => Q .non H', rt := Q } (start N vs) H) : Mth P w K mg base CX (k + 1) C m q st ps sp :=
  mth_of F hm S len fun cdv A outer s H vs Q E hr h => let ⟨t, h1, h2⟩ := hb cdv A outer s H vs Q E hr h; ⟨t, h1.nox, h2⟩
end
/-- how arguments written by place (n, the object among them) and by name come to a method's parameters -/
def BndM (m q : Str) (st : Stmt) (ps : List Str) (n : Nat) (ks : List Str) (ix : List Nat) : Prop :=
  ∀ (kV doc pm cdv ct : Value) (an : Option Addr) (us ws : List Value), us.length = n → ws.length = ks.length →
    bindArgs (PySem.W.fnOf m q (defArgs st) (defBody st) (defScope st) .none kV doc pm an cdv ct) ⟨us, ks.zip ws⟩ = pure (ps.zip (sel ix (us ++ ws)))
def BndMP (m q : Str) (st : Stmt) (ps : List Str) : Prop :=
  ∀ (kV doc pm cdv ct : Value) (an : Option Addr) (us : List Value), us.length = ps.length → bindArgs (PySem.W.fnOf m q (defArgs st) (defBody st) (defScope st) .none kV doc pm an cdv ct) ⟨us, []⟩ = pure (ps.zip us)
section
variable {X : Cx} {CX : CXT} {k j : Nat} {C : Addr} {m q : Str} {st : Stmt} {ps ks : List Str} {sp : Sp} {E : XK} {p pos apos : Pos} {o e : Expr} {es : List Expr} {kws : List Keyword} {to : TE} {t tk : TA}
/-- the instance that a value is -/
def IsIns (H : Hp) (C : Addr) (x : V) (m : Str) : Prop := ∃ a dx fs, x = .ref a ∧ H a = some (.ins C dx fs) ∧ fs.lookup m = none
def tM (C : Addr) (m : Str) (sp : Sp) (E : XK) (to : TE) (t : TA) : TE := fun σ H Q => to σ H fun x H1 => IsIns H1 C x m ∧ t σ H1 fun vs H2 => sp (x :: vs) H2 Q E
def tMK (C : Addr) (m : Str) (sp : Sp) (n : Nat) (ix : List Nat) (E : XK) (to : TE) (tk : TA) : TE := fun σ H Q => to σ H fun x H1 => IsIns H1 C x m ∧ tk σ H1 fun zs H2 => zs.length = n ∧ sp (sel ix (x :: zs)) H2 Q E
/-- o.m(e, ..) -/
theorem pe_m {pl : Sem Bool} (c : Mth X.prog X.w X.K X.mg X.base CX k C m q st ps sp) (hc : Cls X.K C) (hr : RoomG j X.A) (hk : k ≤ j) (hx : Passes CX X E) (b : BndMP m q st ps) (he : PE X o to) (ha : PA X (e :: es) t)
    (hst : starEach (e :: es) X.env = (false, eval e X.env) :: starEach es X.env := by rfl) (hpl : (backTo pos (starEach es X.env)).any (·.1) = false := by rfl)
    (ht : eval (.Call (.Attribute o m apos) (e :: es) [] pos) X.env = (do
      let ov ← eval o X.env
      standAt apos.atName
      let (f, first) ← holding [ov] (getMethod ov m pl)
      callWith pos f first (backTo pos (starEach (e :: es) X.env)) (backToKw pos (keywordEach [] X.env))) := by rfl) :
    PE X (.Call (.Attribute o m apos) (e :: es) [] pos) (tM C m sp E to t) := by
  obtain ⟨f, fd, F, hm, _, G⟩ := c.ex
  obtain ⟨oc, od, kV, doc, pm, an, cdv, ct, osl, rfl, lk, hcd⟩ := F.ex
  refine ⟨fun pins s σ H Q I h => PySem.W.methodCall_KW (pl := pl) (thn (he.run pins s σ H _ I h) fun u s1 ⟨x, H1, I1, rx, ⟨a, dx, fs, ex, ea, l⟩, q⟩ => ?_) ht⟩
  subst ex
  obtain rfl : u = Value.ref a := rx
  refine getmeth_ok I1 ea hc hm l ?_
  refine PySem.W.callWith_K (first := [.ref a]) (h₀ := X.base) I.ok.mod.kin hm.kp (thn (ha.run pos pins s1 σ H1 _ I1 q) fun us s2 ⟨vs, H2, I2, r, q2⟩ => ⟨I2.kIn, ?_⟩) hst hpl
  have h0 := r.length
  have h1 := G.len _ _ _ _ q2
  rw [List.length_cons] at h1
  exact run_g (us := .ref a :: us) (kw := []) (vs := .ref a :: vs) G (hr.mono hk) (.of_eq (b kV doc pm cdv ct an (.ref a :: us) (by rw [List.length_cons]; omega))) hx I2 (.cons rfl r) q2
/-- o.m() -/
theorem pe_m0 {pl : Sem Bool} (c : Mth X.prog X.w X.K X.mg X.base CX k C m q st ps sp) (hc : Cls X.K C) (hr : RoomG j X.A) (hk : k ≤ j) (hx : Passes CX X E) (b : BndMP m q st ps) (he : PE X o to)
    (ht : eval (.Call (.Attribute o m apos) [] [] pos) X.env = (do
      let ov ← eval o X.env
      standAt apos.atName
      let (f, first) ← holding [ov] (getMethod ov m pl)
      callWith pos f first (backTo pos (starEach [] X.env)) (backToKw pos (keywordEach [] X.env))) := by rfl) :
    PE X (.Call (.Attribute o m apos) [] [] pos) (tM C m sp E to tNil) := by
  obtain ⟨f, fd, F, hm, _, G⟩ := c.ex
  obtain ⟨oc, od, kV, doc, pm, an, cdv, ct, osl, rfl, lk, hcd⟩ := F.ex
  refine ⟨fun pins s σ H Q I h => PySem.W.methodCall_KW (pl := pl) (thn (he.run pins s σ H _ I h) fun u s1 ⟨x, H1, I1, rx, ⟨a, dx, fs, ex, ea, l⟩, q⟩ => ?_) ht⟩
  subst ex
  obtain rfl : u = Value.ref a := rx
  refine getmeth_ok I1 ea hc hm l ?_
  have h1 := G.len _ _ _ _ q
  exact PySem.W.callWith_K0 (first := [.ref a]) I1.kIn hm.kp (run_g (us := [.ref a]) (kw := []) (vs := [.ref a]) G (hr.mono hk) (.of_eq (b kV doc pm cdv ct an [.ref a] h1)) hx I1 (.cons rfl .nil) q)
/-- o.m(k = e, ..) -/
theorem pe_mK0 {pl : Sem Bool} {ix : List Nat} (c : Mth X.prog X.w X.K X.mg X.base CX k C m q st ps sp) (hc : Cls X.K C) (hr : RoomG j X.A) (hk : k ≤ j) (hx : Passes CX X E) (b : BndM m q st ps 1 ks ix) (he : PE X o to) (hkw : PK X kws tk)
    (hall : (backToKw pos (keywordEach kws X.env)).all (·.1.isSome) = true := by rfl) (hks : (backToKw pos (keywordEach kws X.env)).filterMap (·.1) = ks := by rfl)
    (hpl : ((backTo pos (starEach [] X.env)).any (·.1) || (backToKw pos (keywordEach kws X.env)).any (·.1.isNone)) = false := by rfl)
    (ht : eval (.Call (.Attribute o m apos) [] kws pos) X.env = (do
      let ov ← eval o X.env
      standAt apos.atName
      let (f, first) ← holding [ov] (getMethod ov m pl)
      callWith pos f first (backTo pos (starEach [] X.env)) (backToKw pos (keywordEach kws X.env))) := by rfl) :
    PE X (.Call (.Attribute o m apos) [] kws pos) (tMK C m sp ks.length ix E to tk) := by
  obtain ⟨f, fd, F, hm, _, G⟩ := c.ex
  obtain ⟨oc, od, kV, doc, pm, an, cdv, ct, osl, rfl, lk, hcd⟩ := F.ex
  refine ⟨fun pins s σ H Q I h => PySem.W.methodCall_KW (pl := pl) (thn (he.run pins s σ H _ I h) fun u s1 ⟨x, H1, I1, rx, ⟨a, dx, fs, ex, ea, l⟩, q⟩ => ?_) ht⟩
  subst ex
  obtain rfl : u = Value.ref a := rx
  refine getmeth_ok I1 ea hc hm l (PySem.W.callWith_KW0 (first := [.ref a]) (h₀ := X.base) I.ok.mod.kin hm.kp hall (thn (hkw.run pos pins s1 σ H1 _ I1 q) fun ws s2 ⟨zs, H2, I2, rz, l2, q2⟩ => ⟨I2.kIn, ?_⟩) hpl)
  rw [hks]
  exact run_g (us := [.ref a]) G (hr.mono hk) (.of_eq (b kV doc pm cdv ct an [.ref a] ws rfl (rz.length.symm.trans l2))) hx I2 (sel_vals (xs := .ref a :: zs) (us := .ref a :: ws) (.cons rfl rz) ix) q2
end
open PySem PySem.Spec PySem.Calls PyProof.Rows L2
/-- what the result of a call at a deeper place is -/
theorem run_in1 {X : Cx} {CX : CXT} {k : Nat} {f : Addr} {fd : FuncData} {ps : List Str} {sp : Sp} {E : XK} {pins : List (Addr × Obj)} {σ : L2.St} {H : Hp} {s : Shared} {us : List Value} {vs : List V} {Q : VK} {R : Value → Shared → Prop}
    (F : FnG X.prog X.w X.K X.mg X.base CX k f fd ps sp) (hr : RoomG (k + 1) X.A) (hb : BindsTo s fd ⟨us, []⟩ (ps.zip us)) (hx : Passes CX X E) (I : Inv X pins σ H s) (r : Vals vs us) (h : sp vs H Q E)
    (hR : ∀ u s', EP X pins σ Q u s' → R u s') : wpAny (model X.prog X.w) X.A.in1 (call (.ref f) us) R X.xe s := by
  refine wpAny_call (codeAny_mono (F.run X.A.in1 X.stack s H ⟨us, []⟩ us vs Q E hr.in1 I.env0.in1 hb r h) fun y s' z => ?_)
  match y, z with
  | .error e, z => exact hx pins σ H s e s' I z
  | .ok (.ret u), z => exact hR u s' (I.after z)
  | .ok .next, z => exact z.elim
  | .ok .brk, z => exact z.elim
  | .ok .cont, z => exact z.elim
/-! ## a property -/
/-- a property p of the class at C, its getter by its own body -/
structure Prp (P : Program) (w : World) (K : PySem.W.Frag) (mg : Str → Option Value) (base : Heap) (CX : CXT) (k : Nat) (C : Addr) (m q : Str) (st : Stmt) (ps : List Str) (sp : Sp) : Prop where
  ex : ∃ (p f : Addr) (fd : FuncData), Fun K m q st f fd ∧ PropOf K C m p f ∧ FnG P w K mg base CX k f fd ps sp
section
variable {P : Program} {w : World} {K : PySem.W.Frag} {mg : Str → Option Value} {base : Heap} {CX : CXT}
theorem prp_of {m q : Str} {st : Stmt} {C p f : Addr} {fd : FuncData} {N ps : List Str} {k : Nat} {sp : Sp} (F : Fun K m q st f fd) (hp : PropOf K C m p f) (S : FnScope N ps (defScope st)) (len : ∀ vs H Q E, sp vs H Q E → vs.length = ps.length)
    (hb : ∀ (cdv : Value) (A : Around) (outer : List Env) (s : Shared) (H : Hp) (vs : List V) (Q : VK) (E : XK), RoomG k (A.deeper (envOfC q (defScope st) s.heap.objs.size f cdv)) → sp vs H Q E →
      ∃ t, PSs (cxOf CX P w K mg base N q (defScope st) f cdv A outer s H E) (defBody st) t ∧ t { nx := fun _ H' => Q .non H', rt := Q } (start N vs) H) : Prp P w K mg base CX (k + 1) C m q st ps sp := by
  refine ⟨p, f, fd, F, hp, ?_⟩
  obtain ⟨oc, od, kV, doc, pm, an, cdv, ct, osl, rfl, lk, hcd⟩ := F.ex
  exact fnG_core lk hcd S len fun A outer s H vs Q E hr h => hb cdv A outer s H vs Q E hr h
end
section
variable {X : Cx} {CX : CXT} {k j : Nat} {C : Addr} {m q : Str} {st : Stmt} {ps ks : List Str} {sp : Sp} {E : XK} {p pos apos : Pos} {o e fe : Expr} {es : List Expr} {kws : List Keyword} {to tf : TE} {t tk : TA}
def tP (C : Addr) (sp : Sp) (E : XK) (to : TE) : TE := fun σ H Q => to σ H fun x H1 => ∃ a dx fs, x = .ref a ∧ H1 a = some (.ins C dx fs) ∧ sp [.ref a] H1 Q E
/-- o.p -/
theorem pe_p (c : Prp X.prog X.w X.K X.mg X.base CX k C m q st ps sp) (hc : Cls X.K C) (hr : RoomG j X.A) (hk : k + 1 ≤ j) (hx : Passes CX X.nox E) (b : BndMP m q st ps) (he : PE X o to)
    (hab : attributeBase o m X.env (eval o X.env) = eval o X.env := by rfl) : PE X (.Attribute o m pos) (tP C sp E to) := by
  obtain ⟨p, f, fd, F, hp, G⟩ := c.ex
  obtain ⟨oc, od, kV, doc, pm, an, cdv, ct, osl, rfl, lk, hcd⟩ := F.ex
  refine ⟨fun pins s σ H Q I h => attr_of hab (thn (he.run pins s σ H _ I h) fun u s1 ⟨x, H1, I1, rx, a, dx, fs, ex, ea, q⟩ => ?_)⟩
  subst ex
  obtain rfl : u = Value.ref a := rx
  obtain ⟨mA, O, _, _, _, _⟩ := ins_get I1.hok ea
  obtain ⟨od', J, _⟩ := O.look
  obtain ⟨rest, hrec⟩ := hp.rec_
  have I2 := I1.tok (s1.toks + 1)
  have hcl : (PySem.W.clsIn X.K C).isSome = true := by
    obtain ⟨cd, hc, _⟩ := PySem.W.any_some hc.hd
    rw [hc]
    rfl
  have h1 := G.len _ _ _ _ q
  refine PySem.W.get_bind I1.kIn J (PySem.W.plainGet_of (hc.get m)).1 (PySem.W.findObj_data hcl hp.at_ hp.get hp.tak) (PySem.W.plainGet_of (hc.get m)).2 (wpAny_call (PySem.W.prop_get (s := { s1 with toks := s1.toks + 1 }) I1.kIn hrec ?_))
  refine codeAny_mono (G.run X.A.in1 X.stack { s1 with toks := s1.toks + 1 } H1 ⟨[.ref a], []⟩ [.ref a] [.ref a] Q E (hr.mono hk).in1 I2.env0.in1 (.of_eq (b kV doc pm cdv ct an [.ref a] h1)) (.cons rfl .nil) q) fun y s' z => ?_
  match y, z with
  | .error er, z => exact False.elim (hx pins σ H1 { s1 with toks := s1.toks + 1 } er s' (I2.wish _) z)
  | .ok (.ret u), z =>
    obtain ⟨v, H', I3, rv, q3⟩ := I2.after z
    show wpAny _ _ (handedOut u) _ _ _
    rw [PySem.W.handedOut_of (handed_of rv)]
    exact wpAny_pure ⟨v, H', I3, rv, q3⟩
  | .ok .next, z => exact z.elim
  | .ok .brk, z => exact z.elim
  | .ok .cont, z => exact z.elim
/-! ## an instance called -/
def tO (C : Addr) (sp : Sp) (E : XK) (tf : TE) (t : TA) : TE := fun σ H Q => tf σ H fun y H1 => ∃ a, y = V.ref a ∧ t σ H1 fun vs H2 => (∃ dx fs, H2 a = some (.ins C dx fs)) ∧ sp (.ref a :: vs) H2 Q E
theorem pe_o (c : Mth X.prog X.w X.K X.mg X.base CX k C "__call__" q st ps sp) (hr : RoomG j X.A) (hk : k ≤ j) (hx : Passes CX X E) (b : BndMP "__call__" q st ps) (hf : PE X fe tf) (ha : PA X (e :: es) t)
    (ht : eval (.Call fe (e :: es) [] pos) X.env = (do callWith pos (← eval fe X.env) [] (backTo pos (starEach (e :: es) X.env)) (backToKw pos (keywordEach [] X.env))) := by rfl)
    (he : starEach (e :: es) X.env = (false, eval e X.env) :: starEach es X.env := by rfl) (hpl : (backTo pos (starEach es X.env)).any (·.1) = false := by rfl) : PE X (.Call fe (e :: es) [] pos) (tO C sp E tf t) := by
  obtain ⟨f, fd, F, hm, hfi, G⟩ := c.ex
  obtain ⟨oc, od, kV, doc, pm, an, cdv, ct, osl, rfl, lk, hcd⟩ := F.ex
  refine ⟨fun pins s σ H Q I h => Call_ (thn (hf.run pins s σ H _ I h) fun u s1 ⟨y, H1, I1, ry, a, ey, q⟩ => ?_) ht⟩
  subst ey
  obtain rfl : u = Value.ref a := ry
  refine StX.callO_with (thn (ha.run pos pins s1 σ H1 _ I1 q) fun us s2 ⟨vs, H2, I2, r, ⟨dx, fs, hi⟩, q2⟩ => ?_) he hpl
  obtain ⟨ox, od, J, hd⟩ := StX.insC_at I2 (.inr ⟨dx, fs, hi⟩)
  refine ⟨⟨C, ox, od, J, hd⟩, wpAny_call (PySem.W.kco_code I2.kIn J hd hm.at_ hm.fn hfi ?_)⟩
  have h0 := r.length
  have h1 := G.len _ _ _ _ q2
  rw [List.length_cons] at h1
  refine codeAny_mono (G.run X.A X.stack s2 H2 ⟨.ref a :: us, []⟩ (.ref a :: us) (.ref a :: vs) Q E (hr.mono hk) I2.env0 (.of_eq (b kV doc pm cdv ct an (.ref a :: us) (by rw [List.length_cons]; omega))) (.cons rfl r) q2) fun y s' z => ?_
  match y, z with
  | .error e, z => exact hx pins σ H2 s2 e s' I2 z
  | .ok (.ret u), z => exact I2.after z
  | .ok .next, z => exact z.elim
  | .ok .brk, z => exact z.elim
  | .ok .cont, z => exact z.elim
/-! ## len(o) -/
def rLenO (C : Addr) (sp : Sp) (E : XK) : List V → Hp → VK → Prop := fun xs H Q => ∃ a dx fs, xs = [.ref a] ∧ H a = some (.ins C dx fs) ∧ sp [.ref a] H (fun v H' => ∃ n : Int, v = .int n ∧ 0 ≤ n ∧ n < 2 ^ 63 ∧ Q v H') E
theorem call_lenO (c : Mth X.prog X.w X.K X.mg X.base CX k C "__len__" q st ps sp) (hr : RoomG j X.A) (hk : k + 1 ≤ j) (hx : Passes CX X E) (b : BndMP "__len__" q st ps) : CallR X (.builtin "len") (rLenO C sp E) := by
  intro pins s σ H xs us Q I r h
  obtain ⟨f, fd, F, hm, hfi, G⟩ := c.ex
  obtain ⟨oc, od, kV, doc, pm, an, cdv, ct, osl, rfl, lk, hcd⟩ := F.ex
  obtain ⟨a, dx, fs, rfl, ea, q⟩ := h
  obtain rfl := Vals.ref1 r
  obtain ⟨mA, O, _, _, _, _⟩ := ins_get I.hok ea
  obtain ⟨od', J, _⟩ := O.look
  have h1 := G.len _ _ _ _ q
  have T := I.tok s.toks
  refine Calls.call_function_entry kind_len plain_len entry_len (args_len1 _) ?_
  unfold Builtin.«len»
  refine wpAny_bind (m := oneArg "len" _) (wpAny_pure ?_)
  refine wpAny_bind (m := callSpecial? (.ref a) (Str.ofString "__len__")) (PySem.W.special_fn I.kIn J hm.at_ (beq_iff_eq.mp hm.fn) (run_in1 G (hr.mono hk) (.of_eq (b kV doc pm cdv ct an [.ref a] h1)) hx I (.cons rfl .nil : Vals [.ref a] [.ref a]) q fun u s' z => ?_))
  obtain ⟨v, H', I3, rv, n, rfl, h0, h2, q3⟩ := z
  obtain ⟨tk, rfl⟩ := rv
  refine wpAny_bind (wpAny_holding (wpAny_pure ?_))
  refine wpAny_bind (wpAny_letGo ?_)
  show wpAny _ _ (if n < 0 then _ else _) _ _ _
  rw [if_neg (by omega)]
  show wpAny _ _ (if n ≥ 2 ^ 63 then _ else _) _ _ _
  rw [if_neg (by omega)]
  exact wpAny_bind (wpAny_mkInt (wpAny_pure ⟨_, rfl, .int n, H', I3.tok _, ⟨_, rfl⟩, q3⟩))
end
open PySem PySem.Spec PySem.Calls PyProof.Rows L2
theorem rv_ref (a : Addr) : RelV (.ref a) (.ref a) := rfl
/-- a value of the layer is never NotImplemented -/
theorem cb_of {X : Cx} {pins : List (Addr × Obj)} {σ : L2.St} {Q : VK} {u : Value} {s : Shared} (h : EP X pins σ Q u s) : PySem.W.CmpBack (EP X pins σ Q) u s := by
  unfold PySem.W.CmpBack
  split
  · obtain ⟨v, H', _, r, _⟩ := h
    cases v <;> first | (obtain ⟨_, e⟩ := r; cases e) | cases r
  · exact h
section
variable {prog : Program} {w : World} {A : Around} {E : Value → Shared → Prop} {s : Shared} {K : PySem.W.Frag} {x C f : Addr} {ox : Obj} {od : Option Obj}
theorem mro_self (hc : PySem.W.selfFirst K C = true) : ∃ cd rest, PySem.W.clsIn K C = some cd ∧ cd.mro = .ref C :: rest := by
  obtain ⟨cd, hcd, hm⟩ := PySem.W.any_some hc
  cases q : cd.mro with
  | nil => rw [q] at hm; cases hm
  | cons a r => rw [q] at hm; exact ⟨cd, r, hcd, by rw [List.head?_cons] at hm; cases (beq_iff_eq.mp hm); exact q⟩
/-- o op b, b of a built-in type without the slot -/
theorem binL {op : Operator} {b : Value} {T : String} {Q : Value → Shared → Prop} (X : K.In s.heap) (I : PySem.W.InstAt s.heap x ox C od) (hb : s.TypeIs b T) (hno : fillsNumberSlot (.type T) op.info.2 = pure false) (hc : PySem.W.selfFirst K C = true)
    (hs : PySem.W.findIn K (.ref C) (PySem.dunder op.info.2) = some (some (.ref f))) (hf : PySem.W.isFn K (.ref f) = true)
    (h : wpAny (model prog w) A (call (.ref f) [.ref x, b]) (PySem.W.CmpBack Q) E s) : wpAny (model prog w) A (binaryOp op (.ref x) b) Q E s := by
  obtain ⟨cd, rest, hcd, hm⟩ := mro_self hc
  unfold binaryOp
  refine wpAny_holding (wpAny_bind ?_)
  unfold binaryOp1
  refine wpAny_bind (I.type.here (wpAny_bind (wpAny_typeOf hb (wpAny_bind ((PySem.W.fills_K X hcd hm hs).here ?_)))))
  have hne : ((Value.ref C) == (Value.type T)) = false := by simp
  rw [hne]
  simp only [Bool.false_eq_true, if_false]
  refine wpAny_bind (wpAny_of_eq hno ?_)
  simp only [Bool.and_false, Bool.false_eq_true, if_false, Bool.false_and]
  refine wpAny_bind (wpAny_pure ?_)
  simp only [Bool.false_eq_true, if_false, if_true]
  refine wpAny_bind (m := tryMethod (.ref x) _ b) ?_
  unfold tryMethod
  refine wpAny_bind (PySem.W.special_fn X I hs (beq_iff_eq.mp hf) (wpAny_mono h (fun v s' hv => ?_) fun _ _ e => e))
  cases v <;> first | exact hv.elim | exact wpAny_pure (wpAny_pure (wpAny_pure hv))
/-- b op o, b of a built-in type without the slot: o's reflected method -/
theorem binR {op : Operator} {b : Value} {T : String} {g : Addr} {Q : Value → Shared → Prop} (X : K.In s.heap) (I : PySem.W.InstAt s.heap x ox C od) (hb : s.TypeIs b T) (hno : fillsNumberSlot (.type T) op.info.2 = pure false) (hc : PySem.W.selfFirst K C = true)
    (hs0 : PySem.W.findIn K (.ref C) (PySem.dunder op.info.2) = some (some (.ref g))) (hs : PySem.W.findIn K (.ref C) (PySem.dunderR op.info.2) = some (some (.ref f))) (hf : PySem.W.isFn K (.ref f) = true)
    (h : wpAny (model prog w) A (call (.ref f) [.ref x, b]) (PySem.W.CmpBack Q) E s) : wpAny (model prog w) A (binaryOp op b (.ref x)) Q E s := by
  obtain ⟨cd, rest, hcd, hm⟩ := mro_self hc
  unfold binaryOp
  refine wpAny_holding (wpAny_bind ?_)
  unfold binaryOp1
  refine wpAny_bind (wpAny_typeOf hb (wpAny_bind (I.type.here (wpAny_bind (wpAny_of_eq hno ?_)))))
  have hne : ((Value.type T) == (Value.ref C)) = false := by simp
  rw [hne]
  simp only [Bool.false_eq_true, if_false]
  refine wpAny_bind ((PySem.W.fills_K X hcd hm hs0).here ?_)
  simp only [Bool.and_false, Bool.false_eq_true, if_false, Bool.false_and]
  refine wpAny_bind (wpAny_pure ?_)
  simp only [Bool.false_eq_true, if_false, Bool.not_false, Bool.and_true, if_true]
  refine wpAny_bind (m := tryMethod (.ref x) _ b) ?_
  unfold tryMethod
  refine wpAny_bind (PySem.W.special_fn X I hs (beq_iff_eq.mp hf) (wpAny_mono h (fun v s' hv => ?_) fun _ _ e => e))
  cases v <;> first | exact hv.elim | exact wpAny_pure (wpAny_bind (wpAny_rule (wpAny_pure (wpAny_pure hv))))
/-- o op o', both of C -/
theorem binS {op : Operator} {b : Value} {Q : Value → Shared → Prop} (X : K.In s.heap) (I : PySem.W.InstAt s.heap x ox C od) (hb : PySem.W.Looks (model prog w) s.heap (typeOf b) (.ref C)) (hc : PySem.W.selfFirst K C = true)
    (hs : PySem.W.findIn K (.ref C) (PySem.dunder op.info.2) = some (some (.ref f))) (hf : PySem.W.isFn K (.ref f) = true)
    (h : wpAny (model prog w) A (call (.ref f) [.ref x, b]) (PySem.W.CmpBack Q) E s) : wpAny (model prog w) A (binaryOp op (.ref x) b) Q E s := by
  obtain ⟨cd, rest, hcd, hm⟩ := mro_self hc
  unfold binaryOp
  refine wpAny_holding (wpAny_bind ?_)
  unfold binaryOp1
  refine wpAny_bind (I.type.here (wpAny_bind (hb.here (wpAny_bind ((PySem.W.fills_K X hcd hm hs).here ?_)))))
  simp only [beq_self_eq_true, if_true]
  refine wpAny_bind (wpAny_pure ?_)
  simp only [Bool.and_false, Bool.false_eq_true, if_false, Bool.false_and]
  refine wpAny_bind (wpAny_pure ?_)
  simp only [Bool.false_eq_true, if_false]
  refine wpAny_bind (m := tryMethod (.ref x) _ b) ?_
  unfold tryMethod
  refine wpAny_bind (PySem.W.special_fn X I hs (beq_iff_eq.mp hf) (wpAny_mono h (fun v s' hv => ?_) fun _ _ e => e))
  cases v <;> first | exact hv.elim | exact wpAny_pure (wpAny_pure (wpAny_pure hv))
/-- o op b by a comparison's own method -/
theorem cmpO {op : CmpOp} {b tb : Value} {Q : Value → Shared → Prop} (hu : A.units < cLine) (X : K.In s.heap) (I : PySem.W.InstAt s.heap x ox C od) (hb : PySem.W.Looks (model prog w) s.heap (typeOf b) tb) (hn : PySem.W.notFirst K C tb = true)
    (hs : PySem.W.findIn K (.ref C) (cmpInfo op).2.1 = some (some (.ref f))) (hf : PySem.W.isFn K (.ref f) = true)
    (h : wpAny (model prog w) A (call (.ref f) [.ref x, b]) (PySem.W.CmpBack Q) E s) : wpAny (model prog w) A (richCompare op (.ref x) b) Q E s := by
  have one : wpAny (model prog w) A (tryCompare (.ref x) (cmpInfo op).2.1 b) (fun r s' => ∃ v, r = some v ∧ Q v s') E s := by
    unfold tryCompare
    refine wpAny_bind (PySem.W.ifBound_K X I hs hf (wpAny_mono h (fun v s' hv => ?_) fun _ _ e => e))
    cases v <;> first | exact hv.elim | exact wpAny_pure ⟨_, rfl, hv⟩
  unfold richCompare
  simp only [oneThing_ref]
  refine wpAny_holding (wpAny_bind (wpAny_cRoomFor hu ?_))
  refine wpAny_bind (I.type.here (wpAny_bind (hb.here ?_)))
  split
  · rename_i q
    have e : PySem.W.subIn K tb (.ref C) = some false := by
      rcases Bool.or_eq_true_iff.mp hn with e | e
      · rw [beq_iff_eq.mp e] at q; simp at q
      · exact beq_iff_eq.mp e
    refine wpAny_bind ((PySem.W.looks_subIn X e).here ?_)
    simp only [Bool.false_eq_true, if_false]
    refine wpAny_bind (wpAny_mono one (fun r s' z => ?_) fun _ _ e => e)
    obtain ⟨v, rfl, hq⟩ := z
    exact wpAny_pure hq
  · refine wpAny_bind (wpAny_pure ?_)
    simp only [Bool.false_eq_true, if_false]
    refine wpAny_bind (wpAny_mono one (fun r s' z => ?_) fun _ _ e => e)
    obtain ⟨v, rfl, hq⟩ := z
    exact wpAny_pure hq
/-- v in o -/
theorem inO {v : Value} {Q : Bool → Shared → Prop} (X : K.In s.heap) (I : PySem.W.InstAt s.heap x ox C od) (hs : PySem.W.findIn K (.ref C) "__contains__" = some (some (.ref f))) (hf : PySem.W.isFn K (.ref f) = true)
    (h : wpAny (model prog w) A (call (.ref f) [.ref x, v]) (fun r s' => wpAny (model prog w) A (truthy r) Q E s') E s) : wpAny (model prog w) A (contains (.ref x) v) Q E s := by
  unfold contains
  refine wpAny_holding (wpAny_bind (wpAny_bind (I.type.here ((PySem.W.looks_findIn X hs).here ?_))))
  rw [if_neg (by simp)]
  exact wpAny_bind (PySem.W.unlessNone_K X I hs hf h)
end
section
variable {X : Cx} {CX : CXT} {k j : Nat} {C : Addr} {m q : Str} {st : Stmt} {ps : List Str} {sp : Sp} {E : XK}
/-- a call of the method with these values -/
theorem run_mth (c : Mth X.prog X.w X.K X.mg X.base CX k C m q st ps sp) (hr : RoomG j X.A) (hk : k ≤ j) (hx : Passes CX X E) (b : BndMP m q st ps) :
    ∃ f, Meth X.K C m f ∧ ∀ {pins : List (Addr × Obj)} {σ : L2.St} {H : Hp} {s : Shared} {us : List Value} {vs : List V} {Q : VK}, Inv X pins σ H s → Vals vs us → sp vs H Q E → wpAny (model X.prog X.w) X.A (call (.ref f) us) (EP X pins σ Q) X.xe s := by
  obtain ⟨f, fd, F, hm, hfi, G⟩ := c.ex
  obtain ⟨oc, od, kV, doc, pm, an, cdv, ct, osl, rfl, lk, hcd⟩ := F.ex
  refine ⟨f, hm, fun I r h => run_g (kw := []) G (hr.mono hk) (.of_eq (b kV doc pm cdv ct an _ ?_)) hx I r h⟩
  have h0 := r.length
  have h1 := G.len _ _ _ _ h
  omega
theorem ins_at {pins : List (Addr × Obj)} {σ : L2.St} {H : Hp} {s : Shared} {a dx : Addr} {fs : List (Str × V)} (I : Inv X pins σ H s) (e : H a = some (.ins C dx fs)) : ∃ od, PySem.W.InstAt s.heap a (PySem.W.instObj C dx) C od := by
  obtain ⟨mA, O, _⟩ := ins_get I.hok e
  obtain ⟨od, J, _⟩ := O.look
  exact ⟨_, J⟩
def IsI (H : Hp) (C : Addr) (x : V) : Prop := ∃ a dx fs, x = .ref a ∧ H a = some (.ins C dx fs)
/-- of the built-in class T -/
def TyB (K : PySem.W.Frag) (T : String) (y : V) (H : Hp) : Prop := tyV K T y H ∨ (T = "tuple" ∧ ∃ t xs, y = .ref t ∧ H t = some (.tup xs))
theorem tyB_is {pins : List (Addr × Obj)} {σ : L2.St} {H : Hp} {s : Shared} {T : String} {y : V} {u : Value} (I : Inv X pins σ H s) (r : RelV y u) (ty : TyB X.K T y H) : s.TypeIs u T := by
  rcases ty with ty | ⟨rfl, t, xs, rfl, ht⟩
  · exact (tyV_is I r ty).1
  · obtain rfl : u = Value.ref t := r
    obtain ⟨_, its, r2, o, ho, hc, n, hd⟩ := I.hok _ _ ht
    exact ⟨o, ho, hc⟩
def rBinL (K : PySem.W.Frag) (C : Addr) (T : String) (sp : Sp) (E : XK) : R2 := fun x y H Q => IsI H C x ∧ TyB K T y H ∧ sp [x, y] H Q E
def rBinR (K : PySem.W.Frag) (C : Addr) (T : String) (sp : Sp) (E : XK) : R2 := fun y x H Q => IsI H C x ∧ TyB K T y H ∧ sp [x, y] H Q E
def rBinS (C : Addr) (sp : Sp) (E : XK) : R2 := fun x y H Q => IsI H C x ∧ IsI H C y ∧ sp [x, y] H Q E
theorem op_binL {op : Operator} {T : String} (c : Mth X.prog X.w X.K X.mg X.base CX k C (PySem.dunder op.info.2) q st ps sp) (hc : PySem.W.selfFirst X.K C = true) (hr : RoomG j X.A) (hk : k ≤ j) (hx : Passes CX X E) (b : BndMP (PySem.dunder op.info.2) q st ps)
    (hno : fillsNumberSlot (.type T) op.info.2 = pure false) : OpR X (binaryOp op) (rBinL X.K C T sp E) := by
  intro pins s σ H x y v u Q I rx ry h
  obtain ⟨⟨a, dx, fs, rfl, ea⟩, ty, q⟩ := h
  obtain rfl : v = Value.ref a := rx
  obtain ⟨f, hm, run⟩ := run_mth c hr hk hx b
  obtain ⟨od, J⟩ := ins_at I ea
  exact binL I.kIn J (tyB_is I ry ty) hno hc hm.at_ hm.fn (wpAny_mono (run I (.cons (rv_ref a) (.cons ry .nil)) q) (fun _ _ z => cb_of z) fun _ _ z => z)
theorem op_binR {op : Operator} {T : String} {g : Addr} (c : Mth X.prog X.w X.K X.mg X.base CX k C (PySem.dunderR op.info.2) q st ps sp) (hc : PySem.W.selfFirst X.K C = true) (hr : RoomG j X.A) (hk : k ≤ j) (hx : Passes CX X E) (b : BndMP (PySem.dunderR op.info.2) q st ps)
    (hno : fillsNumberSlot (.type T) op.info.2 = pure false) (h0 : Meth X.K C (PySem.dunder op.info.2) g) : OpR X (binaryOp op) (rBinR X.K C T sp E) := by
  intro pins s σ H y x u v Q I ry rx h
  obtain ⟨⟨a, dx, fs, rfl, ea⟩, ty, q⟩ := h
  obtain rfl : v = Value.ref a := rx
  obtain ⟨f, hm, run⟩ := run_mth c hr hk hx b
  obtain ⟨od, J⟩ := ins_at I ea
  exact binR I.kIn J (tyB_is I ry ty) hno hc h0.at_ hm.at_ hm.fn (wpAny_mono (run I (.cons (rv_ref a) (.cons ry .nil)) q) (fun _ _ z => cb_of z) fun _ _ z => z)
theorem op_binS {op : Operator} (c : Mth X.prog X.w X.K X.mg X.base CX k C (PySem.dunder op.info.2) q st ps sp) (hc : PySem.W.selfFirst X.K C = true) (hr : RoomG j X.A) (hk : k ≤ j) (hx : Passes CX X E) (b : BndMP (PySem.dunder op.info.2) q st ps) : OpR X (binaryOp op) (rBinS C sp E) := by
  intro pins s σ H x y v u Q I rx ry h
  obtain ⟨⟨a, dx, fs, rfl, ea⟩, ⟨a', dx', fs', rfl, ea'⟩, q⟩ := h
  obtain rfl : v = Value.ref a := rx
  obtain rfl : u = Value.ref a' := ry
  obtain ⟨f, hm, run⟩ := run_mth c hr hk hx b
  obtain ⟨od, J⟩ := ins_at I ea
  obtain ⟨od', J'⟩ := ins_at I ea'
  exact binS I.kIn J J'.type hc hm.at_ hm.fn (wpAny_mono (run I (.cons (rv_ref a) (.cons (rv_ref a') .nil)) q) (fun _ _ z => cb_of z) fun _ _ z => z)
/-- a comparison of two of C by its own method -/
theorem op_cmpS {op : CmpOp} (c : Mth X.prog X.w X.K X.mg X.base CX k C (cmpInfo op).2.1 q st ps sp) (hr : RoomG j X.A) (hk : k ≤ j) (hx : Passes CX X E) (b : BndMP (cmpInfo op).2.1 q st ps) (he : compareOp op = richCompare op) : OpR X (compareOp op) (rBinS C sp E) := by
  intro pins s σ H x y v u Q I rx ry h
  obtain ⟨⟨a, dx, fs, rfl, ea⟩, ⟨a', dx', fs', rfl, ea'⟩, q⟩ := h
  obtain rfl : v = Value.ref a := rx
  obtain rfl : u = Value.ref a' := ry
  obtain ⟨f, hm, run⟩ := run_mth c hr hk hx b
  obtain ⟨od, J⟩ := ins_at I ea
  obtain ⟨od', J'⟩ := ins_at I ea'
  rw [he]
  have hn : PySem.W.notFirst X.K C (.ref C) = true := by
    unfold PySem.W.notFirst
    rw [beq_self_eq_true, Bool.true_or]
  exact cmpO hr.r.units0 I.kIn J J'.type hn hm.at_ hm.fn (wpAny_mono (run I (.cons (rv_ref a) (.cons (rv_ref a') .nil)) q) (fun _ _ z => cb_of z) fun _ _ z => z)
/-- y in o: the method tells a truth value -/
def rInO (C : Addr) (neg : Bool) (sp : Sp) (E : XK) : R2 := fun y x H Q => IsI H C x ∧ sp [x, y] H (fun v H' => ∃ b, v = .bl b ∧ Q (.bl (if neg then !b else b)) H') E
theorem op_inO (c : Mth X.prog X.w X.K X.mg X.base CX k C "__contains__" q st ps sp) (hr : RoomG j X.A) (hk : k ≤ j) (hx : Passes CX X E) (b : BndMP "__contains__" q st ps) : OpR X (compareOp .In) (rInO C false sp E) := by
  intro pins s σ H y x u v Q I ry rx h
  obtain ⟨⟨a, dx, fs, rfl, ea⟩, q⟩ := h
  obtain rfl : v = Value.ref a := rx
  obtain ⟨f, hm, run⟩ := run_mth c hr hk hx b
  obtain ⟨od, J⟩ := ins_at I ea
  refine wpAny_bind (inO I.kIn J hm.at_ hm.fn (wpAny_mono (run I (.cons (rv_ref a) (.cons ry .nil)) q) (fun r s' z => ?_) fun _ _ z => z))
  obtain ⟨_, H', I3, rv, b, rfl, q3⟩ := z
  cases rv
  exact wpAny_pure (wpAny_pure ⟨.bl b, H', I3, rfl, q3⟩)
theorem op_notInO (c : Mth X.prog X.w X.K X.mg X.base CX k C "__contains__" q st ps sp) (hr : RoomG j X.A) (hk : k ≤ j) (hx : Passes CX X E) (b : BndMP "__contains__" q st ps) : OpR X (compareOp .NotIn) (rInO C true sp E) := by
  intro pins s σ H y x u v Q I ry rx h
  obtain ⟨⟨a, dx, fs, rfl, ea⟩, q⟩ := h
  obtain rfl : v = Value.ref a := rx
  obtain ⟨f, hm, run⟩ := run_mth c hr hk hx b
  obtain ⟨od, J⟩ := ins_at I ea
  refine wpAny_bind (inO I.kIn J hm.at_ hm.fn (wpAny_mono (run I (.cons (rv_ref a) (.cons ry .nil)) q) (fun r s' z => ?_) fun _ _ z => z))
  obtain ⟨_, H', I3, rv, b, rfl, q3⟩ := z
  cases rv
  exact wpAny_pure (wpAny_pure ⟨.bl (!b), H', I3, rfl, q3⟩)
end
open PySem PySem.Spec PySem.Calls PyProof.Rows L2
/-! ## instances made -/
/-- C(..) with n values and the keywords ks: its own __init__ keeps sp, called with g -/
structure Mkr (P : Program) (w : World) (K : PySem.W.Frag) (mg : Str → Option Value) (base : Heap) (CX : CXT) (k : Nat) (x : Str) (C : Addr) (ps : List Str) (sp : Sp) : Prop where
  ex : ∃ (f : Addr) (fd : FuncData), Mk K C f ∧ mg x = some (.ref C) ∧ FnG P w K mg base CX k f fd ps sp
/-- how arguments come to the parameters, defaults among them -/
def BndI (P : Program) (w : World) (K : PySem.W.Frag) (mg : Str → Option Value) (base : Heap) (CX : CXT) (k : Nat) (x : Str) (C : Addr) (ps : List Str) (sp : Sp) (n : Nat) (ks : List Str) (gV : List V → List V → List V) : Prop :=
  ∃ (f : Addr) (fd : FuncData) (g : List Value → List Value → List Value), Mk K C f ∧ mg x = some (.ref C) ∧ FnG P w K mg base CX k f fd ps sp ∧ KBn K fd ps (n + 1) ks g gV
section
variable {X : Cx} {CX : CXT} {k j n : Nat} {C : Addr} {ps ks : List Str} {sp : Sp} {E : XK} {x : Str} {p pos : Pos} {e : Expr} {es : List Expr} {kws : List Keyword} {t tk : TA} {gV : List V → List V → List V}
theorem run_mk {pins : List (Addr × Obj)} {σ : L2.St} {H : Hp} {s : Shared} {Q : VK} {us ws : List Value} {vs zs : List V} {f : Addr} {fd : FuncData} {g : List Value → List Value → List Value} (M : Mk X.K C f) (F : FnG X.prog X.w X.K X.mg X.base CX k f fd ps sp) (hr : RoomG (k + 1) X.A)
    (hb : KBn X.K fd ps (n + 1) ks g gV) (hx : Passes CX X E) (I : Inv X pins σ H s) (r : Vals vs us) (rz : Vals zs ws) (l1 : vs.length = n) (l2 : zs.length = ks.length)
    (h : ∀ x dx, H x = none → H dx = none → dx ≠ x → sp (gV (.ref x :: vs) zs) (upd (upd H dx (.own x)) x (.ins C dx [])) (fun v H2 => v = .non ∧ Q (.ref x) H2) E) :
    wpAny (model X.prog X.w) X.A (call (.ref C) us (ks.zip ws)) (EP X pins σ Q) X.xe s := by
  have hq := h (s.heap.objs.size + 1) s.heap.objs.size (I.hok.fresh (Nat.le_succ _)) (I.hok.fresh (Nat.le_refl _)) (Nat.ne_of_lt (Nat.lt_succ_self _))
  have I2 := Inv.made (C := C) I
  have r1 : Vals (V.ref (s.heap.objs.size + 1) :: vs) (Value.ref (s.heap.objs.size + 1) :: us) := .cons rfl r
  have r2 := hb.rel r1 rz
  have e1 : (Value.ref (s.heap.objs.size + 1) :: us).length = n + 1 := r1.length.symm.trans (congrArg Nat.succ l1)
  have e2 : ws.length = ks.length := rz.length.symm.trans l2
  refine wpAny_call (make_map (f := f) I.kIn M.makes M.init (beq_iff_eq.mp M.fn) (codeAny_mono (F.run _ X.stack _ _ ⟨Value.ref (s.heap.objs.size + 1) :: us, ks.zip ws⟩ (g (Value.ref (s.heap.objs.size + 1) :: us) ws) _ _ E (hr.make C us (ks.zip ws))
    (I2.env0.make C us (ks.zip ws)) (hb.to _ (Value.ref (s.heap.objs.size + 1) :: us) ws I2.kIn e1 e2) r2 hq) fun r s' hq' => ?_))
  cases r with
  | error e => exact hx pins σ _ _ e s' I2 hq'
  | ok fl =>
    cases fl with
    | ret u =>
      obtain ⟨v, H', I3, rv, ev, q3⟩ := I2.after hq'
      subst ev
      exact ⟨rv, ⟨V.ref (s.heap.objs.size + 1), H', I3, rfl, q3⟩⟩
    | next => exact False.elim hq'
    | brk => exact False.elim hq'
    | cont => exact False.elim hq'
def tMk (C : Addr) (n m : Nat) (sp : Sp) (gV : List V → List V → List V) (E : XK) (t tk : TA) : TE := fun σ H Q => t σ H fun vs H1 => tk σ H1 fun zs H2 => vs.length = n ∧ zs.length = m ∧
  ∀ x dx, H2 x = none → H2 dx = none → dx ≠ x → sp (gV (.ref x :: vs) zs) (upd (upd H2 dx (.own x)) x (.ins C dx [])) (fun v H3 => v = .non ∧ Q (.ref x) H3) E
/-- C(e, .., k = e, ..) -/
theorem pe_mk (c : BndI X.prog X.w X.K X.mg X.base CX k x C ps sp n ks gV) (hr : RoomG j X.A) (hk : k + 1 ≤ j) (hx : Passes CX X E) (hg : Gl X x)
    (ha : PA X (e :: es) t) (hkw : PK X kws tk) (hall : (backToKw pos (keywordEach kws X.env)).all (·.1.isSome) = true := by rfl) (hks : (backToKw pos (keywordEach kws X.env)).filterMap (·.1) = ks := by rfl)
    (hdb : (x == ("__debug__" : Str)) = false := by decide) (he : starEach (e :: es) X.env = (false, eval e X.env) :: starEach es X.env := by rfl)
    (hpl : ((backTo pos (starEach (e :: es) X.env)).any (·.1) || (backToKw pos (keywordEach kws X.env)).any (·.1.isNone)) = false := by rfl) :
    PE X (.Call (.Name x p) (e :: es) kws pos) (tMk C n ks.length sp gV E t tk) := by
  obtain ⟨f, fd, g, M, hm, F, hb⟩ := c
  refine ⟨fun pins s σ H Q I h => wpAny_Call_Name_kw (ld_glob I hg hm ?_ hdb)⟩
  refine PySem.W.callWith_KW (h₀ := X.base) I.ok.mod.kin M.kp hall (thn (ha.run pos pins s σ H _ I h) fun us s1 ⟨vs, H1, I1, r, q⟩ => ?_) hpl he
  refine thn (hkw.run pos pins s1 σ H1 _ I1 q) fun ws s2 ⟨zs, H2, I2, rz, l1, l2, q2⟩ => ⟨I2.kIn, ?_⟩
  rw [hks]
  exact run_mk M F (hr.mono hk) hb hx I2 r rz l1 l2 q2
/-! ## an instance called by keywords -/
theorem callO_kw {M : Model} {A : Around} {E : Value → Shared → Prop} {s : Shared} {a : Addr} {pos : Pos} {Q : Value → Shared → Prop} {args : List (Bool × Sem Value)} {kws : List (Option Str × Sem Value)} (hplain : (args.any (·.1) || kws.any (·.1.isNone)) = false)
    (h : wpAny M A (evalArgs (.ref a) true args kws) (fun z s₁ => (∃ C ox od, PySem.W.InstAt s₁.heap a ox C od ∧ ox.data = .plain) ∧ wpAny M A (call (.ref a) ([] ++ z.pos) z.kw) Q E s₁) E s) : wpAny M A (callWith pos (.ref a) [] args kws) Q E s := by
  unfold callWith
  refine wpAny_bind (wpAny_holding (wpAny_mono h (fun z s₁ h₁ => wpAny_bind (wpAny_standAt ?_)) fun _ _ y => y))
  obtain ⟨⟨C, ox, od, J, hd⟩, h₁⟩ := h₁
  have L := PySem.W.kco_keeper (M := M) J hd
  simp only [hplain]
  refine wpAny_bind (L.here ?_)
  have tail : ∀ {t : Sem Value}, wpAny M A t Q E s₁ → wpAny M A (t >>= fun r => holding [r] point >>= fun _ => pure r) Q E s₁ :=
    fun ht => wpAny_bind (wpAny_mono ht (fun r s₂ hr => wpAny_bind (wpAny_holding (wpAny_point (wpAny_pure hr)))) fun _ _ y => y)
  exact tail (wpAny_operateT h₁)
def tOK (C : Addr) (sp : Sp) (n : Nat) (ix : List Nat) (E : XK) (tf : TE) (tk : TA) : TE := fun σ H Q => tf σ H fun y H1 => ∃ a, y = V.ref a ∧ tk σ H1 fun zs H2 => (∃ dx fs, H2 a = some (.ins C dx fs)) ∧ zs.length = n ∧ sp (sel ix (.ref a :: zs)) H2 Q E
theorem pe_oK {q : Str} {st : Stmt} {fe : Expr} {tf : TE} {ix : List Nat} (c : Mth X.prog X.w X.K X.mg X.base CX k C "__call__" q st ps sp) (hr : RoomG j X.A) (hk : k ≤ j) (hx : Passes CX X E) (b : BndM "__call__" q st ps 1 ks ix) (hf : PE X fe tf) (hkw : PK X kws tk)
    (hall : (backToKw pos (keywordEach kws X.env)).all (·.1.isSome) = true := by rfl) (hks : (backToKw pos (keywordEach kws X.env)).filterMap (·.1) = ks := by rfl)
    (ht : eval (.Call fe [] kws pos) X.env = (do callWith pos (← eval fe X.env) [] (backTo pos (starEach [] X.env)) (backToKw pos (keywordEach kws X.env))) := by rfl)
    (hpl : ((backTo pos (starEach [] X.env)).any (·.1) || (backToKw pos (keywordEach kws X.env)).any (·.1.isNone)) = false := by rfl) : PE X (.Call fe [] kws pos) (tOK C sp ks.length ix E tf tk) := by
  obtain ⟨f, fd, F, hm, hfi, G⟩ := c.ex
  obtain ⟨oc, od, kV, doc, pm, an, cdv, ct, osl, rfl, lk, hcd⟩ := F.ex
  refine ⟨fun pins s σ H Q I h => ?_⟩
  rw [ht]
  refine wpAny_bind (thn (hf.run pins s σ H _ I h) fun u s1 ⟨y, H1, I1, ry, a, ey, q⟩ => ?_)
  subst ey
  obtain rfl : u = Value.ref a := ry
  refine callO_kw hpl (evalArgs_kw2_nil hall (thn (hkw.run pos pins s1 σ H1 _ I1 q) fun ws s2 ⟨zs, H2, I2, rz, ⟨dx, fs, hi⟩, l2, q2⟩ => ?_))
  obtain ⟨ox, od, J, hd⟩ := StX.insC_at I2 (.inr ⟨dx, fs, hi⟩)
  refine ⟨⟨C, ox, od, J, hd⟩, wpAny_call (PySem.W.kco_code I2.kIn J hd hm.at_ hm.fn hfi ?_)⟩
  rw [hks]
  refine codeAny_mono (G.run X.A X.stack s2 H2 ⟨[.ref a], ks.zip ws⟩ (sel ix (.ref a :: ws)) (sel ix (.ref a :: zs)) Q E (hr.mono hk) I2.env0 (.of_eq (b kV doc pm cdv ct an [.ref a] ws rfl (rz.length.symm.trans l2))) (sel_vals (xs := .ref a :: zs) (us := .ref a :: ws) (.cons rfl rz) ix) q2) fun y s' z => ?_
  match y, z with
  | .error e, z => exact hx pins σ H2 s2 e s' I2 z
  | .ok (.ret u), z => exact I2.after z
  | .ok .next, z => exact z.elim
  | .ok .brk, z => exact z.elim
  | .ok .cont, z => exact z.elim
end
open PySem PySem.Spec PySem.Calls PyProof.Rows L2
section
variable {prog : Program} {w : World} {K : Type} [DecidableEq K] {knd : KeyKind prog w K} {A : Around} {E : Value → Shared → Prop} {s : Shared}
theorem dictPut_pairs {d : Addr} {kvs : List (K × Value)} {k : K} {key v : Value} {Q : Unit → Shared → Prop} (hkey : knd.is k key = true) (hm : s.heap.DictOf knd d kvs)
    (hQ : ∀ h', h'.DictOf knd d (stored kvs k v) → Heap.SameBut d s.heap h' → Q () { s with heap := h' })
    (hsz : kvs.length ≤ sizeLine) : wpAny (model prog w) A (dictPut d (knd.hash k) key v) Q E s := by
  obtain ⟨o, es, ep, ho, hc, hd, hk, hp, hn⟩ := hm
  have hes : es.size ≤ sizeLine := by have e1 := hp.length; have e2 : es.toList.length = es.size := by simp
                                      omega
  unfold dictPut
  refine wpAny_bind (wpAny_dictFind_of hkey ho hd hk ?_)
  have hidx : (es.findIdx? fun e => knd.is k e.key) = kvs.findIdx? fun kv => decide (kv.1 = k) := by
    rw [← hp.findIdx k]; obtain ⟨l⟩ := es; simp
  cases hi : es.findIdx? fun e => knd.is k e.key with
  | some i =>
    refine wpAny_updateDict ho hd (hQ _ ⟨_, _, ep, Heap.get?_update_self _ ho (Obj.isFreed_of_dict (Obj.data_mapDict hd _)),
      hc.mapDict _, Obj.data_mapDict hd _, hk.modify _ _, ?_, ?_⟩ (Heap.SameBut.update ..))
    · rw [stored, if_pos (any_of_findIdx_some (hidx ▸ hi))]
      have hl : (es.toList.findIdx? fun e => knd.is k e.key) = some i := by rw [← hi]; obtain ⟨l⟩ := es; simp
      have := hp.modify hn hl v
      obtain ⟨l⟩ := es
      simpa using this
    · rw [stored, if_pos (any_of_findIdx_some (hidx ▸ hi)), keys_map_store]; exact hn
  | none =>
    have hnot : k ∉ kvs.map (·.1) := not_mem_of_findIdx_none (hidx ▸ hi)
    have hany : ¬ (kvs.any fun kv => decide (kv.1 = k)) = true := by
      rw [List.any_eq_true]; rintro ⟨kv, hkv, he⟩
      exact hnot (List.mem_map.mpr ⟨kv, hkv, of_decide_eq_true he⟩)
    refine wpAny_updateDictKeys (hz := hes) ho hd (hQ _ ⟨_, _, ep + 1, Heap.get?_update_self _ ho (Obj.isFreed_of_dict (Obj.data_mapDictKeys hd _)),
      hc.mapDictKeys _, Obj.data_mapDictKeys hd _, hk.push hkey _, ?_, ?_⟩ (Heap.SameBut.update ..))
    · rw [stored, if_neg hany]
      have := hp.append hkey (knd.hash k) v
      obtain ⟨l⟩ := es
      simpa using this
    · rw [stored, if_neg hany, List.map_append, List.nodup_append]
      refine ⟨hn, by simp, ?_⟩
      intro a ha b hb
      simp only [List.map_cons, List.map_nil, List.mem_singleton] at hb
      subst hb
      exact fun e => hnot (e ▸ ha)
/-- the keys of the dict are told by value -/
theorem merge_map {d o : Addr} {kvs more : List (K × Value)} {Q : Unit → Shared → Prop} (hdo : d ≠ o) (hoS : (o == sysModules) = false) (hd : s.heap.DictOf knd d kvs) (ho : s.heap.DictOf knd o more)
    (href : ∀ (k : K) (v : Value), knd.is k v = true → ∀ a, v ≠ .ref a)
    (hQ : ∀ h', h'.DictOf knd d (merged kvs more) → h'.DictOf knd o more → Heap.SameBut d s.heap h' → Q () { s with heap := h' })
    (hsz : kvs.length + more.length ≤ sizeLine) : wpAny (model prog w) A (mergeMapping d (.ref o) false) Q E s := by
  obtain ⟨od, esd, epd, hod, hcd, hdd, hkd, hpd, hnd⟩ := id hd
  obtain ⟨oo, eso, epo, hoo, hco, hdo', hko, hpo, hno⟩ := id ho
  have hlen : more.length = eso.size := by rw [← hpo.length]; simp
  unfold mergeMapping
  refine wpAny_bind (wpAny_isInstance ho.typeIs isSubtype_dict_dict ?_)
  rw [if_pos rfl]
  refine wpAny_bind (wpAny_specialOf ho.typeIs F.slot_dict_iter.lookup ?_)
  rw [show (some (Value.builtin "dict.__iter__") == some (Value.builtin "dict.__iter__")) = true from rfl]
  refine wpAny_bind (wpAny_pure ?_)
  dsimp only
  rw [if_neg (show ¬ (o == sysModules) = true by rw [hoS]; exact Bool.false_ne_true)]
  refine wpAny_bind (wpAny_dictEntries hod hdd ?_)
  have loop : ∀ s1 : Shared, s1 = s → wpAny (model prog w) A (do
      let l ← dictEntries o
      let epoch ← dictEpoch o
      forIn (List.range l.size) PUnit.unit fun i (_ : PUnit) => (do
          let l' ← dictEntries o
          match l'[i]? with
            | some e => do
              holding [e.key, e.val] (dictPut d e.hash e.key e.val)
              let ep' ← dictEpoch o
              if (ep' != epoch) = true then do
                  (unsupported "dict.changed-during-merge" : Sem PUnit)
                  pure (ForInStep.yield PUnit.unit)
                else pure (ForInStep.yield PUnit.unit)
            | _ => do
              (unsupported "dict.changed-during-merge" : Sem PUnit)
              pure (ForInStep.yield PUnit.unit) : Sem (ForInStep PUnit))
      pure ()) Q E s1 := by
    intro s1 e1
    subst e1
    refine wpAny_bind (wpAny_dictEntries hoo hdo' ?_)
    refine wpAny_bind (wpAny_dictEpoch hoo hdo' ?_)
    refine wpAny_bind ?_
    rw [List.range_eq_range']
    refine wpAny_forIn_list _
      (fun rest _ s' => ∃ h' i, s' = { s1 with heap := h' } ∧ rest = List.range' i (eso.size - i) ∧ i ≤ eso.size ∧ h'.DictOf knd d (merged kvs (more.take i)) ∧ h'.get? o = some oo ∧ Heap.SameBut d s1.heap h')
      _ ?_ ?_ _ _ ⟨s1.heap, 0, rfl, by simp, Nat.zero_le _, by simpa [merged] using hd, hoo, Heap.SameBut.refl _ _⟩
    · rintro x rest b s' ⟨h', i, rfl, hr, hi, hd', hoo', hs'⟩
      have hlt : i < eso.size := by
        rcases Nat.lt_or_ge i eso.size with h | h
        · exact h
        · rw [Nat.sub_eq_zero_of_le h] at hr; simp at hr
      obtain ⟨rfl, hrest⟩ : x = i ∧ rest = List.range' (i + 1) (eso.size - (i + 1)) := by
        have e : eso.size - i = (eso.size - (i + 1)) + 1 := by omega
        rw [e, List.range'_succ] at hr
        injection hr with h1 h2
        exact ⟨h1, h2⟩
      refine wpAny_bind (wpAny_dictEntries hoo' hdo' ?_)
      rw [Array.getElem?_eq_getElem hlt]
      obtain ⟨kv, hkv⟩ : ∃ kv, more[x]? = some kv := ⟨more[x]'(by rw [hlen]; exact hlt), List.getElem?_eq_getElem _⟩
      obtain ⟨k, v⟩ := kv
      obtain ⟨hkey, hval⟩ := hpo.get? (e := eso[x]) (by simp [hlt]) hkv
      obtain ⟨k', hkey', hhash⟩ := hko eso[x] (Array.getElem_mem hlt)
      obtain rfl : k' = k := knd.inj _ _ _ hkey' hkey
      show wpAny _ _ (holding [eso[x].key, eso[x].val] (dictPut d eso[x].hash eso[x].key eso[x].val) >>= _) _ _ _
      rw [hhash, hval]
      have hmx : (merged kvs (more.take x)).length ≤ sizeLine := by
        have e1 := merged_length_le kvs (more.take x)
        have e2 : (more.take x).length ≤ more.length := by rw [List.length_take]; omega
        omega
      refine wpAny_bind (wpAny_holding (dictPut_pairs (hsz := hmx) hkey hd' fun h'' hd'' hs'' => ?_))
      have hoo'' : h''.get? o = some oo := (hs''.2 o (Ne.symm hdo)).trans hoo'
      refine wpAny_bind (wpAny_dictEpoch hoo'' hdo' ?_)
      rw [if_neg (by simp)]
      exact wpAny_pure ⟨h'', x + 1, rfl, hrest, hlt, by rw [merged_take_succ kvs more x (k', v) hkv]; exact hd'', hoo'', hs'.trans hs''⟩
    · rintro b s' ⟨h', i, rfl, hr, hi, hd', hoo', hs'⟩
      have hin : i = eso.size := by
        rcases Nat.lt_or_ge i eso.size with h | h
        · have e : eso.size - i = (eso.size - (i + 1)) + 1 := by omega
          rw [e, List.range'_succ] at hr; exact nomatch hr
        · exact Nat.le_antisymm hi h
      refine wpAny_pure (hQ h' ?_ ⟨oo, eso, epo, hoo', hco, hdo', hko, hpo, hno⟩ hs')
      rw [hin, ← hlen, List.take_length] at hd'; exact hd'
  split
  · refine wpAny_bind (wpAny_dictEntries hoo hdo' ?_)
    have hloop : (forIn eso PUnit.unit fun e (_ : PUnit) => (match e.key with
          | Value.ref a => do
            let lk ← specialOf e.key (Str.ofString "__eq__")
            if (lk != some (Value.builtin "object.__eq__")) = true then
                if (Array.filter (fun x => x.hash == e.hash) eso).size > 1 then do
                  (unsupported "dict.merge-into-an-empty-dict:keys-of-equal-hash" : Sem PUnit)
                  pure (ForInStep.yield PUnit.unit)
                else pure (ForInStep.yield PUnit.unit)
              else pure (ForInStep.yield PUnit.unit)
          | x => pure (ForInStep.yield PUnit.unit) : Sem (ForInStep PUnit))) = pure PUnit.unit := by
      rw [← Array.forIn_toList]
      refine forIn_yield_id _ fun e he c => ?_
      obtain ⟨k, hkey, _⟩ := hko e (Array.mem_toList_iff.mp he)
      have hn := href k e.key hkey
      split
      · rename_i a q
        exact absurd q (hn a)
      · rfl
    refine wpAny_bind (wpAny_of_eq hloop ?_)
    exact loop s rfl
  · exact loop s rfl
end
open PySem PySem.Spec PySem.Calls PyProof.Rows L2
section
variable {prog : Program} {w : World} {A : Around} {s : Shared} {K : Type} [DecidableEq K] {knd : KeyKind prog w K}
theorem wp_onR {M : Model} {α : Type} {t : Sem α} {h : Value → Sem Unit} {Q : α → Shared → Prop} {E : Value → Shared → Prop} (ht : wpAny M A t Q (fun _ _ => False) s) : wpAny M A (t.onRaise h) Q E s :=
  wpAny_onRaise (wpAny_mono ht (fun _ _ z => z) fun _ _ z => z.elim)
theorem wp_tryC {M : Model} {α : Type} {t : Sem α} {h : Value → Sem α} {Q : α → Shared → Prop} {E : Value → Shared → Prop} (ht : wpAny M A t Q (fun _ _ => False) s) : wpAny M A (t.tryCatch h) Q E s :=
  wpAny_tryCatch (wpAny_mono ht (fun _ _ z => z) fun _ _ z => z.elim)
/-- the dict at o into the one at d -/
def Mrg1 (knd : KeyKind prog w K) (d : Addr) (s : Shared) (o : Addr) (Q : Shared → Prop) : Prop :=
  ∃ kvs more, d ≠ o ∧ (o == sysModules) = false ∧ s.heap.DictOf knd d kvs ∧ s.heap.DictOf knd o more ∧ kvs.length + more.length ≤ sizeLine ∧ ∀ h', h'.DictOf knd d (merged kvs more) → Heap.SameBut d s.heap h' → Q { s with heap := h' }
theorem mrg1_run {d o : Addr} {Q : Shared → Prop} {E : Value → Shared → Prop} (href : ∀ (k : K) (v : Value), knd.is k v = true → ∀ a, v ≠ .ref a) (h : Mrg1 knd d s o Q) : wpAny (model prog w) A (mergeMapping d (.ref o) false) (fun _ => Q) E s := by
  obtain ⟨kvs, more, h1, h2, h3, h4, h5, h6⟩ := h
  exact merge_map h1 h2 h3 h4 href (fun h' a _ c => h6 h' a c) h5
theorem disp_star1 {m k v : Sem Value} {E : Value → Shared → Prop} {Q : Value → Shared → Prop} (href : ∀ (k : K) (v : Value), knd.is k v = true → ∀ a, v ≠ .ref a)
    (hx : wpAny (model prog w) A m (fun x s1 => ∃ o, x = .ref o ∧ Mrg1 knd s.heap.objs.size s1 o fun s2 => wpAny (model prog w) A (subDict [(k, v)]) (fun b s3 => Mrg1 knd s.heap.objs.size s3 b fun s4 => Q (.ref s.heap.objs.size) s4) E s2) E
      { s with heap := s.heap.push { cls := .type "dict", data := .dict #[] } }) : wpAny (model prog w) A (dictDisplay [(none, m), (some k, v)]) Q E s := by
  unfold dictDisplay
  dsimp only
  simp only [List.forIn_cons, List.forIn_nil, List.isEmpty_nil, if_true, pure_bind]
  refine wpAny_bind (wpAny_bind (wpAny_bind (wpAny_alloc ?_)))
  refine wpAny_bind (wpAny_holding (wpAny_mono hx (fun x s1 z => ?_) fun _ _ z => z))
  obtain ⟨o, rfl, z⟩ := z
  refine wpAny_bind (wp_onR (wp_tryC (wp_onR (wpAny_holding (wpAny_mono (mrg1_run href z) (fun _ s2 z2 => ?_) fun _ _ z => z)))))
  refine wpAny_pure ?_
  refine wpAny_bind (wpAny_pure (wpAny_pure ?_))
  refine wpAny_bind (wpAny_bind (wpAny_holding (wpAny_mono z2 (fun b s3 z3 => ?_) fun _ _ z => z)))
  refine wpAny_bind (wp_onR (wpAny_holding (wpAny_mono (mrg1_run href z3) (fun _ s4 z4 => ?_) fun _ _ z => z)))
  exact wpAny_pure (wpAny_pure z4)
theorem disp_star2 {m m2 : Sem Value} {E : Value → Shared → Prop} {Q : Value → Shared → Prop} (href : ∀ (k : K) (v : Value), knd.is k v = true → ∀ a, v ≠ .ref a)
    (hx : wpAny (model prog w) A m (fun x s1 => ∃ o, x = .ref o ∧ Mrg1 knd s.heap.objs.size s1 o fun s2 => wpAny (model prog w) A m2 (fun y s3 => ∃ b, y = .ref b ∧ Mrg1 knd s.heap.objs.size s3 b fun s4 => Q (.ref s.heap.objs.size) s4) E s2) E
      { s with heap := s.heap.push { cls := .type "dict", data := .dict #[] } }) : wpAny (model prog w) A (dictDisplay [(none, m), (none, m2)]) Q E s := by
  unfold dictDisplay
  dsimp only
  simp only [List.forIn_cons, List.forIn_nil, List.isEmpty_nil, if_true, pure_bind]
  refine wpAny_bind (wpAny_bind (wpAny_bind (wpAny_alloc ?_)))
  refine wpAny_bind (wpAny_holding (wpAny_mono hx (fun x s1 z => ?_) fun _ _ z => z))
  obtain ⟨o, rfl, z⟩ := z
  refine wpAny_bind (wp_onR (wp_tryC (wp_onR (wpAny_holding (wpAny_mono (mrg1_run href z) (fun _ s2 z2 => ?_) fun _ _ z => z)))))
  refine wpAny_pure ?_
  simp only [List.isEmpty_nil, if_true, pure_bind]
  refine wpAny_bind (wpAny_bind (wpAny_holding (wpAny_mono z2 (fun y s3 z3 => ?_) fun _ _ z => z)))
  obtain ⟨b, rfl, z3⟩ := z3
  refine wpAny_bind (wp_onR (wp_tryC (wp_onR (wpAny_holding (wpAny_mono (mrg1_run href z3) (fun _ s4 z4 => ?_) fun _ _ z => z)))))
  refine wpAny_pure ?_
  exact wpAny_pure (wpAny_pure z4)
end
theorem szl1 : 1 ≤ sizeLine := by rw [sizeLine_eq]; decide
/-! ## {**a, k: v}, {**a, **b} over the layer -/
theorem mix_href {P : Program} {w : World} (k : Key) (v : Value) (h : (mixKind P w).is k v = true) (a : Addr) : v ≠ .ref a := by
  rcases keyIs_shape (k := k) (v := v) h with ⟨i, t, _, e⟩ | ⟨i, t, _, e⟩ <;> (rw [e]; intro z; cases z)
section
variable {X : Cx} {pins : List (Addr × Obj)} {σ : L2.St} {H : Hp} {s : Shared}
/-- one merging -/
theorem mrg_lay {d o : Addr} {kvs more : List (Key × V)} {Q : Shared → Prop} (I : Inv X pins σ H s) (hd : H d = some (.dK kvs)) (ho : Rd H o (.dK more)) (hne : d ≠ o) (hz : kvs.length + more.length ≤ sizeLine)
    (hq : ∀ s', Inv X pins σ (upd H d (.dK (mergeK kvs more))) s' → Q s') : Mrg1 (mixKind X.prog X.w) d s o Q := by
  obtain ⟨z1, l1, vs1, r1, d1⟩ := dk_of I.hok hd
  obtain ⟨z2, l2, vs2, r2, d2⟩ := dk_rd I.hok ho
  refine ⟨vs1, vs2, hne, l2, d1, d2, by rw [← r1.length, ← r2.length]; exact hz, fun h' dd hs => hq _ ?_⟩
  have he : ∃ q, h'.get? d = some q := let ⟨q, _, _, hq, _⟩ := dd; ⟨q, hq⟩
  exact d_write I (by rw [hd]; exact True.intro) hs he (dk_new (Nat.le_trans (length_mergeK more kvs) hz) l1 (r2.merge r1) dd)
end
section
variable {X : Cx} {pos : Pos} {e1 e2 k v : Expr} {t1 t2 tk tv : TE}
def tStar1 (t1 tk tv : TE) : TE := fun σ H Q => ∀ d, H d = none → t1 σ (upd H d (.dK [])) fun x H1 => ∃ a more, x = .ref a ∧ d ≠ a ∧ H1 d = some (.dK []) ∧ Rd H1 a (.dK more) ∧
  ∀ b, upd H1 d (.dK (mergeK [] more)) b = none → tPairs [(tk, tv)] σ (upd (upd H1 d (.dK (mergeK [] more))) b (.dK [])) fun ps H2 => ∃ (key : Key) (y : V) (kvs : List (Key × V)), ps = [(kV key, y)] ∧ H2 b = some (.dK []) ∧ H2 d = some (.dK kvs) ∧ kvs.length + 1 ≤ sizeLine ∧
    Q (.ref d) (upd (upd H2 b (.dK [(key, y)])) d (.dK (putK kvs key y)))
theorem pe_star1 (h1 : PE X e1 t1) (hk : PE X k tk) (hv : PE X v tv) : PE X (.Dict [none, some k] [e1, v] pos) (tStar1 t1 tk tv) := by
  refine ⟨fun pins s σ H Q I q => ?_⟩
  rw [arm_eval_Dict]
  refine wpAny_bind (wpAny_standAt ?_)
  show wpAny _ _ (dictDisplay [(none, do let x ← eval e1 X.env; standAt pos; pure x), (some (eval k X.env), do let x ← eval v X.env; standAt pos; pure x)]) _ _ _
  have hn := I.hok.fresh (Nat.le_refl s.heap.objs.size)
  have I1 := I.laid (a := s.heap.objs.size) (o := .dK []) (h' := s.heap.push { cls := .type "dict", data := .dict #[] }) (t' := s.toks) (fun _ _ q => Heap.get?_push_of_some _ q) (Nat.le_refl _) (dk_empty s.heap I.big)
  refine disp_star1 (knd := mixKind X.prog X.w) mix_href (wpAny_bind (thn (h1.run pins _ σ _ _ I1 (q _ hn)) fun u s1 ⟨x, H1, I2, rx, a, more, ex, hne, hd, hr, q2⟩ => wpAny_bind (wpAny_standAt (wpAny_pure ?_))))
  subst ex
  obtain rfl : u = Value.ref a := rx
  have hz0 : more.length ≤ sizeLine := (dk_rd I2.hok hr).1
  refine ⟨a, rfl, mrg_lay I2 hd hr hne (by rw [List.length_nil, Nat.zero_add]; exact hz0) fun s2 I3 => ?_⟩
  have hn3 := I3.hok.fresh (Nat.le_refl s2.heap.objs.size)
  have I4 := I3.laid (a := s2.heap.objs.size) (o := .dK []) (h' := s2.heap.push { cls := .type "dict", data := .dict #[] }) (t' := s2.toks) (fun _ _ q => Heap.get?_push_of_some _ q) (Nat.le_refl _) (dk_empty s2.heap I3.big)
  refine wpAny_subDict (knd := mixKind X.prog X.w) (Nat.le_of_ble_eq_true rfl) (thn ((pps_cons hk hv pps_nil).run pins _ σ _ _ I4 (q2 _ hn3)) fun ws s4 ⟨ps, H4, I5, rel, key, y, kvs, ep, lb, ld, hz, q5⟩ => ?_)
  subst ep
  obtain ⟨rs, c, rk⟩ := carries_of (P := X.prog) (w := X.w) (kvs := [(key, y)]) rel
  obtain ⟨z, hb, vs0, r0, dd⟩ := dk_of I5.hok lb
  cases r0
  refine ⟨rs, c, dd, fun h' dd' hs => ?_⟩
  have he : ∃ q, h'.get? s2.heap.objs.size = some q := let ⟨q, _, _, hq, _⟩ := dd'; ⟨q, hq⟩
  have I6 : Inv X pins σ (upd H4 s2.heap.objs.size (.dK [(key, y)])) { s4 with heap := h', toks := s4.toks + ws.length } := d_write I5 (by rw [lb]; exact True.intro) hs he (dk_new (kvs := mergeK [] [(key, y)]) szl1 hb (rk.merge .nil) dd')
  have hdb : s.heap.objs.size ≠ s2.heap.objs.size := fun z => by
    rw [← z, ] at hn3
    rw [upd_same] at hn3
    cases hn3
  refine mrg_lay I6 (kvs := kvs) (more := [(key, y)]) (by rw [upd_ne hdb]; exact ld) (.inl upd_same) hdb hz fun s6 I7 => ⟨.ref s.heap.objs.size, _, I7, rfl, q5⟩
def tStar2 (t1 t2 : TE) : TE := fun σ H Q => ∀ d, H d = none → t1 σ (upd H d (.dK [])) fun x H1 => ∃ a more, x = .ref a ∧ d ≠ a ∧ H1 d = some (.dK []) ∧ Rd H1 a (.dK more) ∧
  t2 σ (upd H1 d (.dK (mergeK [] more))) fun y H2 => ∃ b kvs more2, y = .ref b ∧ d ≠ b ∧ H2 d = some (.dK kvs) ∧ Rd H2 b (.dK more2) ∧ kvs.length + more2.length ≤ sizeLine ∧ Q (.ref d) (upd H2 d (.dK (mergeK kvs more2)))
theorem pe_star2 (h1 : PE X e1 t1) (h2 : PE X e2 t2) : PE X (.Dict [none, none] [e1, e2] pos) (tStar2 t1 t2) := by
  refine ⟨fun pins s σ H Q I q => ?_⟩
  rw [arm_eval_Dict]
  refine wpAny_bind (wpAny_standAt ?_)
  show wpAny _ _ (dictDisplay [(none, do let x ← eval e1 X.env; standAt pos; pure x), (none, do let x ← eval e2 X.env; standAt pos; pure x)]) _ _ _
  have hn := I.hok.fresh (Nat.le_refl s.heap.objs.size)
  have I1 := I.laid (a := s.heap.objs.size) (o := .dK []) (h' := s.heap.push { cls := .type "dict", data := .dict #[] }) (t' := s.toks) (fun _ _ q => Heap.get?_push_of_some _ q) (Nat.le_refl _) (dk_empty s.heap I.big)
  refine disp_star2 (knd := mixKind X.prog X.w) mix_href (wpAny_bind (thn (h1.run pins _ σ _ _ I1 (q _ hn)) fun u s1 ⟨x, H1, I2, rx, a, more, ex, hne, hd, hr, q2⟩ => wpAny_bind (wpAny_standAt (wpAny_pure ?_))))
  subst ex
  obtain rfl : u = Value.ref a := rx
  have hz0 : more.length ≤ sizeLine := (dk_rd I2.hok hr).1
  refine ⟨a, rfl, mrg_lay I2 hd hr hne (by rw [List.length_nil, Nat.zero_add]; exact hz0) fun s2 I3 => ?_⟩
  refine wpAny_bind (thn (h2.run pins _ σ _ _ I3 q2) fun u2 s3 ⟨y, H2, I4, ry, b, kvs, more2, ey, hne2, hd2, hr2, hz2, q3⟩ => wpAny_bind (wpAny_standAt (wpAny_pure ?_)))
  subst ey
  obtain rfl : u2 = Value.ref b := ry
  exact ⟨b, rfl, mrg_lay I4 hd2 hr2 hne2 hz2 fun s6 I7 => ⟨.ref s.heap.objs.size, _, I7, rfl, q3⟩⟩
end
/-! zip of two texts of small signs -/
open PySem PySem.Spec PyProof.Rows
/-- an iterator over a text of small signs -/
abbrev SIt (h : Heap) (it : Addr) (x : Str) (t : Tok) (i : Nat) : Prop := h.IsStrIter it "str_ascii_iterator" x t i
theorem SIt.ext {h h' : Heap} {it b : Addr} {x : Str} {t : Tok} {i : Nat} (a : SIt h it x t i) (e : Heap.ExtBut b h h') (n : it ≠ b) : SIt h' it x t i :=
  let ⟨o, ho, r⟩ := a; ⟨o, e it o n ho, r⟩
section
variable {prog : Program} {w : World} {A : Around} {E : Value → Shared → Prop} {s : Shared}
theorem nextOf_s_item {it : Addr} {x : Str} {t : Tok} {i c : Nat} {Q : Value → Shared → Prop} (hit : SIt s.heap it x t i) (hx : x.cps[i]? = some c)
    (hQ : ∀ h', SIt h' it x t (i + 1) → Heap.SameBut it s.heap h' → Q (.str ⟨#[c]⟩ s.toks) { s with heap := h', toks := s.toks + 1 }) :
    wpAny (model prog w) A (Builtin.SmallTypes.nextOf (.ref it)) Q E s := by
  obtain ⟨o, ho, hc, hd⟩ := id hit
  unfold Builtin.SmallTypes.nextOf
  refine wpAny_bind (wpAny_callSpecial?_slot (name := Str.ofString "__next__") hit.typeIs F.slot_str_ascii_iterator_next (wpAny_call_entry F.slot_str_ascii_iterator_next hit.typeIs F.entry_str_ascii_iterator_next ?_ (F.args_str_ascii_iterator_next_1 _)))
  show wpAny _ _ (field (.ref it) 0 >>= _) _ _ s; refine wpAny_bind (wpAny_field ho hd (x := .str x t) rfl ?_)
  show wpAny _ _ (field (.ref it) 1 >>= _) _ _ s; refine wpAny_bind (wpAny_field ho hd (x := .int i 0) rfl ?_)
  simp only [Int.toNat_natCast, hx]
  refine wpAny_bind (wpAny_setField ho hd (by simp) (wpAny_bind (wpAny_mkStr (wpAny_pure ⟨_, rfl, wpAny_pure (hQ _ ⟨_, Heap.get?_update_self _ ho (Obj.isFreed_of_fields (Obj.data_mapFields hd _)), (Obj.cls_mapFields ..).trans hc, by rw [Obj.data_mapFields hd]; simp [rawInt]⟩ (Heap.SameBut.update ..))⟩) (by show 1 ≤ sizeLine; decide))))
theorem nextOf_s_end {it : Addr} {x : Str} {t : Tok} {i : Nat} {Q : Value → Shared → Prop} (hh : A.handled = none) (hit : SIt s.heap it x t i) (hx : x.cps[i]? = none)
    (hE : ∀ h' e, Heap.ExtBut it s.heap h' → (∃ o, h'.get? e = some o ∧ o.cls = .type "StopIteration") → E (.ref e) { s with heap := h' }) :
    wpAny (model prog w) A (Builtin.SmallTypes.nextOf (.ref it)) Q E s := by
  obtain ⟨o, ho, hc, hd⟩ := id hit
  unfold Builtin.SmallTypes.nextOf
  refine wpAny_bind (wpAny_callSpecial?_slot (name := Str.ofString "__next__") hit.typeIs F.slot_str_ascii_iterator_next (wpAny_call_entry F.slot_str_ascii_iterator_next hit.typeIs F.entry_str_ascii_iterator_next ?_ (F.args_str_ascii_iterator_next_1 _)))
  show wpAny _ _ (field (.ref it) 0 >>= _) _ _ s; refine wpAny_bind (wpAny_field ho hd (x := .str x t) rfl ?_)
  show wpAny _ _ (field (.ref it) 1 >>= _) _ _ s; refine wpAny_bind (wpAny_field ho hd (x := .int i 0) rfl ?_)
  simp only [Int.toNat_natCast, hx]
  refine wpAny_bind (wpAny_rule (wpAny_bind (wpAny_setField ho hd (by simp) (wpAny_bind (wpAny_letGo ?_)))))
  show wpAny _ _ (newExc (.type "StopIteration") [] >>= _) _ _ _; refine wpAny_bind ?_
  simp only [newExc, newTuple]
  refine wpAny_bind (wpAny_newObj_type ?_ (by size_fits)); refine wpAny_bind (m := firstArgMember _ _) (wpAny_of_eq (a := Value.none) (by first | rfl | (simp only [firstArgMember]; rfl)) ?_)
  refine wpAny_newObj_type ?_ (by size_fits); simp only [raiseNew]; refine wpAny_bind (wpAny_handled ?_)
  first | rw [show A.in1.handled = none from hh] | rw [hh]
  refine wpAny_bind (wpAny_pure (wpAny_throw ?_)); exact hE _ _ (((Heap.SameBut.update ..).extBut.push _).push _) ⟨_, Heap.get?_push_size _ rfl, rfl⟩
theorem zipS_next_item {z TI TO i1 i2 l1 l2 : Addr} {k1 k2 c1 c2 : Nat} {x y : Str} {t1 t2 : Tok} {a b : Value} {Q : Value → Shared → Prop} (D : ZipApart z TI TO i1 i2 l1 l2)
    (hz : IsZip s.heap z TI TO .none) (hTI : IsPair s.heap TI (.ref i1) (.ref i2)) (hTO : IsPair s.heap TO a b) (h1 : SIt s.heap i1 x t1 k1) (h2 : SIt s.heap i2 y t2 k2) (hx : x.cps[k1]? = some c1) (hy : y.cps[k2]? = some c2)
    (hQ : ∀ h' u v t, IsZip h' z TI TO (rawInt s.heap.objs.size) → IsPair h' TO (.str ⟨#[c1]⟩ u) (.str ⟨#[c2]⟩ v) → SIt h' i1 x t1 (k1 + 1) → SIt h' i2 y t2 (k2 + 1) → IsPair h' s.heap.objs.size (.str ⟨#[c1]⟩ u) (.str ⟨#[c2]⟩ v) →
      (∀ c o, c ≠ z → c ≠ TO → c ≠ i1 → c ≠ i2 → s.heap.get? c = some o → h'.get? c = some o) → Q (.ref s.heap.objs.size) { s with heap := h', toks := t }) :
    wpAny (model prog w) A (Builtin.«zip.__next__» ⟨[.ref z], []⟩) (fun fin s' => ∃ v, fin = .done (.ret v) ∧ Q v s') E s := by
  show wpAny _ _ (field (.ref z) 2 >>= _) _ _ _; refine wpAny_bind (wpAny_field hz rfl (x := .bool false) rfl ?_)
  show wpAny _ _ (field (.ref z) 3 >>= _) _ _ _; refine wpAny_bind (wpAny_field hz rfl (x := .ref TI) rfl ?_)
  refine wpAny_bind (wpAny_seqItems hTI rfl ?_); show wpAny _ _ (Builtin.SmallTypes.ownedTupleIsFree (.ref z) >>= _) _ _ _; refine wpAny_bind ?_
  unfold Builtin.SmallTypes.ownedTupleIsFree; refine wpAny_bind (wpAny_field hz rfl (x := .none) rfl (wpAny_pure ?_))
  simp only [if_true]; refine wpAny_bind (wpAny_rule ?_); refine wpAny_bind (wpAny_field hz rfl (x := .ref TO) rfl ?_)
  refine wpAny_bind (wpAny_setField_rec hz (by simp) fun h₁ hz₁ hs₁ => ?_); replace hz₁ : IsZip h₁ z TI TO .ellipsis := hz₁
  refine wpAny_bind ?_; simp only [List.zipIdx_cons, List.zipIdx_nil, List.forIn_cons, List.forIn_nil]
  refine wpAny_bind (wpAny_bind (wpAny_onRaise ?_)); show wpAny _ _ (Builtin.SmallTypes.nextOf (.ref i1) >>= _) _ _ _
  refine wpAny_bind (nextOf_s_item (h1.ext hs₁.extBut D.i1z) hx fun h₂ h1₂ hs₂ => wpAny_pure ?_)
  have hTO₂ : IsPair h₂ TO a b := hs₂.extBut _ _ D.TOi1 (hs₁.extBut _ _ D.TOz hTO); refine wpAny_bind (wpAny_seqItems hTO₂ rfl ?_)
  refine wpAny_bind (wpAny_updateSeq_pair hTO₂ fun h₃ hTO₃ hs₃ => ?_); replace hTO₃ : IsPair h₃ TO (.str ⟨#[c1]⟩ s.toks) b := hTO₃
  refine wpAny_bind (wpAny_letGo (wpAny_pure ?_)); refine wpAny_bind (wpAny_bind (wpAny_onRaise ?_)); show wpAny _ _ (Builtin.SmallTypes.nextOf (.ref i2) >>= _) _ _ _
  refine wpAny_bind (nextOf_s_item (((h2.ext hs₁.extBut D.i2z).ext hs₂.extBut D.i12.symm).ext hs₃.extBut D.TOi2.symm) hy fun h₄ h2₄ hs₄ => wpAny_pure ?_)
  have hTO₄ : IsPair h₄ TO (.str ⟨#[c1]⟩ s.toks) b := hs₄.extBut _ _ D.TOi2 hTO₃; refine wpAny_bind (wpAny_seqItems hTO₄ rfl ?_)
  refine wpAny_bind (wpAny_updateSeq_pair hTO₄ fun h₅ hTO₅ hs₅ => ?_); replace hTO₅ : IsPair h₅ TO (.str ⟨#[c1]⟩ s.toks) (.str ⟨#[c2]⟩ (s.toks + 1)) := hTO₅
  refine wpAny_bind (wpAny_letGo (wpAny_pure (wpAny_pure ?_))); refine wpAny_bind (wpAny_seqItems hTO₅ rfl ?_); refine wpAny_bind (wpAny_newTuple ?_)
  have hsz : h₅.objs.size = s.heap.objs.size := by rw [hs₅.1, hs₄.1, hs₃.1, hs₂.1]; exact hs₁.1
  have hz₅ : IsZip h₅ z TI TO .ellipsis := hs₅.extBut _ _ D.TOz.symm (hs₄.extBut _ _ D.i2z.symm (hs₃.extBut _ _ D.TOz.symm (hs₂.extBut _ _ D.i1z.symm hz₁)))
  have hk₅ : ∀ c o, c ≠ z → c ≠ TO → c ≠ i1 → c ≠ i2 → s.heap.get? c = some o → h₅.get? c = some o := fun c o n1 n2 n3 n4 e => hs₅.extBut _ _ n2 (hs₄.extBut _ _ n4 (hs₃.extBut _ _ n2 (hs₂.extBut _ _ n3 (hs₁.extBut _ _ n1 e))))
  have h1₅ : SIt h₅ i1 x t1 (k1 + 1) := ((h1₂.ext hs₃.extBut D.TOi1.symm).ext hs₄.extBut D.i12).ext hs₅.extBut D.TOi1.symm
  have h2₅ : SIt h₅ i2 y t2 (k2 + 1) := h2₄.ext hs₅.extBut D.TOi2.symm
  have hzlt : z < h₅.objs.size := Heap.lt_size hz₅
  show wpAny _ _ (Builtin.SmallTypes.ownedTupleHandOut (.ref z) (.ref h₅.objs.size) >>= _) _ _ _; refine wpAny_bind ?_; unfold Builtin.SmallTypes.ownedTupleHandOut
  have hz₆ : IsZip (h₅.push { cls := .type "tuple", data := .seq #[.str ⟨#[c1]⟩ s.toks, .str ⟨#[c2]⟩ (s.toks + 1)] }) z TI TO .ellipsis := Heap.get?_push_of_some _ hz₅
  refine wpAny_bind (wpAny_setField_rec hz₆ (by simp) fun h₇ hz₇ hs₇ => ?_); replace hz₇ : IsZip h₇ z TI TO (rawInt h₅.objs.size) := hz₇
  refine wpAny_setField_rec hz₇ (by simp) fun h₈ hz₈ hs₈ => ?_; replace hz₈ : IsZip h₈ z TI TO (rawInt h₅.objs.size) := hz₈
  have up : ∀ c o, c ≠ z → h₅.get? c = some o → h₈.get? c = some o := fun c o n e => hs₈.extBut _ _ n (hs₇.extBut _ _ n (Heap.get?_push_of_some _ e))
  have hT₈ : IsPair h₈ h₅.objs.size (.str ⟨#[c1]⟩ s.toks) (.str ⟨#[c2]⟩ (s.toks + 1)) := hs₈.extBut _ _ (Nat.ne_of_gt hzlt) (hs₇.extBut _ _ (Nat.ne_of_gt hzlt) (Heap.get?_push_size _ rfl))
  rw [hsz] at hz₈ hT₈
  refine wpAny_pure ⟨_, rfl, ?_⟩; show Q (.ref h₅.objs.size) _; rw [hsz]
  exact hQ h₈ _ _ _ hz₈ (up _ _ D.TOz hTO₅) (let ⟨o, e, r⟩ := h1₅; ⟨o, up _ o D.i1z e, r⟩) (let ⟨o, e, r⟩ := h2₅; ⟨o, up _ o D.i2z e, r⟩) hT₈ fun c o n1 n2 n3 n4 e => up c o n1 (hk₅ c o n1 n2 n3 n4 e)
theorem zipS_next_end {z TI TO i1 i2 l1 l2 : Addr} {k1 k2 : Nat} {x y : Str} {t1 t2 : Tok} {a b : Value} {Q : Fin → Shared → Prop} (hh : A.handled = none) (D : ZipApart z TI TO i1 i2 l1 l2)
    (hz : IsZip s.heap z TI TO .none) (hTI : IsPair s.heap TI (.ref i1) (.ref i2)) (hTO : IsPair s.heap TO a b) (h1 : SIt s.heap i1 x t1 k1) (h2 : SIt s.heap i2 y t2 k2) (hend : x.cps[k1]? = none ∨ y.cps[k2]? = none)
    (hE : ∀ h' t e, (∀ c o, c ≠ z → c ≠ TO → c ≠ i1 → c ≠ i2 → s.heap.get? c = some o → h'.get? c = some o) → (∃ o, h'.get? e = some o ∧ o.cls = .type "StopIteration") → E (.ref e) { s with heap := h', toks := t }) :
    wpAny (model prog w) A (Builtin.«zip.__next__» ⟨[.ref z], []⟩) Q E s := by
  show wpAny _ _ (field (.ref z) 2 >>= _) _ _ _; refine wpAny_bind (wpAny_field hz rfl (x := .bool false) rfl ?_)
  show wpAny _ _ (field (.ref z) 3 >>= _) _ _ _; refine wpAny_bind (wpAny_field hz rfl (x := .ref TI) rfl ?_)
  refine wpAny_bind (wpAny_seqItems hTI rfl ?_); show wpAny _ _ (Builtin.SmallTypes.ownedTupleIsFree (.ref z) >>= _) _ _ _; refine wpAny_bind ?_
  unfold Builtin.SmallTypes.ownedTupleIsFree; refine wpAny_bind (wpAny_field hz rfl (x := .none) rfl (wpAny_pure ?_))
  simp only [if_true]; refine wpAny_bind (wpAny_rule ?_); refine wpAny_bind (wpAny_field hz rfl (x := .ref TO) rfl ?_)
  refine wpAny_bind (wpAny_setField_rec hz (by simp) fun h₁ hz₁ hs₁ => ?_); replace hz₁ : IsZip h₁ z TI TO .ellipsis := hz₁
  refine wpAny_bind ?_; simp only [List.zipIdx_cons, List.zipIdx_nil, List.forIn_cons, List.forIn_nil]
  refine wpAny_bind (wpAny_bind (wpAny_onRaise ?_)); show wpAny _ _ (Builtin.SmallTypes.nextOf (.ref i1) >>= _) _ _ _
  cases hx : x.cps[k1]? with
  | none =>
    refine wpAny_bind (nextOf_s_end hh (h1.ext hs₁.extBut D.i1z) hx fun h₂ e hs₂ he => ?_); obtain ⟨oe, hoe, hce⟩ := he
    have hz₂ : IsZip h₂ z TI TO .ellipsis := hs₂ _ _ D.i1z.symm hz₁
    have hez : e ≠ z := fun q => by subst q; rw [hz₂] at hoe; cases hoe; simp at hce
    refine wpAny_setField_rec hz₂ (by simp) fun h₃ _ hs₃ => hE h₃ _ e (fun c o n1 _ n3 _ q => hs₃.extBut _ _ n1 (hs₂ _ _ n3 (hs₁.extBut _ _ n1 q))) ⟨oe, hs₃.extBut _ _ hez hoe, hce⟩
  | some c =>
    have hy : y.cps[k2]? = none := by rcases hend with h | h; (rw [hx] at h; cases h); exact h
    refine wpAny_bind (nextOf_s_item (h1.ext hs₁.extBut D.i1z) hx fun h₂ h1₂ hs₂ => wpAny_pure ?_)
    have hTO₂ : IsPair h₂ TO a b := hs₂.extBut _ _ D.TOi1 (hs₁.extBut _ _ D.TOz hTO); refine wpAny_bind (wpAny_seqItems hTO₂ rfl ?_)
    refine wpAny_bind (wpAny_updateSeq_pair hTO₂ fun h₃ hTO₃ hs₃ => ?_); refine wpAny_bind (wpAny_letGo (wpAny_pure ?_)); refine wpAny_bind (wpAny_bind (wpAny_onRaise ?_))
    show wpAny _ _ (Builtin.SmallTypes.nextOf (.ref i2) >>= _) _ _ _
    refine wpAny_bind (nextOf_s_end hh (((h2.ext hs₁.extBut D.i2z).ext hs₂.extBut D.i12.symm).ext hs₃.extBut D.TOi2.symm) hy fun h₄ e hs₄ he => ?_); obtain ⟨oe, hoe, hce⟩ := he
    have hz₄ : IsZip h₄ z TI TO .ellipsis := hs₄ _ _ D.i2z.symm (hs₃.extBut _ _ D.TOz.symm (hs₂.extBut _ _ D.i1z.symm hz₁))
    have hez : e ≠ z := fun q => by subst q; rw [hz₄] at hoe; cases hoe; simp at hce
    refine wpAny_setField_rec hz₄ (by simp) fun h₅ _ hs₅ => hE h₅ _ e (fun c o n1 n2 n3 n4 q => hs₅.extBut _ _ n1 (hs₄ _ _ n4 (hs₃.extBut _ _ n2 (hs₂.extBut _ _ n3 (hs₁.extBut _ _ n1 q))))) ⟨oe, hs₅.extBut _ _ hez hoe, hce⟩
theorem pyNext_zipS_item {z TI TO i1 i2 l1 l2 : Addr} {k1 k2 c1 c2 : Nat} {x y : Str} {t1 t2 : Tok} {a b : Value} {Q : Option Value → Shared → Prop} (D : ZipApart z TI TO i1 i2 l1 l2)
    (hz : IsZip s.heap z TI TO .none) (hTI : IsPair s.heap TI (.ref i1) (.ref i2)) (hTO : IsPair s.heap TO a b) (h1 : SIt s.heap i1 x t1 k1) (h2 : SIt s.heap i2 y t2 k2) (hx : x.cps[k1]? = some c1) (hy : y.cps[k2]? = some c2)
    (hQ : ∀ h' u v t, IsZip h' z TI TO (rawInt s.heap.objs.size) → IsPair h' TO (.str ⟨#[c1]⟩ u) (.str ⟨#[c2]⟩ v) → SIt h' i1 x t1 (k1 + 1) → SIt h' i2 y t2 (k2 + 1) → IsPair h' s.heap.objs.size (.str ⟨#[c1]⟩ u) (.str ⟨#[c2]⟩ v) →
      (∀ c o, c ≠ z → c ≠ TO → c ≠ i1 → c ≠ i2 → s.heap.get? c = some o → h'.get? c = some o) → Q (some (.ref s.heap.objs.size)) { s with heap := h', toks := t }) :
    wpAny (model prog w) A (pyNext (.ref z)) Q E s := by
  have hT : s.TypeIs (.ref z) "zip" := ⟨_, hz, rfl⟩
  unfold pyNext
  exact wpAny_bind (wpAny_attempt (wpAny_callSpecial?_slot (name := Str.ofString "__next__") hT F.slot_zip_next (wpAny_call_entry F.slot_zip_next hT F.entry_zip_next
      (zipS_next_item D hz hTI hTO h1 h2 hx hy fun h' u v t a1 a2 a3 a4 a5 a7 => wpAny_pure (hQ h' u v t a1 a2 a3 a4 a5 a7)) (F.args_zip_next_1 _))))
theorem pyNext_zipS_end {z TI TO i1 i2 l1 l2 : Addr} {k1 k2 : Nat} {x y : Str} {t1 t2 : Tok} {a b : Value} {Q : Option Value → Shared → Prop} (hh : A.handled = none) (D : ZipApart z TI TO i1 i2 l1 l2)
    (hz : IsZip s.heap z TI TO .none) (hTI : IsPair s.heap TI (.ref i1) (.ref i2)) (hTO : IsPair s.heap TO a b) (h1 : SIt s.heap i1 x t1 k1) (h2 : SIt s.heap i2 y t2 k2) (hend : x.cps[k1]? = none ∨ y.cps[k2]? = none)
    (hQ : ∀ h' t, (∀ c o, c ≠ z → c ≠ TO → c ≠ i1 → c ≠ i2 → s.heap.get? c = some o → h'.get? c = some o) → Q none { s with heap := h', toks := t }) : wpAny (model prog w) A (pyNext (.ref z)) Q E s := by
  have hT : s.TypeIs (.ref z) "zip" := ⟨_, hz, rfl⟩
  unfold pyNext
  refine wpAny_bind (wpAny_attempt (wpAny_callSpecial?_slot (name := Str.ofString "__next__") hT F.slot_zip_next (wpAny_call_entry F.slot_zip_next hT F.entry_zip_next
    (zipS_next_end hh D hz hTI hTO h1 h2 hend fun h' t e hk he => ?_) (F.args_zip_next_1 _))))
  obtain ⟨o, ho, hc⟩ := he
  exact wpAny_bind (wpAny_isInstance (T := "StopIteration") (b := true) ⟨o, ho, hc⟩ isSubtype_stop (wpAny_pure (hQ _ _ hk)))
end
/-! the call -/
abbrev zsH1 (h : Heap) (x : Str) (t : Tok) : Heap := h.push { cls := .type "str_ascii_iterator", data := .fields #[.str x t, .int 0 0] }
abbrev zsH2 (h : Heap) (x y : Str) (t u : Tok) : Heap := (zsH1 h x t).push { cls := .type "str_ascii_iterator", data := .fields #[.str y u, .int 0 0] }
abbrev zsH3 (h : Heap) (x y : Str) (t u : Tok) : Heap := (zsH2 h x y t u).push { cls := .type "tuple", data := .seq #[.ref h.objs.size, .ref (zsH1 h x t).objs.size] }
abbrev zsH4 (h : Heap) (x y : Str) (t u : Tok) : Heap := (zsH3 h x y t u).push { cls := .type "tuple", data := .seq #[.none, .none] }
abbrev zsH5 (h : Heap) (x y : Str) (t u : Tok) : Heap := (zsH4 h x y t u).push { cls := .type "zip", data := .fields #[.none, .bool false, .bool false, .ref (zsH2 h x y t u).objs.size, .ref (zsH3 h x y t u).objs.size] }
theorem meets_zipS (x y : Str) (t u : Tok) (hx : x.cps.all (· < 128) = true) (hy : y.cps.all (· < 128) = true) :
    Meets (Builtin.«zip.__new__» ⟨[.type "zip", .str x t, .str y u], []⟩) (fun _ R s => R (.ok (.ret (.ref (zsH4 s.heap x y t u).objs.size))) { s with heap := zsH5 s.heap x y t u }) :=
  .of_wp fun prog w A R s h => by
    obtain ⟨hp, g, d, tk, os⟩ := s
    have hsub := sub_zip
    wp_walk using wpAny_pyIter_ascii hx, wpAny_pyIter_ascii hy
    exact ⟨_, rfl, h⟩
section
variable {prog : Program} {w : World} {A : Around} {E : Value → Shared → Prop} {s : Shared}
theorem call_zipS {x y : Str} {t u : Tok} {Q : Value → Shared → Prop} (hx : x.cps.all (· < 128) = true) (hy : y.cps.all (· < 128) = true)
    (h : ∀ h', IsZip h' (s.heap.objs.size + 4) (s.heap.objs.size + 2) (s.heap.objs.size + 3) .none → IsPair h' (s.heap.objs.size + 2) (.ref s.heap.objs.size) (.ref (s.heap.objs.size + 1)) →
      IsPair h' (s.heap.objs.size + 3) .none .none → SIt h' s.heap.objs.size x t 0 → SIt h' (s.heap.objs.size + 1) y u 0 → h'.objs.size = s.heap.objs.size + 5 →
      (∀ c o, s.heap.get? c = some o → h'.get? c = some o) → Q (.ref (s.heap.objs.size + 4)) { s with heap := h' }) :
    wpAny (model prog w) A (call (.type "zip") [.str x t, .str y u]) Q E s := by
  refine callType_new F.called_zip (by decide) (F.typeCall_zip_2 _ _) (F.newCall_zip_2 _ _) (fun obj => F.args_object_init_3 obj _ _) F.entry_zip_new (meets_zipS x y t u hx hy) ?_
  have z1 : (zsH1 s.heap x t).objs.size = s.heap.objs.size + 1 := Heap.size_push ..
  have z2 : (zsH2 s.heap x y t u).objs.size = s.heap.objs.size + 2 := by rw [Heap.size_push, z1]
  have z3 : (zsH3 s.heap x y t u).objs.size = s.heap.objs.size + 3 := by rw [Heap.size_push, z2]
  have z4 : (zsH4 s.heap x y t u).objs.size = s.heap.objs.size + 4 := by rw [Heap.size_push, z3]
  have z5 : (zsH5 s.heap x y t u).objs.size = s.heap.objs.size + 5 := by rw [Heap.size_push, z4]
  have g5 : (zsH5 s.heap x y t u).get? (zsH4 s.heap x y t u).objs.size = some _ := Heap.get?_push_size _ rfl
  have g4 : (zsH5 s.heap x y t u).get? (zsH3 s.heap x y t u).objs.size = some _ := Heap.get?_push_of_some _ (Heap.get?_push_size _ rfl)
  have g3 : (zsH5 s.heap x y t u).get? (zsH2 s.heap x y t u).objs.size = some _ := Heap.get?_push_of_some _ (Heap.get?_push_of_some _ (Heap.get?_push_size _ rfl))
  have g2 : (zsH5 s.heap x y t u).get? (zsH1 s.heap x t).objs.size = some _ := Heap.get?_push_of_some _ (Heap.get?_push_of_some _ (Heap.get?_push_of_some _ (Heap.get?_push_size _ rfl)))
  have g1 : (zsH5 s.heap x y t u).get? s.heap.objs.size = some _ := Heap.get?_push_of_some _ (Heap.get?_push_of_some _ (Heap.get?_push_of_some _ (Heap.get?_push_of_some _ (Heap.get?_push_size _ rfl))))
  show _ ∧ _
  rw [z2, z3, z4] at g5
  rw [z1, z2] at g3
  rw [z3] at g4
  rw [z1] at g2
  rw [z4]
  exact ⟨⟨_, g5, rfl⟩, h _ g5 g3 g4 ⟨_, g1, rfl, rfl⟩ ⟨_, g2, rfl, rfl⟩ z5 fun c o q => Heap.get?_push_of_some _ (Heap.get?_push_of_some _ (Heap.get?_push_of_some _ (Heap.get?_push_of_some _ (Heap.get?_push_of_some _ q))))⟩
end
open PySem PySem.Spec PyProof.Rows
open L2
/-! the rule -/
def ItzS (x y : Str) : It :=
  ⟨fun i _ => i < x.cps.size ∧ i < y.cps.size, fun i H v H' => ∃ T c d, v = .ref T ∧ H T = none ∧ H' = upd H T (.tup [.str ⟨#[c]⟩, .str ⟨#[d]⟩]) ∧ x.cps[i]? = some c ∧ y.cps[i]? = some d, fun i _ => x.cps.size ≤ i ∨ y.cps.size ≤ i⟩
theorem apartS (I : Nat) : ZipApart (I + 4) (I + 2) (I + 3) I (I + 1) (I + 2) (I + 2) := by constructor <;> (show ¬ ((_ : Nat) = _); omega)
theorem turn_zipS {P : Program} {w : World} {K : PySem.W.Frag} {elts : List Expr} {kk : Nat} {tpos : Pos} {x y : Str} {t1 t2 : Tok} {a b z TI TO i1 i2 : Addr} (D : ZipApart z TI TO i1 i2 a b) :
    Turn P w K (.Tuple elts kk tpos) (ItzS x y) [z, TI, TO, i1, i2] z (fun i h => IsZip h z TI TO .none ∧ IsPair h TI (.ref i1) (.ref i2) ∧ (∃ x y, IsPair h TO x y) ∧ SIt h i1 x t1 i ∧ SIt h i2 y t2 i) where
  mem := by simp
  obj := fun i h st c hc => by
    obtain ⟨hz, hTI, ⟨u, v, hTO⟩, ⟨o1, e1, _, d1⟩, ⟨o2, e2, _, d2⟩⟩ := st
    have e' : c = z ∨ c = TI ∨ c = TO ∨ c = i1 ∨ c = i2 := by simpa using hc
    rcases e' with q | q | q | q | q <;> rw [q]
    · exact ⟨_, hz, fun v q => nomatch q⟩
    · exact ⟨_, hTI, fun v q => nomatch q⟩
    · exact ⟨_, hTO, fun v q => nomatch q⟩
    · exact ⟨o1, e1, fun v q => by rw [d1] at q; cases q⟩
    · exact ⟨o2, e2, fun v q => by rw [d2] at q; cases q⟩
  keep := fun i h h' st k => by
    obtain ⟨hz, hTI, ⟨u, v, hTO⟩, ⟨o1, e1, r1⟩, ⟨o2, e2, r2⟩⟩ := st
    exact ⟨k z (by simp) _ hz, k TI (by simp) _ hTI, ⟨u, v, k TO (by simp) _ hTO⟩, ⟨o1, k i1 (by simp) _ e1, r1⟩, ⟨o2, k i2 (by simp) _ e2, r2⟩⟩
  item := by
    intro X hP hw hK hc i pins s σ H E I hf st hg
    subst hP hw hK
    obtain ⟨hz, hTI, ⟨x0, y0, hTO⟩, h1, h2⟩ := st
    obtain ⟨lx, ly⟩ := hg
    have hx : x.cps[i]? = some x.cps[i] := Array.getElem?_eq_getElem lx
    have hy : y.cps[i]? = some y.cps[i] := Array.getElem?_eq_getElem ly
    have hzl : z < s.heap.objs.size := Heap.lt_size hz
    refine pyNext_zipS_item D hz hTI hTO h1 h2 hx hy fun h' u v t z' TO' h1' h2' hT hk => ?_
    refine ⟨_, rfl, wpAny_letOwnedTupleGo_zip (s := { s with heap := h', toks := t }) z' fun h'' z'' sb => ?_⟩
    have hT2 : h''.get? s.heap.objs.size = some { cls := .type "tuple", data := .seq #[.str ⟨#[x.cps[i]]⟩ u, .str ⟨#[y.cps[i]]⟩ v] } := (sb.2 _ (Nat.ne_of_gt hzl)).trans hT
    have new : ObjOk X.prog X.w (upd H s.heap.objs.size (.tup [.str ⟨#[x.cps[i]]⟩, .str ⟨#[y.cps[i]]⟩])) h'' s.heap.objs.size (.tup [.str ⟨#[x.cps[i]]⟩, .str ⟨#[y.cps[i]]⟩]) :=
      ⟨by show 2 ≤ sizeLine; decide, [.str ⟨#[x.cps[i]]⟩ u, .str ⟨#[y.cps[i]]⟩ v], .cons ⟨_, rfl⟩ (.cons ⟨_, rfl⟩ .nil), ⟨_, hT2, rfl, _, rfl⟩⟩
    have I1 : Inv X pins σ (upd H s.heap.objs.size (.tup [.str ⟨#[x.cps[i]]⟩, .str ⟨#[y.cps[i]]⟩])) { s with heap := h'', toks := t } :=
      I.turnedNew (t' := t) (ch := [z, TI, TO, i1, i2]) (fun c o hb q => (sb.2 c (fun q' => hb (by simp [q']))).trans (hk c o (fun q' => hb (by simp [q'])) (fun q' => hb (by simp [q'])) (fun q' => hb (by simp [q'])) (fun q' => hb (by simp [q'])) q)) hf (Nat.le_refl _) new
    refine ⟨.ref s.heap.objs.size, _, I1, rfl, ⟨_, _, _, rfl, I.hok.fresh (Nat.le_refl _), rfl, hx, hy⟩, ⟨z'', ?_, ⟨_, _, (sb.2 _ D.TOz).trans TO'⟩, ?_, ?_⟩, fun c hcm => ?_⟩
    · exact (sb.2 _ D.TIz).trans (hk _ _ D.TIz D.TITO D.TIi1 D.TIi2 hTI)
    · exact let ⟨o, e, r⟩ := h1'; ⟨o, (sb.2 _ D.i1z).trans e, r⟩
    · exact let ⟨o, e, r⟩ := h2'; ⟨o, (sb.2 _ D.i2z).trans e, r⟩
    · have hlt : c < s.heap.objs.size := by
        have e' : c = z ∨ c = TI ∨ c = TO ∨ c = i1 ∨ c = i2 := by simpa using hcm
        rcases e' with q | q | q | q | q <;> rw [q]
        · exact hzl
        · exact Heap.lt_size hTI
        · exact Heap.lt_size hTO
        · obtain ⟨_, e1, _⟩ := h1; exact Heap.lt_size e1
        · obtain ⟨_, e2, _⟩ := h2; exact Heap.lt_size e2
      rw [upd_ne (Nat.ne_of_lt hlt)]
      exact (hf c hcm).1
  done := by
    intro X hP hw hK hc i pins s σ H E I hf st hg
    subst hP hw hK
    obtain ⟨hz, hTI, ⟨x0, y0, hTO⟩, h1, h2⟩ := st
    have he : x.cps[i]? = none ∨ y.cps[i]? = none := hg.elim (fun q => .inl (Array.getElem?_eq_none q)) fun q => .inr (Array.getElem?_eq_none q)
    exact pyNext_zipS_end (I.ok.hd hc) D hz hTI hTO h1 h2 he fun h' t hk => ⟨rfl, I.turnedL (t' := t) (ch := [z, TI, TO, i1, i2]) (fun c o hb q =>
      hk c o (fun q' => hb (by simp [q'])) (fun q' => hb (by simp [q'])) (fun q' => hb (by simp [q'])) (fun q' => hb (by simp [q'])) q) hf⟩
  self := fun A i s Q E st h => wpAny_pyIter_zip st.1 h
def SmallS (x : Str) : Prop := x.cps.all (· < 128) = true
def iZipS (ta : TA) : TI := fun σ H R => ta σ H fun vs H1 => ∃ x y, vs = [.str x, .str y] ∧ SmallS x ∧ SmallS y ∧ R (ItzS x y) H1
theorem pi_zipS {X : Cx} {e e2 : Expr} {ta : TA} {p pos tpos : Pos} {elts : List Expr} {kk : Nat} (hg : Gl X "zip") (hm : X.mg "zip" = none) (ha : PA X [e, e2] ta)
    (hs : starEach [e, e2] X.env = (false, eval e X.env) :: starEach [e2] X.env := by rfl) (hpl : (backTo pos (starEach [e2] X.env)).any (·.1) = false := by rfl) :
    PI X (.Tuple elts kk tpos) (.Call (.Name "zip" p) [e, e2] [] pos) (iZipS ta) := by
  refine ⟨fun pins s σ H R I h => ?_⟩
  refine Call_ (ld_blt I hg hm PyProof.Rows.boot_zip (PyProof.Rows.callWith_type1 (thn (ha.run pos pins s σ H _ I h) fun us s1 ⟨vs, H1, I1, r1, q1⟩ => ?_) hs hpl))
  obtain ⟨x, y, ex, hx, hy, q⟩ := q1
  subst ex
  cases r1 with
  | cons r rr =>
    cases rr with
    | cons r' rr =>
      cases rr
      obtain ⟨t, rfl⟩ := r
      obtain ⟨t', rfl⟩ := r'
      refine call_zipS hx hy fun h' hz hTI hTO h1 h2 hsz hk => wpAny_pyIter_zip hz ?_
      have I2 : Inv X pins σ H1 { s1 with heap := h' } := I1.kept (t' := s1.toks) hk
      refine ⟨s1.heap.objs.size + 4, [s1.heap.objs.size + 4, s1.heap.objs.size + 2, s1.heap.objs.size + 3, s1.heap.objs.size, s1.heap.objs.size + 1], _, _, H1, rfl, I2, turn_zipS (apartS s1.heap.objs.size), ⟨hz, hTI, ⟨_, _, hTO⟩, h1, h2⟩, fun c hcm => ?_, q⟩
      have e' : c = s1.heap.objs.size + 4 ∨ c = s1.heap.objs.size + 2 ∨ c = s1.heap.objs.size + 3 ∨ c = s1.heap.objs.size ∨ c = s1.heap.objs.size + 1 := by simpa using hcm
      have hle : s1.heap.objs.size ≤ c := by
        rcases e' with q | q | q | q | q <;> rw [q] <;> first | exact Nat.le_add_right _ _ | exact Nat.le_refl _
      exact I1.fpOk hle (I1.hok.fresh hle)
theorem walk_zipS {x y : Str} : L2.Walk (ItzS x y) (min x.length y.length) (fun _ => True) (fun i H v H' => ∃ T c d, v = .ref T ∧ H T = none ∧ H' = upd H T (.tup [.str ⟨#[c]⟩, .str ⟨#[d]⟩]) ∧ x.cps.toList[i]? = some c ∧ y.cps.toList[i]? = some d) := by
  refine ⟨fun i _ hi _ => ?_, fun _ _ => ?_, fun i H v H' hi _ y => ?_⟩
  · show i < x.length ∧ i < y.length
    omega
  · show x.length ≤ _ ∨ y.length ≤ _
    omega
  · obtain ⟨T, c, d, e1, e2, e3, e4, e5⟩ := y
    exact ⟨T, c, d, e1, e2, e3, by simpa using e4, by simpa using e5⟩
/-! data that is small: shown and compared -/
open PySem PySem.Spec PyProof.Rows L2
/-- of bulk at most N, depth at most D -/
structure Fit (N D : Nat) (d : PyData) : Prop where
  lay : d.canLay0 = true
  sh : d.showable = true
  dp : d.depth ≤ D
  ls : d.leavesShort 13 = true
  bk : d.bulk ≤ N
theorem Fit.mono {N D N' D' : Nat} {d : PyData} (h : Fit N D d) (hN : N ≤ N') (hD : D ≤ D') : Fit N' D' d := ⟨h.lay, h.sh, Nat.le_trans h.dp hD, h.ls, Nat.le_trans h.bk hN⟩
theorem Fit.non {N D : Nat} : Fit N D .none := ⟨rfl, rfl, Nat.zero_le _, rfl, Nat.zero_le _⟩
theorem Fit.bool {N D : Nat} (b : Bool) : Fit N D (.bool b) := ⟨rfl, rfl, Nat.zero_le _, rfl, Nat.zero_le _⟩
theorem Fit.str {N D : Nat} {z : Str} (h : ∀ c ∈ z.cps.toList, c < 128) (l : z.length ≤ N) : Fit N D (.str z) := by
  refine ⟨?_, rfl, Nat.zero_le _, ?_, l⟩
  · show (z.cps.all fun c => decide (c < 0x110000)) = true
    refine Array.all_eq_true_iff_forall_mem.mpr fun c hc => decide_eq_true ?_
    have := h c (by simpa using hc)
    omega
  · show (z.cps.toList.all fun c => decide (c < 16 ^ 8)) = true
    exact List.all_eq_true.mpr fun c hc => decide_eq_true (by have := h c hc; have : (128 : Nat) ≤ 16 ^ 8 := by decide
                                                              omega)
theorem Fit.int {N D : Nat} {i : Int} (h : ((PyData.shown (.int i)).length ≤ 13 ∧ i.natAbs < 2 ^ 1000)) : Fit N D (.int i) := by
  refine ⟨rfl, ?_, Nat.zero_le _, decide_eq_true h.1, Nat.zero_le _⟩
  refine decide_eq_true ?_
  rcases Nat.eq_zero_or_pos i.natAbs with e | e
  · rw [e]; decide
  · have := (Nat.log2_lt (by omega)).mpr h.2
    omega
theorem fit_all {N D : Nat} : ∀ {ds : List PyData}, (∀ d ∈ ds, Fit N D d) → PyData.canLayAll0 ds = true ∧ PyData.showableAll ds = true ∧ PyData.depthAll ds ≤ D ∧ PyData.leavesShortAll 13 ds = true ∧ PyData.bulkAll ds ≤ (N + 1) * ds.length
  | [], _ => ⟨by simp only [PyData.canLayAll0], by simp only [PyData.showableAll], by simp only [PyData.depthAll]; omega, by simp only [PyData.leavesShortAll], by simp only [PyData.bulkAll]; omega⟩
  | d :: ds, h => by
    have h1 := h d (List.mem_cons_self ..)
    obtain ⟨a1, a2, a3, a4, a5⟩ := fit_all (ds := ds) fun x hx => h x (List.mem_cons_of_mem _ hx)
    have b3 := h1.dp
    have b5 := h1.bk
    refine ⟨?_, ?_, ?_, ?_, ?_⟩
    · simp only [PyData.canLayAll0, h1.lay, a1, Bool.and_self]
    · simp only [PyData.showableAll, h1.sh, a2, Bool.and_self]
    · simp only [PyData.depthAll]; omega
    · simp only [PyData.leavesShortAll, h1.ls, a4, Bool.and_self]
    · simp only [PyData.bulkAll, List.length_cons]
      rw [Nat.mul_add]
      omega
theorem Fit.list {N D : Nat} {ds : List PyData} (h : ∀ d ∈ ds, Fit N D d) : Fit ((N + 1) * ds.length) (D + 1) (.list ds) := by
  obtain ⟨a1, a2, a3, a4, a5⟩ := fit_all h
  exact ⟨by simpa only [PyData.canLay0] using a1, by simpa only [PyData.showable] using a2, by simp only [PyData.depth]; omega, by simpa only [PyData.leavesShort] using a4, by simpa only [PyData.bulk] using a5⟩
theorem Fit.tuple {N D : Nat} {ds : List PyData} (h : ∀ d ∈ ds, Fit N D d) : Fit ((N + 1) * ds.length) (D + 1) (.tuple ds) := by
  obtain ⟨a1, a2, a3, a4, a5⟩ := fit_all h
  exact ⟨by simpa only [PyData.canLay0] using a1, by simpa only [PyData.showable] using a2, by simp only [PyData.depth]; omega, by simpa only [PyData.leavesShort] using a4, by simpa only [PyData.bulk] using a5⟩
theorem Fit.rp {K : PySem.W.Frag} {H : Hp} {x : V} {d : PyData} {N D : Nat} (h : Fit N D d) (g : Dp K H x d) (hN : N ≤ 1048576) (hD : D ≤ 50) : Rp K H x d ∧ PyData.showable d = true ∧ PyData.depth d ≤ 50 ∧ d.shown.length ≤ sizeLine :=
  ⟨.dat g (PyData.hasDict_of_canLay d h.lay), h.sh, Nat.le_trans h.dp hD, PyData.shown_fits_bulk (by decide) (by decide) h.ls (Nat.le_trans h.bk (Nat.le_trans hN (by decide)))⟩
theorem Fit.shp {d : PyData} {N D : Nat} (h : Fit N D d) (hD : D ≤ 50) : SeqAt.shaped d = true := by
  show (d.canLay0 && decide (d.depth ≤ 64)) = true
  rw [h.lay, decide_eq_true (by have := h.dp; omega)]
  rfl
theorem Fit.eqv {d : PyData} {N D : Nat} (h : Fit N D d) : PyData.eqv d d = true := SeqAt.eqv_refl d h.lay
open PySem PySem.Spec PyProof.Rows L2
/-! ## dicts of flat values compared, equal or not -/
def allEq (ks ls : List (Key × V)) : Bool := ks.all fun p => match valV ls p.1 with
  | some v => eqV p.2 v
  | none => false
theorem hits_any {A : Around} {s : Shared} {ls : List (Key × V)} {vb : List (Key × Value)} (rb : KV ls vb) (fl : ∀ p ∈ ls, flatV p.2 = true) {ks : List (Key × V)} {va : List (Key × Value)} (ra : KV ks va) :
    (∀ p ∈ ks, flatV p.2 = true) → PySem.W.KeqHits A s vb va (allEq ks ls) := by
  unfold KV at ra
  induction ra with
  | nil => intro _; exact .nil
  | @cons p q ps qs h t ih =>
    intro hp
    obtain ⟨h1, h2⟩ := h
    obtain ⟨k, v⟩ := q
    have h1' : p.1 = k := h1
    have hv := rb.val p.1
    have ih' := ih fun p' hm => hp p' (List.mem_cons_of_mem _ hm)
    have e : allEq (p :: ps) ls = ((match valV ls p.1 with | some v => eqV p.2 v | none => false) && allEq ps ls) := rfl
    rw [e]
    cases hl : valV ls p.1 with
    | none =>
      rw [hl, h1'] at hv
      have hn : valueAt vb k = none := by
        cases hx : valueAt vb k with
        | none => rfl
        | some y => rw [hx] at hv; cases hv
      exact .miss hn
    | some x =>
      have rr : RelO (some x) (valueAt vb p.1) := by rw [← hl]; exact hv
      obtain ⟨y, hy, ry⟩ := rr.some_of
      rw [h1'] at hy
      have fx : flatV x = true := by
        have hm : ∃ p' ∈ ls, p'.2 = x := by
          unfold valV at hl
          cases hf : ls.find? (fun kv => decide (kv.1 = p.1)) with
          | none => rw [hf] at hl; cases hl
          | some p' =>
            rw [hf] at hl
            exact ⟨p', List.mem_of_find?_eq_some hf, Option.some.inj hl⟩
        obtain ⟨p', hp', rfl⟩ := hm
        exact fl p' hp'
      exact .hit hy (eqAt_V h2 ry (hp p List.mem_cons_self) fx) ih'
section
variable {X : Cx}
def rEqDT : R2 := fun x y H Q => ∃ a b ks ls, x = .ref a ∧ y = .ref b ∧ H a = some (.dK ks) ∧ H b = some (.dK ls) ∧ (∀ p ∈ ks, flatV p.2 = true) ∧ (∀ p ∈ ls, flatV p.2 = true) ∧ Q (.bl (ks.length == ls.length && allEq ks ls)) H
theorem op_eq_dictT (hu : X.A.units < cLine) : OpR X (compareOp .Eq) rEqDT := by
  intro pins s σ H x y v u Q I rx ry h
  obtain ⟨a, b, ks, ls, rfl, rfl, ea, eb, fa, fb, q⟩ := h
  obtain rfl : v = Value.ref a := rx
  obtain rfl : u = Value.ref b := ry
  obtain ⟨_, ya, va, ra, da⟩ := (show ObjOk X.prog X.w H s.heap a (.dK ks) from I.hok a _ ea)
  obtain ⟨_, yb, vb, rb, db⟩ := (show ObjOk X.prog X.w H s.heap b (.dK ls) from I.hok b _ eb)
  have l1 : ks.length = va.length := ra.length
  have l2 : ls.length = vb.length := rb.length
  exact PySem.W.keq_eq (knd := mixKind X.prog X.w) (r := allEq ks ls) ya yb da db hu (fun _ => hits_any rb fb ra fa) (fin_bl I q (by rw [l1, l2]))
end
open PySem PySem.Spec PyProof.Rows L2
/-! ## != of two of a class that has == alone -/
section
variable {M : Model} {prog : Program} {w : World} {A : Around} {E : Value → Shared → Prop} {s : Shared} {K : PySem.W.Frag} {x C f : Addr} {b : Value} {ox : Obj} {od : Option Obj}
theorem entry_ownNe (X : K.In s.heap) (I : PySem.W.InstAt s.heap x ox C od) (hu : A.units < cLine) (he : PySem.W.findIn K (.ref C) "__eq__" = some (some (.ref f))) (hf : PySem.W.isFn K (.ref f) = true) {Q : Fin → Shared → Prop}
    (h : wpAny (model prog w) A (call (.ref f) [.ref x, b]) (fun v s' => ∃ c, v = .bool c ∧ Q (.done (.ret (.bool (!c)))) s') E s) : wpAny (model prog w) A (Builtin.«object.__ne__» ⟨[.ref x, b], []⟩) Q E s := by
  unfold Builtin.«object.__ne__»
  repeat (first
    | with_reducible refine wpAny_cRoomFor hu ?_
    | (refine wpAny_bind (m := callSpecialIfBound? (.ref x) (Str.ofString "__eq__") [b])
        (PySem.W.ifBound_K X I he hf (wpAny_mono h (fun r s' hr => by
          obtain ⟨c, rfl, hq⟩ := hr
          repeat (first | exact hq | exact wpAny_pure hq | exact wpAny_truthy_bool hq | (refine wpAny_bind (m := truthy (.bool _)) (wpAny_truthy_bool ?_)) | wp_step)) fun _ _ e => e)))
    | wp_step)
theorem ifBound_objNe {args : List Value} {Q : Option Value → Shared → Prop} (X : K.In s.heap) (I : PySem.W.InstAt s.heap x ox C od) (hs : PySem.W.findIn K (.ref C) "__ne__" = some (some (.builtin "object.__ne__")))
    (h : wpAny M A (call (.builtin "object.__ne__") (.ref x :: args)) (fun v => Q (some v)) E s) : wpAny M A (callSpecialIfBound? (.ref x) "__ne__" args) Q E s := by
  simp only [callSpecialIfBound?, bindSpecialIfBound?]
  refine wpAny_holding (wpAny_bind (wpAny_bind (wpAny_bind (I.type.here ((PySem.W.looks_findIn X hs).here ?_)))))
  refine wpAny_bind (wpAny_askSetting (wpAny_ite ?_))
  have fin : wpAny M A (call (.builtin "object.__ne__") ([.ref x] ++ args) >>= fun v => pure (some v)) Q E s := wpAny_bind (wpAny_mono h (fun v s' h' => wpAny_pure h') fun _ _ h' => h')
  split
  · exact wpAny_bind (wpAny_of_eq (F.cmp_object.ne.bind _) (wpAny_pure (by exact fin)))
  · exact wpAny_tryCatch (wpAny_bind (wpAny_of_eq (F.cmp_object.ne.bind _) (wpAny_pure (by exact fin))))
theorem neO {tb : Value} {Q : Value → Shared → Prop} (hu : A.units + 1 < cLine) (X : K.In s.heap) (I : PySem.W.InstAt s.heap x ox C od) (hb : PySem.W.Looks (model prog w) s.heap (typeOf b) tb) (hn : PySem.W.notFirst K C tb = true) (hm : PySem.W.mroIn K C (.type "object") = some true)
    (hs : PySem.W.findIn K (.ref C) "__ne__" = some (some (.builtin "object.__ne__"))) (he : PySem.W.findIn K (.ref C) "__eq__" = some (some (.ref f))) (hf : PySem.W.isFn K (.ref f) = true)
    (h : wpAny (model prog w) A.in1 (call (.ref f) [.ref x, b]) (fun v s' => ∃ c, v = .bool c ∧ Q (.bool (!c)) s') E s) : wpAny (model prog w) A (richCompare .NotEq (.ref x) b) Q E s := by
  have one : wpAny (model prog w) A (tryCompare (.ref x) "__ne__" b) (fun r s' => ∃ v, r = some v ∧ Q v s') E s := by
    unfold tryCompare
    refine wpAny_bind (ifBound_objNe X I hs (wpAny_call (codeAny_call_builtin F.cmp_object.ne.plain F.cmpEntry_ne (PySem.W.check_slot F.cmpKind_ne F.cmpSplit_ne (I.type.andThen (PySem.W.looks_mroIn X hm)) (F.cmpArgs_ne _ _)
      (entry_ownNe X I (by exact hu) he hf (wpAny_mono h (fun v s' hv => ?_) fun _ _ e => e))))))
    obtain ⟨c, rfl, hq⟩ := hv
    first | exact ⟨c, rfl, wpAny_pure ⟨_, rfl, hq⟩⟩ | exact ⟨c, rfl, wpAny_pure (wpAny_pure ⟨_, rfl, hq⟩)⟩ | exact ⟨c, rfl, _, rfl, hq⟩
  unfold richCompare
  simp only [oneThing_ref]
  refine wpAny_holding (wpAny_bind (wpAny_cRoomFor (Nat.lt_of_succ_lt hu) ?_))
  rw [cmpInfo_NotEq]
  dsimp only
  refine wpAny_bind (I.type.here (wpAny_bind (hb.here ?_)))
  split
  · rename_i q
    have e : PySem.W.subIn K tb (.ref C) = some false := by
      rcases Bool.or_eq_true_iff.mp hn with e | e
      · rw [beq_iff_eq.mp e] at q; simp at q
      · exact beq_iff_eq.mp e
    refine wpAny_bind ((PySem.W.looks_subIn X e).here ?_)
    simp only [Bool.false_eq_true, if_false]
    refine wpAny_bind (wpAny_mono one (fun r s' z => ?_) fun _ _ e => e)
    obtain ⟨v, rfl, hq⟩ := z
    exact wpAny_pure hq
  · refine wpAny_bind (wpAny_pure ?_)
    simp only [Bool.false_eq_true, if_false]
    refine wpAny_bind (wpAny_mono one (fun r s' z => ?_) fun _ _ e => e)
    obtain ⟨v, rfl, hq⟩ := z
    exact wpAny_pure hq
end
section
variable {X : Cx} {CX : CXT} {k j : Nat} {C : Addr} {q : Str} {st : Stmt} {ps : List Str} {sp : Sp} {E : XK}
def rNeS (C : Addr) (sp : Sp) (E : XK) : R2 := fun x y H Q => IsI H C x ∧ IsI H C y ∧ sp [x, y] H (fun v H' => ∃ c, v = .bl c ∧ Q (.bl (!c)) H') E
theorem op_neS (c : Mth X.prog X.w X.K X.mg X.base CX k C "__eq__" q st ps sp) (hr : RoomG j X.A) (hk : k + 1 ≤ j) (hx : Passes CX X E) (b : BndMP "__eq__" q st ps) (hs : PySem.W.findIn X.K (.ref C) "__ne__" = some (some (.builtin "object.__ne__"))) (ho : PySem.W.mroIn X.K C (.type "object") = some true) :
    OpR X (compareOp .NotEq) (rNeS C sp E) := by
  intro pins s σ H x y v u Q I rx ry h
  obtain ⟨⟨a, dx, fs, rfl, ea⟩, ⟨a', dx', fs', rfl, ea'⟩, q⟩ := h
  obtain rfl : v = Value.ref a := rx
  obtain rfl : u = Value.ref a' := ry
  obtain ⟨f, fd, F, hm, hfi, G⟩ := c.ex
  obtain ⟨oc, od, kV, doc, pm, an, cdv, ct, osl, rfl, lk, hcd⟩ := F.ex
  obtain ⟨od, J⟩ := ins_at I ea
  obtain ⟨od', J'⟩ := ins_at I ea'
  have hn : PySem.W.notFirst X.K C (.ref C) = true := by
    unfold PySem.W.notFirst
    rw [beq_self_eq_true, Bool.true_or]
  have h1 := G.len _ _ _ _ q
  unfold compareOp
  refine neO hr.u1 I.kIn J J'.type hn ho hs hm.at_ hm.fn (run_in1 G (hr.mono hk) (.of_eq (b kV doc pm cdv ct an [.ref a, .ref a'] h1)) hx I (.cons rfl (.cons rfl .nil) : Vals [.ref a, .ref a'] [.ref a, .ref a']) q fun u s' z => ?_)
  obtain ⟨v, H', I3, rv, c, rfl, q3⟩ := z
  cases rv
  exact ⟨c, rfl, .bl (!c), H', I3, rfl, q3⟩
end
section
variable {X : Cx}
def rNeDT : R2 := fun x y H Q => ∃ a b ks ls, x = .ref a ∧ y = .ref b ∧ H a = some (.dK ks) ∧ H b = some (.dK ls) ∧ (∀ p ∈ ks, flatV p.2 = true) ∧ (∀ p ∈ ls, flatV p.2 = true) ∧ Q (.bl (!(ks.length == ls.length && allEq ks ls))) H
theorem op_ne_dictT (hu : X.A.units < cLine) : OpR X (compareOp .NotEq) rNeDT := by
  intro pins s σ H x y v u Q I rx ry h
  obtain ⟨a, b, ks, ls, rfl, rfl, ea, eb, fa, fb, q⟩ := h
  obtain rfl : v = Value.ref a := rx
  obtain rfl : u = Value.ref b := ry
  obtain ⟨_, ya, va, ra, da⟩ := (show ObjOk X.prog X.w H s.heap a (.dK ks) from I.hok a _ ea)
  obtain ⟨_, yb, vb, rb, db⟩ := (show ObjOk X.prog X.w H s.heap b (.dK ls) from I.hok b _ eb)
  have l1 : ks.length = va.length := ra.length
  have l2 : ls.length = vb.length := rb.length
  exact PySem.W.keq_ne (knd := mixKind X.prog X.w) (r := allEq ks ls) ya yb da db hu (fun _ => hits_any rb fb ra fa) (fin_bl I q (by rw [l1, l2]))
end
open PySem PySem.Spec PyProof.Rows L2
/-! ## sorted(d.items()), d a dict of texts -/
def pLt (p q : Str × Str) : Bool := if p.1 = q.1 then tLt p.2 q.2 else tLt p.1 q.1
theorem pLe_tr {a b c : Str × Str} (h1 : pLt b a = false) (h2 : pLt c b = false) : pLt c a = false := by
  unfold pLt at *
  by_cases e1 : b.1 = a.1
  · rw [if_pos e1] at h1
    by_cases e2 : c.1 = b.1
    · rw [if_pos e2] at h2
      rw [if_pos (e2.trans e1)]
      exact tLe_tr h1 h2
    · rw [if_neg e2] at h2
      rw [if_neg (fun e => e2 (e.trans e1.symm)), ← e1]
      exact h2
  · rw [if_neg e1] at h1
    by_cases e2 : c.1 = b.1
    · rw [if_neg (fun e => e1 (e2.symm.trans e)), e2]
      exact h1
    · rw [if_neg e2] at h2
      by_cases e3 : c.1 = a.1
      · rw [e3] at h2
        exact absurd (tLt_tot h1 h2) e1
      · rw [if_neg e3]
        exact tLe_tr h1 h2
theorem pLe_tot (a b : Str × Str) : (!pLt b a || !pLt a b) = true := by
  have as : ∀ x y : Str, tLt x y = true → tLt y x = false := fun x y h => by
    cases e : tLt y x with
    | false => rfl
    | true => exact absurd (tLt_tr h e) (by rw [tLt_irr]; decide)
  unfold pLt
  by_cases e1 : b.1 = a.1
  · rw [if_pos e1, if_pos e1.symm]
    cases e : tLt b.2 a.2 with
    | false => rfl
    | true => rw [as _ _ e]; rfl
  · rw [if_neg e1, if_neg (Ne.symm e1)]
    cases e : tLt b.1 a.1 with
    | false => rfl
    | true => rw [as _ _ e]; rfl
def encP (b : Addr × Str × Str) : PyData := .tuple [.str b.2.1, .str b.2.2]
theorem dle_pair (a b : Addr × Str × Str) : PySem.W.dataLe false encP a b = !pLt b.2 a.2 := by
  rw [PySem.W.dataLe_eq]
  show (!PySem.W.dataLt (.tuple [.str b.2.1, .str b.2.2]) (.tuple [.str a.2.1, .str a.2.2])) = _
  rw [PySem.W.dataLt_pair (by rfl) (by rfl)]
  unfold pLt tLt
  have ev : ∀ x y : Str, PyData.eqv (.str x) (.str y) = decide (x = y) := fun x y => by
    show (x == y) = _
    rw [Bool.eq_iff_iff, beq_iff_eq, decide_eq_true_iff]
  rw [ev, ev, PySem.W.dataLt_str, PySem.W.dataLt_str]
  by_cases e1 : b.2.1 = a.2.1
  · rw [if_pos (decide_eq_true e1), if_pos e1]
    by_cases e2 : b.2.2 = a.2.2
    · rw [if_pos (decide_eq_true e2), e2]
      have := tLt_irr a.2.2
      unfold tLt at this
      rw [this]
    · rw [if_neg (by rw [decide_eq_false e2]; decide)]
  · rw [if_neg (by rw [decide_eq_false e1]; decide), if_neg e1]
theorem sort_pairs (zs : List (Addr × Str × Str)) : (zs.mergeSort (PySem.W.dataLe false encP)).Pairwise (fun a b => pLt b.2 a.2 = false) := by
  have h := List.pairwise_mergeSort (le := PySem.W.dataLe false encP) (fun a b c h1 h2 => by
    rw [dle_pair] at *
    have h1' : pLt b.2 a.2 = false := by simpa using h1
    have h2' : pLt c.2 b.2 = false := by simpa using h2
    rw [pLe_tr h1' h2']
    rfl) (fun a b => by
    rw [dle_pair, dle_pair]
    exact pLe_tot a.2 b.2) zs
  refine h.imp fun {a b} z => ?_
  rw [dle_pair] at z
  simpa using z
theorem each_of {P : Value → Addr × Str × Str → Prop} : ∀ {as : List Addr} {m : List (Str × Str)}, as.length = m.length → (∀ z ∈ as.zip m, P (.ref z.1) z) → PySem.W.EachIs P (as.map Value.ref) (as.zip m)
  | [], [], _, _ => .nil
  | a :: as, q :: m, hl, h => .cons (h (a, q) (List.mem_cons_self ..)) (each_of (by simpa using hl) fun z hz => h z (List.mem_cons_of_mem _ hz))
  | [], _ :: _, hl, _ => by simp at hl
  | _ :: _, [], hl, _ => by simp at hl
theorem each_out : ∀ {out : List Value} {zs : List (Addr × Str × Str)}, PySem.W.EachIs (fun v b => v = Value.ref b.1) out zs → out = zs.map fun z => Value.ref z.1
  | _, _, .nil => rfl
  | _, _, .cons h r => by rw [h, each_out r]; rfl
theorem pairs_at2 {P : Program} {w : World} : ∀ {es : List DictEntry} {kvs : List (Key × Value)}, Pairs (mixKind P w) es kvs → ∀ {j : Nat} {e : DictEntry}, es[j]? = some e → ∃ kv, kvs[j]? = some kv ∧ (mixKind P w).is kv.1 e.key = true ∧ e.val = kv.2
  | _, _, .nil, j, e, h => by simp at h
  | _, _, .cons h1 h2 r, 0, e, h => by cases h; exact ⟨_, rfl, h1, h2⟩
  | _, _, .cons h1 h2 r, j + 1, e, h => pairs_at2 r (by simpa using h)
section
variable {X : Cx}
def rItemsK : V → List V → Hp → VK → Prop := fun x xs H Q => ∃ (a : Addr) (kvs : List (Key × V)), x = .ref a ∧ xs = [] ∧ H a = some (.dK kvs) ∧ ∀ p, H p = none → Q (.ref p) (upd H p (DX.itemsO p a))
theorem mt_itemsK : MtR X "dict.items" rItemsK := by
  intro pins s σ H x xs v us Q I rx rxs h
  obtain ⟨a, kvs, rfl, rfl, ha, q⟩ := h
  cases rx
  cases rxs
  obtain ⟨hz, hs0, vs, kv, hdo⟩ := I.hok a _ ha
  obtain ⟨o, es, ep, ho, hx, hdat, _⟩ := hdo
  refine DT.callItems (es := es) (ep := ep) hs0 ⟨o, ho, hx, hdat⟩ ?_
  have hf : H s.heap.objs.size = none := I.hok.fresh (Nat.le_refl _)
  exact ⟨.ref s.heap.objs.size, upd H s.heap.objs.size (DX.itemsO s.heap.objs.size a), I.laid (t' := s.toks) (fun b u e => Heap.get?_push_of_some _ e) (Nat.le_refl _) (DX.itemsO_ok (Heap.get?_push_size _ rfl)), rfl, q _ hf⟩
def tkP (m : List (Str × Str)) : List (Key × V) := m.map fun p => (Sum.inr p.1, V.str p.2)
def rSortIt2 : List V → Hp → VK → Prop := fun vs H Q => ∃ (p a : Addr) (m : List (Str × Str)), vs = [.ref p] ∧ H p = some (DX.itemsO p a) ∧ H a = some (.dK (tkP m)) ∧ m.length ≤ 1000 ∧
  ∀ (H' : Hp) (l : Addr) (zs : List (Addr × Str × Str)), (∀ b o, H b = some o → H' b = some o) → H l = none → (zs.map (·.2)).Perm m → zs.Pairwise (fun a b => pLt b.2 a.2 = false) → H' l = some (.lst (zs.map fun z => V.ref z.1)) →
    (∀ z ∈ zs, H' z.1 = some (.tup [.str z.2.1, .str z.2.2])) → Q (.ref l) H'
theorem cr_sortedIt (hc : X.calm = true) (hu : X.A.units + 64 < cLine) : CallR X (.builtin "sorted") rSortIt2 := by
  intro pins s σ H xs us Q I r h
  obtain ⟨p, a, m, rfl, hp, ha, hm, q⟩ := h
  obtain rfl := Vals.ref1 r
  have view : s.heap.IsItemsView p a := (show ObjOk X.prog X.w H s.heap p (DX.itemsO p a) from I.hok p _ hp).1
  obtain ⟨hz, hs0, kvs, kv, hdo⟩ := I.hok a _ ha
  obtain ⟨o, es, ep, ho, hx, hdat, _, hes, _⟩ := hdo
  have l1 : (tkP m).length = kvs.length := Paired.length kv
  have l1' : (tkP m).length = m.length := by unfold tkP; rw [List.length_map]
  have les : ∀ {es : List DictEntry} {kvs : List (Key × Value)}, Pairs (mixKind X.prog X.w) es kvs → es.length = kvs.length := fun {es kvs} h => by
    induction h with
    | nil => rfl
    | cons _ _ _ ih => exact congrArg Nat.succ ih
  have l2 : es.size = kvs.length := by rw [← Array.length_toList]; exact les hes
  have hh : X.A.handled = none := I.ok.hd hc
  refine DT.sortedI (es := es) (ep := ep) hh view ⟨o, ho, hx, hdat⟩ (by rw [sizeLine_eq]; omega) fun h' tk as hk hlt hl hG => ?_
  have lak : as.length = m.length := by omega
  have nd : as.Nodup := List.Pairwise.imp (fun h => Nat.ne_of_lt h) hG.rise
  have pr : ∀ (j : Nat) (b : Addr), as[j]? = some b → ∃ (q : Str × Str) (t1 t2 : Tok), m[j]? = some q ∧ h'.get? b = some { cls := .type "tuple", data := .seq #[Value.str q.1 t1, Value.str q.2 t2] } := by
    intro j b hj
    obtain ⟨en, he, hg⟩ := hG.pairs j b hj
    obtain ⟨kv0, k1, k2, k3⟩ := pairs_at2 hes (by rw [Array.getElem?_toList]; exact he)
    have hjl : j < m.length := by
      have := (List.getElem?_eq_some_iff.mp hj).1
      omega
    have hmj : m[j]? = some m[j] := by simp [hjl]
    have htk : (tkP m)[j]? = some (Sum.inr m[j].1, V.str m[j].2) := by
      unfold tkP
      rw [List.getElem?_map, hmj]
      rfl
    obtain ⟨y, g1, g2, g3⟩ := LiI.paired_get kv htk
    obtain rfl : y = kv0 := Option.some.inj (g1.symm.trans k1)
    have rk : RelV (kV (Sum.inr m[j].1)) en.key := by
      have g2' : (Sum.inr m[j].1 : Key) = y.1 := g2
      rw [← g2'] at k2
      exact relV_key k2
    obtain ⟨t1, ht1⟩ := rk
    obtain ⟨t2, ht2⟩ := g3
    refine ⟨m[j], t1, t2, hmj, ?_⟩
    rw [hg, ht1, k3, ht2]
  have hob : (h'.push { cls := .type "list", data := .seq (as.map Value.ref).toArray }).get? h'.objs.size = some (seqObj "list" (as.map Value.ref).toArray 0) := Heap.get?_push_size _ rfl
  have kb : ∀ b o, s.heap.get? b = some o → (h'.push { cls := .type "list", data := .seq (as.map Value.ref).toArray }).get? b = some o := fun b o e => Heap.get?_push_of_some _ (hk b o e)
  have ne0 : ∀ b o, h'.get? b = some o → b ≠ h'.objs.size := fun b o e => Nat.ne_of_lt (Heap.lt_size e)
  generalize hh2 : h'.push { cls := .type "list", data := .seq (as.map Value.ref).toArray } = h2 at hob kb ⊢
  have ka : ∀ b o, h'.get? b = some o → h2.get? b = some o := fun b o e => by rw [← hh2]; exact Heap.get?_push_of_some _ e
  have idx0 : ∀ z ∈ as.zip m, ∃ j : Nat, as[j]? = some z.1 ∧ m[j]? = some z.2 := by
    intro z' hz'
    obtain ⟨j, hj⟩ := List.mem_iff_getElem?.mp hz'
    exact ⟨j, List.getElem?_zip_eq_some.mp hj⟩
  refine PySem.W.list_sort_data (s := { s with heap := h2, toks := tk }) (vs := as.map Value.ref) (bs := as.zip m) (enc := encP) (R := fun v b => v = Value.ref b.1) hob (each_of lak fun _ _ => rfl) (each_of lak fun z hz => ?_)
    (PySem.W.AllAlike.of fun b b' => by rfl) (PySem.W.Sortable.tuples fun b => ⟨_, _, rfl⟩) ?_ (fun b _ => ?_) fun out o1 o2 => ?_
  · obtain ⟨j, j1, j2⟩ := idx0 z hz
    obtain ⟨q0, t1, t2, e1, e2⟩ := pr j z.1 j1
    have e3 : q0 = z.2 := Option.some.inj (e1.symm.trans j2)
    rw [e3] at e2
    exact ⟨[], .tuple (ka _ _ e2) rfl rfl (.cons (.str _ _) (.cons (.str _ _) .nil)), List.not_mem_nil⟩
  · rw [List.length_zip, sizeLine_eq]
    omega
  · have hd : (encP b).depth = 1 := by unfold encP; simp [PyData.depth, PyData.depthAll]
    rw [hd]
    show X.A.units + 1 + 1 + 1 < cLine
    omega
  · show EP X pins σ Q (.ref h'.objs.size) { s with heap := sortedHeap h2 h'.objs.size (as.map Value.ref) (List.toArray out), toks := tk }
    have hout : out = ((as.zip m).mergeSort (PySem.W.dataLe false encP)).map fun z => Value.ref z.1 := each_out o2
    have pz : ((as.zip m).mergeSort (PySem.W.dataLe false encP)).Perm (as.zip m) := List.mergeSort_perm _ _
    have hsort := sort_pairs (as.zip m)
    generalize (as.zip m).mergeSort (PySem.W.dataLe false encP) = zs at hout pz hsort
    have idx : ∀ z ∈ zs, ∃ j : Nat, as[j]? = some z.1 ∧ m[j]? = some z.2 := fun z hz => idx0 z (pz.mem_iff.mp hz)
    have hperm : (zs.map (·.2)).Perm m := by
      have e := pz.map (·.2)
      have m2 : (as.zip m).map (·.2) = m := List.map_snd_zip (by rw [lak]; exact Nat.le_refl _)
      rw [m2] at e
      exact e
    have kF : ∀ b o, b ≠ h'.objs.size → h2.get? b = some o → (sortedHeap h2 h'.objs.size (as.map Value.ref) (List.toArray out)).get? b = some o := fun b o hb e => (PyProof.Rows.sortedHeap_old hb (Heap.lt_size e)).trans e
    have kS : ∀ b o, s.heap.get? b = some o → (sortedHeap h2 h'.objs.size (as.map Value.ref) (List.toArray out)).get? b = some o := fun b o e => kF b o (ne0 _ _ (hk b o e)) (kb b o e)
    obtain ⟨eF, heF⟩ := PyProof.Rows.sortedHeap_at (vs := as.map Value.ref) (out := List.toArray out) hob
    have I1 : Inv X pins σ H { s with heap := sortedHeap h2 h'.objs.size (as.map Value.ref) (List.toArray out), toks := tk } := I.kept (t' := tk) kS
    have hn0 : H h'.objs.size = none := I.hok.fresh (Nat.le_of_lt hlt)
    have hlen : (zs.map fun z => V.ref z.1).length ≤ sizeLine := by
      have e := hperm.length_eq
      rw [List.length_map] at e
      rw [List.length_map, sizeLine_eq]
      omega
    have rv : Vals (zs.map fun z => V.ref z.1) out := by
      rw [hout]
      exact vals_maps (fun z : Addr × Str × Str => V.ref z.1) (fun z => Value.ref z.1) zs fun _ _ => rfl
    have I2 : Inv X pins σ (upd H h'.objs.size (.lst (zs.map fun z => V.ref z.1))) { s with heap := sortedHeap h2 h'.objs.size (as.map Value.ref) (List.toArray out), toks := tk } :=
      I1.take (h' := sortedHeap h2 h'.objs.size (as.map Value.ref) (List.toArray out)) (t' := tk) (fun b ob _ e => e) (I.fpOk (Nat.le_of_lt hlt) hn0) ⟨hlen, out, eF, rv, heF⟩
    obtain ⟨H2, I3, g, qt⟩ := DX.takeT (P := fun b vs => ∃ (j : Nat) (q0 : Str × Str), as[j]? = some b ∧ m[j]? = some q0 ∧ vs = [.str q0.1, .str q0.2]) I as _ I2 nd fun b hb => by
      obtain ⟨j, hj⟩ := List.mem_iff_getElem?.mp hb
      obtain ⟨q0, t1, t2, he, hg⟩ := pr j b hj
      have hbl : s.heap.objs.size ≤ b := Nat.le_of_lt (hG.above b hb)
      refine ⟨hbl, ?_, [.str q0.1, .str q0.2], ⟨j, q0, hj, he, rfl⟩, fun H3 => ⟨(by rw [sizeLine_eq]; show 2 ≤ 16777216; omega), [Value.str q0.1 t1, Value.str q0.2 t2], .cons ⟨t1, rfl⟩ (.cons ⟨t2, rfl⟩ .nil), ⟨_, kF _ _ (ne0 _ _ hg) (ka _ _ hg), rfl, 0, rfl⟩⟩⟩
      rw [upd_ne (ne0 _ _ hg)]
      exact I.hok.fresh hbl
    have gr : ∀ b o, H b = some o → H2 b = some o := fun b o e => g b o (by rw [upd_ne (ne_of_none e hn0)]; exact e)
    refine ⟨.ref h'.objs.size, H2, I3, rfl, q H2 h'.objs.size zs gr hn0 hperm hsort (g _ _ upd_same) fun z' hz' => ?_⟩
    obtain ⟨i, i1, i2⟩ := idx z' hz'
    obtain ⟨vs, ⟨j, q0, j1, j2, ev⟩, hH⟩ := qt z'.1 (List.mem_of_getElem? i1)
    have eij : i = j := (List.getElem?_inj (List.getElem?_eq_some_iff.mp i1).1 nd).mp (i1.trans j1.symm)
    subst eij
    have ee : q0 = z'.2 := Option.some.inj (j2.symm.trans i2)
    rw [ev, ee] at hH
    exact hH
end
open PySem PySem.Spec PyProof.Rows L2
/-! ## repr of a list of a dict and two whole numbers -/
def d3 (ds : List (PyData × PyData)) (a b : Int) : PyData := .list [.dict ds, .int a, .int b]
@[irreducible] def rRepr3 : List V → Hp → VK → Prop := fun xs H Q => ∃ (L D : Addr) (kvs : List (Key × V)) (ds : List (PyData × PyData)) (a b : Int), xs = [.ref L] ∧ L ≠ sysModules ∧ H L = some (.lst [.ref D, .int a, .int b]) ∧ H D = some (.dK kvs) ∧ Flat kvs ds ∧
  PyData.showable (d3 ds a b) = true ∧ PyData.depth (d3 ds a b) ≤ 50 ∧ (d3 ds a b).shown.length ≤ sizeLine ∧ Q (.str (d3 ds a b).shown) H
section
variable {X : Cx} {pins : List (Addr × Obj)} {σ : L2.St} {H : Hp} {s : Shared}
theorem call_repr3 (hg : X.A.guards = some []) (hu : X.A.units + 60 < cLine) : CallR X (.builtin "repr") rRepr3 := by
  intro pins s σ H xs us Q I r h
  unfold rRepr3 at h
  obtain ⟨L, D, kvs, ds, a, b, rfl, hns, hL, hD, hf, hs, hd, hz, q⟩ := h
  obtain rfl := Vals.ref1 r
  obtain ⟨_, its, n, rv, ho⟩ := I.hok L _ hL
  obtain ⟨u1, u2, u3, rfl, r1, r2, r3⟩ : ∃ u1 u2 u3, its = [u1, u2, u3] ∧ RelV (.ref D) u1 ∧ RelV (.int a) u2 ∧ RelV (.int b) u3 := by
    cases rv with
    | cons p1 q1 =>
      cases q1 with
      | cons p2 q2 =>
        cases q2 with
        | cons p3 q3 => cases q3; exact ⟨_, _, _, rfl, p1, p2, p3⟩
  obtain ⟨as, rd, hm⟩ := Rp.reads (X := X) I (Rp.dct hD hf) r1
  obtain ⟨t2, rfl⟩ := r2
  obtain ⟨t3, rfl⟩ := r3
  have R := Reads.list (h := s.heap) ho rfl rfl (ReadsAll.cons rd (ReadsAll.cons (.int a t2) (ReadsAll.cons (.int b t3) .nil)))
  refine repr_of_reads' R hs (fun _ => ?_) hg (by show X.A.units + ((d3 ds a b).depth + 1) < cLine; omega) (fun _ _ e => e) (fun h' u tk hk => ⟨.str _, H, I.kept hk, ⟨_, rfl⟩, q⟩) hz
  intro hmem
  rcases List.mem_cons.mp hmem with e | e
  · exact hns e.symm
  · simp only [List.append_nil, List.nil_append] at e
    exact hm (by simp [PyData.hasDict]) e
/-- a list display; its place is not that of sys.modules -/
def tLstN (t : TA) : TE := fun σ H Q => t σ H fun xs H1 => xs.length ≤ sizeLine ∧ ∀ p, H1 p = none → p ≠ sysModules → Q (.ref p) (upd H1 p (.lst xs))
theorem pe_lstN {es : List Expr} {t : TA} {pos : Pos} (h : PA X es t) : PE X (.List es pos) (tLstN t) := by
  refine ⟨fun pins s σ H Q I hq => ?_⟩
  refine wpAny_List_spliced (thn (h.run pos pins s σ H _ I hq) fun us s1 ⟨xs, H1, I1, r, z, q⟩ => ⟨by rw [← r.length]; exact z, ?_⟩)
  have hf : H1 s1.heap.objs.size = none := I1.hok.fresh (Nat.le_refl _)
  refine ⟨.ref s1.heap.objs.size, upd H1 s1.heap.objs.size (.lst xs), I1.laid (t' := s1.toks) (fun b u e => Heap.get?_push_of_some _ e) (Nat.le_refl _) ?_, rfl, q _ hf (Ne.symm (Nat.ne_of_lt I1.big))⟩
  exact ⟨z, us, 0, r, Heap.get?_push_size _ rfl⟩
end
theorem flat_tk (m : List (Str × Str)) : Flat (m.map fun p => ((Sum.inr p.1 : Key), V.str p.2)) (m.map fun p => (PyData.str p.1, PyData.str p.2)) := by
  induction m with
  | nil => exact .nil
  | cons p m ih => exact .cons (k := Sum.inr p.1) rfl ih
theorem repr3_go {L D : Addr} {m : List (Str × Str)} {a b : Int} {H : Hp} {Q : VK} (hn : L ≠ sysModules) (hL : H L = some (.lst [.ref D, .int a, .int b])) (hD : H D = some (.dK (m.map fun p => ((Sum.inr p.1 : Key), V.str p.2)))) (ok : PyData.showable (d3 (m.map fun p => (PyData.str p.1, PyData.str p.2)) a b) = true ∧ PyData.depth (d3 (m.map fun p => (PyData.str p.1, PyData.str p.2)) a b) ≤ 50 ∧ (d3 (m.map fun p => (PyData.str p.1, PyData.str p.2)) a b).shown.length ≤ sizeLine)
    (q : Q (.str (d3 (m.map fun p => (PyData.str p.1, PyData.str p.2)) a b).shown) H) : rRepr3 [.ref L] H Q := by
  unfold rRepr3
  exact ⟨L, D, _, _, a, b, rfl, hn, hL, hD, flat_tk m, ok.1, ok.2.1, ok.2.2, q⟩
theorem fit_kv {N D : Nat} : ∀ {ds : List (PyData × PyData)}, (∀ p ∈ ds, Fit N D p.1 ∧ Fit N D p.2) → PyData.showableKv ds = true ∧ PyData.depthKv ds ≤ D ∧ PyData.leavesShortKv 13 ds = true ∧ PyData.bulkKv ds ≤ (2 * N + 2) * ds.length
  | [], _ => ⟨by simp only [PyData.showableKv], by simp only [PyData.depthKv]; omega, by simp only [PyData.leavesShortKv], by simp only [PyData.bulkKv]; omega⟩
  | (a, b) :: ds, h => by
    obtain ⟨h1, h2⟩ := h (a, b) (List.mem_cons_self ..)
    obtain ⟨a2, a3, a4, a5⟩ := fit_kv (ds := ds) fun x hx => h x (List.mem_cons_of_mem _ hx)
    have b3 := h1.dp
    have b5 := h1.bk
    have c3 := h2.dp
    have c5 := h2.bk
    simp only at b3 b5 c3 c5
    refine ⟨?_, ?_, ?_, ?_⟩
    · simp only [PyData.showableKv, h1.sh, h2.sh, a2, Bool.and_self]
    · simp only [PyData.depthKv]; omega
    · simp only [PyData.leavesShortKv, h1.ls, h2.ls, a4, Bool.and_self]
    · simp only [PyData.bulkKv, List.length_cons]
      rw [Nat.mul_add]
      omega
/-- such data is small -/
theorem d3_ok {m : List (Str × Str)} {a b : Int} (h : ∀ p ∈ m, (∀ c ∈ p.1.cps.toList, c < 128) ∧ (∀ c ∈ p.2.cps.toList, c < 128) ∧ p.1.length ≤ 200 ∧ p.2.length ≤ 200) (l : m.length ≤ 40) (ha : 0 ≤ a) (ha2 : a ≤ 1000) (hb : 0 ≤ b) (hb2 : b ≤ 1000) :
    PyData.showable (d3 (m.map fun p => (PyData.str p.1, PyData.str p.2)) a b) = true ∧ PyData.depth (d3 (m.map fun p => (PyData.str p.1, PyData.str p.2)) a b) ≤ 50 ∧ (d3 (m.map fun p => (PyData.str p.1, PyData.str p.2)) a b).shown.length ≤ sizeLine := by
  obtain ⟨k1, k2, k3, k4⟩ := fit_kv (N := 200) (D := 0) (ds := m.map fun p => (PyData.str p.1, PyData.str p.2)) (by
    intro p hp
    obtain ⟨q, hq, rfl⟩ := List.mem_map.mp hp
    obtain ⟨q1, q2, q3, q4⟩ := h q hq
    exact ⟨Fit.str q1 q3, Fit.str q2 q4⟩)
  have hi : ∀ i : Int, 0 ≤ i → i ≤ 1000 → Fit 0 0 (.int i) := fun i h0 h1 => Fit.int ⟨PyData.shown_int_le (Nat.lt_of_le_of_lt (m := 1000) (by omega) (by decide)), Nat.lt_of_le_of_lt (m := 1000) (by omega) (by decide)⟩
  have ia := hi a ha ha2
  have ib := hi b hb hb2
  have k5 : (m.map fun p => (PyData.str p.1, PyData.str p.2)).length ≤ 40 := by rw [List.length_map]; exact l
  generalize (m.map fun p => (PyData.str p.1, PyData.str p.2)) = ds at *
  refine ⟨?_, ?_, PyData.shown_fits_bulk (B := 13) (by decide) (by decide) ?_ ?_⟩
  · simp only [d3, PyData.showable, PyData.showableAll, k1, Bool.and_self, Bool.and_true, Bool.true_and, Bool.and_eq_true]
    exact ⟨by simpa only [PyData.showable] using ia.sh, by simpa only [PyData.showable] using ib.sh⟩
  · simp only [d3, PyData.depth, PyData.depthAll]
    omega
  · simp only [d3, PyData.leavesShort, PyData.leavesShortAll, k3, Bool.and_self, Bool.and_true, Bool.true_and, Bool.and_eq_true]
    exact ⟨by simpa only [PyData.leavesShort] using ia.ls, by simpa only [PyData.leavesShort] using ib.ls⟩
  · simp only [d3, PyData.bulk, PyData.bulkAll]
    have : 402 * ds.length ≤ 402 * 40 := Nat.mul_le_mul_left _ k5
    have e : (2 ^ 20 : Nat) = 1048576 := by decide
    omega
open PySem PySem.Spec PyProof.Rows
open L2 hiding pass0
open L2 (cxOf)
def top (i : Nat) : Stmt := PySem.Challenge.pw_coverways_k18_whole_tables_by_dicts.main.body.getD i (.Pass ⟨0, 0, 0, 0⟩)
abbrev s_law_pot : Stmt := top 34
theorem sc_law_pot : FnScope ["_law_script", "_law_k", "_law_cell"] ["_law_script", "_law_k"] (defScope s_law_pot) := ⟨rfl, rfl, rfl, by decide +kernel, rfl, by decide +kernel, by decide +kernel⟩
theorem bp_law_pot : BndP "_law_pot" s_law_pot ["_law_script", "_law_k"] := fun _ _ _ _ _ _ us h => match us, h with | [_, _], _ => rfl
abbrev s_law_draw : Stmt := top 35
theorem sc_law_draw : FnScope ["_law_pot_here", "_law_many", "_law_digit"] ["_law_pot_here", "_law_many"] (defScope s_law_draw) := ⟨rfl, rfl, rfl, by decide +kernel, rfl, by decide +kernel, by decide +kernel⟩
theorem bp_law_draw : BndP "_law_draw" s_law_draw ["_law_pot_here", "_law_many"] := fun _ _ _ _ _ _ us h => match us, h with | [_, _], _ => rfl
abbrev s_law_among : Stmt := top 36
theorem sc_law_among : FnScope ["_law_pot_here", "_law_some"] ["_law_pot_here", "_law_some"] (defScope s_law_among) := ⟨rfl, rfl, rfl, by decide +kernel, rfl, by decide +kernel, by decide +kernel⟩
theorem bp_law_among : BndP "_law_among" s_law_among ["_law_pot_here", "_law_some"] := fun _ _ _ _ _ _ us h => match us, h with | [_, _], _ => rfl
abbrev s_law_bits : Stmt := top 37
theorem sc_law_bits : FnScope ["_law_pot_here", "_law_least", "_law_most", "_law_turn"] ["_law_pot_here", "_law_least", "_law_most"] (defScope s_law_bits) := ⟨rfl, rfl, rfl, by decide +kernel, rfl, by decide +kernel, by decide +kernel⟩
theorem bp_law_bits : BndP "_law_bits" s_law_bits ["_law_pot_here", "_law_least", "_law_most"] := fun _ _ _ _ _ _ us h => match us, h with | [_, _, _], _ => rfl
/-- what the top leaves of the built-in names -/
structure Txt (K : PySem.W.Frag) (mg : Str → Option Value) : Prop where
  b_len : mg "len" = none
  b_abs : mg "abs" = none
  b_max : mg "max" = none
  b_min : mg "min" = none
  b_int : mg "int" = none
  b_divmod : mg "divmod" = none
  b_range : mg "range" = none
  b_repr : mg "repr" = none
  b_all : mg "all" = none
  b_str : mg "str" = none
  b_bool : mg "bool" = none
  b_isinstance : mg "isinstance" = none
  b_tuple : mg "tuple" = none
  b_dict : mg "dict" = none
  b_list : mg "list" = none
  b_sorted : mg "sorted" = none
  b_zip : mg "zip" = none
/-! ### draws -/
def PotAt (H : Hp) (p : Addr) : Prop := ∃ a b : Int, H p = some (.lst [.int a, .int b]) ∧ 0 ≤ a ∧ 0 ≤ b ∧ b < 2147483648
/-- all that stood stands, but for the pot at p -/
structure Go (p : Addr) (H H' : Hp) : Prop where
  pot : PotAt H' p
  keep : ∀ a o, H a = some o → a ≠ p → H' a = some o
theorem Go.trans {p : Addr} {H H1 H2 : Hp} (a : Go p H H1) (b : Go p H1 H2) : Go p H H2 := ⟨b.pot, fun c o h n => b.keep c o (a.keep c o h n) n⟩
theorem Go.refl {p : Addr} {H : Hp} (h : PotAt H p) : Go p H H := ⟨h, fun _ _ e _ => e⟩
theorem Go.new {p q : Addr} {H H1 : Hp} {o : HO} (g : Go p H H1) (h : H1 q = none) : Go p H (upd H1 q o) := by
  obtain ⟨a, b, e, r⟩ := g.pot
  refine ⟨⟨a, b, by rw [upd_ne (ne_of_none e h)]; exact e, r⟩, fun c u hc n => ?_⟩
  have := g.keep c u hc n
  rw [upd_ne (ne_of_none this h)]
  exact this
theorem Go.lst {K : PySem.W.Frag} {p a : Addr} {H H' : Hp} {xs : List V} (g : Go p H H') (n : a ≠ p) (h : SqL K H a xs) : SqL K H' a xs := by
  rcases h with (h | ⟨o, h⟩) | h
  · exact .inl (.inl (g.keep _ _ h n))
  · exact .inl (.inr ⟨o, g.keep _ _ h n⟩)
  · exact .inr h
theorem Go.fresh {p q : Addr} {H H' : Hp} (g : Go p H H') (hp : PotAt H p) (h : H' q = none) : H q = none := by
  cases e : H q with
  | none => rfl
  | some o =>
    by_cases n : q = p
    · subst n
      obtain ⟨a, b, e2, _⟩ := g.pot
      rw [h] at e2
      cases e2
    · have := g.keep q o e n
      rw [h] at this
      cases this
theorem szl {n : Nat} (h : n ≤ 1000000) : n ≤ sizeLine := Nat.le_trans h (by decide)
theorem szt {n : Nat} (h : n < 1000000) : n < sizeLine := Nat.lt_of_lt_of_le h (by decide)
theorem nonn {H : Hp} {a b : Addr} {o : HO} (h' : H b = none) (h : H a = some o) : a ≠ b := ne_of_none h h'
theorem Go.kp {p a : Addr} {H H' : Hp} {o : HO} (g : Go p H H') (h : H a = some o) (n : a ≠ p) : H' a = some o := g.keep a o h n
theorem updn {H : Hp} {a b : Addr} {o u : HO} (n : b ≠ a) (h : H b = some u) : upd H a o b = some u := (upd_ne n).trans h
local macro_rules | `(tactic| walk_at "hp") => `(tactic| first | assumption | exact upd_same | exact updn (by walk_at "ne") (by walk_at "hp") | exact Go.kp (by assumption) (by walk_at "hp") (by walk_at "ne"))
local macro_rules | `(tactic| walk_at "ne") => `(tactic| first | assumption | exact Ne.symm (by assumption) | exact nonn (by assumption) (by walk_at "hp") | exact Ne.symm (nonn (by assumption) (by walk_at "hp")))
local macro_rules | `(tactic| walk_at "sq") => `(tactic| first | assumption | exact SqL.of (by walk_at "hp") | exact SqT.of (by walk_at "hp") | exact Go.lst (by assumption) (by walk_at "ne") (by walk_at "sq"))
local macro_rules | `(tactic| walk_at "sz") => `(tactic| first | assumption | exact szl (Nat.le_of_ble_eq_true rfl) | (apply szl; first | omega | (simp; omega)) | (apply szt; first | omega | (simp; omega)))
local macro_rules | `(tactic| walk_at "len") => `(tactic| first | exact Or.inl ⟨_, (by walk_at "sq"), rfl⟩ | exact ⟨(by walk_at "sz"), rfl⟩ | exact Or.inr ⟨_, (by walk_at "sq"), rfl⟩)
local macro_rules | `(tactic| walk_at "ar") => `(tactic| first | assumption | omega | decide | exact upd_same | rfl | walk_at "sz" | (simp only [CDiv, CMul, CPow]; first | omega | decide) | (refine ⟨?_, ?_⟩ <;> first | omega | decide))
local macro_rules | `(tactic| walk_at "at") => `(tactic| first | rfl | assumption | decide)
/-! one step of a reading -/
local macro_rules | `(tactic| walk_at "s1") => `(tactic| first
  | (refine ⟨_, rfl, ?_⟩)
  | (refine ⟨_, _, rfl, rfl, ?_⟩)
  | (refine Or.inl ⟨_, _, _, _, rfl, rfl, by walk_at "sq", by walk_at "at", ?_⟩)
  | (refine Or.inr (Or.inl ⟨_, _, _, _, rfl, rfl, by walk_at "sq", by walk_at "at", ?_⟩))
  | (refine Or.inl ⟨_, rfl, ?_⟩)
  | (refine And.intro (by walk_at "ar") ?_)
  | (refine ⟨_, _, rfl, ?_⟩)
  | (refine ⟨_, _, rfl, (by walk_at "sq"), rfl, ?_⟩)
  | (refine ⟨_, _, rfl, (by walk_at "len"), ?_⟩)
  | (refine ⟨_, _, _, _, rfl, rfl, (by walk_at "hp"), rfl, ?_⟩)
  | (refine fun q (hq : _ = none) => ?_)
  | (intro _; intros))
local macro_rules | `(tactic| walk_at "go") => `(tactic| first | assumption | exact Go.refl (by assumption) | exact Go.new (by walk_at "go") (by assumption) | exact Go.trans (by walk_at "go") (by assumption))
local macro_rules | `(tactic| walk_at "pot") => `(tactic| first | assumption | exact Go.pot (by assumption) | exact Go.pot (by walk_at "go"))
theorem atI_ok {α : Type} {xs : List α} {d : Int} (h0 : 0 ≤ d) (h1 : d < (xs.length : Int)) : ∃ v, v ∈ xs ∧ atI xs d = some v := by
  obtain ⟨j, rfl⟩ := Int.eq_ofNat_of_zero_le h0
  have hj : j < xs.length := by omega
  exact ⟨xs[j], List.getElem_mem hj, atI_nat (by simp [hj])⟩
theorem potb (x M : Int) (h0 : 0 < M) (h1 : M < 2147483648) : 0 ≤ x % M + 1 ∧ x % M + 1 < 2147483648 := by
  have := Int.emod_nonneg x (show M ≠ 0 by omega)
  have := Int.emod_lt_of_pos x h0
  omega
theorem emodb (x M : Int) (h0 : 0 < M) (h1 : M ≤ 2147483648) : x % M < 2147483648 := by
  have := Int.emod_lt_of_pos x h0
  omega
theorem max0 {x : Int} : 0 ≤ (if x > 0 then x else 0) := by split <;> omega
theorem Go.mut {p D : Addr} {H H1 : Hp} {o : HO} (g : Go p H H1) (n : H D = none) (np : D ≠ p) : Go p H (upd H1 D o) := by
  obtain ⟨a, b, e, r⟩ := g.pot
  exact ⟨⟨a, b, by rw [upd_ne (Ne.symm np)]; exact e, r⟩, fun c u hc nc => by rw [upd_ne (ne_of_none hc n)]; exact g.keep c u hc nc⟩
theorem PotAt.ne {p q : Addr} {H : Hp} (h : PotAt H p) (n : H q = none) : q ≠ p := by
  obtain ⟨a, b, e, _⟩ := h
  exact (ne_of_none e n).symm
/-- a def that raises nothing -/
theorem nm_of0 {P : Program} {w : World} {K : PySem.W.Frag} {mg : Str → Option Value} {base : Heap} {CX : CXT} {x : Str} {st : Stmt} {f : Addr} {fd : FuncData} {N ps : List Str} {k : Nat} {sp : Sp} (F : Fun K x x st f fd) (hm : mg x = some (.ref f)) (S : FnScope N ps (defScope st)) (len : ∀ vs H Q E, sp vs H Q E → vs.length = ps.length)
    (hb : ∀ (cdv : Value) (A : Around) (outer : List Env) (s : Shared) (H : Hp) (vs : List V) (Q : VK) (E : XK), RoomG k (A.deeper (envOfC x (defScope st) s.heap.objs.size f cdv)) → sp vs H Q E →
      ∃ t, PSs (cxOf CX P w K mg base N x (defScope st) f cdv A outer s H E).nox (defBody st) t ∧ t { nx := fun _ H' => Q .non H', rt := Q } (start N vs) H) : Nm P w K mg base CX (k + 1) x st ps sp :=
  nm_of F hm S len fun cdv A outer s H vs Q E hr h => let ⟨t, h1, h2⟩ := hb cdv A outer s H vs Q E hr h; ⟨t, h1.nox, h2⟩
/-- texts of single signs -/
def sg (c : Nat) : Str := ⟨#[c]⟩
theorem joinL_sg : ∀ zs : List Nat, TL.joinL [] (zs.map fun c => [c]) = zs
  | [] => rfl
  | [c] => rfl
  | c :: d :: r => by
    show [c] ++ [] ++ TL.joinL [] ((d :: r).map fun c => [c]) = c :: d :: r
    rw [joinL_sg (d :: r)]
    rfl
theorem join_sg (zs : List Nat) : Txt.join ("" : Str) (zs.map sg) = SX.S zs := by
  have h := SX.join_S [] (zs.map fun c => [c])
  rw [joinL_sg, List.map_map] at h
  exact h
theorem sum_sg : ∀ zs : List Nat, ((zs.map sg).map (·.length)).sum = zs.length
  | [] => rfl
  | c :: r => by
    rw [List.map_cons, List.map_cons, List.sum_cons, sum_sg r]
    show 1 + r.length = r.length + 1
    omega
theorem Go.put {p : Addr} {H H1 : Hp} {a b : Int} (g : Go p H H1) (ha : 0 ≤ a) (hb : 0 ≤ b) (hb2 : b < 2147483648) : Go p H (upd H1 p (.lst [.int a, .int b])) :=
  ⟨⟨a, b, upd_same, ha, hb, hb2⟩, fun c o e n => by rw [upd_ne n]; exact g.keep c o e n⟩
theorem Go.any {p : Addr} {H : Hp} (q : Addr) (o : HO) (h : PotAt H p) (n : H q = none) : Go p H (upd H q o) := (Go.refl h).new n
@[irreducible] def spPot (K : PySem.W.Frag) : Sp := fun vs H Q _ => ∃ (a : Addr) (ns : List Int) (k : Int), vs = [.ref a, .int k] ∧ SqL K H a (ns.map V.int) ∧ ns.length ≤ 63 ∧ 0 ≤ k ∧ k ≤ 100 ∧
  ∀ p H', H p = none → PotAt H' p → (∀ b o, H b = some o → H' b = some o) → Q (.ref p) H'
@[irreducible] def spDraw : Sp := fun vs H Q _ => ∃ (p : Addr) (n : Int), vs = [.ref p, .int n] ∧ PotAt H p ∧ 0 < n ∧ n < 1073741824 ∧ ∀ (d : Int) H', 0 ≤ d → d < n → Go p H H' → Q (.int d) H'
@[irreducible] def spAmong (K : PySem.W.Frag) : Sp := fun vs H Q _ => ∃ (p : Addr) (x : V), vs = [.ref p, x] ∧ PotAt H p ∧
  ((∃ (a : Addr) (xs : List V), x = .ref a ∧ a ≠ p ∧ SqL K H a xs ∧ 0 < xs.length ∧ xs.length ≤ 1000 ∧ ∀ v ∈ xs, ∀ H', Go p H H' → Q v H') ∨
   (∃ z : Str, x = .str z ∧ 0 < z.length ∧ z.length ≤ 1000 ∧ ∀ c ∈ z.cps.toList, ∀ H', Go p H H' → Q (.str ⟨#[c]⟩) H'))
def Bits (z : Str) : Prop := ∀ c ∈ z.cps.toList, c = 48 ∨ c = 49
@[irreducible] def spBits : Sp := fun vs H Q _ => ∃ (p : Addr) (lo hi : Int), vs = [.ref p, .int lo, .int hi] ∧ PotAt H p ∧ 0 ≤ lo ∧ lo ≤ hi ∧ hi ≤ 1000 ∧
  ∀ (z : Str) H', Bits z → lo ≤ (z.length : Int) → (z.length : Int) ≤ hi → Go p H H' → Q (.str z) H'
section
variable {K : PySem.W.Frag} {p a : Addr} {n lo hi k : Int} {H : Hp} {Q : VK} {E : XK} {xs : List V} {z : Str} {ns : List Int}
theorem pot_go (hS : SqL K H a (ns.map V.int)) (hl : ns.length ≤ 63) (h0 : 0 ≤ k) (h1 : k ≤ 100) (q : ∀ p H', H p = none → PotAt H' p → (∀ b o, H b = some o → H' b = some o) → Q (.ref p) H') : spPot K [.ref a, .int k] H Q E := by
  unfold spPot
  exact ⟨a, ns, k, rfl, hS, hl, h0, h1, q⟩
theorem draw_go (hp : PotAt H p) (h0 : 0 < n) (h1 : n < 1073741824) (q : ∀ (d : Int) H', 0 ≤ d → d < n → Go p H H' → Q (.int d) H') : spDraw [.ref p, .int n] H Q E := by
  unfold spDraw
  exact ⟨p, n, rfl, hp, h0, h1, q⟩
theorem among_l (hp : PotAt H p) (na : a ≠ p) (hS : SqL K H a xs) (h0 : 0 < xs.length) (h1 : xs.length ≤ 1000) (q : ∀ v ∈ xs, ∀ H', Go p H H' → Q v H') : spAmong K [.ref p, .ref a] H Q E := by
  unfold spAmong
  exact ⟨p, _, rfl, hp, .inl ⟨a, xs, rfl, na, hS, h0, h1, q⟩⟩
theorem among_s (hp : PotAt H p) (h0 : 0 < z.length) (h1 : z.length ≤ 1000) (q : ∀ c ∈ z.cps.toList, ∀ H', Go p H H' → Q (.str ⟨#[c]⟩) H') : spAmong K [.ref p, .str z] H Q E := by
  unfold spAmong
  exact ⟨p, _, rfl, hp, .inr ⟨z, rfl, h0, h1, q⟩⟩
theorem bits_go (hp : PotAt H p) (h0 : 0 ≤ lo) (h1 : lo ≤ hi) (h2 : hi ≤ 1000) (q : ∀ (z : Str) H', Bits z → lo ≤ (z.length : Int) → (z.length : Int) ≤ hi → Go p H H' → Q (.str z) H') : spBits [.ref p, .int lo, .int hi] H Q E := by
  unfold spBits
  exact ⟨p, lo, hi, rfl, hp, h0, h1, h2, q⟩
end
section
variable {P : Program} {w : World} {K : PySem.W.Frag} {mg : Str → Option Value} {base : Heap} {f : Addr} {fd : FuncData}
theorem ok_draw (F : Fun K "_law_draw" "_law_draw" s_law_draw f fd) (hm : mg "_law_draw" = some (.ref f)) (T : Txt K mg) : Nm P w K mg base CX0 1 "_law_draw" s_law_draw ["_law_pot_here", "_law_many"] spDraw := by
  refine nm_of F hm sc_law_draw (fun vs H Q E h => ?_) fun cdv A outer s H vs Q E hr h => ?_
  · unfold spDraw at h
    obtain ⟨p, n, rfl, _⟩ := h
    rfl
  · unfold spDraw at h
    obtain ⟨p, n, rfl, ⟨a, b, hp, ha, hb, hb2⟩, hn, hn2, k⟩ := h
    refine ⟨_, (pss_cons (ps_if (pt_cmpR op_gt (pe_ix (ix_seqK (K := K) rfl) (pv 0) pe_int (fun _ _ => rfl)) pe_int (nomark _)) (pss_cons (ps_asg (pe_callB call_divmod (by rfl) T.b_divmod (by decide +kernel) (pa_cons (pe_ix (ix_seqK (K := K) rfl) (pv 0) pe_int (fun _ _ => rfl)) (pa_cons (pv 1) pa_nil))) (pg_tup (by rfl) (pgs_cons (pg_sub (pv 0) pe_int set_list) (pgs_cons (pg_name (i := 2) sc_law_draw.nd rfl (by first | exact Or.inl rfl | exact Or.inr rfl)) pgs_nil))))
      (pss_one (ps_ret (pv 2)))) pss_nil)
      (pss_cons (ps_asg (pe_op op_mod (pe_callTy call_int1 (by rfl) T.b_int (by decide +kernel) (pa_cons (pe_op op_add (pe_op op_mul (pe_ix (ix_seqK (K := K) rfl) (pv 0) pe_int (fun _ _ => rfl)) pe_int) pe_int) pa_nil)) pe_int) (pg_sub (pv 0) pe_int set_list))
      (pss_one (ps_ret (pe_op op_mod (pe_callTy call_int1 (by rfl) T.b_int (by decide +kernel) (pa_cons (pe_op op_fdiv (pe_op op_mod (pe_callTy call_int1 (by rfl) T.b_int (by decide +kernel) (pa_cons (pe_op op_mul (pe_ix (ix_seqK (K := K) rfl) (pv 0) pe_int (fun _ _ => rfl)) (pe_ix (ix_seqK (K := K) rfl) (pv 0) pe_int (fun _ _ => rfl))) pa_nil)) pe_int) pe_int) pa_nil)) (pv 1)))))), ?_⟩
    have g0 : PotAt H p := ⟨a, b, hp, ha, hb, hb2⟩
    repeat walk_at "s1"
    refine ite2 (fun c => ?_) fun c => ?_
    · have c' : 0 < a := of_decide_eq_true c
      repeat walk_at "s1"
      rename_i q hq
      exact k _ _ (Int.emod_nonneg _ (by omega)) (Int.emod_lt_of_pos _ hn) (((Go.refl g0).new hq).put (Int.ediv_nonneg ha (by omega)) hb hb2)
    · repeat walk_at "s1"
      exact k _ _ (Int.emod_nonneg _ (by omega)) (Int.emod_lt_of_pos _ hn) ((Go.refl g0).put ha (Int.emod_nonneg _ (by decide)) (emodb _ _ (by decide) (by decide)))
theorem ok_pot (F : Fun K "_law_pot" "_law_pot" s_law_pot f fd) (hm : mg "_law_pot" = some (.ref f)) (T : Txt K mg) : Nm P w K mg base CX0 1 "_law_pot" s_law_pot ["_law_script", "_law_k"] (spPot K) := by
  refine nm_of F hm sc_law_pot (fun vs H Q E h => ?_) fun cdv A outer s H vs Q E hr h => ?_
  · unfold spPot at h
    obtain ⟨a, ns, k, rfl, _⟩ := h
    rfl
  · unfold spPot at h
    obtain ⟨a, ns, k, rfl, hS, hl, hk, hk2, kk⟩ := h
    refine ⟨_, (pss_cons (ps_set (i := 2) sc_law_pot.nd rfl (by first | exact Or.inl rfl | exact Or.inr rfl) (pe_op op_add (pe_op op_mul pe_int (pv 1)) pe_int))
      (pss_cons (ps_if (pt_cmpR op_lt (pv 1) (pe_callB (call_lenK (K := K) rfl) (by rfl) T.b_len PySem.boot_len (pa_cons (pv 0) pa_nil)) (nomark _)) (pss_one (ps_set (i := 2) sc_law_pot.nd rfl (by first | exact Or.inl rfl | exact Or.inr rfl) (pe_callB call_abs (by rfl) T.b_abs (by decide +kernel) (pa_cons (pe_ix (ix_seqK (K := K) rfl) (pv 0) (pv 1) (fun _ _ => rfl)) pa_nil)))) pss_nil)
      (pss_one (ps_ret (pe_lst (pa_cons (pe_callB (call_max2 rfl) (by rfl) T.b_max (by decide +kernel) (pa_cons pe_int (pa_cons (pe_op op_sub (pv 2) (pe_op op_pow pe_int pe_int)) pa_nil))) (pa_cons (pe_op op_add (pe_op op_mod (pe_callTy call_int1 (by rfl) T.b_int (by decide +kernel) (pa_cons (pe_op op_add (pe_op op_add (pe_op op_mul (pe_op op_mod (pe_callTy call_int1 (by rfl) T.b_int (by decide +kernel) (pa_cons (pv 2) pa_nil)) pe_int) pe_int) (pe_op op_mul pe_int (pv 1))) pe_int) pa_nil)) pe_int) pe_int) pa_nil))))))), ?_⟩
    repeat walk_at "s1"
    refine ite2 (fun c => ?_) fun c => ?_
    · have c' : k < (ns.length : Int) := by have := of_decide_eq_true c; rw [List.length_map] at this; exact this
      have hat : atI (ns.map V.int) k = some (.int (ns.getD k.toNat 0)) := by
        obtain ⟨j, rfl⟩ := Int.eq_ofNat_of_zero_le hk
        have hj : j < ns.length := by omega
        refine atI_nat ?_
        simp [List.getElem?_map, hj, List.getD]
      iterate 30 (try walk_at "s1")
      refine kk _ _ (by assumption) ⟨_, _, upd_same, ?_, ?_, ?_⟩ fun b o e => updn (nonn (by assumption) e) e
      · exact max0
      · exact (potb _ _ (by decide) (by decide)).1
      · exact (potb _ _ (by decide) (by decide)).2
    · iterate 30 (try walk_at "s1")
      refine kk _ _ (by assumption) ⟨_, _, upd_same, ?_, ?_, ?_⟩ fun b o e => updn (nonn (by assumption) e) e
      · exact max0
      · exact (potb _ _ (by decide) (by decide)).1
      · exact (potb _ _ (by decide) (by decide)).2
theorem ok_among (F : Fun K "_law_among" "_law_among" s_law_among f fd) (hm : mg "_law_among" = some (.ref f)) (T : Txt K mg) (c_law_draw : Nm P w K mg base CX0 1 "_law_draw" s_law_draw ["_law_pot_here", "_law_many"] spDraw) :
    Nm P w K mg base CX0 2 "_law_among" s_law_among ["_law_pot_here", "_law_some"] (spAmong K) := by
  refine nm_of F hm sc_law_among (fun vs H Q E h => ?_) fun cdv A outer s H vs Q E hr h => ?_
  · unfold spAmong at h
    obtain ⟨p, x, rfl, _⟩ := h
    rfl
  · unfold spAmong at h
    obtain ⟨p, x, rfl, hp, h⟩ := h
    refine ⟨_, (pss_one (ps_ret (pe_ix (ix_seqK (K := K) rfl) (pv 1) (pe_g c_law_draw hr (by decide) L2.pass0 bp_law_draw (by rfl) (pa_cons (pv 0) (pa_cons (pe_callB (call_lenK (K := K) rfl) (by rfl) T.b_len PySem.boot_len (pa_cons (pv 1) pa_nil)) pa_nil))) (fun _ _ => rfl)))), ?_⟩
    rcases h with ⟨a, xs, rfl, na, hS, l0, l1, k⟩ | ⟨z, rfl, l0, l1, k⟩
    · iterate 4 walk_at "s1"
      refine draw_go hp (by omega) (by omega) fun d H' h0 h1 g => ?_
      obtain ⟨v, hv, hat⟩ := atI_ok (xs := xs) h0 h1
      exact Or.inl ⟨_, _, _, _, rfl, rfl, g.lst na hS, hat, k v hv H' g⟩
    · iterate 4 walk_at "s1"
      refine draw_go hp (by omega) (by omega) fun d H' h0 h1 g => ?_
      obtain ⟨c, hc, hat⟩ := atI_ok (xs := z.cps.toList) h0 (by rw [Array.length_toList]; exact h1)
      exact Or.inr (Or.inr ⟨_, _, c, rfl, rfl, szl (by omega), hat, k c hc H' g⟩)
theorem ok_bits (F : Fun K "_law_bits" "_law_bits" s_law_bits f fd) (hm : mg "_law_bits" = some (.ref f)) (T : Txt K mg) (c_law_draw : Nm P w K mg base CX0 1 "_law_draw" s_law_draw ["_law_pot_here", "_law_many"] spDraw)
    (c_law_among : Nm P w K mg base CX0 2 "_law_among" s_law_among ["_law_pot_here", "_law_some"] (spAmong K)) :
    Nm P w K mg base CX0 3 "_law_bits" s_law_bits ["_law_pot_here", "_law_least", "_law_most"] spBits := by
  refine nm_of F hm sc_law_bits (fun vs H Q E h => ?_) fun cdv A outer s H vs Q E hr h => ?_
  · unfold spBits at h
    obtain ⟨p, lo, hi, rfl, _⟩ := h
    rfl
  · unfold spBits at h
    obtain ⟨p, lo, hi, rfl, hp, h0, h1, h2, k⟩ := h
    refine ⟨_, (pss_one (ps_ret (pe_join pe_str (pe_lc (own := [("_law_turn", 3)]) (g := (gName 3)) (by rfl) sc_law_bits.nd (pi_range1 (by rfl) T.b_range (pa_cons (pe_op op_add (pv 1) (pe_g c_law_draw hr (by decide) L2.pass0 bp_law_draw (by rfl) (pa_cons (pv 0) (pa_cons (pe_op op_add (pe_op op_sub (pv 2) (pv 1)) pe_int) pa_nil)))) pa_nil)) (blkOk_by (own := [("_law_turn", 3)]) (N := ["_law_pot_here", "_law_least", "_law_most", "_law_turn"]) (sc := defScope s_law_bits) (by decide +kernel)) (fun _ _ _ _ _ => (pg_name (i := 3) sc_law_bits.nd rfl (by first | exact Or.inl rfl | exact Or.inr rfl))) (fun _ _ _ _ _ => pts_nil) (fun _ _ _ _ _ => (pe_g c_law_among hr (by decide) L2.pass0 bp_law_among (by rfl) (pa_cons (pv 0) (pa_cons pe_str pa_nil)))))))), ?_⟩
    refine ⟨⟨_, rfl⟩, ?_⟩
    iterate 6 (try walk_at "s1")
    refine draw_go hp (by omega) (by omega) fun d H1 d0 d1 g => ?_
    have d1' : d < hi - lo + 1 := d1
    iterate 2 (try walk_at "s1")
    refine ⟨by show -(2 ^ 62) ≤ lo + d; omega, by show lo + d < 2 ^ 62; omega, fun D nD => ?_⟩
    have nDp : D ≠ p := g.pot.ne nD
    refine lc_it walk_range (fun i H => ∃ zs : List Nat, H D = some (.lst ((zs.map sg).map V.str)) ∧ zs.length = i ∧ (∀ c ∈ zs, c = 48 ∨ c = 49) ∧ Go p H1 H) ⟨[], upd_same, rfl, (fun c hc => by cases hc), (Go.refl g.pot).new nD⟩ (fun _ _ _ _ => trivial) ?_ ?_
    · rintro i x H2 H3 hi ⟨zs, hD, hl, hz, g2⟩ ⟨rfl, rfl⟩
      refine ⟨rfl, ?_⟩
      dsimp only [tYes]
      rw [if_pos rfl]
      walk_at "s1"
      refine among_s g2.pot (by decide) (by decide) fun c hc H4 g3 => ?_
      refine ⟨_, g3.kp hD nDp, szt (by rw [List.length_map, List.length_map, hl]; have := d1'; omega), zs ++ [c], ?_, ?_, ?_, (g2.trans g3).mut nD nDp⟩
      · rw [upd_same, List.map_append, List.map_append]; rfl
      · rw [List.length_append, hl]; rfl
      · intro e he
        rcases List.mem_append.mp he with he | he
        · exact hz e he
        · rw [List.mem_singleton] at he
          subst he
          have : e ∈ [48, 49] := hc
          simpa using this
    · rintro H2 ⟨zs, hD, hl, hz, g2⟩
      have hn : ((lo + d - 0).toNat : Int) = lo + d := by omega
      refine ⟨_, _, zs.map sg, rfl, rfl, Or.inl (SqL.of hD), ?_, ?_⟩
      · rw [sum_sg, List.length_map]
        show zs.length + zs.length * 0 ≤ _
        omega
      · show Q (.str (Txt.join "" (zs.map sg))) H2
        rw [join_sg]
        refine k _ _ hz ?_ ?_ (g.trans g2)
        · rw [SX.S_len]; omega
        · rw [SX.S_len]; omega
end
open PySem PySem.Spec PyProof.Rows
open L2 hiding pass0
abbrev s_is_count : Stmt := top 18
theorem sc_is_count : FnScope ["value"] ["value"] (defScope s_is_count) := ⟨rfl, rfl, rfl, by decide +kernel, rfl, by decide +kernel, by decide +kernel⟩
theorem bp_is_count : BndP "is_count" s_is_count ["value"] := fun _ _ _ _ _ _ us h => match us, h with | [_], _ => rfl
abbrev s_is_width : Stmt := top 19
theorem sc_is_width : FnScope ["value"] ["value"] (defScope s_is_width) := ⟨rfl, rfl, rfl, by decide +kernel, rfl, by decide +kernel, by decide +kernel⟩
theorem bp_is_width : BndP "is_width" s_is_width ["value"] := fun _ _ _ _ _ _ us h => match us, h with | [_], _ => rfl
abbrev s_is_bits : Stmt := top 20
theorem sc_is_bits : FnScope ["value", "bit"] ["value"] (defScope s_is_bits) := ⟨rfl, rfl, rfl, by decide +kernel, rfl, by decide +kernel, by decide +kernel⟩
theorem bp_is_bits : BndP "is_bits" s_is_bits ["value"] := fun _ _ _ _ _ _ us h => match us, h with | [_], _ => rfl
abbrev s_is_name : Stmt := top 21
theorem sc_is_name : FnScope ["value", "letter"] ["value"] (defScope s_is_name) := ⟨rfl, rfl, rfl, by decide +kernel, rfl, by decide +kernel, by decide +kernel⟩
theorem bp_is_name : BndP "is_name" s_is_name ["value"] := fun _ _ _ _ _ _ us h => match us, h with | [_], _ => rfl
abbrev s_is_goal : Stmt := top 22
theorem sc_is_goal : FnScope ["value"] ["value"] (defScope s_is_goal) := ⟨rfl, rfl, rfl, by decide +kernel, rfl, by decide +kernel, by decide +kernel⟩
theorem bp_is_goal : BndP "is_goal" s_is_goal ["value"] := fun _ _ _ _ _ _ us h => match us, h with | [_], _ => rfl
abbrev s_check_width : Stmt := top 25
theorem sc_check_width : FnScope ["width"] ["width"] (defScope s_check_width) := ⟨rfl, rfl, rfl, by decide +kernel, rfl, by decide +kernel, by decide +kernel⟩
theorem bp_check_width : BndP "check_width" s_check_width ["width"] := fun _ _ _ _ _ _ us h => match us, h with | [_], _ => rfl
abbrev s_is_stretch : Stmt := top 24
theorem sc_is_stretch : FnScope ["width", "value"] ["width", "value"] (defScope s_is_stretch) := ⟨rfl, rfl, rfl, by decide +kernel, rfl, by decide +kernel, by decide +kernel⟩
theorem bp_is_stretch : BndP "is_stretch" s_is_stretch ["width", "value"] := fun _ _ _ _ _ _ us h => match us, h with | [_, _], _ => rfl
abbrev s_is_address : Stmt := top 23
theorem sc_is_address : FnScope ["width", "value"] ["width", "value"] (defScope s_is_address) := ⟨rfl, rfl, rfl, by decide +kernel, rfl, by decide +kernel, by decide +kernel⟩
theorem bp_is_address : BndP "is_address" s_is_address ["width", "value"] := fun _ _ _ _ _ _ us h => match us, h with | [_, _], _ => rfl
abbrev s_check_address : Stmt := top 26
theorem sc_check_address : FnScope ["width", "address"] ["width", "address"] (defScope s_check_address) := ⟨rfl, rfl, rfl, by decide +kernel, rfl, by decide +kernel, by decide +kernel⟩
theorem bp_check_address : BndP "check_address" s_check_address ["width", "address"] := fun _ _ _ _ _ _ us h => match us, h with | [_, _], _ => rfl
/-- the constants of the text -/
structure Cst (K : PySem.W.Frag) (mg : Str → Option Value) where
  c_MOST_WIDTH : ∃ u, mg "MOST_WIDTH" = some u ∧ RelV (.int 100) u
  c_MOST_LETTERS : ∃ u, mg "MOST_LETTERS" = some u ∧ RelV (.int 6) u
  c_LETTERS : ∃ u, mg "LETTERS" = some u ∧ RelV (.str "abcdefghijklmnopqrstuvwxyz") u
  aN : Addr
  c_NO_NAMES : ∃ u, mg "NO_NAMES" = some u ∧ RelV (.ref aN) u
  tN : ∀ H, SqT K H aN [.str "home", .str "hole", .str "ring", .str "all", .str "none"]
  aE : Addr
  c_ENDS : ∃ u, mg "ENDS" = some u ∧ RelV (.ref aE) u
  tE : ∀ H, SqT K H aE [.str "home", .str "hole"]
/-! ### words, of whole numbers and texts -/
def bitsB (z : Str) : Bool := z.cps.toList.all fun c => decide (c ∈ ("01" : Str).cps.toList)
theorem bitsB_of {z : Str} (h : Bits z) : bitsB z = true := List.all_eq_true.mpr fun c hc => by
  rcases h c hc with rfl | rfl <;> exact decide_eq_true (by decide)
theorem Bits.of {z : Str} (h : bitsB z = true) : Bits z := fun c hc => by
  have := of_decide_eq_true (List.all_eq_true.mp h c hc)
  have h2 : c ∈ [48, 49] := this
  simpa using h2
def Low (z : Str) : Prop := ∀ c ∈ z.cps.toList, c < 128
theorem Bits.low {z : Str} (h : Bits z) : Low z := fun c hc => by
  have := h c hc
  omega
theorem Low.small {z : Str} (h : Low z) : SmallS z := by
  refine Array.all_eq_true_iff_forall_mem.mpr fun c hc => decide_eq_true (h c (by simpa using hc))
@[irreducible] def spI (g : Int → Bool) : Sp := fun vs H Q _ => ∃ n : Int, vs = [.int n] ∧ Q (.bl (g n)) H
@[irreducible] def spT (g : Str → Bool) : Sp := fun vs H Q _ => ∃ z : Str, vs = [.str z] ∧ z.length ≤ 1000 ∧ ∀ H', Same H H' → Q (.bl (g z)) H'
@[irreducible] def spIT (g : Int → Str → Bool) : Sp := fun vs H Q _ => ∃ (n : Int) (z : Str), vs = [.int n, .str z] ∧ 1 ≤ n ∧ n ≤ 100 ∧ z.length ≤ 1000 ∧ ∀ H', Same H H' → Q (.bl (g n z)) H'
@[irreducible] def spCW : Sp := fun vs H Q _ => ∃ n : Int, vs = [.int n] ∧ 1 ≤ n ∧ n ≤ 100 ∧ ∀ H', Same H H' → Q .non H'
/-- a check of a text that is right -/
@[irreducible] def spCT (g : Int → Str → Bool) : Sp := fun vs H Q _ => ∃ (n : Int) (z : Str), vs = [.int n, .str z] ∧ 1 ≤ n ∧ n ≤ 100 ∧ z.length ≤ 1000 ∧ g n z = true ∧ ∀ H', Same H H' → Q .non H'
def cntB (n : Int) : Bool := decide (0 ≤ n)
def widB (n : Int) : Bool := decide (1 ≤ n) && decide (n ≤ 100)
def strB (n : Int) (z : Str) : Bool := bitsB z && decide ((z.length : Int) ≤ n)
def adrB (n : Int) (z : Str) : Bool := bitsB z && decide ((z.length : Int) = n)
section
variable {g : Int → Bool} {gt : Str → Bool} {g2 : Int → Str → Bool} {n : Int} {z : Str} {H : Hp} {Q : VK} {E : XK}
theorem i_go (q : Q (.bl (g n)) H) : spI g [.int n] H Q E := by
  unfold spI
  exact ⟨n, rfl, q⟩
theorem t_go (h : z.length ≤ 1000) (q : ∀ H', Same H H' → Q (.bl (gt z)) H') : spT gt [.str z] H Q E := by
  unfold spT
  exact ⟨z, rfl, h, q⟩
theorem it_go (h0 : 1 ≤ n) (h1 : n ≤ 100) (h : z.length ≤ 1000) (q : ∀ H', Same H H' → Q (.bl (g2 n z)) H') : spIT g2 [.int n, .str z] H Q E := by
  unfold spIT
  exact ⟨n, z, rfl, h0, h1, h, q⟩
theorem cw_go (h0 : 1 ≤ n) (h1 : n ≤ 100) (q : ∀ H', Same H H' → Q .non H') : spCW [.int n] H Q E := by
  unfold spCW
  exact ⟨n, rfl, h0, h1, q⟩
theorem ct_go (h0 : 1 ≤ n) (h1 : n ≤ 100) (h : z.length ≤ 1000) (hg : g2 n z = true) (q : ∀ H', Same H H' → Q .non H') : spCT g2 [.int n, .str z] H Q E := by
  unfold spCT
  exact ⟨n, z, rfl, h0, h1, h, hg, q⟩
end
theorem k_ii : kitB "int" "int" = some true := by decide +kernel
theorem k_ib : kitB "int" "bool" = some false := by decide +kernel
theorem k_ss : kitB "str" "str" = some true := by decide +kernel
section
variable {P : Program} {w : World} {K : PySem.W.Frag} {mg : Str → Option Value} {base : Heap} {f : Addr} {fd : FuncData}
theorem ok_is_count (F : Fun K "is_count" "is_count" s_is_count f fd) (hm : mg "is_count" = some (.ref f)) (T : Txt K mg) : Nm P w K mg base CX0 1 "is_count" s_is_count ["value"] (spI cntB) := by
  refine nm_of F hm sc_is_count (fun vs H Q E h => ?_) fun cdv A outer s H vs Q E hr h => ?_
  · unfold spI at h
    obtain ⟨n, rfl, k⟩ := h
    subst_vars
    rfl
  unfold spI at h
  obtain ⟨n, rfl, k⟩ := h
  refine ⟨_, (pss_one (ps_ret (pe_and (pe_callB (call_isiK' (K := K) rfl) (by rfl) T.b_isinstance (by decide +kernel) (pa_cons (pv 0) (pa_cons (pe_ty "int" (by rfl) T.b_int (by decide +kernel)) pa_nil))) (pe_and (pe_not (pe_callB (call_isiK' (K := K) rfl) (by rfl) T.b_isinstance (by decide +kernel) (pa_cons (pv 0) (pa_cons (pe_ty "bool" (by rfl) T.b_bool (by decide +kernel)) pa_nil)))) (pe_one (pe_cmpR op_ge (pv 0) pe_int (nomark _))))))), ?_⟩
  repeat walk_at "s1"
  refine ⟨_, _, _, _, _, rfl, .ty _, .base (.int _), kit_ty k_ii, ?_⟩
  refine ⟨_, rfl, iteT ?_⟩
  repeat walk_at "s1"
  refine ⟨_, _, _, _, _, rfl, .ty _, .base (.int _), kit_ty k_ib, ?_⟩
  repeat walk_at "s1"
  exact k
theorem ok_is_width (F : Fun K "is_width" "is_width" s_is_width f fd) (hm : mg "is_width" = some (.ref f)) (T : Txt K mg) (C : Cst K mg) (c_is_count : Nm P w K mg base CX0 1 "is_count" s_is_count ["value"] (spI cntB)) : Nm P w K mg base CX0 2 "is_width" s_is_width ["value"] (spI widB) := by
  refine nm_of F hm sc_is_width (fun vs H Q E h => ?_) fun cdv A outer s H vs Q E hr h => ?_
  · unfold spI at h
    obtain ⟨n, rfl, k⟩ := h
    subst_vars
    rfl
  unfold spI at h
  obtain ⟨n, rfl, k⟩ := h
  refine ⟨_, (pss_one (ps_ret (pe_and (pe_g c_is_count hr (by decide) L2.pass0 bp_is_count (by rfl) (pa_cons (pv 0) pa_nil)) (pe_one (pe_chain op_le op_le pe_int (pv 0) (pe_cst (by rfl) C.c_MOST_WIDTH)))))), ?_⟩
  repeat walk_at "s1"
  refine i_go ?_
  refine ⟨_, rfl, ?_⟩
  refine ite2 (fun c => ?_) fun c => ?_
  · repeat walk_at "s1"
    refine ite2 (fun c1 => ?_) fun c1 => ?_
    · repeat walk_at "s1"
      have e : widB n = decide (n ≤ 100) := by show (decide _ && _) = _; rw [c1, Bool.true_and]
      rw [e] at k; exact k
    · have e : widB n = false := by show (decide _ && _) = _; rw [Bool.eq_false_iff.mpr c1, Bool.false_and]
      rw [e] at k; exact k
  · have c' : ¬ 0 ≤ n := fun q => c (decide_eq_true q)
    have e : widB n = false := by show (decide _ && _) = _; rw [decide_eq_false (show ¬ 1 ≤ n by omega)]; rfl
    rw [e] at k; exact k
theorem ok_is_bits (F : Fun K "is_bits" "is_bits" s_is_bits f fd) (hm : mg "is_bits" = some (.ref f)) (T : Txt K mg) : Nm P w K mg base CX0 1 "is_bits" s_is_bits ["value"] (spT bitsB) := by
  refine nm_of F hm sc_is_bits (fun vs H Q E h => ?_) fun cdv A outer s H vs Q E hr h => ?_
  · unfold spT at h
    obtain ⟨z, rfl, hz', k⟩ := h
    subst_vars
    rfl
  unfold spT at h
  obtain ⟨z, rfl, hz', k⟩ := h
  refine ⟨_, (pss_one (ps_ret (pe_and (pe_callB (call_isiK' (K := K) rfl) (by rfl) T.b_isinstance (by decide +kernel) (pa_cons (pv 0) (pa_cons (pe_ty "str" (by rfl) T.b_str (by decide +kernel)) pa_nil))) (pe_one (pe_callB (call_allK (K := K) rfl rfl) (by rfl) T.b_all (by decide +kernel) (pa_cons (pe_lc (own := [("bit", 1)]) (g := (gName 1)) (by rfl) sc_is_bits.nd (pi_str (pv 0)) (blkOk_by (own := [("bit", 1)]) (N := ["value", "bit"]) (sc := defScope s_is_bits) (by decide +kernel)) (fun _ _ _ _ _ => (pg_name (i := 1) sc_is_bits.nd rfl (by first | exact Or.inl rfl | exact Or.inr rfl))) (fun _ _ _ _ _ => pts_nil) (fun _ _ _ _ _ => (pe_cmpR op_in_sign (pv 1) pe_str rfl))) pa_nil)))))), ?_⟩
  repeat walk_at "s1"
  refine ⟨_, _, _, _, _, rfl, .ty _, .base (.str _), kit_ty k_ss, ?_⟩
  refine ⟨_, rfl, iteT ?_⟩
  repeat walk_at "s1"
  rename_i D nD
  have hz : z.cps.size ≤ 1000 := hz'
  refine lc_it walk_str (fun i H1 => H1 D = some (.lst (((z.cps.toList.take i).map fun c => decide (c ∈ ("01" : Str).cps.toList)).map V.bl)) ∧ Same H H1) ⟨upd_same, fun b o e => updn (nonn nD e) e⟩ (fun _ _ _ _ => trivial) ?_ ?_
  · rintro i x H1 H2 hi ⟨hD, sm⟩ ⟨rfl, c, hc, rfl⟩
    refine ⟨rfl, ?_⟩
    dsimp only [tYes]
    rw [if_pos rfl]
    repeat walk_at "s1"
    refine ⟨_, hD, szt (by rw [List.length_map, List.length_map, List.length_take]; omega), ?_, fun b o e => updn (nonn nD e) (sm b o e)⟩
    rw [upd_same, List.take_add_one, Array.getElem?_toList, hc, List.map_append, List.map_append]
    rfl
  · rintro H1 ⟨hD, sm⟩
    rw [List.take_of_length_le (by rw [Array.length_toList]; exact Nat.le_refl _)] at hD
    refine ⟨_, _, rfl, SqL.of hD, ?_⟩
    have hk := k H1 sm
    have e : bitsB z = ((z.cps.toList.map fun c => decide (c ∈ ("01" : Str).cps.toList)).all id) := by rw [List.all_map]; rfl
    rw [e] at hk
    exact hk
theorem ok_check_width (F : Fun K "check_width" "check_width" s_check_width f fd) (hm : mg "check_width" = some (.ref f)) (T : Txt K mg) (c_is_width : Nm P w K mg base CX0 2 "is_width" s_is_width ["value"] (spI widB)) : Nm P w K mg base CX0 3 "check_width" s_check_width ["width"] (spCW) := by
  refine nm_of F hm sc_check_width (fun vs H Q E h => ?_) fun cdv A outer s H vs Q E hr h => ?_
  · unfold spCW at h
    obtain ⟨n, rfl, h0, h1, k⟩ := h
    subst_vars
    rfl
  unfold spCW at h
  obtain ⟨n, rfl, h0, h1, k⟩ := h
  refine ⟨_, (pss_one (ps_if (pt_not (pt_val (pe_g c_is_width hr (by decide) L2.pass0 bp_is_width (by rfl) (pa_cons (pv 0) pa_nil)))) (pss_one ps_never) pss_nil)), ?_⟩
  repeat walk_at "s1"
  refine i_go ?_
  repeat walk_at "s1"
  have e : widB n = true := by show (decide _ && decide _) = true; rw [decide_eq_true h0, decide_eq_true h1]; rfl
  rw [e]
  refine iteF ?_
  exact k H (Same.refl H)
theorem ok_is_stretch (F : Fun K "is_stretch" "is_stretch" s_is_stretch f fd) (hm : mg "is_stretch" = some (.ref f)) (T : Txt K mg) (c_check_width : Nm P w K mg base CX0 3 "check_width" s_check_width ["width"] (spCW)) (c_is_bits : Nm P w K mg base CX0 1 "is_bits" s_is_bits ["value"] (spT bitsB)) : Nm P w K mg base CX0 4 "is_stretch" s_is_stretch ["width", "value"] (spIT strB) := by
  refine nm_of F hm sc_is_stretch (fun vs H Q E h => ?_) fun cdv A outer s H vs Q E hr h => ?_
  · unfold spIT at h
    obtain ⟨n, z, rfl, h0, h1, hz, k⟩ := h
    subst_vars
    rfl
  unfold spIT at h
  obtain ⟨n, z, rfl, h0, h1, hz, k⟩ := h
  refine ⟨_, (pss_cons (ps_expr (pe_g c_check_width hr (by decide) L2.pass0 bp_check_width (by rfl) (pa_cons (pv 0) pa_nil)))
      (pss_one (ps_ret (pe_and (pe_g c_is_bits hr (by decide) L2.pass0 bp_is_bits (by rfl) (pa_cons (pv 1) pa_nil)) (pe_one (pe_cmpR op_le (pe_callB (call_lenK (K := K) rfl) (by rfl) T.b_len PySem.boot_len (pa_cons (pv 1) pa_nil)) (pv 0) (nomark _))))))), ?_⟩
  repeat walk_at "s1"
  refine cw_go h0 h1 fun H1 sm => ?_
  repeat walk_at "s1"
  refine t_go hz fun H2 sm2 => ?_
  have hk := k H2 (sm.trans sm2)
  refine ⟨_, rfl, ?_⟩
  cases c : bitsB z with
  | true =>
    refine iteT ?_
    repeat walk_at "s1"
    have e : strB n z = decide ((z.length : Int) ≤ n) := by show (bitsB _ && _) = _; rw [c]; rfl
    rw [e] at hk
    exact hk
  | false =>
    have e : strB n z = false := by show (bitsB _ && _) = _; rw [c]; rfl
    rw [e] at hk
    exact iteF hk
theorem ok_is_address (F : Fun K "is_address" "is_address" s_is_address f fd) (hm : mg "is_address" = some (.ref f)) (T : Txt K mg) (c_is_stretch : Nm P w K mg base CX0 4 "is_stretch" s_is_stretch ["width", "value"] (spIT strB)) : Nm P w K mg base CX0 5 "is_address" s_is_address ["width", "value"] (spIT adrB) := by
  refine nm_of F hm sc_is_address (fun vs H Q E h => ?_) fun cdv A outer s H vs Q E hr h => ?_
  · unfold spIT at h
    obtain ⟨n, z, rfl, h0, h1, hz, k⟩ := h
    subst_vars
    rfl
  unfold spIT at h
  obtain ⟨n, z, rfl, h0, h1, hz, k⟩ := h
  refine ⟨_, (pss_one (ps_ret (pe_and (pe_g c_is_stretch hr (by decide) L2.pass0 bp_is_stretch (by rfl) (pa_cons (pv 0) (pa_cons (pv 1) pa_nil))) (pe_one (pe_cmpR op_eq (pe_callB (call_lenK (K := K) rfl) (by rfl) T.b_len PySem.boot_len (pa_cons (pv 1) pa_nil)) (pv 0) (nomark _)))))), ?_⟩
  repeat walk_at "s1"
  refine it_go h0 h1 hz fun H2 sm2 => ?_
  have hk := k H2 sm2
  refine ⟨_, rfl, ?_⟩
  cases c : strB n z with
  | true =>
    refine iteT ?_
    repeat walk_at "s1"
    have c' : (bitsB z && decide ((z.length : Int) ≤ n)) = true := c
    have e : adrB n z = decide (V.int (z.length : Int) = V.int n) := by
      show (bitsB z && decide ((z.length : Int) = n)) = _
      rw [Bool.and_eq_true] at c'
      rw [c'.1, Bool.true_and]
      exact decide_eq_decide.mpr ⟨fun q => by rw [q], fun q => V.int.inj q⟩
    rw [e] at hk
    exact hk
  | false =>
    have e : adrB n z = false := by
      have c' : (bitsB z && decide ((z.length : Int) ≤ n)) = false := c
      show (bitsB z && decide ((z.length : Int) = n)) = false
      cases b : bitsB z with
      | false => rfl
      | true =>
        rw [b, Bool.true_and] at c'
        have := of_decide_eq_false c'
        rw [Bool.true_and]
        exact decide_eq_false (by omega)
    rw [e] at hk
    exact iteF hk
theorem ok_check_address (F : Fun K "check_address" "check_address" s_check_address f fd) (hm : mg "check_address" = some (.ref f)) (T : Txt K mg) (c_is_address : Nm P w K mg base CX0 5 "is_address" s_is_address ["width", "value"] (spIT adrB)) : Nm P w K mg base CX0 6 "check_address" s_check_address ["width", "address"] (spCT adrB) := by
  refine nm_of F hm sc_check_address (fun vs H Q E h => ?_) fun cdv A outer s H vs Q E hr h => ?_
  · unfold spCT at h
    obtain ⟨n, z, rfl, h0, h1, hz, hg, k⟩ := h
    subst_vars
    rfl
  unfold spCT at h
  obtain ⟨n, z, rfl, h0, h1, hz, hg, k⟩ := h
  refine ⟨_, (pss_one (ps_if (pt_not (pt_val (pe_g c_is_address hr (by decide) L2.pass0 bp_is_address (by rfl) (pa_cons (pv 0) (pa_cons (pv 1) pa_nil))))) (pss_one ps_never) pss_nil)), ?_⟩
  repeat walk_at "s1"
  refine it_go h0 h1 hz fun H2 sm2 => ?_
  repeat walk_at "s1"
  rw [hg]
  refine iteF ?_
  exact k H2 sm2
end
/-! ### names and goals, of texts -/
def nameB (z : Str) : Bool := decide (1 ≤ (z.length : Int)) && decide ((z.length : Int) ≤ 6) && !inV (.str z) [.str "home", .str "hole", .str "ring", .str "all", .str "none"] && z.cps.toList.all fun c => decide (c ∈ ("abcdefghijklmnopqrstuvwxyz" : Str).cps.toList)
def goalB (z : Str) : Bool := nameB z || inV (.str z) [.str "home", .str "hole"]
section
variable {P : Program} {w : World} {K : PySem.W.Frag} {mg : Str → Option Value} {base : Heap} {f : Addr} {fd : FuncData}
theorem ok_is_name (F : Fun K "is_name" "is_name" s_is_name f fd) (hm : mg "is_name" = some (.ref f)) (T : Txt K mg) (C : Cst K mg) : Nm P w K mg base CX0 1 "is_name" s_is_name ["value"] (spT nameB) := by
  refine nm_of F hm sc_is_name (fun vs H Q E h => ?_) fun cdv A outer s H vs Q E hr h => ?_
  · unfold spT at h
    obtain ⟨z, rfl, hz0, k⟩ := h
    subst_vars
    rfl
  unfold spT at h
  obtain ⟨z, rfl, hz0, k⟩ := h
  refine ⟨_, (pss_cons (ps_if (PW.pt (pw_or (pt_not (pt_val (pe_callB (call_isiK' (K := K) rfl) (by rfl) T.b_isinstance (by decide +kernel) (pa_cons (pv 0) (pa_cons (pe_ty "str" (by rfl) T.b_str (by decide +kernel)) pa_nil))))) (pw_or1 (pt_not (pt_chain op_le op_le pe_int (pe_callB (call_lenK (K := K) rfl) (by rfl) T.b_len PySem.boot_len (pa_cons (pv 0) pa_nil)) (pe_cst (by rfl) C.c_MOST_LETTERS)))))) (pss_one (ps_ret pe_bl)) pss_nil)
      (pss_one (ps_ret (pe_and (pe_cmpR (op_notInK (K := K) rfl) (pv 0) (pe_cst (by rfl) C.c_NO_NAMES) rfl) (pe_one (pe_callB (call_allK (K := K) rfl rfl) (by rfl) T.b_all (by decide +kernel) (pa_cons (pe_lc (own := [("letter", 1)]) (g := (gName 1)) (by rfl) sc_is_name.nd (pi_str (pv 0)) (blkOk_by (own := [("letter", 1)]) (N := ["value", "letter"]) (sc := defScope s_is_name) (by decide +kernel)) (fun _ _ _ _ _ => (pg_name (i := 1) sc_is_name.nd rfl (by first | exact Or.inl rfl | exact Or.inr rfl))) (fun _ _ _ _ _ => pts_nil) (fun _ _ _ _ _ => (pe_cmpR op_in_sign (pv 1) (pe_cst (by rfl) C.c_LETTERS) rfl))) pa_nil))))))), ?_⟩
  repeat walk_at "s1"
  refine ⟨_, _, _, _, _, rfl, .ty _, .base (.str _), kit_ty k_ss, ?_⟩
  refine ⟨_, rfl, ?_⟩
  refine iteF ?_
  repeat walk_at "s1"
  refine ite2 (fun c1 => ?_) fun c1 => ?_
  · have c1' := of_decide_eq_true c1
    repeat walk_at "s1"
    by_cases c2 : (z.length : Int) ≤ 6
    · rw [decide_eq_true c2]
      refine iteF ?_
      repeat walk_at "s1"
      refine ⟨_, _, rfl, Or.inr (C.tN _), rfl, rfl, ?_⟩
      refine ⟨_, rfl, ?_⟩
      cases c3 : inV (V.str z) [.str "home", .str "hole", .str "ring", .str "all", .str "none"] with
      | true =>
        refine iteF ?_
        have hk := k H (Same.refl H)
        have e : nameB z = false := by
          show (decide _ && decide _ && !inV _ _ && _) = false
          rw [c3]
          simp
        rw [e] at hk
        exact hk
      | false =>
        refine iteT ?_
        repeat walk_at "s1"
        rename_i D nD
        have hz' : z.cps.size ≤ 1000 := hz0
        refine lc_it walk_str (fun i H1 => H1 D = some (.lst (((z.cps.toList.take i).map fun c => decide (c ∈ ("abcdefghijklmnopqrstuvwxyz" : Str).cps.toList)).map V.bl)) ∧ Same H H1) ⟨upd_same, fun b o e => updn (nonn nD e) e⟩ (fun _ _ _ _ => trivial) ?_ ?_
        · rintro i x H1 H2 hi ⟨hD, sm⟩ ⟨rfl, c, hc, rfl⟩
          refine ⟨rfl, ?_⟩
          dsimp only [tYes]
          rw [if_pos rfl]
          repeat walk_at "s1"
          refine ⟨_, hD, szt (by rw [List.length_map, List.length_map, List.length_take]; omega), ?_, fun b o e => updn (nonn nD e) (sm b o e)⟩
          rw [upd_same, List.take_add_one, Array.getElem?_toList, hc, List.map_append, List.map_append]
          rfl
        · rintro H1 ⟨hD, sm⟩
          rw [List.take_of_length_le (by rw [Array.length_toList]; exact Nat.le_refl _)] at hD
          refine ⟨_, _, rfl, SqL.of hD, ?_⟩
          have hk := k H1 sm
          have e : nameB z = ((z.cps.toList.map fun c => decide (c ∈ ("abcdefghijklmnopqrstuvwxyz" : Str).cps.toList)).all id) := by
            show (decide _ && decide _ && !inV _ _ && _) = _
            rw [c3, decide_eq_true c1', decide_eq_true c2, List.all_map]
            rfl
          rw [e] at hk
          exact hk
    · rw [decide_eq_false c2]
      refine iteT ?_
      have hk := k H (Same.refl H)
      have e : nameB z = false := by
        show (decide _ && decide _ && !inV _ _ && _) = false
        rw [decide_eq_false c2]
        simp
      rw [e] at hk
      exact hk
  · repeat walk_at "s1"
    refine iteT ?_
    have hk := k H (Same.refl H)
    have e : nameB z = false := by
      show (decide (1 ≤ (z.length : Int)) && decide _ && !inV _ _ && _) = false
      rw [Bool.eq_false_iff.mpr c1]
      simp
    rw [e] at hk
    exact hk
theorem ok_is_goal (F : Fun K "is_goal" "is_goal" s_is_goal f fd) (hm : mg "is_goal" = some (.ref f)) (T : Txt K mg) (C : Cst K mg) (c_is_name : Nm P w K mg base CX0 1 "is_name" s_is_name ["value"] (spT nameB)) : Nm P w K mg base CX0 2 "is_goal" s_is_goal ["value"] (spT goalB) := by
  refine nm_of F hm sc_is_goal (fun vs H Q E h => ?_) fun cdv A outer s H vs Q E hr h => ?_
  · unfold spT at h
    obtain ⟨z, rfl, hz, k⟩ := h
    subst_vars
    rfl
  unfold spT at h
  obtain ⟨z, rfl, hz, k⟩ := h
  refine ⟨_, (pss_one (ps_ret (pe_or (pe_g c_is_name hr (by decide) L2.pass0 bp_is_name (by rfl) (pa_cons (pv 0) pa_nil)) (pe_one (pe_and (pe_callB (call_isiK' (K := K) rfl) (by rfl) T.b_isinstance (by decide +kernel) (pa_cons (pv 0) (pa_cons (pe_ty "str" (by rfl) T.b_str (by decide +kernel)) pa_nil))) (pe_one (pe_cmpR (op_inK (K := K) rfl) (pv 0) (pe_cst (by rfl) C.c_ENDS) rfl))))))), ?_⟩
  repeat walk_at "s1"
  refine t_go hz fun H1 sm => ?_
  refine ⟨_, rfl, ?_⟩
  have hk := k H1 sm
  cases c : nameB z with
  | true =>
    refine iteT ?_
    have e : goalB z = true := by show (nameB _ || _) = true; rw [c]; rfl
    rw [e] at hk
    exact hk
  | false =>
    refine iteF ?_
    repeat walk_at "s1"
    refine ⟨_, _, _, _, _, rfl, .ty _, .base (.str _), kit_ty k_ss, ?_⟩
    refine ⟨_, rfl, ?_⟩
    refine iteT ?_
    repeat walk_at "s1"
    refine ⟨_, _, rfl, Or.inr (C.tE _), rfl, rfl, ?_⟩
    have e : goalB z = inV (V.str z) [.str "home", .str "hole"] := by show (nameB _ || _) = _; rw [c]; rfl
    rw [e] at hk
    exact hk
end
open PySem PySem.Spec PyProof.Rows
open L2 hiding pass0
abbrev s_is_row : Stmt := top 31
theorem sc_is_row : FnScope ["width", "value"] ["width", "value"] (defScope s_is_row) := ⟨rfl, rfl, rfl, by decide +kernel, rfl, by decide +kernel, by decide +kernel⟩
theorem bp_is_row : BndP "is_row" s_is_row ["width", "value"] := fun _ _ _ _ _ _ us h => match us, h with | [_, _], _ => rfl
abbrev s_is_rows : Stmt := top 32
theorem sc_is_rows : FnScope ["width", "value", "stretch", "goal"] ["width", "value"] (defScope s_is_rows) := ⟨rfl, rfl, rfl, by decide +kernel, rfl, by decide +kernel, by decide +kernel⟩
theorem bp_is_rows : BndP "is_rows" s_is_rows ["width", "value"] := fun _ _ _ _ _ _ us h => match us, h with | [_, _], _ => rfl
abbrev s_longest_beginning : Stmt := top 28
theorem sc_longest_beginning : FnScope ["known", "bits", "length"] ["known", "bits"] (defScope s_longest_beginning) := ⟨rfl, rfl, rfl, by decide +kernel, rfl, by decide +kernel, by decide +kernel⟩
theorem bp_longest_beginning : BndP "longest_beginning" s_longest_beginning ["known", "bits"] := fun _ _ _ _ _ _ us h => match us, h with | [_, _], _ => rfl
abbrev s_Tableinit : Stmt := inClass (top 30) 1
theorem sc_Tableinit : FnScope ["self", "width", "rows", "stretch"] ["self", "width", "rows"] (defScope s_Tableinit) := ⟨rfl, rfl, rfl, by decide +kernel, rfl, by decide +kernel, by decide +kernel⟩
abbrev s_Table_row : Stmt := inClass (top 30) 5
theorem sc_Table_row : FnScope ["self", "address"] ["self", "address"] (defScope s_Table_row) := ⟨rfl, rfl, rfl, by decide +kernel, rfl, by decide +kernel, by decide +kernel⟩
theorem bm_Table_row : BndMP "row" "Table.row" s_Table_row ["self", "address"] := fun _ _ _ _ _ _ us h => match us, h with | [_, _], _ => rfl
abbrev s_Table__call__ : Stmt := inClass (top 30) 7
theorem sc_Table__call__ : FnScope ["self", "address", "stretch"] ["self", "address"] (defScope s_Table__call__) := ⟨rfl, rfl, rfl, by decide +kernel, rfl, by decide +kernel, by decide +kernel⟩
theorem bm_Table__call__ : BndMP "__call__" "Table.__call__" s_Table__call__ ["self", "address"] := fun _ _ _ _ _ _ us h => match us, h with | [_, _], _ => rfl
abbrev s_Table__len__ : Stmt := inClass (top 30) 10
theorem sc_Table__len__ : FnScope ["self"] ["self"] (defScope s_Table__len__) := ⟨rfl, rfl, rfl, by decide +kernel, rfl, by decide +kernel, by decide +kernel⟩
theorem bm_Table__len__ : BndMP "__len__" "Table.__len__" s_Table__len__ ["self"] := fun _ _ _ _ _ _ us h => match us, h with | [_], _ => rfl
abbrev s_Table__contains__ : Stmt := inClass (top 30) 11
theorem sc_Table__contains__ : FnScope ["self", "x"] ["self", "x"] (defScope s_Table__contains__) := ⟨rfl, rfl, rfl, by decide +kernel, rfl, by decide +kernel, by decide +kernel⟩
theorem bm_Table__contains__ : BndMP "__contains__" "Table.__contains__" s_Table__contains__ ["self", "x"] := fun _ _ _ _ _ _ us h => match us, h with | [_, _], _ => rfl
abbrev s_Table__add__ : Stmt := inClass (top 30) 12
theorem sc_Table__add__ : FnScope ["self", "other"] ["self", "other"] (defScope s_Table__add__) := ⟨rfl, rfl, rfl, by decide +kernel, rfl, by decide +kernel, by decide +kernel⟩
theorem bm_Table__add__ : BndMP "__add__" "Table.__add__" s_Table__add__ ["self", "other"] := fun _ _ _ _ _ _ us h => match us, h with | [_, _], _ => rfl
abbrev s_Table__sub__ : Stmt := inClass (top 30) 14
theorem sc_Table__sub__ : FnScope ["self", "other", "stretch", "goal"] ["self", "other"] (defScope s_Table__sub__) := ⟨rfl, rfl, rfl, by decide +kernel, rfl, by decide +kernel, by decide +kernel⟩
theorem bm_Table__sub__ : BndMP "__sub__" "Table.__sub__" s_Table__sub__ ["self", "other"] := fun _ _ _ _ _ _ us h => match us, h with | [_, _], _ => rfl
abbrev s_check_same_width : Stmt := top 27
theorem sc_check_same_width : FnScope ["one", "other"] ["one", "other"] (defScope s_check_same_width) := ⟨rfl, rfl, rfl, by decide +kernel, rfl, by decide +kernel, by decide +kernel⟩
theorem bp_check_same_width : BndP "check_same_width" s_check_same_width ["one", "other"] := fun _ _ _ _ _ _ us h => match us, h with | [_, _], _ => rfl
abbrev s_Table_width : Stmt := inClass (top 30) 3
theorem sc_Table_width : FnScope ["self"] ["self"] (defScope s_Table_width) := ⟨rfl, rfl, rfl, by decide +kernel, rfl, by decide +kernel, by decide +kernel⟩
theorem bm_Table_width : BndMP "width" "Table.width" s_Table_width ["self"] := fun _ _ _ _ _ _ us h => match us, h with | [_], _ => rfl
abbrev s_Table_rows : Stmt := inClass (top 30) 4
theorem sc_Table_rows : FnScope ["self"] ["self"] (defScope s_Table_rows) := ⟨rfl, rfl, rfl, by decide +kernel, rfl, by decide +kernel, by decide +kernel⟩
theorem bm_Table_rows : BndMP "rows" "Table.rows" s_Table_rows ["self"] := fun _ _ _ _ _ _ us h => match us, h with | [_], _ => rfl
abbrev s_Table__radd__ : Stmt := inClass (top 30) 13
theorem sc_Table__radd__ : FnScope ["self", "other"] ["self", "other"] (defScope s_Table__radd__) := ⟨rfl, rfl, rfl, by decide +kernel, rfl, by decide +kernel, by decide +kernel⟩
theorem bm_Table__radd__ : BndMP "__radd__" "Table.__radd__" s_Table__radd__ ["self", "other"] := fun _ _ _ _ _ _ us h => match us, h with | [_, _], _ => rfl
abbrev s_Table__or__ : Stmt := inClass (top 30) 15
theorem sc_Table__or__ : FnScope ["self", "other"] ["self", "other"] (defScope s_Table__or__) := ⟨rfl, rfl, rfl, by decide +kernel, rfl, by decide +kernel, by decide +kernel⟩
theorem bm_Table__or__ : BndMP "__or__" "Table.__or__" s_Table__or__ ["self", "other"] := fun _ _ _ _ _ _ us h => match us, h with | [_, _], _ => rfl
abbrev s_Table__le__ : Stmt := inClass (top 30) 16
theorem sc_Table__le__ : FnScope ["self", "other", "stretch", "goal"] ["self", "other"] (defScope s_Table__le__) := ⟨rfl, rfl, rfl, by decide +kernel, rfl, by decide +kernel, by decide +kernel⟩
theorem bm_Table__le__ : BndMP "__le__" "Table.__le__" s_Table__le__ ["self", "other"] := fun _ _ _ _ _ _ us h => match us, h with | [_, _], _ => rfl
abbrev s_Table__ge__ : Stmt := inClass (top 30) 17
theorem sc_Table__ge__ : FnScope ["self", "other"] ["self", "other"] (defScope s_Table__ge__) := ⟨rfl, rfl, rfl, by decide +kernel, rfl, by decide +kernel, by decide +kernel⟩
theorem bm_Table__ge__ : BndMP "__ge__" "Table.__ge__" s_Table__ge__ ["self", "other"] := fun _ _ _ _ _ _ us h => match us, h with | [_, _], _ => rfl
abbrev s_Table__eq__ : Stmt := inClass (top 30) 18
theorem sc_Table__eq__ : FnScope ["self", "other"] ["self", "other"] (defScope s_Table__eq__) := ⟨rfl, rfl, rfl, by decide +kernel, rfl, by decide +kernel, by decide +kernel⟩
theorem bm_Table__eq__ : BndMP "__eq__" "Table.__eq__" s_Table__eq__ ["self", "other"] := fun _ _ _ _ _ _ us h => match us, h with | [_, _], _ => rfl
/-- a dict of texts -/
def tk (m : List (Str × Str)) : List (Key × V) := m.map fun p => (Sum.inr p.1, V.str p.2)
/-- a row of the width: its stretch, its goal -/
def RowOk (n : Int) (p : Str × Str) : Prop := Bits p.1 ∧ (p.1.length : Int) ≤ n ∧ goalB p.2 = true ∧ Low p.2 ∧ p.2.length ≤ 200
@[irreducible] def spRow : Sp := fun vs H Q _ => ∃ (n : Int) (b : Addr) (p : Str × Str), vs = [.int n, .ref b] ∧ 1 ≤ n ∧ n ≤ 100 ∧ H b = some (.tup [.str p.1, .str p.2]) ∧ RowOk n p ∧ ∀ H', Same H H' → Q (.bl true) H'
@[irreducible] def spRows : Sp := fun vs H Q _ => ∃ (n : Int) (b : Addr) (m : List (Str × Str)), vs = [.int n, .ref b] ∧ 1 ≤ n ∧ n ≤ 100 ∧ H b = some (.dK (tk m)) ∧ (∀ p ∈ m, RowOk n p) ∧ m.length ≤ 1000 ∧ ∀ H', Same H H' → Q (.bl true) H'
theorem strB_ok {n : Int} {z : Str} (h : Bits z) (l : (z.length : Int) ≤ n) : strB n z = true := by
  show (bitsB z && decide ((z.length : Int) ≤ n)) = true
  rw [bitsB_of h, decide_eq_true l]
  rfl
theorem len200 {n : Int} {z : Str} (h1 : n ≤ 100) (l : (z.length : Int) ≤ n) : z.length ≤ 200 := by omega
section
variable {P : Program} {w : World} {K : PySem.W.Frag} {mg : Str → Option Value} {base : Heap} {f : Addr} {fd : FuncData}
theorem ok_is_row (F : Fun K "is_row" "is_row" s_is_row f fd) (hm : mg "is_row" = some (.ref f)) (T : Txt K mg) (c_is_stretch : Nm P w K mg base CX0 4 "is_stretch" s_is_stretch ["width", "value"] (spIT strB)) (c_is_goal : Nm P w K mg base CX0 2 "is_goal" s_is_goal ["value"] (spT goalB)) :
    Nm P w K mg base CX0 5 "is_row" s_is_row ["width", "value"] spRow := by
  refine nm_of F hm sc_is_row (fun vs H Q E h => ?_) fun cdv A outer s H vs Q E hr h => ?_
  · unfold spRow at h
    obtain ⟨n, b, p, rfl, _⟩ := h
    rfl
  · unfold spRow at h
    obtain ⟨n, b, p, rfl, h0, h1, hb, ⟨hp1, hp2, hp3, hp4, hp5⟩, k⟩ := h
    refine ⟨_, (pss_cons (ps_if (PW.pt (pw_or (pt_not (pt_val (pe_callB (call_isiK' (K := K) rfl) (by rfl) T.b_isinstance (by decide +kernel) (pa_cons (pv 1) (pa_cons (pe_ty "tuple" (by rfl) T.b_tuple (by decide +kernel)) pa_nil))))) (pw_or1 (pt_cmpR op_ne (pe_callB (call_lenK (K := K) rfl) (by rfl) T.b_len PySem.boot_len (pa_cons (pv 1) pa_nil)) pe_int (nomark _))))) (pss_one (ps_ret pe_bl)) pss_nil)
      (pss_one (ps_ret (pe_and (pe_g c_is_stretch hr (by decide) L2.pass0 bp_is_stretch (by rfl) (pa_cons (pv 0) (pa_cons (pe_ix (ix_seqK (K := K) rfl) (pv 1) pe_int (fun _ _ => rfl)) pa_nil))) (pe_one (pe_g c_is_goal hr (by decide) L2.pass0 bp_is_goal (by rfl) (pa_cons (pe_ix (ix_seqK (K := K) rfl) (pv 1) pe_int (fun _ _ => rfl)) pa_nil))))))), ?_⟩
    repeat walk_at "s1"
    refine ⟨_, _, _, _, _, rfl, .ty _, .base (.tup hb), kit_ty (show kitB "tuple" "tuple" = some true by decide +kernel), ?_⟩
    refine ⟨_, rfl, ?_⟩
    refine iteF ?_
    repeat walk_at "s1"
    refine it_go h0 h1 (Nat.le_trans (len200 h1 hp2) (by decide)) fun H1 sm => ?_
    rw [strB_ok hp1 hp2]
    refine ⟨_, rfl, ?_⟩
    refine iteT ?_
    have hb1 := sm _ _ hb
    repeat walk_at "s1"
    refine t_go (Nat.le_trans hp5 (by decide)) fun H2 sm2 => ?_
    rw [hp3]
    exact k H2 fun c o e => sm2 c o (sm c o e)
theorem ok_is_rows (F : Fun K "is_rows" "is_rows" s_is_rows f fd) (hm : mg "is_rows" = some (.ref f)) (T : Txt K mg) (c_is_stretch : Nm P w K mg base CX0 4 "is_stretch" s_is_stretch ["width", "value"] (spIT strB)) (c_is_goal : Nm P w K mg base CX0 2 "is_goal" s_is_goal ["value"] (spT goalB)) :
    Nm P w K mg base CX0 5 "is_rows" s_is_rows ["width", "value"] spRows := by
  refine nm_of F hm sc_is_rows (fun vs H Q E h => ?_) fun cdv A outer s H vs Q E hr h => ?_
  · unfold spRows at h
    obtain ⟨n, b, p, rfl, _⟩ := h
    rfl
  · unfold spRows at h
    obtain ⟨n, b, m, rfl, h0, h1, hb, hp, hz, k⟩ := h
    refine ⟨_, (pss_cons (ps_if (pt_not (pt_val (pe_callB (call_isiK' (K := K) rfl) (by rfl) T.b_isinstance (by decide +kernel) (pa_cons (pv 1) (pa_cons (pe_ty "dict" (by rfl) T.b_dict (by decide +kernel)) pa_nil))))) (pss_one (ps_ret pe_bl)) pss_nil)
      (pss_one (ps_ret (pe_callB (call_allK (K := K) rfl rfl) (by rfl) T.b_all (by decide +kernel) (pa_cons (pe_lock (pe_lc (own := [("stretch", 2), ("goal", 3)]) (g := (gTup K 2 (gCons (gName 2) (gCons (gName 3) gNil)))) (by rfl) sc_is_rows.nd (pi_items (pv 1)) (blkOk_by (own := [("stretch", 2), ("goal", 3)]) (N := ["width", "value", "stretch", "goal"]) (sc := defScope s_is_rows) (by decide +kernel)) (fun _ _ _ _ _ => (pg_tup (by rfl) (pgs_cons (pg_name (i := 2) sc_is_rows.nd rfl (by first | exact Or.inl rfl | exact Or.inr rfl)) (pgs_cons (pg_name (i := 3) sc_is_rows.nd rfl (by first | exact Or.inl rfl | exact Or.inr rfl)) pgs_nil)))) (fun _ _ _ _ _ => pts_nil) (fun _ _ _ _ _ => (pe_and (pe_g c_is_stretch hr (by decide) L2.pass0 bp_is_stretch (by rfl) (pa_cons (pv 0) (pa_cons (pv 2) pa_nil))) (pe_one (pe_g c_is_goal hr (by decide) L2.pass0 bp_is_goal (by rfl) (pa_cons (pv 3) pa_nil))))))) pa_nil))))), ?_⟩
    repeat walk_at "s1"
    refine ⟨_, _, _, _, _, rfl, .ty _, .base (.dK hb), kit_ty (show kitB "dict" "dict" = some true by decide +kernel), ?_⟩
    refine ⟨_, rfl, ?_⟩
    refine iteF ?_
    show ∃ d u, _
    refine ⟨b, _, hb, trivial, fun od => ?_⟩
    refine ⟨_, rfl, ?_⟩
    refine ⟨b, od, _, rfl, upd_same, fun D nD => ?_⟩
    have hDb : D ≠ b := fun z => by rw [z, upd_same] at nD; cases nD
    refine lc_it walk_items (fun i H1 => H1 D = some (.lst ((List.replicate i true).map V.bl)) ∧ Same (upd H b (.frz od (.dK (tk m)))) H1) ⟨upd_same, fun c o e => updn (nonn nD e) e⟩ (fun _ H1 _ h => h.2 _ _ upd_same) ?_ ?_
    · rintro i x H1 H2 hi ⟨hD, sm⟩ ⟨t, x1, x2, rfl, nt, rfl, e1, e2⟩
      obtain ⟨p, hm1, rfl, rfl⟩ : ∃ p, m[i]? = some p ∧ x1 = .str p.1 ∧ x2 = .str p.2 := by
        dsimp only at e1 e2
        unfold tk at e1 e2
        rw [List.getElem?_map] at e1 e2
        cases hx : m[i]? with
        | none => rw [hx] at e1; cases e1
        | some p =>
          rw [hx] at e1 e2
          exact ⟨p, rfl, (Option.some.inj e1).symm, (Option.some.inj e2).symm⟩
      obtain ⟨hp1, hp2, hp3, hp4, hp5⟩ := hp p (List.mem_of_getElem? hm1)
      have hi' : i < m.length := by unfold tk at hi; rw [List.length_map] at hi; exact hi
      have nDt : D ≠ t := nonn nt hD
      have smt : Same (upd H b (.frz od (.dK (tk m)))) (upd H1 t (.tup [.str p.1, .str p.2])) := fun c o e => updn (nonn nt (sm c o e)) (sm c o e)
      refine ⟨t, [.str p.1, .str p.2], rfl, SqT.of upd_same, rfl, ?_⟩
      refine ⟨_, _, rfl, ?_⟩
      refine ⟨_, _, rfl, ?_⟩
      refine ⟨rfl, rfl, ?_⟩
      dsimp only [tYes]
      rw [if_pos rfl]
      repeat walk_at "s1"
      refine it_go h0 h1 (Nat.le_trans (len200 h1 hp2) (by decide)) fun H3 sm3 => ?_
      rw [strB_ok hp1 hp2]
      refine ⟨_, rfl, ?_⟩
      refine iteT ?_
      repeat walk_at "s1"
      refine t_go (Nat.le_trans hp5 (by decide)) fun H4 sm4 => ?_
      rw [hp3]
      have hD4 : H4 D = some (.lst ((List.replicate i true).map V.bl)) := sm4 _ _ (sm3 _ _ (updn nDt hD))
      have sm5 : Same (upd H b (.frz od (.dK (tk m)))) H4 := fun c o e => sm4 c o (sm3 c o (smt c o e))
      refine ⟨_, hD4, szt (by rw [List.length_map, List.length_replicate]; omega), ?_, fun c o e => updn (nonn nD e) (sm5 c o e)⟩
      rw [upd_same, List.replicate_succ', List.map_append]
      rfl
    · rintro H1 ⟨hD, sm⟩
      refine ⟨sm _ _ upd_same, ?_⟩
      refine ⟨_, _, rfl, SqL.of (updn hDb hD), ?_⟩
      have e : (List.replicate (tk m).length true).all id = true := by
        rw [List.all_eq_true]
        intro x hx
        exact List.eq_of_mem_replicate hx
      rw [e]
      refine k _ fun c o e => ?_
      by_cases hc : c = b
      · rw [hc] at e ⊢
        rw [hb] at e
        rw [upd_same]
        exact e
      · exact updn hc (sm c o (updn hc e))
end
open PySem PySem.Spec PyProof.Rows
open L2 hiding pass0
/-- what of the text is known of the class -/
structure TabC (K : PySem.W.Frag) (C : Addr) : Prop where
  cl : Cls K C
  n1 : NoAttr K C "_width"
  n2 : NoAttr K C "_rows"
  con : ∃ u, Con K C "MOST_ROWS" (.int 40) u
  sf : PySem.W.selfFirst K C = true
/-- the value of a key -/
def getT (m : List (Str × Str)) (k : Str) : Str := ((m.find? fun p => decide (p.1 = k)).map (·.2)).getD Str.empty
/-- the rows in order -/
def srt (m : List (Str × Str)) : List (Str × Str) := (tsort (m.map (·.1))).map fun k => (k, getT m k)
/-- the table at a: its width, its rows m -/
def TabAt (C : Addr) (H : Hp) (a : Addr) (n : Int) (m : List (Str × Str)) : Prop := ∃ dx D, H a = some (.ins C dx [("_width", .int n), ("_rows", .ref D)]) ∧ H D = some (.dK (tk m)) ∧ D ≠ a
@[irreducible] def spInit (C : Addr) : Sp := fun vs H Q _ => ∃ (a dx : Addr) (n : Int) (b : Addr) (m : List (Str × Str)), vs = [.ref a, .int n, .ref b] ∧ H a = some (.ins C dx []) ∧ H b = some (.dK (tk m)) ∧ 1 ≤ n ∧ n ≤ 100 ∧ (∀ p ∈ m, RowOk n p) ∧ (m.map (·.1)).Nodup ∧ m.length ≤ 40 ∧
  ∀ H', (∀ c o, c ≠ a → H c = some o → H' c = some o) → TabAt C H' a n (srt m) → Q .non H'
theorem rows_go {n : Int} {b : Addr} {m : List (Str × Str)} {H : Hp} {Q : VK} {E : XK} (h0 : 1 ≤ n) (h1 : n ≤ 100) (hb : H b = some (.dK (tk m))) (hp : ∀ p ∈ m, RowOk n p) (hz : m.length ≤ 1000) (k : ∀ H', Same H H' → Q (.bl true) H') : spRows [.int n, .ref b] H Q E := by
  unfold spRows
  exact ⟨n, b, m, rfl, h0, h1, hb, hp, hz, k⟩
theorem tk_keys (m : List (Str × Str)) : (tk m).map (·.1) = (m.map (·.1)).map Sum.inr := by
  unfold tk
  rw [List.map_map, List.map_map]
  rfl
theorem tk_len (m : List (Str × Str)) : (tk m).length = m.length := by unfold tk; rw [List.length_map]
theorem tk_val (m : List (Str × Str)) {k : Str} (h : k ∈ m.map (·.1)) : valV (tk m) (Sum.inr k) = some (.str (getT m k)) := by
  induction m with
  | nil => cases h
  | cons p m ih =>
    unfold tk getT valV at *
    by_cases e : p.1 = k
    · rw [List.map_cons, List.find?_cons_of_pos (by simp [e]), List.find?_cons_of_pos (by simp [e])]
      rfl
    · rw [List.map_cons, List.find?_cons_of_neg (by simpa using e), List.find?_cons_of_neg (by simpa using e)]
      refine ih ?_
      rcases List.mem_cons.mp h with q | q
      · exact absurd q.symm e
      · exact q
theorem tk_snoc {m : List (Str × Str)} {k g : Str} (h : k ∉ m.map (·.1)) : putK (tk m) (Sum.inr k) (.str g) = tk (m ++ [(k, g)]) := by
  unfold putK
  rw [if_neg]
  · unfold tk
    rw [List.map_append]
    rfl
  · intro hh
    obtain ⟨q, hq, e⟩ := List.any_eq_true.mp hh
    have e' : q.1 = Sum.inr k := of_decide_eq_true e
    have : (Sum.inr k : Key) ∈ (tk m).map (·.1) := e' ▸ List.mem_map_of_mem hq
    rw [tk_keys] at this
    obtain ⟨z, hz, e2⟩ := List.mem_map.mp this
    cases e2
    exact h hz
theorem dc_it {J : It} {n : Nat} {G : Hp → Prop} {Y : Nat → Hp → V → Hp → Prop} (w : L2.Walk J n G Y) {g : TG} {tt : TT} {tk tv : TE} {vs : List Nat} {σ : L2.St} {H1 : Hp} {D : Addr} {Qd : Hp → Prop} (Pv : Nat → Hp → Prop) (h0 : Pv 0 (upd H1 D (.dK []))) (hG : ∀ i H, i ≤ n → Pv i H → G H)
    (hs : ∀ i x H H', i < n → Pv i H → Y i H x H' → g x (wipe σ vs) H' fun σ2 H2 => wipe σ2 vs = wipe σ vs ∧ tt σ2 H2 fun b H3 =>
      if b = true then tk σ2 H3 fun y H4 => tv σ2 H4 fun z H5 => ∃ kvs k, y = kV k ∧ H5 D = some (.dK kvs) ∧ kvs.length < sizeLine ∧ Pv (i + 1) (upd H5 D (.dK (putK kvs k z))) else Pv (i + 1) H3) (hd : ∀ H, Pv n H → Qd H) :
    ∃ W : Nat → Nat → Hp → Prop, (∃ m, W 0 m (upd H1 D (.dK []))) ∧ ∀ i m H, W i m H →
      (J.stop i H ∧ Qd H) ∨ (J.go i H ∧ ∃ Nx : Hp → Prop, (∀ H', Nx H' → ∃ m', m' < m ∧ W (i + 1) m' H') ∧ ∀ x H', J.yld i H x H' → g x (wipe σ vs) H' fun σ2 H2 => wipe σ2 vs = wipe σ vs ∧ tt σ2 H2 fun b H3 =>
        if b = true then tk σ2 H3 fun y H4 => tv σ2 H4 fun z H5 => ∃ kvs k, y = kV k ∧ H5 D = some (.dK kvs) ∧ kvs.length < sizeLine ∧ Nx (upd H5 D (.dK (putK kvs k z))) else Nx H3) := by
  refine ⟨fun i m H => m = n - i ∧ i ≤ n ∧ Pv i H, ⟨n, by simp, Nat.zero_le _, h0⟩, ?_⟩
  rintro i m H ⟨rfl, hi, p⟩
  have q := hG i H hi p
  by_cases hlt : i < n
  · refine .inr ⟨w.goes i H hlt q, Pv (i + 1), fun H' p' => ⟨n - (i + 1), by omega, rfl, hlt, p'⟩, fun x H' y => hs i x H H' hlt p (w.yields i H x H' hlt q y)⟩
  · have e : i = n := by omega
    subst e
    exact .inl ⟨w.stops H q, hd H p⟩
section
variable {P : Program} {w : World} {K : PySem.W.Frag} {mg : Str → Option Value} {base : Heap} {f C : Addr} {fd : FuncData}
theorem ok_init {params : Arguments} {dvs : List V} {kws : List (Str × V)} (F : FunD K "__init__" "Table.__init__" params (defBody s_Tableinit) (defScope s_Tableinit) dvs kws f fd) (T : Txt K mg) (TC : TabC K C) (c_check_width : Nm P w K mg base CX0 3 "check_width" s_check_width ["width"] spCW)
    (c_is_rows : Nm P w K mg base CX0 5 "is_rows" s_is_rows ["width", "value"] spRows) : FnG P w K mg base CX0 6 f fd ["self", "width", "rows"] (spInit C) := by
  obtain ⟨oc, od, dV, kV, doc, pm, an, cdv, ct, osl, rfl, lk, hcd, _, _⟩ := F.ex
  refine fnG_core lk hcd sc_Tableinit (fun vs H Q E h => ?_) fun A outer s H vs Q E hr h => ?_
  · unfold spInit at h
    obtain ⟨a, dx, n, b, m, rfl, _⟩ := h
    rfl
  · unfold spInit at h
    obtain ⟨a, dx, n, b, m, rfl, ha, hb, h0, h1, hp, hnd, hz, k⟩ := h
    refine ⟨_, (pss_cons (ps_expr (pe_g c_check_width hr (by decide) L2.pass0 bp_check_width (by rfl) (pa_cons (pv 1) pa_nil)))
      (pss_cons (ps_if (pt_cmpR op_isN (pv 2) pe_non (nomark _)) (pss_one (ps_set (i := 2) sc_Tableinit.nd rfl (by first | exact Or.inl rfl | exact Or.inr rfl) pe_dnewK)) pss_nil)
      (pss_cons (ps_if (pt_not (pt_val (pe_g c_is_rows hr (by decide) L2.pass0 bp_is_rows (by rfl) (pa_cons (pv 1) (pa_cons (pv 2) pa_nil))))) (pss_one ps_never) pss_nil)
      (pss_cons (ps_if (pt_cmpR op_gt (pe_callB call_lenD (by rfl) T.b_len PySem.boot_len (pa_cons (pv 2) pa_nil)) (pe_con (pv 0) (by rfl)) (nomark _)) (pss_one ps_never) pss_nil)
      (pss_cons (ps_fld (pv 0) (pv 1) rfl)
      (pss_one (ps_fld (pv 0) (pe_dc (own := [("stretch", 3)]) (g := (gName 3)) (by rfl) sc_Tableinit.nd (pi_listK (K := K) rfl (pe_callBK (cr_sortKD hr.u rfl) (by rfl) T.b_sorted (by decide +kernel) (pa_cons (pv 2) pa_nil) (pk_cons (pe_ty "str" (by rfl) T.b_str (by decide +kernel)) pk_nil))) (blkOk_by (own := [("stretch", 3)]) (N := ["self", "width", "rows", "stretch"]) (sc := defScope s_Tableinit) (by decide +kernel)) (fun _ _ _ _ _ => (pg_name (i := 3) sc_Tableinit.nd rfl (by first | exact Or.inl rfl | exact Or.inr rfl))) (fun _ _ _ _ _ => pts_nil) (fun _ _ _ _ _ => (pv 3)) (fun _ _ _ _ _ => (pe_dget hr.u1 (pv 2) (pv 3) (fun _ _ => rfl)))) rfl))))))), ?_⟩
    repeat walk_at "s1"
    refine cw_go h0 h1 fun H1 sm1 => ?_
    have ha1 := sm1 _ _ ha
    have hb1 := sm1 _ _ hb
    show tSeq _ _ _ _ _
    refine ⟨_, rfl, ?_⟩
    refine ⟨rfl, ?_⟩
    refine ⟨_, rfl, ?_⟩
    refine iteF ?_
    show tSeq _ _ _ _ _
    refine ⟨_, rfl, ?_⟩
    refine ⟨_, rfl, ?_⟩
    refine rows_go h0 h1 hb1 hp (by omega) fun H2 sm2 => ?_
    have ha2 := sm2 _ _ ha1
    have hb2 := sm2 _ _ hb1
    refine ⟨_, rfl, ?_⟩
    refine iteF ?_
    show tSeq _ _ _ _ _
    refine ⟨_, rfl, ?_⟩
    refine ⟨b, tk m, rfl, hb2, ?_⟩
    refine ⟨_, rfl, ?_⟩
    obtain ⟨u, hcon⟩ := TC.con
    refine ⟨a, C, dx, [], .int 40, u, rfl, ha2, TC.cl, hcon, rfl, ?_⟩
    refine ⟨_, _, rfl, rfl, ?_⟩
    refine ⟨_, rfl, ?_⟩
    rw [show decide ((40 : Int) < ((tk m).length : Int)) = false from decide_eq_false (by rw [tk_len]; omega)]
    refine iteF ?_
    show tSeq _ _ _ _ _
    refine ⟨_, rfl, ?_⟩
    refine ⟨_, rfl, ?_⟩
    refine ⟨a, C, dx, [], rfl, ha2, TC.cl, TC.n1, by decide, ?_⟩
    have hba : b ≠ a := fun z => by rw [z, ha2] at hb2; cases hb2
    have hb3 : upd H2 a (.ins C dx (putF "_width" (.int n) [])) b = some (.dK (tk m)) := updn hba hb2
    dsimp only
    refine ⟨_, rfl, ?_⟩
    refine ⟨b, tk m, m.map (·.1), rfl, rfl, .inl hb3, tk_keys m, fun L nL => ?_⟩
    refine ⟨L, rfl, ⟨_, SqL.of upd_same⟩, fun D nD => ?_⟩
    generalize hT : tsort (m.map (·.1)) = ts at nL nD ⊢
    have hperm : ts.Perm (m.map (·.1)) := by rw [← hT]; exact tsort_perm _
    have htn : ts.Nodup := hperm.nodup_iff.mpr hnd
    have htl : ts.length ≤ 40 := by rw [hperm.length_eq, List.length_map]; exact hz
    have hLa : L ≠ a := fun z => by rw [z, upd_same] at nL; cases nL
    have hDL : D ≠ L := fun z => by rw [z, upd_same] at nD; cases nD
    have hDa : D ≠ a := fun z => by rw [z, upd_ne (Ne.symm hLa), upd_same] at nD; cases nD
    have hLb : b ≠ L := nonn nL hb3
    have nD2 : H2 D = none := by
      rw [upd_ne hDL, upd_ne hDa] at nD
      exact nD
    have hDb : b ≠ D := nonn nD (updn hLb hb3)
    refine dc_it walk_list (fun i H4 => H4 D = some (.dK (tk ((ts.take i).map fun k => (k, getT m k)))) ∧ H4 L = some (.lst (ts.map V.str)) ∧ H4 a = some (.ins C dx [("_width", .int n)]) ∧ (∀ c o, c ≠ a → H2 c = some o → H4 c = some o)) ?_ (fun i H4 _ h => SqL.of h.2.1) ?_ ?_
    · refine ⟨upd_same, updn (Ne.symm hDL) upd_same, updn (Ne.symm hDa) (updn (Ne.symm hLa) upd_same), fun c o hc e => ?_⟩
      have e1 : upd H2 a (.ins C dx (putF "_width" (.int n) [])) c = some o := updn hc e
      have e2 := updn (o := .lst (ts.map V.str)) (nonn nL e1) e1
      exact updn (nonn nD e2) e2
    · rintro i x H4 H5 hi ⟨hD, hL, hA, hk⟩ ⟨rfl, hx⟩
      obtain ⟨key, hkey, rfl⟩ : ∃ key, ts[i]? = some key ∧ x = .str key := by
        rw [List.getElem?_map] at hx
        cases e : ts[i]? with
        | none => rw [e] at hx; cases hx
        | some z => rw [e] at hx; exact ⟨z, rfl, (Option.some.inj hx).symm⟩
      refine ⟨rfl, ?_⟩
      dsimp only [tYes]
      rw [if_pos rfl]
      refine ⟨_, rfl, ?_⟩
      have hbH : H5 b = some (.dK (tk m)) := hk b _ hba hb2
      have hmem : key ∈ m.map (·.1) := hperm.mem_iff.mp (List.mem_of_getElem? hkey)
      have hnew : key ∉ ((ts.take i).map fun k => (k, getT m k)).map (·.1) := by
        have e0 : ((ts.take i).map fun k => (k, getT m k)).map (·.1) = ts.take i := by
          rw [List.map_map]
          exact List.map_id' _
        rw [e0]
        intro hin
        have hn : (ts.take (i + 1)).Nodup := (List.take_sublist _ _).nodup htn
        rw [List.take_add_one, hkey] at hn
        exact (List.nodup_append.mp hn).2.2 key hin key (List.mem_singleton.mpr rfl) rfl
      refine ⟨_, rfl, ⟨_, rfl, ⟨b, .str (getT m key), rfl, .inl ⟨tk m, Sum.inr key, .inl hbH, rfl, (tk_val m hmem).symm⟩, ?_⟩⟩⟩
      refine ⟨_, Sum.inr key, rfl, hD, szt (by rw [tk_len, List.length_map, List.length_take]; omega), ?_, updn (Ne.symm hDL) hL, updn (Ne.symm hDa) hA, fun c o hc e => updn (nonn nD2 e) (hk c o hc e)⟩
      rw [upd_same, tk_snoc hnew, List.take_add_one, hkey, List.map_append]
      rfl
    · rintro H4 ⟨hD, hL, hA, hk⟩
      rw [List.length_map, List.take_length] at hD
      refine ⟨_, rfl, ⟨a, C, dx, _, rfl, hA, TC.cl, TC.n2, Nat.le_of_ble_eq_true rfl, ?_⟩⟩
      refine k _ (fun c o hc e => updn hc (hk c o hc (sm2 c o (sm1 c o e)))) ⟨dx, D, upd_same, updn hDa ?_, hDa⟩
      rw [hD]
      unfold srt
      rw [hT]
end
open PySem PySem.Spec PyProof.Rows
open L2 hiding pass0
theorem tk_none (m : List (Str × Str)) {k : Str} (h : k ∉ m.map (·.1)) : valV (tk m) (Sum.inr k) = none := by
  unfold valV
  rw [List.find?_eq_none.mpr]
  · rfl
  · intro q hq e
    have e' : q.1 = Sum.inr k := of_decide_eq_true e
    have : (Sum.inr k : Key) ∈ (tk m).map (·.1) := e' ▸ List.mem_map_of_mem hq
    rw [tk_keys] at this
    obtain ⟨z, hz, e2⟩ := List.mem_map.mp this
    cases e2
    exact h hz
theorem tk_has (m : List (Str × Str)) (k : Str) : (valV (tk m) (Sum.inr k)).isSome = decide (k ∈ m.map (·.1)) := by
  by_cases h : k ∈ m.map (·.1)
  · rw [tk_val m h, decide_eq_true h]
    rfl
  · rw [tk_none m h, decide_eq_false h]
    rfl
@[irreducible] def spWidth (C : Addr) : Sp := fun vs H Q _ => ∃ (a : Addr) (n : Int) (m : List (Str × Str)), vs = [.ref a] ∧ TabAt C H a n m ∧ Q (.int n) H
@[irreducible] def spTRows (C : Addr) : Sp := fun vs H Q _ => ∃ (a : Addr) (n : Int) (m : List (Str × Str)), vs = [.ref a] ∧ TabAt C H a n m ∧ ∀ p, H p = none → Q (.ref p) (upd H p (.dK (tk m)))
@[irreducible] def spTLen (C : Addr) : Sp := fun vs H Q _ => ∃ (a : Addr) (n : Int) (m : List (Str × Str)), vs = [.ref a] ∧ TabAt C H a n m ∧ Q (.int m.length) H
@[irreducible] def spHas (C : Addr) : Sp := fun vs H Q _ => ∃ (a : Addr) (n : Int) (m : List (Str × Str)) (z : Str), vs = [.ref a, .str z] ∧ TabAt C H a n m ∧ Q (.bl (decide (z ∈ m.map (·.1)))) H
section
variable {P : Program} {w : World} {K : PySem.W.Frag} {mg : Str → Option Value} {base : Heap} {f C p0 : Addr} {fd : FuncData}
theorem ok_tlen (F : Fun K "__len__" "Table.__len__" s_Table__len__ f fd) (hm : Meth K C "__len__" f) (T : Txt K mg) (TC : TabC K C) : Mth P w K mg base CX0 1 C "__len__" "Table.__len__" s_Table__len__ ["self"] (spTLen C) := by
  refine mth_of F hm sc_Table__len__ (fun vs H Q E h => ?_) fun cdv A outer s H vs Q E hr h => ?_
  · unfold spTLen at h
    obtain ⟨a, n, m, rfl, _⟩ := h
    rfl
  · unfold spTLen at h
    obtain ⟨a, n, m, rfl, ⟨dx, D, ha, hD, hne⟩, k⟩ := h
    refine ⟨_, (pss_one (ps_ret (pe_callB call_lenD (by rfl) T.b_len PySem.boot_len (pa_cons (pe_fld (pv 0) (by rfl)) pa_nil)))), ?_⟩
    refine ⟨_, rfl, ⟨a, C, dx, _, .ref D, rfl, ha, TC.cl, TC.n2, rfl, ?_⟩⟩
    refine ⟨D, tk m, rfl, hD, ?_⟩
    rw [tk_len]
    exact k
theorem ok_thas (F : Fun K "__contains__" "Table.__contains__" s_Table__contains__ f fd) (hm : Meth K C "__contains__" f) (T : Txt K mg) (TC : TabC K C) : Mth P w K mg base CX0 1 C "__contains__" "Table.__contains__" s_Table__contains__ ["self", "x"] (spHas C) := by
  refine mth_of F hm sc_Table__contains__ (fun vs H Q E h => ?_) fun cdv A outer s H vs Q E hr h => ?_
  · unfold spHas at h
    obtain ⟨a, n, m, z, rfl, _⟩ := h
    rfl
  · unfold spHas at h
    obtain ⟨a, n, m, z, rfl, ⟨dx, D, ha, hD, hne⟩, k⟩ := h
    refine ⟨_, (pss_one (ps_ret (pe_and (pe_callB (call_isiK' (K := K) rfl) (by rfl) T.b_isinstance (by decide +kernel) (pa_cons (pv 1) (pa_cons (pe_ty "str" (by rfl) T.b_str (by decide +kernel)) pa_nil))) (pe_one (pe_cmp (pc_din hr.u1 (pv 1) (pe_fld (pv 0) (by rfl)))))))), ?_⟩
    repeat walk_at "s1"
    refine ⟨_, _, _, _, _, rfl, .ty _, .base (.str z), kit_ty (k_ss), ?_⟩
    refine ⟨_, rfl, ?_⟩
    refine iteT ?_
    refine ⟨_, rfl, ?_⟩
    refine ⟨_, rfl, ⟨a, C, dx, _, .ref D, rfl, ha, TC.cl, TC.n2, rfl, ?_⟩⟩
    refine ⟨D, _, rfl, .inl ⟨tk m, Sum.inr z, .inl hD, rfl, rfl⟩, ?_⟩
    rw [tk_has]
    exact k
end
open PySem PySem.Spec PyProof.Rows
open L2 hiding pass0
/-- a row put -/
def putT (m : List (Str × Str)) (k g : Str) : List (Str × Str) := if (m.any fun p => decide (p.1 = k)) = true then m.map (fun p => if p.1 = k then (p.1, g) else p) else m ++ [(k, g)]
theorem tk_put (m : List (Str × Str)) (k g : Str) : putK (tk m) (Sum.inr k) (.str g) = tk (putT m k g) := by
  unfold putK putT
  have e : ((tk m).any fun kv => decide (kv.1 = Sum.inr k)) = m.any fun p => decide (p.1 = k) := by
    unfold tk
    rw [List.any_map]
    congr 1
    funext p
    simp
  rw [e]
  split
  · unfold tk
    rw [List.map_map, List.map_map]
    refine List.map_congr_left fun p _ => ?_
    by_cases h : p.1 = k
    · simp [h]
    · simp [h]
  · unfold tk
    rw [List.map_append]
    rfl
theorem put_nodup {m : List (Str × Str)} {k g : Str} (h : (m.map (·.1)).Nodup) : ((putT m k g).map (·.1)).Nodup := by
  unfold putT
  split
  · have e : (m.map fun p => if p.1 = k then (p.1, g) else p).map (·.1) = m.map (·.1) := by
      rw [List.map_map]
      refine List.map_congr_left fun p _ => ?_
      by_cases h : p.1 = k <;> simp [h]
    rw [e]
    exact h
  · rename_i hn
    rw [List.map_append, List.nodup_append]
    refine ⟨h, by simp, fun x hx y hy => ?_⟩
    obtain rfl := List.mem_singleton.mp hy
    rintro rfl
    refine hn (List.any_eq_true.mpr ?_)
    obtain ⟨p, hp, e⟩ := List.mem_map.mp hx
    exact ⟨p, hp, decide_eq_true e⟩
theorem put_ok {n : Int} {m : List (Str × Str)} {k g : Str} (h : ∀ p ∈ m, RowOk n p) (h2 : RowOk n (k, g)) : ∀ p ∈ putT m k g, RowOk n p := by
  unfold putT
  split
  · intro p hp
    obtain ⟨q, hq, rfl⟩ := List.mem_map.mp hp
    by_cases e : q.1 = k
    · rw [if_pos e, e]
      exact h2
    · rw [if_neg e]
      exact h q hq
  · intro p hp
    rcases List.mem_append.mp hp with hp | hp
    · exact h p hp
    · rw [List.mem_singleton.mp hp]
      exact h2
/-- merging a dict into the empty one -/
theorem mrg_app : ∀ (m acc : List (Str × Str)), ((acc ++ m).map (·.1)).Nodup → mergeK (tk acc) (tk m) = tk (acc ++ m)
  | [], acc, _ => by rw [List.append_nil]; rfl
  | p :: m, acc, h => by
    have hf : p.1 ∉ acc.map (·.1) := fun hin => by
      rw [List.map_append, List.nodup_append] at h
      exact h.2.2 p.1 hin p.1 (List.mem_cons_self ..) rfl
    have e : mergeK (tk acc) (tk (p :: m)) = mergeK (putK (tk acc) (Sum.inr p.1) (.str p.2)) (tk m) := rfl
    rw [e, tk_snoc hf, mrg_app m (acc ++ [(p.1, p.2)]) (by rw [List.append_assoc]; exact h), List.append_assoc]
    rfl
theorem mrg_nil {m : List (Str × Str)} (h : (m.map (·.1)).Nodup) : mergeK [] (tk m) = tk m := mrg_app m [] h
structure TabOk (n : Int) (m : List (Str × Str)) : Prop where
  w0 : 1 ≤ n
  w1 : n ≤ 100
  rows : ∀ p ∈ m, RowOk n p
  nd : (m.map (·.1)).Nodup
  few : m.length ≤ 40
theorem init_go {C a dx b : Addr} {n : Int} {m : List (Str × Str)} {H : Hp} {Q : VK} {E : XK} (ha : H a = some (.ins C dx [])) (hb : H b = some (.dK (tk m))) (ok : TabOk n m) (k : ∀ H', (∀ c o, c ≠ a → H c = some o → H' c = some o) → TabAt C H' a n (srt m) → Q .non H') : spInit C [.ref a, .int n, .ref b] H Q E := by
  unfold spInit
  exact ⟨a, dx, n, b, m, rfl, ha, hb, ok.w0, ok.w1, ok.rows, ok.nd, ok.few, k⟩
theorem row_go {n : Int} {b : Addr} {p : Str × Str} {H : Hp} {Q : VK} {E : XK} (h0 : 1 ≤ n) (h1 : n ≤ 100) (hb : H b = some (.tup [.str p.1, .str p.2])) (hp : RowOk n p) (k : ∀ H', Same H H' → Q (.bl true) H') : spRow [.int n, .ref b] H Q E := by
  unfold spRow
  exact ⟨n, b, p, rfl, h0, h1, hb, hp, k⟩
@[irreducible] def spAdd (C : Addr) : Sp := fun vs H Q _ => ∃ (a t : Addr) (n : Int) (m : List (Str × Str)) (p : Str × Str), vs = [.ref a, .ref t] ∧ TabAt C H a n m ∧ H t = some (.tup [.str p.1, .str p.2]) ∧ TabOk n m ∧ RowOk n p ∧ (putT m p.1 p.2).length ≤ 40 ∧
  ∀ a' H', Same H H' → H a' = none → TabAt C H' a' n (srt (putT m p.1 p.2)) → Q (.ref a') H'
section
variable {P : Program} {w : World} {K : PySem.W.Frag} {mg : Str → Option Value} {base : Heap} {f C : Addr} {fd : FuncData}
theorem ok_add (F : Fun K "__add__" "Table.__add__" s_Table__add__ f fd) (hm : Meth K C "__add__" f) (T : Txt K mg) (TC : TabC K C) (c_is_row : Nm P w K mg base CX0 5 "is_row" s_is_row ["width", "value"] spRow)
    (b_Table : BndI P w K mg base CX0 6 "Table" C ["self", "width", "rows"] (spInit C) 2 [] (fun us _ => us)) : Mth P w K mg base CX0 8 C "__add__" "Table.__add__" s_Table__add__ ["self", "other"] (spAdd C) := by
  refine mth_of F hm sc_Table__add__ (fun vs H Q E h => ?_) fun cdv A outer s H vs Q E hr h => ?_
  · unfold spAdd at h
    obtain ⟨a, t, n, m, p, rfl, _⟩ := h
    rfl
  · unfold spAdd at h
    obtain ⟨a, t, n, m, p, rfl, ⟨dx, D, ha, hD, hne⟩, ht, ok, hp, hz, k⟩ := h
    refine ⟨_, (pss_cons (ps_if (pt_not (pt_val (pe_g c_is_row hr (by decide) L2.pass0 bp_is_row (by rfl) (pa_cons (pe_fld (pv 0) (by rfl)) (pa_cons (pv 1) pa_nil))))) (pss_one ps_never) pss_nil)
      (pss_one (ps_ret (pe_mk b_Table hr (by decide) L2.pass0 (by rfl) (pa_cons (pe_fld (pv 0) (by rfl)) (pa_cons (pe_star1 (pe_fld (pv 0) (by rfl)) (pe_ix (ix_seqK (K := K) rfl) (pv 1) pe_int (fun _ _ => rfl)) (pe_ix (ix_seqK (K := K) rfl) (pv 1) pe_int (fun _ _ => rfl))) pa_nil)) pk_nil)))), ?_⟩
    repeat walk_at "s1"
    refine ⟨a, C, dx, _, .int n, rfl, ha, TC.cl, TC.n1, rfl, ?_⟩
    refine ⟨_, rfl, ?_⟩
    refine row_go ok.w0 ok.w1 ht hp fun H1 sm1 => ?_
    refine ⟨_, rfl, ?_⟩
    refine iteF ?_
    have ha1 := sm1 _ _ ha
    have hD1 := sm1 _ _ hD
    have ht1 := sm1 _ _ ht
    refine ⟨_, rfl, ⟨a, C, dx, _, .int n, rfl, ha1, TC.cl, TC.n1, rfl, ?_⟩⟩
    intro d nd
    have had : a ≠ d := nonn nd ha1
    have hDd : D ≠ d := nonn nd hD1
    have htd : t ≠ d := nonn nd ht1
    refine ⟨_, rfl, ⟨a, C, dx, _, .ref D, rfl, updn had ha1, TC.cl, TC.n2, rfl, ?_⟩⟩
    refine ⟨D, tk m, rfl, Ne.symm hDd, upd_same, .inl (updn hDd hD1), fun e ne => ?_⟩
    have hde : d ≠ e := nonn ne upd_same
    have hte : t ≠ e := nonn ne (updn htd (updn htd ht1))
    have ht3 : upd (upd (upd H1 d (.dK [])) d (.dK (mergeK [] (tk m)))) e (.dK []) t = some (.tup [.str p.1, .str p.2]) := updn hte (updn htd (updn htd ht1))
    refine ⟨_, rfl, Or.inr (Or.inl ⟨t, [.str p.1, .str p.2], 0, .str p.1, rfl, rfl, SqT.of ht3, rfl, ?_⟩)⟩
    refine ⟨_, rfl, Or.inr (Or.inl ⟨t, [.str p.1, .str p.2], 1, .str p.2, rfl, rfl, SqT.of ht3, rfl, ?_⟩)⟩
    refine ⟨Sum.inr p.1, .str p.2, tk m, rfl, upd_same, ?_, ?_, ?_⟩
    · rw [upd_ne hde, upd_same, mrg_nil ok.nd]
    · rw [tk_len]
      have := ok.few
      exact szl (by omega)
    · refine ⟨rfl, rfl, fun x dx' hx hdx hxx => ?_⟩
      have up : ∀ c o, H c = some o → upd (upd (upd (upd (upd H1 d (.dK [])) d (.dK (mergeK [] (tk m)))) e (.dK [])) e (.dK [(Sum.inr p.1, .str p.2)])) d (.dK (putK (tk m) (Sum.inr p.1) (.str p.2))) c = some o := fun c o h0 => by
        have h1 := sm1 _ _ h0
        have hc := nonn nd h1
        have h2 := updn (o := .dK (mergeK [] (tk m))) hc (updn (o := .dK []) hc h1)
        have hce := nonn ne h2
        exact updn hc (updn hce (updn hce h2))
      have hdx2 : d ≠ x := nonn hx upd_same
      have hdd : d ≠ dx' := nonn hdx upd_same
      refine init_go upd_same (updn hdx2 (updn hdd (by rw [upd_same, tk_put]))) ⟨ok.w0, ok.w1, put_ok ok.rows hp, put_nodup ok.nd, hz⟩ fun H' kp tb => ⟨rfl, k x H' (fun c o h0 => ?_) ?_ tb⟩
      · have h1 := up c o h0
        have hcx := nonn hx h1
        exact kp c o hcx (updn hcx (updn (nonn hdx h1) h1))
      · cases hh : H x with
        | none => rfl
        | some o => exact absurd (up x o hh) (by rw [hx]; intro z; cases z)
end
theorem b_table {P : Program} {w : World} {K : PySem.W.Frag} {mg : Str → Option Value} {base : Heap} {f C : Addr} {fd : FuncData} (F : FunD K "__init__" "Table.__init__" (defArgs s_Tableinit) (defBody s_Tableinit) (defScope s_Tableinit) [.non] [] f fd) (M : Mk K C f) (hm : mg "Table" = some (.ref C))
    (ok : FnG P w K mg base CX0 6 f fd ["self", "width", "rows"] (spInit C)) : BndI P w K mg base CX0 6 "Table" C ["self", "width", "rows"] (spInit C) 2 [] (fun us _ => us) := by
  obtain ⟨its, hb⟩ := F.kbindsD (ps := ["self", "width", "rows"]) 3 [] (fun us _ _ => us) (by simp) (fun r _ _ => r) (fun T kV doc pm an cdv ct us its ws h1 h2 h3 => by
    match us, its, ws, h1, h2, h3 with
    | [a, b, c], [d], [], _, _, _ => exact ⟨_, rfl, rfl⟩)
  exact ⟨f, fd, _, M, hm, ok, hb⟩
open PySem PySem.Spec PyProof.Rows
open L2 hiding pass0
/-! ### the row of an address -/
def px (z : Str) (k : Nat) : Str := SX.S (z.cps.toList.take k)
theorem cut_px (z : Str) {d : Int} {k : Nat} (h : d = k) : cutS z none (some d) = px z k := by
  subst h
  show SX.S _ = SX.S _
  refine congrArg SX.S ?_
  show (z.cps.toList.drop 0).take (HT.sIx z.length z.length (some (k : Int)) - 0) = z.cps.toList.take k
  rw [HT.sIx_nat, List.drop_zero, Nat.sub_zero]
  have hl : z.cps.toList.length = z.length := Array.length_toList
  by_cases c : k ≤ z.length
  · rw [Nat.min_eq_left c]
  · rw [List.take_of_length_le (by omega), List.take_of_length_le (by omega)]
theorem px_len (z : Str) (k : Nat) : (px z k).length = min k z.length := by
  unfold px
  rw [SX.S_len, List.length_take, Array.length_toList]
  rfl
def look (m : List (Str × Str)) (k : Str) : Option Str := (m.find? fun p => decide (p.1 = k)).map (·.2)
theorem look_get (m : List (Str × Str)) (k : Str) : getT m k = (look m k).getD Str.empty := rfl
theorem look_key {m : List (Str × Str)} {k : Str} : (look m k).isSome = decide (k ∈ m.map (·.1)) := by
  unfold look
  rw [Option.isSome_map]
  by_cases h : k ∈ m.map (·.1)
  · rw [decide_eq_true h]
    obtain ⟨p, hp, e⟩ := List.mem_map.mp h
    exact List.find?_isSome.mpr ⟨p, hp, decide_eq_true e⟩
  · rw [decide_eq_false h]
    refine Option.isSome_eq_false_iff.mpr ?_
    rw [Option.isNone_iff_eq_none]
    exact List.find?_eq_none.mpr fun p hp e => h (List.mem_map.mpr ⟨p, hp, of_decide_eq_true e⟩)
/-- the longest beginning with fewer than so many signs that is told -/
def lbP (f : Str → Option Str) (z : Str) : Nat → Option Str
  | 0 => none
  | i + 1 => if (f (px z i)).isSome = true then some (px z i) else lbP f z i
theorem lbP_no {f : Str → Option Str} {z : Str} {i : Nat} (h : (f (px z i)).isSome = false) : lbP f z (i + 1) = lbP f z i := by
  show (if _ then _ else _) = _
  rw [h]
  rfl
theorem lbP_yes {f : Str → Option Str} {z : Str} {i : Nat} (h : (f (px z i)).isSome = true) : lbP f z (i + 1) = some (px z i) := by
  show (if _ then _ else _) = _
  rw [h]
  rfl
theorem lbP_some {f : Str → Option Str} {z x : Str} : ∀ {i : Nat}, lbP f z i = some x → (f x).isSome = true ∧ ∃ j, j < i ∧ x = px z j
  | i + 1, h => by
    by_cases c : (f (px z i)).isSome = true
    · rw [lbP_yes c] at h
      cases h
      exact ⟨c, i, Nat.lt_succ_self _, rfl⟩
    · rw [lbP_no (by simpa using c)] at h
      obtain ⟨a, j, hj, e⟩ := lbP_some h
      exact ⟨a, j, by omega, e⟩
def lb (f : Str → Option Str) (z : Str) : Option Str := lbP f z (z.length + 1)
def oV : Option Str → V
  | some x => .str x
  | none => .non
def goalT (f : Str → Option Str) (z : Str) : Str := match lb f z with
  | some x => (f x).getD Str.empty
  | none => "hole"
/-! ### what a changed table tells -/
theorem look_put (m : List (Str × Str)) (k g x : Str) : look (putT m k g) x = if x = k then some g else look m x := by
  unfold putT look
  split
  · rename_i h
    rw [List.find?_map, Option.map_map]
    have e : ((fun p : Str × Str => decide (p.1 = x)) ∘ fun p => if p.1 = k then (p.1, g) else p) = fun p => decide (p.1 = x) := by
      funext p
      by_cases q : p.1 = k <;> simp [q]
    rw [e]
    cases hf : m.find? (fun p => decide (p.1 = x)) with
    | none =>
      by_cases q : x = k
      · subst q
        obtain ⟨p, hp, e⟩ := List.any_eq_true.mp h
        exact absurd e (List.find?_eq_none.mp hf p hp)
      · rw [if_neg q]
        rfl
    | some p =>
      have e1 : p.1 = x := by simpa using List.find?_some hf
      by_cases q : x = k
      · rw [if_pos q]
        show some (if p.1 = k then (p.1, g) else p).2 = some g
        rw [if_pos (e1.trans q)]
      · rw [if_neg q]
        show some (if p.1 = k then (p.1, g) else p).2 = some p.2
        rw [if_neg (fun r => q (e1.symm.trans r))]
  · rename_i h
    rw [List.find?_append]
    by_cases q : x = k
    · subst q
      have e : m.find? (fun p => decide (p.1 = x)) = none := List.find?_eq_none.mpr fun p hp e => h (List.any_eq_true.mpr ⟨p, hp, e⟩)
      rw [e, if_pos rfl]
      simp
    · rw [if_neg q]
      have e : [(k, g)].find? (fun p => decide (p.1 = x)) = none := by
        simp [Ne.symm q]
      rw [e, Option.or_none]
theorem look_less (m : List (Str × Str)) (k x : Str) : look (m.filter fun p => !decide (p.1 = k)) x = if x = k then none else look m x := by
  unfold look
  rw [List.find?_filter]
  by_cases q : x = k
  · subst q
    rw [if_pos rfl, List.find?_eq_none.mpr]
    · rfl
    · intro p _
      simp
  · rw [if_neg q]
    congr 2
    funext p
    by_cases e : p.1 = x
    · simp [e, q]
    · simp [e]
theorem look_srt {m : List (Str × Str)} (k : Str) : look (srt m) k = look m k := by
  unfold look srt
  rw [List.find?_map, Option.map_map]
  show ((tsort (m.map (·.1))).find? (fun x => decide (x = k))).map (fun x => getT m x) = _
  by_cases h : k ∈ m.map (·.1)
  · have h2 : k ∈ tsort (m.map (·.1)) := (tsort_perm _).mem_iff.mpr h
    have e : (tsort (m.map (·.1))).find? (fun x => decide (x = k)) = some k := by
      cases hf : (tsort (m.map (·.1))).find? (fun x => decide (x = k)) with
      | none => exact absurd (decide_eq_true rfl) (List.find?_eq_none.mp hf k h2)
      | some y => rw [show y = k by simpa using List.find?_some hf]
    rw [e]
    show some (getT m k) = look m k
    have := look_key (m := m) (k := k)
    rw [decide_eq_true h] at this
    rw [look_get]
    cases hl : look m k with
    | none => rw [hl] at this; cases this
    | some v => rfl
  · have e : (tsort (m.map (·.1))).find? (fun x => decide (x = k)) = none := List.find?_eq_none.mpr fun x hx e => h (by rw [← of_decide_eq_true e]; exact (tsort_perm _).mem_iff.mp hx)
    have := look_key (m := m) (k := k)
    rw [decide_eq_false h] at this
    rw [e]
    show none = look m k
    cases hl : look m k with
    | none => rfl
    | some v => rw [hl] at this; cases this
theorem look_has (m : List (Str × Str)) (k : Str) : (valV (tk m) (Sum.inr k)).isSome = (look m k).isSome := by rw [tk_has, look_key]
@[irreducible] def spLong : Sp := fun vs H Q _ => ∃ (D : Addr) (z : Str) (m : List (Str × Str)), vs = [.ref D, .str z] ∧ H D = some (.dK (tk m)) ∧ z.length ≤ 1000 ∧ ∀ H', Same H H' → Q (oV (lb (look m) z)) H'
@[irreducible] def spRowOf (C : Addr) : Sp := fun vs H Q _ => ∃ (a : Addr) (n : Nat) (m : List (Str × Str)) (z : Str), vs = [.ref a, .str z] ∧ TabAt C H a n m ∧ 1 ≤ n ∧ n ≤ 100 ∧ Bits z ∧ z.length = n ∧ ∀ H', Same H H' → Q (oV (lb (look m) z)) H'
@[irreducible] def spCall (C : Addr) : Sp := fun vs H Q _ => ∃ (a : Addr) (n : Nat) (m : List (Str × Str)) (z : Str), vs = [.ref a, .str z] ∧ TabAt C H a n m ∧ 1 ≤ n ∧ n ≤ 100 ∧ Bits z ∧ z.length = n ∧ ∀ H', Same H H' → Q (.str (goalT (look m) z)) H'
theorem adr_ok {n : Nat} {z : Str} (hz : Bits z) (lz : z.length = n) : adrB n z = true := by
  show (bitsB z && decide ((z.length : Int) = n)) = true
  rw [bitsB_of hz, lz, decide_eq_true rfl]
  rfl
theorem long_go {D : Addr} {z : Str} {m : List (Str × Str)} {H : Hp} {Q : VK} {E : XK} (hD : H D = some (.dK (tk m))) (hz : z.length ≤ 1000) (k : ∀ H', Same H H' → Q (oV (lb (look m) z)) H') : spLong [.ref D, .str z] H Q E := by
  unfold spLong
  exact ⟨D, z, m, rfl, hD, hz, k⟩
theorem rowof_go {C a : Addr} {z : Str} {n : Nat} {m : List (Str × Str)} {H : Hp} {Q : VK} {E : XK} (ht : TabAt C H a n m) (h0 : 1 ≤ n) (h1 : n ≤ 100) (hz : Bits z) (lz : z.length = n) (k : ∀ H', Same H H' → Q (oV (lb (look m) z)) H') : spRowOf C [.ref a, .str z] H Q E := by
  unfold spRowOf
  exact ⟨a, n, m, z, rfl, ht, h0, h1, hz, lz, k⟩
theorem call_go {C a : Addr} {z : Str} {n : Nat} {m : List (Str × Str)} {H : Hp} {Q : VK} {E : XK} (ht : TabAt C H a n m) (h0 : 1 ≤ n) (h1 : n ≤ 100) (hz : Bits z) (lz : z.length = n) (k : ∀ H', Same H H' → Q (.str (goalT (look m) z)) H') : spCall C [.ref a, .str z] H Q E := by
  unfold spCall
  exact ⟨a, n, m, z, rfl, ht, h0, h1, hz, lz, k⟩
section
variable {P : Program} {w : World} {K : PySem.W.Frag} {mg : Str → Option Value} {base : Heap} {f C : Addr} {fd : FuncData}
theorem ok_long (F : Fun K "longest_beginning" "longest_beginning" s_longest_beginning f fd) (hm : mg "longest_beginning" = some (.ref f)) (T : Txt K mg) : Nm P w K mg base CX0 1 "longest_beginning" s_longest_beginning ["known", "bits"] (spLong) := by
  refine nm_of0 F hm sc_longest_beginning (fun vs H Q E h => ?_) fun cdv A outer s H vs Q E hr h => ?_
  · unfold spLong at h
    obtain ⟨D, z, m, rfl, hD, hz, k⟩ := h
    subst_vars
    rfl
  unfold spLong at h
  obtain ⟨D, z, m, rfl, hD, hz, k⟩ := h
  refine ⟨_, (pss_cons (ps_for PassesOwn.never rfl (pi_range3 (by rfl) T.b_range (pa_cons (pe_callB (call_lenK (K := K) rfl) (by rfl) T.b_len PySem.boot_len (pa_cons (pv 1) pa_nil)) (pa_cons (pe_un un_neg pe_int) (pa_cons (pe_un un_neg pe_int) pa_nil)))) (pg_name (i := 2) sc_longest_beginning.nd rfl (by first | exact Or.inl rfl | exact Or.inr rfl)) (pss_one (ps_if (pt_cmp (pc_din hr.u1 (pe_slice sl_str (pv 1) po_none (po_some (pv 2))) (pv 0))) (pss_one (ps_ret (pe_slice sl_str (pv 1) po_none (po_some (pv 2))))) pss_nil)))
      (pss_one (ps_ret pe_non))), ?_⟩
  have en : ((z.length : Int) - (-1)).toNat = z.length + 1 := by omega
  repeat walk_at "s1"
  refine ⟨_, _, _, _, rfl, RgC.neg (by omega) (by omega) (by omega) (by omega), ?_⟩
  rw [en]
  refine for_it walk_rangeC (fun i σ' H' => ∃ x2, σ' = [some (.ref D), some (.str z), x2] ∧ Same H H' ∧ lb (look m) z = lbP (look m) z (z.length + 1 - i)) ⟨_, rfl, Same.refl H, rfl⟩ (fun _ _ _ _ _ => trivial) ?_ ?_
  · rintro i x σ' H1 H2 hi ⟨x2, rfl, sm, hl⟩ ⟨rfl, rfl⟩
    repeat walk_at "s1"
    rw [cut_px z (k := z.length - i) (by omega)]
    refine ⟨D, _, rfl, .inl ⟨tk m, Sum.inr (px z (z.length - i)), .inl (sm _ _ hD), rfl, rfl⟩, ?_⟩
    rw [look_has]
    rw [show z.length + 1 - i = (z.length - i) + 1 by omega] at hl
    cases hc : (look m (px z (z.length - i))).isSome with
    | true =>
      rw [lbP_yes hc] at hl
      refine ⟨_, rfl, iteT ?_⟩
      repeat walk_at "s1"
      rw [cut_px z (k := z.length - i) (by omega)]
      have hk := k _ sm
      rw [hl] at hk
      exact hk
    | false =>
      rw [lbP_no hc] at hl
      refine ⟨_, rfl, iteF ?_⟩
      refine ⟨_, rfl, sm, ?_⟩
      rw [show z.length + 1 - (i + 1) = z.length - i by omega]
      exact hl
  · rintro σ' H1 ⟨x2, rfl, sm, hl⟩
    rw [Nat.sub_self] at hl
    have hk := k _ sm
    rw [hl] at hk
    exact hk
theorem ok_rowof (F : Fun K "row" "Table.row" s_Table_row f fd) (hm : Meth K C "row" f) (T : Txt K mg) (TC : TabC K C) (c_check_address : Nm P w K mg base CX0 6 "check_address" s_check_address ["width", "address"] (spCT adrB)) (c_longest_beginning : Nm P w K mg base CX0 1 "longest_beginning" s_longest_beginning ["known", "bits"] spLong) :
    Mth P w K mg base CX0 7 C "row" "Table.row" s_Table_row ["self", "address"] (spRowOf C) := by
  refine mth_of0 F hm sc_Table_row (fun vs H Q E h => ?_) fun cdv A outer s H vs Q E hr h => ?_
  · unfold spRowOf at h
    obtain ⟨a, n, m, z, rfl, _⟩ := h
    rfl
  · unfold spRowOf at h
    obtain ⟨a, n, m, z, rfl, ⟨dx, D, ha, hD, hne⟩, h0, h1, hz, lz, k⟩ := h
    refine ⟨_, (pss_cons (ps_expr (pe_g c_check_address hr (by decide) L2.pass0 bp_check_address (by rfl) (pa_cons (pe_fld (pv 0) (by rfl)) (pa_cons (pv 1) pa_nil))))
      (pss_one (ps_ret (pe_g c_longest_beginning hr (by decide) L2.pass0 bp_longest_beginning (by rfl) (pa_cons (pe_fld (pv 0) (by rfl)) (pa_cons (pv 1) pa_nil)))))), ?_⟩
    repeat walk_at "s1"
    refine ⟨a, C, dx, _, .int n, rfl, ha, TC.cl, TC.n1, rfl, ?_⟩
    repeat walk_at "s1"
    refine ct_go (by omega) (by omega) (by omega) (adr_ok hz lz) fun H1 sm1 => ?_
    refine ⟨_, rfl, ⟨a, C, dx, _, .ref D, rfl, sm1 _ _ ha, TC.cl, TC.n2, rfl, ?_⟩⟩
    repeat walk_at "s1"
    refine long_go (sm1 _ _ hD) (by omega) fun H2 sm2 => ?_
    exact k _ (sm1.trans sm2)
theorem ok_call (F : Fun K "__call__" "Table.__call__" s_Table__call__ f fd) (hm : Meth K C "__call__" f) (T : Txt K mg) (TC : TabC K C) (c_Table_row : Mth P w K mg base CX0 7 C "row" "Table.row" s_Table_row ["self", "address"] (spRowOf C)) :
    Mth P w K mg base CX0 8 C "__call__" "Table.__call__" s_Table__call__ ["self", "address"] (spCall C) := by
  refine mth_of0 F hm sc_Table__call__ (fun vs H Q E h => ?_) fun cdv A outer s H vs Q E hr h => ?_
  · unfold spCall at h
    obtain ⟨a, n, m, z, rfl, _⟩ := h
    rfl
  · unfold spCall at h
    obtain ⟨a, n, m, z, rfl, ⟨dx, D, ha, hD, hne⟩, h0, h1, hz, lz, k⟩ := h
    refine ⟨_, (pss_cons (ps_set (i := 2) sc_Table__call__.nd rfl (by first | exact Or.inl rfl | exact Or.inr rfl) (pe_m c_Table_row TC.cl hr (by decide) L2.pass0 bm_Table_row (pv 0) (pa_cons (pv 1) pa_nil)))
      (pss_cons (ps_if (pt_cmpR op_isN (pv 2) pe_non (nomark _)) (pss_one (ps_ret pe_str)) pss_nil)
      (pss_one (ps_ret (pe_dget hr.u1 (pe_fld (pv 0) (by rfl)) (pv 2) (fun _ _ => rfl)))))), ?_⟩
    refine ⟨_, rfl, ⟨⟨a, dx, _, rfl, ha, rfl⟩, ?_⟩⟩
    repeat walk_at "s1"
    refine rowof_go ⟨dx, D, ha, hD, hne⟩ h0 h1 hz lz fun H1 sm1 => ?_
    have ha1 := sm1 _ _ ha
    have hD1 := sm1 _ _ hD
    have hk := k _ sm1
    unfold goalT at hk
    cases hl : lb (look m) z with
    | none =>
      rw [hl] at hk
      repeat walk_at "s1"
      refine iteT ?_
      exact hk
    | some x =>
      rw [hl] at hk
      repeat walk_at "s1"
      refine ⟨a, C, dx, _, .ref D, rfl, ha1, TC.cl, TC.n2, rfl, ?_⟩
      have hx := (lbP_some hl).1
      rw [look_key] at hx
      refine ⟨_, rfl, ⟨D, .str (getT m x), rfl, .inl ⟨tk m, Sum.inr x, .inl hD1, rfl, (tk_val m (of_decide_eq_true hx)).symm⟩, ?_⟩⟩
      exact hk
end
open PySem PySem.Spec PyProof.Rows
open L2 hiding pass0
def lessT (m : List (Str × Str)) (k : Str) : List (Str × Str) := m.filter fun p => !decide (p.1 = k)
theorem less_sub (m : List (Str × Str)) (k : Str) : ((lessT m k).map (·.1)).Sublist (m.map (·.1)) := List.filter_sublist.map _
theorem TabOk.less {n : Int} {m : List (Str × Str)} (ok : TabOk n m) (k : Str) : TabOk n (lessT m k) :=
  ⟨ok.w0, ok.w1, fun p hp => ok.rows p ((List.mem_filter.mp hp).1), (less_sub m k).nodup ok.nd, Nat.le_trans (List.length_filter_le _ _) ok.few⟩
@[irreducible] def spSub (C : Addr) : Sp := fun vs H Q _ => ∃ (a : Addr) (n : Int) (m : List (Str × Str)) (z : Str), vs = [.ref a, .str z] ∧ TabAt C H a n m ∧ TabOk n m ∧ z ∈ m.map (·.1) ∧
  ∀ a' H', Same H H' → H a' = none → TabAt C H' a' n (srt (lessT m z)) → Q (.ref a') H'
theorem sub_go {C a : Addr} {n : Int} {z : Str} {m : List (Str × Str)} {H : Hp} {Q : VK} {E : XK} (ht : TabAt C H a n m) (ok : TabOk n m) (hz : z ∈ m.map (·.1)) (k : ∀ a' H', Same H H' → H a' = none → TabAt C H' a' n (srt (lessT m z)) → Q (.ref a') H') : spSub C [.ref a, .str z] H Q E := by
  unfold spSub
  exact ⟨a, n, m, z, rfl, ht, ok, hz, k⟩
theorem has_go {C a : Addr} {n : Int} {z : Str} {m : List (Str × Str)} {H : Hp} {Q : VK} {E : XK} (ht : TabAt C H a n m) (k : Q (.bl (decide (z ∈ m.map (·.1)))) H) : spHas C [.ref a, .str z] H Q E := by
  unfold spHas
  exact ⟨a, n, m, z, rfl, ht, k⟩
section
variable {P : Program} {w : World} {K : PySem.W.Frag} {mg : Str → Option Value} {base : Heap} {f C : Addr} {fd : FuncData}
theorem ok_sub (F : Fun K "__sub__" "Table.__sub__" s_Table__sub__ f fd) (hm : Meth K C "__sub__" f) (T : Txt K mg) (TC : TabC K C) (c_Table__contains__ : Mth P w K mg base CX0 1 C "__contains__" "Table.__contains__" s_Table__contains__ ["self", "x"] (spHas C))
    (b_Table : BndI P w K mg base CX0 6 "Table" C ["self", "width", "rows"] (spInit C) 2 [] (fun us _ => us)) : Mth P w K mg base CX0 8 C "__sub__" "Table.__sub__" s_Table__sub__ ["self", "other"] (spSub C) := by
  refine mth_of F hm sc_Table__sub__ (fun vs H Q E h => ?_) fun cdv A outer s H vs Q E hr h => ?_
  · unfold spSub at h
    obtain ⟨a, n, m, z, rfl, _⟩ := h
    rfl
  · unfold spSub at h
    obtain ⟨a, n, m, z, rfl, ⟨dx, D, ha, hD, hne⟩, ok, hz, k⟩ := h
    refine ⟨_, (pss_cons (ps_if (pt_cmpR (op_notInO c_Table__contains__ hr (by decide) L2.pass0 bm_Table__contains__) (pv 1) (pv 0) (by rfl)) (pss_one ps_never) pss_nil)
      (pss_one (ps_ret (pe_mk b_Table hr (by decide) L2.pass0 (by rfl) (pa_cons (pe_fld (pv 0) (by rfl)) (pa_cons (pe_lock (pe_dc (own := [("stretch", 2), ("goal", 3)]) (g := (gTup K 2 (gCons (gName 2) (gCons (gName 3) gNil)))) (by rfl) sc_Table__sub__.nd (pi_items (pe_fld (pv 0) (by rfl))) (blkOk_by (own := [("stretch", 2), ("goal", 3)]) (N := ["self", "other", "stretch", "goal"]) (sc := defScope s_Table__sub__) (by decide +kernel)) (fun _ _ _ _ _ => (pg_tup (by rfl) (pgs_cons (pg_name (i := 2) sc_Table__sub__.nd rfl (by first | exact Or.inl rfl | exact Or.inr rfl)) (pgs_cons (pg_name (i := 3) sc_Table__sub__.nd rfl (by first | exact Or.inl rfl | exact Or.inr rfl)) pgs_nil)))) (fun _ _ _ _ _ => (pts_one (pt_cmpR op_ne (pv 2) (pv 1) (nomark _)))) (fun _ _ _ _ _ => (pv 2)) (fun _ _ _ _ _ => (pv 3)))) pa_nil)) pk_nil)))), ?_⟩
    repeat walk_at "s1"
    refine ⟨⟨a, dx, _, rfl, ha⟩, ?_⟩
    refine has_go ⟨dx, D, ha, hD, hne⟩ ?_
    rw [decide_eq_true hz]
    refine ⟨_, rfl, ?_⟩
    refine ⟨_, rfl, ?_⟩
    refine iteF ?_
    repeat walk_at "s1"
    refine ⟨a, C, dx, _, .int n, rfl, ha, TC.cl, TC.n1, rfl, ?_⟩
    show ∃ d u, _
    refine ⟨D, _, hD, trivial, fun od => ?_⟩
    have haD : a ≠ D := Ne.symm hne
    refine ⟨_, rfl, ⟨a, C, dx, _, .ref D, rfl, updn haD ha, TC.cl, TC.n2, rfl, ?_⟩⟩
    refine ⟨D, od, _, rfl, upd_same, fun B nB => ?_⟩
    have hBD : B ≠ D := fun z => by rw [z, upd_same] at nB; cases nB
    have hm40 := ok.few
    refine dc_it walk_items (fun i H1 => H1 B = some (.dK (tk (lessT (m.take i) z))) ∧ Same (upd H D (.frz od (.dK (tk m)))) H1) ⟨upd_same, fun c o e => updn (nonn nB e) e⟩ (fun _ H1 _ h => h.2 _ _ upd_same) ?_ ?_
    · rintro i x H1 H2 hi ⟨hB, sm⟩ ⟨t, x1, x2, rfl, nt, rfl, e1, e2⟩
      obtain ⟨p, hm1, rfl, rfl⟩ : ∃ p, m[i]? = some p ∧ x1 = .str p.1 ∧ x2 = .str p.2 := by
        dsimp only at e1 e2
        unfold tk at e1 e2
        rw [List.getElem?_map] at e1 e2
        cases hx : m[i]? with
        | none => rw [hx] at e1; cases e1
        | some p =>
          rw [hx] at e1 e2
          exact ⟨p, rfl, (Option.some.inj e1).symm, (Option.some.inj e2).symm⟩
      have nBt : B ≠ t := nonn nt hB
      have smt : Same (upd H D (.frz od (.dK (tk m)))) (upd H1 t (.tup [.str p.1, .str p.2])) := fun c o e => updn (nonn nt (sm c o e)) (sm c o e)
      have hBt : upd H1 t (.tup [.str p.1, .str p.2]) B = some (.dK (tk (lessT (m.take i) z))) := updn nBt hB
      refine ⟨t, [.str p.1, .str p.2], rfl, SqT.of upd_same, rfl, ?_⟩
      refine ⟨_, _, rfl, ?_⟩
      refine ⟨_, _, rfl, ?_⟩
      refine ⟨rfl, rfl, ?_⟩
      have etk : lessT (m.take (i + 1)) z = lessT (m.take i) z ++ (if p.1 = z then [] else [p]) := by
        rw [List.take_add_one, hm1]
        unfold lessT
        rw [List.filter_append]
        congr 1
        by_cases q : p.1 = z <;> simp [q]
      repeat walk_at "s1"
      refine ite2 (fun hq => ?_) fun hq => ?_
      · have q : ¬ p.1 = z := fun q => by simp [q] at hq
        rw [if_neg q] at etk
        have hnew : p.1 ∉ (lessT (m.take i) z).map (·.1) := by
          intro hin
          have h1 : p.1 ∈ (m.take i).map (·.1) := (less_sub _ _).subset hin
          have hn : ((m.take (i + 1)).map (·.1)).Nodup := ((List.take_sublist _ _).map _).nodup ok.nd
          rw [List.take_add_one, hm1, List.map_append] at hn
          exact (List.nodup_append.mp hn).2.2 p.1 h1 p.1 (List.mem_singleton.mpr rfl) rfl
        have hl : (tk (lessT (m.take i) z)).length ≤ 40 := by
          rw [tk_len]
          refine Nat.le_trans (List.length_filter_le _ _) ?_
          rw [List.length_take]
          omega
        refine ⟨_, rfl, ⟨_, rfl, ⟨_, Sum.inr p.1, rfl, hBt, szt (by omega), ?_, fun c o e => updn (nonn nB e) (smt c o e)⟩⟩⟩
        rw [upd_same, tk_snoc hnew, etk]
      · have q : p.1 = z := by
          refine Decidable.byContradiction fun q => hq ?_
          simp [q]
        rw [if_pos q, List.append_nil] at etk
        rw [etk]
        exact ⟨hBt, smt⟩
    · rintro H1 ⟨hB, sm⟩
      rw [tk_len, List.take_length] at hB
      refine ⟨sm _ _ upd_same, ?_⟩
      refine ⟨rfl, rfl, fun x dx' hx hdx hxx => ?_⟩
      have up : ∀ c o, H c = some o → upd H1 D (.dK (tk m)) c = some o := fun c o h0 => by
        by_cases q : c = D
        · rw [q] at h0 ⊢
          rw [hD] at h0
          rw [upd_same]
          exact h0
        · exact updn q (sm c o (updn q h0))
      have hB' : upd H1 D (.dK (tk m)) B = some (.dK (tk (lessT m z))) := updn hBD hB
      have hBx : B ≠ x := nonn hx hB'
      have hBd : B ≠ dx' := nonn hdx hB'
      refine init_go upd_same (updn hBx (updn hBd hB')) (ok.less z) fun H' kp tb => ⟨rfl, k x H' (fun c o h0 => ?_) ?_ tb⟩
      · have h1 := up c o h0
        have hcx := nonn hx h1
        exact kp c o hcx (updn hcx (updn (nonn hdx h1) h1))
      · cases hh : H x with
        | none => rfl
        | some o => exact absurd (up x o hh) (by rw [hx]; intro z; cases z)
end
open PySem PySem.Spec PyProof.Rows
open L2 hiding pass0
theorem RoomG.u0 {k : Nat} {A : Around} (x : RoomG k A) : A.units < cLine := by have := x.u1; omega
theorem fns_tuple_add : fillsNumberSlot (.type "tuple") (Operator.info .Add).2 = pure false := by
  unfold fillsNumberSlot
  simp only [typeLookup_type, builtinLookup_eq_fast]
  kernel_rfl
theorem fns_str_sub : fillsNumberSlot (.type "str") (Operator.info .Sub).2 = pure false := by
  unfold fillsNumberSlot
  simp only [typeLookup_type, builtinLookup_eq_fast]
  kernel_rfl
def mrgT (m r : List (Str × Str)) : List (Str × Str) := r.foldl (fun acc q => putT acc q.1 q.2) m
theorem mrgT_tk : ∀ (r m : List (Str × Str)), mergeK (tk m) (tk r) = tk (mrgT m r)
  | [], _ => rfl
  | q :: r, m => by
    have e : mergeK (tk m) (tk (q :: r)) = mergeK (putK (tk m) (Sum.inr q.1) (.str q.2)) (tk r) := rfl
    rw [e, tk_put, mrgT_tk r]
    rfl
theorem mrgT_ok {n : Int} : ∀ {r m : List (Str × Str)}, (∀ p ∈ m, RowOk n p) → (∀ p ∈ r, RowOk n p) → ∀ p ∈ mrgT m r, RowOk n p
  | [], _, h, _ => h
  | q :: r, m, h, h2 => mrgT_ok (r := r) (put_ok h (h2 q List.mem_cons_self)) fun p hp => h2 p (List.mem_cons_of_mem _ hp)
theorem mrgT_nd : ∀ {r m : List (Str × Str)}, (m.map (·.1)).Nodup → ((mrgT m r).map (·.1)).Nodup
  | [], _, h => h
  | q :: r, m, h => mrgT_nd (r := r) (put_nodup h)
theorem look_mrg : ∀ (r m : List (Str × Str)) (x : Str), (r.map (·.1)).Nodup → look (mrgT m r) x = (look r x).or (look m x)
  | [], m, x, _ => rfl
  | q :: r, m, x, h => by
    have hn := List.nodup_cons.mp h
    have e : mrgT m (q :: r) = mrgT (putT m q.1 q.2) r := rfl
    rw [e, look_mrg r _ x hn.2, look_put]
    by_cases c : x = q.1
    · subst c
      have hz : look r q.1 = none := by
        have := look_key (m := r) (k := q.1)
        rw [decide_eq_false hn.1] at this
        cases hl : look r q.1 with
        | none => rfl
        | some v => rw [hl] at this; cases this
      rw [hz, if_pos rfl]
      unfold look
      rw [List.find?_cons_of_pos (by simp)]
      rfl
    · rw [if_neg c]
      have e2 : look (q :: r) x = look r x := by
        unfold look
        rw [List.find?_cons_of_neg (by simpa using Ne.symm c)]
      rw [e2]
@[irreducible] def spSame : Sp := fun vs H Q _ => ∃ n : Int, vs = [.int n, .int n] ∧ Q .non H
@[irreducible] def spOr (C : Addr) : Sp := fun vs H Q _ => ∃ (a b : Addr) (n : Int) (m r : List (Str × Str)), vs = [.ref a, .ref b] ∧ TabAt C H a n m ∧ TabAt C H b n r ∧ TabOk n m ∧ TabOk n r ∧ (mrgT m r).length ≤ 40 ∧
  ∀ a' H', Same H H' → H a' = none → TabAt C H' a' n (srt (mrgT m r)) → Q (.ref a') H'
def eqB (n1 : Int) (m1 : List (Str × Str)) (n2 : Int) (m2 : List (Str × Str)) : Bool := decide (n1 = n2) && (m1.length == m2.length && allEq (tk m1) (tk m2))
@[irreducible] def spEq (C : Addr) : Sp := fun vs H Q _ => ∃ (a b : Addr) (n1 n2 : Int) (m1 m2 : List (Str × Str)), vs = [.ref a, .ref b] ∧ TabAt C H a n1 m1 ∧ TabAt C H b n2 m2 ∧ Q (.bl (eqB n1 m1 n2 m2)) H
theorem same_go {n : Int} {H : Hp} {Q : VK} {E : XK} (k : Q .non H) : spSame [.int n, .int n] H Q E := by
  unfold spSame
  exact ⟨n, rfl, k⟩
theorem tk_flat (m : List (Str × Str)) : ∀ p ∈ tk m, flatV p.2 = true := fun p hp => by
  obtain ⟨q, _, rfl⟩ := List.mem_map.mp hp
  rfl
section
variable {P : Program} {w : World} {K : PySem.W.Frag} {mg : Str → Option Value} {base : Heap} {f C p0 : Addr} {fd : FuncData}
theorem ok_width (F : Fun K "width" "Table.width" s_Table_width f fd) (hp : PropOf K C "width" p0 f) (T : Txt K mg) (TC : TabC K C) : Prp P w K mg base CX0 1 C "width" "Table.width" s_Table_width ["self"] (spWidth C) := by
  refine prp_of F hp sc_Table_width (fun vs H Q E h => ?_) fun cdv A outer s H vs Q E hr h => ?_
  · unfold spWidth at h
    obtain ⟨a, n, m, rfl, _⟩ := h
    rfl
  · unfold spWidth at h
    obtain ⟨a, n, m, rfl, ⟨dx, D, ha, hD, hne⟩, k⟩ := h
    refine ⟨_, (pss_one (ps_ret (pe_fld (pv 0) (by rfl)))), ?_⟩
    exact ⟨_, rfl, ⟨a, C, dx, _, .int n, rfl, ha, TC.cl, TC.n1, rfl, k⟩⟩
theorem ok_trows (F : Fun K "rows" "Table.rows" s_Table_rows f fd) (hm : Meth K C "rows" f) (T : Txt K mg) (TC : TabC K C) : Mth P w K mg base CX0 1 C "rows" "Table.rows" s_Table_rows ["self"] (spTRows C) := by
  refine mth_of F hm sc_Table_rows (fun vs H Q E h => ?_) fun cdv A outer s H vs Q E hr h => ?_
  · unfold spTRows at h
    obtain ⟨a, n, m, rfl, _⟩ := h
    rfl
  · unfold spTRows at h
    obtain ⟨a, n, m, rfl, ⟨dx, D, ha, hD, hne⟩, k⟩ := h
    refine ⟨_, (pss_one (ps_ret (pe_callTy call_dictD (by rfl) T.b_dict (by decide +kernel) (pa_cons (pe_fld (pv 0) (by rfl)) pa_nil)))), ?_⟩
    refine ⟨_, rfl, ⟨a, C, dx, _, .ref D, rfl, ha, TC.cl, TC.n2, rfl, ?_⟩⟩
    exact ⟨D, tk m, rfl, .inl hD, k⟩
theorem ok_radd (F : Fun K "__radd__" "Table.__radd__" s_Table__radd__ f fd) (hm : Meth K C "__radd__" f) (T : Txt K mg) (TC : TabC K C) (c_Table__add__ : Mth P w K mg base CX0 8 C "__add__" "Table.__add__" s_Table__add__ ["self", "other"] (spAdd C)) :
    Mth P w K mg base CX0 9 C "__radd__" "Table.__radd__" s_Table__radd__ ["self", "other"] (spAdd C) := by
  refine mth_of F hm sc_Table__radd__ (fun vs H Q E h => ?_) fun cdv A outer s H vs Q E hr h => ?_
  · unfold spAdd at h
    obtain ⟨a, t, n, m, p, rfl, _⟩ := h
    rfl
  · unfold spAdd at h
    obtain ⟨a, t, n, m, p, rfl, ⟨dx, D, ha, hD, hne⟩, ht, hr0⟩ := h
    have h' : spAdd C [.ref a, .ref t] H Q E0 := by
      unfold spAdd
      exact ⟨a, t, n, m, p, rfl, ⟨dx, D, ha, hD, hne⟩, ht, hr0⟩
    refine ⟨_, (pss_one (ps_ret (pe_op (op_binL (op := .Add) (T := "tuple") c_Table__add__ TC.sf hr (by decide) L2.pass0 bm_Table__add__ fns_tuple_add) (pv 0) (pv 1)))), ?_⟩
    repeat walk_at "s1"
    exact ⟨⟨a, dx, _, rfl, ha⟩, Or.inr ⟨rfl, _, _, rfl, ht⟩, h'⟩
theorem ok_same (F : Fun K "check_same_width" "check_same_width" s_check_same_width f fd) (hm : mg "check_same_width" = some (.ref f)) (T : Txt K mg) : Nm P w K mg base CX0 1 "check_same_width" s_check_same_width ["one", "other"] (spSame) := by
  refine nm_of F hm sc_check_same_width (fun vs H Q E h => ?_) fun cdv A outer s H vs Q E hr h => ?_
  · unfold spSame at h
    obtain ⟨n, rfl, k⟩ := h
    subst_vars
    rfl
  unfold spSame at h
  obtain ⟨n, rfl, k⟩ := h
  refine ⟨_, (pss_one (ps_if (pt_cmpR op_ne (pv 0) (pv 1) (nomark _)) (pss_one ps_never) pss_nil)), ?_⟩
  refine ⟨_, rfl, ⟨_, rfl, ⟨rfl, ?_⟩⟩⟩
  refine ⟨_, rfl, ?_⟩
  rw [decide_eq_true rfl]
  exact iteF k
theorem ok_or (F : Fun K "__or__" "Table.__or__" s_Table__or__ f fd) (hm : Meth K C "__or__" f) (T : Txt K mg) (TC : TabC K C) (c_check_same_width : Nm P w K mg base CX0 1 "check_same_width" s_check_same_width ["one", "other"] spSame)
    (b_Table : BndI P w K mg base CX0 6 "Table" C ["self", "width", "rows"] (spInit C) 2 [] (fun us _ => us)) : Mth P w K mg base CX0 8 C "__or__" "Table.__or__" s_Table__or__ ["self", "other"] (spOr C) := by
  refine mth_of F hm sc_Table__or__ (fun vs H Q E h => ?_) fun cdv A outer s H vs Q E hr h => ?_
  · unfold spOr at h
    obtain ⟨a, b, n, m, r, rfl, _⟩ := h
    rfl
  · unfold spOr at h
    obtain ⟨a, b, n, m, r, rfl, ⟨dx, D, ha, hD, hne⟩, ⟨dy, D2, hb, hD2, hne2⟩, ok1, ok2, hz, k⟩ := h
    refine ⟨_, (pss_cons (ps_expr (pe_g c_check_same_width hr (by decide) L2.pass0 bp_check_same_width (by rfl) (pa_cons (pe_fld (pv 0) (by rfl)) (pa_cons (pe_fld (pv 1) (by rfl)) pa_nil))))
      (pss_one (ps_ret (pe_mk b_Table hr (by decide) L2.pass0 (by rfl) (pa_cons (pe_fld (pv 0) (by rfl)) (pa_cons (pe_star2 (pe_fld (pv 0) (by rfl)) (pe_fld (pv 1) (by rfl))) pa_nil)) pk_nil)))), ?_⟩
    refine ⟨_, rfl, ⟨a, C, dx, _, .int n, rfl, ha, TC.cl, TC.n1, rfl, ?_⟩⟩
    refine ⟨_, rfl, ⟨b, C, dy, _, .int n, rfl, hb, TC.cl, TC.n1, rfl, ?_⟩⟩
    refine same_go ?_
    refine ⟨_, rfl, ⟨a, C, dx, _, .int n, rfl, ha, TC.cl, TC.n1, rfl, ?_⟩⟩
    intro d nd
    have had : a ≠ d := nonn nd ha
    have hDd : D ≠ d := nonn nd hD
    have hbd : b ≠ d := nonn nd hb
    have hD2d : D2 ≠ d := nonn nd hD2
    refine ⟨_, rfl, ⟨a, C, dx, _, .ref D, rfl, updn had ha, TC.cl, TC.n2, rfl, ?_⟩⟩
    refine ⟨D, tk m, rfl, Ne.symm hDd, upd_same, .inl (updn hDd hD), ?_⟩
    refine ⟨_, rfl, ⟨b, C, dy, _, .ref D2, rfl, updn hbd (updn hbd hb), TC.cl, TC.n2, rfl, ?_⟩⟩
    refine ⟨D2, tk m, tk r, rfl, Ne.symm hD2d, by rw [upd_same, mrg_nil ok1.nd], .inl (updn hD2d (updn hD2d hD2)), szl (by rw [tk_len, tk_len]; have := ok1.few; have := ok2.few; omega), ?_⟩
    rw [mrgT_tk]
    refine ⟨rfl, rfl, fun x dx' hx hdx hxx => ?_⟩
    have up : ∀ c o, H c = some o → upd (upd (upd H d (.dK [])) d (.dK (mergeK [] (tk m)))) d (.dK (tk (mrgT m r))) c = some o := fun c o h0 => by
      have hc := nonn nd h0
      exact updn hc (updn hc (updn hc h0))
    have hd3 : upd (upd (upd H d (.dK [])) d (.dK (mergeK [] (tk m)))) d (.dK (tk (mrgT m r))) d = some (.dK (tk (mrgT m r))) := upd_same
    have hdx2 : d ≠ x := nonn hx hd3
    have hdd : d ≠ dx' := nonn hdx hd3
    refine init_go upd_same (updn hdx2 (updn hdd hd3)) ⟨ok1.w0, ok1.w1, mrgT_ok ok1.rows ok2.rows, mrgT_nd ok1.nd, hz⟩ fun H' kp tb => ⟨rfl, k x H' (fun c o h0 => ?_) ?_ tb⟩
    · have h1 := up c o h0
      have hcx := nonn hx h1
      exact kp c o hcx (updn hcx (updn (nonn hdx h1) h1))
    · cases hh : H x with
      | none => rfl
      | some o => exact absurd (up x o hh) (by rw [hx]; intro z; cases z)
theorem ok_eq (F : Fun K "__eq__" "Table.__eq__" s_Table__eq__ f fd) (hm : Meth K C "__eq__" f) (T : Txt K mg) (TC : TabC K C) (IC : C8.InsC K C) (gC : ∃ u, mg "Table" = some u ∧ RelV (.ref C) u) : Mth P w K mg base CX0 1 C "__eq__" "Table.__eq__" s_Table__eq__ ["self", "other"] (spEq C) := by
  refine mth_of F hm sc_Table__eq__ (fun vs H Q E h => ?_) fun cdv A outer s H vs Q E hr h => ?_
  · unfold spEq at h
    obtain ⟨a, b, n1, n2, m1, m2, rfl, _⟩ := h
    rfl
  · unfold spEq at h
    obtain ⟨a, b, n1, n2, m1, m2, rfl, ⟨dx, D, ha, hD, hne⟩, ⟨dy, D2, hb, hD2, hne2⟩, k⟩ := h
    refine ⟨_, (pss_one (ps_ret (pe_and (pe_callB (C8.call_isC IC) (by rfl) T.b_isinstance (by decide +kernel) (pa_cons (pv 1) (pa_cons (C8.pe_gc (by rfl) gC) pa_nil))) (pe_and (pe_cmpR op_eq (pe_fld (pv 0) (by rfl)) (pe_fld (pv 1) (by rfl)) (nomark _)) (pe_one (pe_cmpR (op_eq_dictT hr.u0) (pe_fld (pv 0) (by rfl)) (pe_fld (pv 1) (by rfl)) (nomark _))))))), ?_⟩
    refine ⟨_, rfl, ⟨b, dy, _, rfl, hb, ?_⟩⟩
    refine ⟨_, rfl, iteT ?_⟩
    refine ⟨_, rfl, ⟨a, C, dx, _, .int n1, rfl, ha, TC.cl, TC.n1, rfl, ?_⟩⟩
    refine ⟨_, rfl, ⟨b, C, dy, _, .int n2, rfl, hb, TC.cl, TC.n1, rfl, ?_⟩⟩
    refine ⟨rfl, ?_⟩
    unfold eqB at k
    by_cases q : n1 = n2
    · rw [decide_eq_true q, Bool.true_and] at k
      rw [decide_eq_true (show V.int n1 = V.int n2 from congrArg V.int q)]
      refine ⟨_, rfl, iteT ?_⟩
      refine ⟨_, rfl, ⟨a, C, dx, _, .ref D, rfl, ha, TC.cl, TC.n2, rfl, ?_⟩⟩
      refine ⟨_, rfl, ⟨b, C, dy, _, .ref D2, rfl, hb, TC.cl, TC.n2, rfl, ?_⟩⟩
      refine ⟨D, D2, tk m1, tk m2, rfl, rfl, hD, hD2, tk_flat m1, tk_flat m2, ?_⟩
      rw [tk_len, tk_len]
      exact k
    · rw [decide_eq_false q, Bool.false_and] at k
      rw [decide_eq_false (fun e : V.int n1 = V.int n2 => q (V.int.inj e))]
      exact ⟨_, rfl, iteF k⟩
end
open PySem PySem.Spec PyProof.Rows
open L2 hiding pass0
theorem val_look (m : List (Str × Str)) (k : Str) : valV (tk m) (Sum.inr k) = (look m k).map V.str := by
  by_cases h : k ∈ m.map (·.1)
  · rw [tk_val m h, look_get]
    have := look_key (m := m) (k := k)
    rw [decide_eq_true h] at this
    cases hl : look m k with
    | none => rw [hl] at this; cases this
    | some v => rfl
  · rw [tk_none m h]
    have := look_key (m := m) (k := k)
    rw [decide_eq_false h] at this
    cases hl : look m k with
    | none => rfl
    | some v => rw [hl] at this; cases this
def leB (n1 : Int) (m1 : List (Str × Str)) (n2 : Int) (m2 : List (Str × Str)) : Bool := decide (n1 = n2) && m1.all fun p => decide (look m2 p.1 = some p.2)
@[irreducible] def spLe (C : Addr) : Sp := fun vs H Q _ => ∃ (a b : Addr) (n1 n2 : Int) (m1 m2 : List (Str × Str)), vs = [.ref a, .ref b] ∧ TabAt C H a n1 m1 ∧ TabAt C H b n2 m2 ∧ m1.length ≤ 1000 ∧ ∀ H', Same H H' → Q (.bl (leB n1 m1 n2 m2)) H'
@[irreducible] def spGe (C : Addr) : Sp := fun vs H Q _ => ∃ (a b : Addr) (n1 n2 : Int) (m1 m2 : List (Str × Str)), vs = [.ref a, .ref b] ∧ TabAt C H a n1 m1 ∧ TabAt C H b n2 m2 ∧ m2.length ≤ 1000 ∧ ∀ H', Same H H' → Q (.bl (leB n2 m2 n1 m1)) H'
theorem le_go {C a b : Addr} {n1 n2 : Int} {m1 m2 : List (Str × Str)} {H : Hp} {Q : VK} {E : XK} (h1 : TabAt C H a n1 m1) (h2 : TabAt C H b n2 m2) (l : m1.length ≤ 1000) (k : ∀ H', Same H H' → Q (.bl (leB n1 m1 n2 m2)) H') : spLe C [.ref a, .ref b] H Q E := by
  unfold spLe
  exact ⟨a, b, n1, n2, m1, m2, rfl, h1, h2, l, k⟩
theorem ge_go {C a b : Addr} {n1 n2 : Int} {m1 m2 : List (Str × Str)} {H : Hp} {Q : VK} {E : XK} (h1 : TabAt C H a n1 m1) (h2 : TabAt C H b n2 m2) (l : m2.length ≤ 1000) (k : ∀ H', Same H H' → Q (.bl (leB n2 m2 n1 m1)) H') : spGe C [.ref a, .ref b] H Q E := by
  unfold spGe
  exact ⟨a, b, n1, n2, m1, m2, rfl, h1, h2, l, k⟩
theorem eq_go {C a b : Addr} {n1 n2 : Int} {m1 m2 : List (Str × Str)} {H : Hp} {Q : VK} {E : XK} (h1 : TabAt C H a n1 m1) (h2 : TabAt C H b n2 m2) (k : Q (.bl (eqB n1 m1 n2 m2)) H) : spEq C [.ref a, .ref b] H Q E := by
  unfold spEq
  exact ⟨a, b, n1, n2, m1, m2, rfl, h1, h2, k⟩
section
variable {P : Program} {w : World} {K : PySem.W.Frag} {mg : Str → Option Value} {base : Heap} {f C p0 : Addr} {fd : FuncData}
theorem ok_le (F : Fun K "__le__" "Table.__le__" s_Table__le__ f fd) (hm : Meth K C "__le__" f) (T : Txt K mg) (TC : TabC K C) (IC : C8.InsC K C) (gC : ∃ u, mg "Table" = some u ∧ RelV (.ref C) u) : Mth P w K mg base CX0 1 C "__le__" "Table.__le__" s_Table__le__ ["self", "other"] (spLe C) := by
  refine mth_of0 F hm sc_Table__le__ (fun vs H Q E h => ?_) fun cdv A outer s H vs Q E hr h => ?_
  · unfold spLe at h
    obtain ⟨a, b, n1, n2, m1, m2, rfl, _⟩ := h
    rfl
  · unfold spLe at h
    obtain ⟨a, b, n1, n2, m1, m2, rfl, ⟨dx, D, ha, hD, hne⟩, ⟨dy, D2, hb, hD2, hne2⟩, hl, k⟩ := h
    refine ⟨_, (pss_cons (ps_if (pt_not (pt_val (pe_callB (C8.call_isC IC) (by rfl) T.b_isinstance (by decide +kernel) (pa_cons (pv 1) (pa_cons (C8.pe_gc (by rfl) gC) pa_nil))))) (pss_one (ps_never)) pss_nil)
      (pss_cons (ps_if (pt_cmpR op_ne (pe_fld (pv 0) (by rfl)) (pe_fld (pv 1) (by rfl)) (nomark _)) (pss_one (ps_ret pe_bl)) pss_nil)
      (pss_one (ps_ret (pe_callB (call_allK (K := K) rfl rfl) (by rfl) T.b_all (by decide +kernel) (pa_cons (pe_lock (pe_lc (own := [("stretch", 2), ("goal", 3)]) (g := (gTup K 2 (gCons (gName 2) (gCons (gName 3) gNil)))) (by rfl) sc_Table__le__.nd (pi_items (pe_fld (pv 0) (by rfl))) (blkOk_by (own := [("stretch", 2), ("goal", 3)]) (N := ["self", "other", "stretch", "goal"]) (sc := defScope s_Table__le__) (by decide +kernel)) (fun _ _ _ _ _ => (pg_tup (by rfl) (pgs_cons (pg_name (i := 2) sc_Table__le__.nd rfl (by first | exact Or.inl rfl | exact Or.inr rfl)) (pgs_cons (pg_name (i := 3) sc_Table__le__.nd rfl (by first | exact Or.inl rfl | exact Or.inr rfl)) pgs_nil)))) (fun _ _ _ _ _ => pts_nil) (fun _ _ _ _ _ => (by refine pe_cmpR op_eq (ta := tDGet1 (tFld K (tVar 1) "_rows") (tVar 2)) ?_ (pv 3) (nomark _); refine pe_dget1 ?_ ?_ ?_ ?_; exact hr.u1; exact (pe_fld (pv 1) (by rfl)); exact pv 2; exact ⟨by rfl, by rfl, by rfl, by rfl⟩)))) pa_nil)))))), ?_⟩
    refine ⟨_, rfl, ⟨b, dy, _, rfl, hb, ?_⟩⟩
    refine ⟨_, rfl, iteF ?_⟩
    refine ⟨_, rfl, ⟨a, C, dx, _, .int n1, rfl, ha, TC.cl, TC.n1, rfl, ?_⟩⟩
    refine ⟨_, rfl, ⟨b, C, dy, _, .int n2, rfl, hb, TC.cl, TC.n1, rfl, ?_⟩⟩
    refine ⟨rfl, ?_⟩
    unfold leB at k
    by_cases q : n1 = n2
    · rw [decide_eq_true q, Bool.true_and] at k
      rw [decide_eq_true (show V.int n1 = V.int n2 from congrArg V.int q)]
      refine ⟨_, rfl, iteF ?_⟩
      show ∃ d u, _
      refine ⟨D, _, hD, trivial, fun od => ?_⟩
      have haD : a ≠ D := Ne.symm hne
      refine ⟨_, rfl, ⟨a, C, dx, _, .ref D, rfl, updn haD ha, TC.cl, TC.n2, rfl, ?_⟩⟩
      refine ⟨D, od, _, rfl, upd_same, fun B nB => ?_⟩
      have hBD : B ≠ D := fun z => by rw [z, upd_same] at nB; cases nB
      have hbD : b ≠ D := fun z => by rw [z, hD] at hb; cases hb
      have hR2 : Rd (upd H D (.frz od (.dK (tk m1)))) D2 (.dK (tk m2)) := by
        by_cases z : D2 = D
        · rw [z, hD] at hD2
          rw [z]
          have e : HO.dK (tk m1) = HO.dK (tk m2) := Option.some.inj hD2
          exact .inr ⟨od, by rw [upd_same, e]⟩
        · exact .inl (updn z hD2)
      refine lc_it walk_items (fun i H1 => H1 B = some (.lst (((m1.take i).map fun p => decide (look m2 p.1 = some p.2)).map V.bl)) ∧ Same (upd H D (.frz od (.dK (tk m1)))) H1) ⟨upd_same, fun c o e => updn (nonn nB e) e⟩ (fun _ H1 _ h => h.2 _ _ upd_same) ?_ ?_
      · rintro i x H1 H2 hi ⟨hB, sm⟩ ⟨t, x1, x2, rfl, nt, rfl, e1, e2⟩
        obtain ⟨p, hm1, rfl, rfl⟩ : ∃ p, m1[i]? = some p ∧ x1 = .str p.1 ∧ x2 = .str p.2 := by
          dsimp only at e1 e2
          unfold tk at e1 e2
          rw [List.getElem?_map] at e1 e2
          cases hx : m1[i]? with
          | none => rw [hx] at e1; cases e1
          | some p =>
            rw [hx] at e1 e2
            exact ⟨p, rfl, (Option.some.inj e1).symm, (Option.some.inj e2).symm⟩
        have nBt : B ≠ t := nonn nt hB
        have smt : Same (upd H D (.frz od (.dK (tk m1)))) (upd H1 t (.tup [.str p.1, .str p.2])) := fun c o e => updn (nonn nt (sm c o e)) (sm c o e)
        have hBt := updn (o := HO.tup [.str p.1, .str p.2]) nBt hB
        refine ⟨t, [.str p.1, .str p.2], rfl, SqT.of upd_same, rfl, ?_⟩
        refine ⟨_, _, rfl, ?_⟩
        refine ⟨_, _, rfl, ?_⟩
        refine ⟨rfl, rfl, ?_⟩
        dsimp only [tYes]
        rw [if_pos rfl]
        have hb2 := smt _ _ (updn hbD hb)
        have hR3 : Rd (upd H1 t (.tup [.str p.1, .str p.2])) D2 (.dK (tk m2)) := by
          rcases hR2 with h | ⟨o2, h⟩
          · exact .inl (smt _ _ h)
          · exact .inr ⟨o2, smt _ _ h⟩
        refine ⟨_, rfl, ⟨b, C, dy, _, .ref D2, rfl, hb2, TC.cl, TC.n2, rfl, ?_⟩⟩
        refine ⟨D2, rfl, .inl ⟨_, hR3⟩, ?_⟩
        refine ⟨_, rfl, ⟨valV (tk m2) (Sum.inr p.1), .inl ⟨tk m2, Sum.inr p.1, hR3, rfl, rfl⟩, ?_⟩⟩
        rw [val_look]
        have fin : ∀ bb : Bool, bb = decide (look m2 p.1 = some p.2) → ∃ acc, upd H1 t (.tup [.str p.1, .str p.2]) B = some (.lst acc) ∧ acc.length < sizeLine ∧ upd (upd H1 t (.tup [.str p.1, .str p.2])) B (.lst (acc ++ [.bl bb])) B = some (.lst (((m1.take (i + 1)).map fun p => decide (look m2 p.1 = some p.2)).map V.bl)) ∧ Same (upd H D (.frz od (.dK (tk m1)))) (upd (upd H1 t (.tup [.str p.1, .str p.2])) B (.lst (acc ++ [.bl bb]))) := fun bb hbb => by
          refine ⟨_, hBt, szt (by rw [List.length_map, List.length_map, List.length_take]; omega), ?_, fun c o e => updn (nonn nB e) (smt c o e)⟩
          rw [upd_same, List.take_add_one, hm1, List.map_append, List.map_append, hbb]
          rfl
        cases hl2 : look m2 p.1 with
        | none =>
          rw [hl2] at fin
          refine ⟨_, rfl, ⟨rfl, ?_⟩⟩
          exact fin _ rfl
        | some v =>
          rw [hl2] at fin
          refine ⟨_, rfl, ⟨rfl, ?_⟩⟩
          refine fin _ ?_
          exact decide_eq_decide.mpr ⟨fun q => by injection q with q; rw [q], fun q => congrArg V.str (Option.some.inj q)⟩
      · rintro H1 ⟨hB, sm⟩
        rw [tk_len, List.take_length] at hB
        refine ⟨sm _ _ upd_same, ?_⟩
        refine ⟨_, _, rfl, SqL.of (updn hBD hB), ?_⟩
        have e : ((m1.map fun p => decide (look m2 p.1 = some p.2)).all id) = m1.all fun p => decide (look m2 p.1 = some p.2) := by rw [List.all_map]; rfl
        rw [e]
        refine k _ fun c o h0 => ?_
        by_cases z : c = D
        · rw [z] at h0 ⊢
          rw [hD] at h0
          rw [upd_same]
          exact h0
        · exact updn z (sm c o (updn z h0))
    · rw [decide_eq_false q, Bool.false_and] at k
      rw [decide_eq_false (fun e : V.int n1 = V.int n2 => q (V.int.inj e))]
      exact ⟨_, rfl, iteT (k _ (Same.refl H))⟩
theorem ok_ge (F : Fun K "__ge__" "Table.__ge__" s_Table__ge__ f fd) (hm : Meth K C "__ge__" f) (T : Txt K mg) (TC : TabC K C) (IC : C8.InsC K C) (gC : ∃ u, mg "Table" = some u ∧ RelV (.ref C) u) (c_Table__le__ : Mth P w K mg base CX0 1 C "__le__" "Table.__le__" s_Table__le__ ["self", "other"] (spLe C)) : Mth P w K mg base CX0 2 C "__ge__" "Table.__ge__" s_Table__ge__ ["self", "other"] (spGe C) := by
  refine mth_of0 F hm sc_Table__ge__ (fun vs H Q E h => ?_) fun cdv A outer s H vs Q E hr h => ?_
  · unfold spGe at h
    obtain ⟨a, b, n1, n2, m1, m2, rfl, _⟩ := h
    rfl
  · unfold spGe at h
    obtain ⟨a, b, n1, n2, m1, m2, rfl, ⟨dx, D, ha, hD, hne⟩, ⟨dy, D2, hb, hD2, hne2⟩, hl, k⟩ := h
    refine ⟨_, (pss_cons (ps_if (pt_not (pt_val (pe_callB (C8.call_isC IC) (by rfl) T.b_isinstance (by decide +kernel) (pa_cons (pv 1) (pa_cons (C8.pe_gc (by rfl) gC) pa_nil))))) (pss_one (ps_never)) pss_nil)
      (pss_one (ps_ret (pe_cmpR (op_cmpS c_Table__le__ hr (by decide) L2.pass0 bm_Table__le__ rfl) (pv 1) (pv 0) (nomark _))))), ?_⟩
    refine ⟨_, rfl, ⟨b, dy, _, rfl, hb, ?_⟩⟩
    refine ⟨_, rfl, iteF ?_⟩
    refine ⟨_, rfl, ⟨_, rfl, ⟨⟨b, dy, _, rfl, hb⟩, ⟨a, dx, _, rfl, ha⟩, ?_⟩⟩⟩
    exact le_go ⟨dy, D2, hb, hD2, hne2⟩ ⟨dx, D, ha, hD, hne⟩ hl k
end
open PySem PySem.Spec PyProof.Rows
open L2 hiding pass0
abbrev s_law_part : Stmt := top 38
theorem sc_law_part : FnScope ["_law_pot_here", "_law_span", "_law_model", "_law_part_here"] ["_law_pot_here", "_law_span", "_law_model"] (defScope s_law_part) := ⟨rfl, rfl, rfl, by decide +kernel, rfl, by decide +kernel, by decide +kernel⟩
theorem bp_law_part : BndP "_law_part" s_law_part ["_law_pot_here", "_law_span", "_law_model"] := fun _ _ _ _ _ _ us h => match us, h with | [_, _, _], _ => rfl
abbrev s_law_rows : Stmt := top 39
theorem sc_law_rows : FnScope ["_law_pot_here", "_law_span", "_law_found", "_law_turn"] ["_law_pot_here", "_law_span"] (defScope s_law_rows) := ⟨rfl, rfl, rfl, by decide +kernel, rfl, by decide +kernel, by decide +kernel⟩
theorem bp_law_rows : BndP "_law_rows" s_law_rows ["_law_pot_here", "_law_span"] := fun _ _ _ _ _ _ us h => match us, h with | [_, _], _ => rfl
theorem Go.of {p : Addr} {H H' : Hp} (h : PotAt H p) (s : Same H H') : Go p H H' := by
  obtain ⟨a, b, e, r⟩ := h
  exact ⟨⟨a, b, s _ _ e, r⟩, fun c o e _ => s c o e⟩
theorem Go.dk {p M : Addr} {H H' : Hp} {kvs : List (Key × V)} (hp : PotAt H p) (g : Go p H H') (h : H M = some (.dK kvs)) : H' M = some (.dK kvs) := by
  refine g.kp h fun q => ?_
  obtain ⟨a, b, e, _⟩ := hp
  rw [q, e] at h
  cases h
theorem Go.tp {p t : Addr} {H H' : Hp} {xs : List V} (hp : PotAt H p) (g : Go p H H') (h : H t = some (.tup xs)) : H' t = some (.tup xs) := by
  refine g.kp h fun q => ?_
  obtain ⟨a, b, e, _⟩ := hp
  rw [q, e] at h
  cases h
theorem Go.tab {p C a : Addr} {n : Int} {m : List (Str × Str)} {H H' : Hp} (hp : PotAt H p) (g : Go p H H') (h : TabAt C H a n m) : TabAt C H' a n m := by
  obtain ⟨dx, D, ha, hD, hne⟩ := h
  refine ⟨dx, D, g.kp ha fun q => ?_, g.dk hp hD, hne⟩
  obtain ⟨x, y, e, _⟩ := hp
  rw [q, e] at ha
  cases ha
/-- stretches of the width -/
def Parts (n : Nat) (ks : List Str) : Prop := ∀ x ∈ ks, Bits x ∧ x.length ≤ n
@[irreducible] def spPart : Sp := fun vs H Q _ => ∃ (p M : Addr) (n : Nat) (m : List (Str × Str)), vs = [.ref p, .int n, .ref M] ∧ PotAt H p ∧ 1 ≤ n ∧ n ≤ 100 ∧ H M = some (.dK (tk m)) ∧ m.length ≤ 100 ∧ Parts n (m.map (·.1)) ∧
  ∀ (z : Str) H', Bits z → z.length ≤ n → Go p H H' → Q (.str z) H'
theorem part_go {p M : Addr} {n : Nat} {m : List (Str × Str)} {H : Hp} {Q : VK} {E : XK} (hp : PotAt H p) (h0 : 1 ≤ n) (h1 : n ≤ 100) (hM : H M = some (.dK (tk m))) (hl : m.length ≤ 100) (hb : Parts n (m.map (·.1))) (k : ∀ (z : Str) H', Bits z → z.length ≤ n → Go p H H' → Q (.str z) H') : spPart [.ref p, .int n, .ref M] H Q E := by
  unfold spPart
  exact ⟨p, M, n, m, rfl, hp, h0, h1, hM, hl, hb, k⟩
@[irreducible] def spRowsL : Sp := fun vs H Q _ => ∃ (p : Addr) (n : Nat), vs = [.ref p, .int n] ∧ PotAt H p ∧ 1 ≤ n ∧ n ≤ 100 ∧
  ∀ (M : Addr) (m : List (Str × Str)) H', H M = none → Go p H H' → H' M = some (.dK (tk m)) → m.length ≤ 5 → (m.map (·.1)).Nodup → (∀ q ∈ m, RowOk n q) → Q (.ref M) H'
theorem rowOk_of {n : Int} {x g : Str} (hb : Bits x) (hl : (x.length : Int) ≤ n) (h : goalB g = true ∧ (∀ c ∈ g.cps.toList, c < 128) ∧ g.length ≤ 200) : RowOk n (x, g) := ⟨hb, hl, h.1, h.2.1, h.2.2⟩
theorem g_a : goalB "a" = true ∧ (∀ c ∈ ("a" : Str).cps.toList, c < 128) ∧ ("a" : Str).length ≤ 200 := by decide +kernel
theorem g_b : goalB "b" = true ∧ (∀ c ∈ ("b" : Str).cps.toList, c < 128) ∧ ("b" : Str).length ≤ 200 := by decide +kernel
theorem g_c : goalB "c" = true ∧ (∀ c ∈ ("c" : Str).cps.toList, c < 128) ∧ ("c" : Str).length ≤ 200 := by decide +kernel
theorem g_home : goalB "home" = true ∧ (∀ c ∈ ("home" : Str).cps.toList, c < 128) ∧ ("home" : Str).length ≤ 200 := by decide +kernel
theorem g_hole : goalB "hole" = true ∧ (∀ c ∈ ("hole" : Str).cps.toList, c < 128) ∧ ("hole" : Str).length ≤ 200 := by decide +kernel
theorem put_len (m : List (Str × Str)) (k g : Str) : (putT m k g).length ≤ m.length + 1 := by
  unfold putT
  split
  · rw [List.length_map]; omega
  · rw [List.length_append]; exact Nat.le_refl _
theorem tk_kV (m : List (Str × Str)) : (tk m).map (fun kv => kV kv.1) = (m.map (·.1)).map V.str := by
  unfold tk
  rw [List.map_map, List.map_map]
  rfl
section
variable {P : Program} {w : World} {K : PySem.W.Frag} {mg : Str → Option Value} {base : Heap} {f C : Addr} {fd : FuncData}
theorem ok_part (F : Fun K "_law_part" "_law_part" s_law_part f fd) (hm : mg "_law_part" = some (.ref f)) (T : Txt K mg) (c_law_among : Nm P w K mg base CX0 2 "_law_among" s_law_among ["_law_pot_here", "_law_some"] (spAmong K)) (c_law_bits : Nm P w K mg base CX0 3 "_law_bits" s_law_bits ["_law_pot_here", "_law_least", "_law_most"] (spBits)) : Nm P w K mg base CX0 4 "_law_part" s_law_part ["_law_pot_here", "_law_span", "_law_model"] (spPart) := by
  refine nm_of F hm sc_law_part (fun vs H Q E h => ?_) fun cdv A outer s H vs Q E hr h => ?_
  · unfold spPart at h
    obtain ⟨p, M, n, m, rfl, hp, h0, h1, hM, hl, hb, k⟩ := h
    subst_vars
    rfl
  unfold spPart at h
  obtain ⟨p, M, n, m, rfl, hp, h0, h1, hM, hl, hb, k⟩ := h
  refine ⟨_, (pss_cons (ps_set (i := 3) sc_law_part.nd rfl (by first | exact Or.inl rfl | exact Or.inr rfl) (pe_g c_law_among hr (by decide) L2.pass0 bp_law_among (by rfl) (pa_cons (pv 0) (pa_cons (pe_op op_cat (pe_callTy (call_listD rfl) (by rfl) T.b_list (by decide +kernel) (pa_cons (pv 2) pa_nil)) (pe_lst (pa_cons pe_str pa_nil))) pa_nil))))
      (pss_one (ps_ret (pe_g c_law_among hr (by decide) L2.pass0 bp_law_among (by rfl) (pa_cons (pv 0) (pa_cons (pe_lst (pa_cons (pe_g c_law_bits hr (by decide) L2.pass0 bp_law_bits (by rfl) (pa_cons (pv 0) (pa_cons pe_int (pa_cons (pv 1) pa_nil)))) (pa_cons (pe_g c_law_bits hr (by decide) L2.pass0 bp_law_bits (by rfl) (pa_cons (pv 0) (pa_cons pe_int (pa_cons (pe_callB (call_min2 rfl) (by rfl) T.b_min (by decide +kernel) (pa_cons (pv 1) (pa_cons pe_int pa_nil))) pa_nil)))) (pa_cons (pv 3) pa_nil)))) pa_nil)))))), ?_⟩
  refine ⟨_, rfl, ⟨_, rfl, ⟨M, tk m, rfl, .inl hM, fun L nL => ?_⟩⟩⟩
  rw [tk_kV]
  refine ⟨szl (by show 1 ≤ 1000000; decide), fun L2 nL2 => ?_⟩
  have e1 : upd (upd H L (.lst ((m.map (·.1)).map V.str))) L2 (.lst [.str ""]) L = some (.lst ((m.map (·.1)).map V.str)) := updn (nonn nL2 upd_same) upd_same
  refine ⟨L, L2, _, _, rfl, rfl, e1, upd_same, szl (by rw [List.length_map, List.length_map]; show _ + 1 ≤ _; omega), fun L3 nL3 => ?_⟩
  have g1 : Go p H (upd (upd (upd H L (.lst ((m.map (·.1)).map V.str))) L2 (.lst [.str ""])) L3 (.lst ((m.map (·.1)).map V.str ++ [.str ""]))) := (((Go.refl hp).new nL).new nL2).new nL3
  have np3 : L3 ≠ p := (((Go.refl hp).new nL).new nL2).pot.ne nL3
  have e3 : upd (upd (upd H L (.lst ((m.map (·.1)).map V.str))) L2 (.lst [.str ""])) L3 (.lst ((m.map (·.1)).map V.str ++ [.str ""])) L3 = some (.lst ((m.map (·.1)).map V.str ++ [.str ""])) := upd_same
  generalize upd (upd (upd H L (.lst ((m.map (·.1)).map V.str))) L2 (.lst [.str ""])) L3 (.lst ((m.map (·.1)).map V.str ++ [.str ""])) = H1 at g1 e3 ⊢
  refine among_l g1.pot np3 (SqL.of e3) (by rw [List.length_append]; show 0 < _ + 1; omega) (by rw [List.length_append, List.length_map, List.length_map]; show _ + 1 ≤ _; omega) fun v hv H2 g2 => ?_
  obtain ⟨x, rfl, hx, lx⟩ : ∃ x : Str, v = .str x ∧ Bits x ∧ x.length ≤ n := by
    rcases List.mem_append.mp hv with h | h
    · obtain ⟨x, hx, rfl⟩ := List.mem_map.mp h
      exact ⟨x, rfl, hb x hx⟩
    · rw [List.mem_singleton] at h
      subst h
      exact ⟨"", rfl, (fun c hc => by cases hc), Nat.zero_le _⟩
  have g3 := g1.trans g2
  clear g2 g1 e3 np3 nL3 e1 nL2 nL
  refine ⟨_, rfl, ?_⟩
  refine ⟨_, rfl, ⟨_, rfl, ?_⟩⟩
  refine bits_go g3.pot (by omega) (by omega) (by omega) fun y1 H3 hy1 l1 l1' g4 => ?_
  refine ⟨_, rfl, ⟨_, rfl, ⟨_, _, rfl, ?_⟩⟩⟩
  refine bits_go (g3.trans g4).pot (by omega) (by split <;> omega) (by split <;> omega) fun y2 H4 hy2 l2 l2' g5 => ?_
  have l2n : y2.length ≤ n := by split at l2' <;> omega
  refine ⟨_, rfl, ⟨szl (by show 3 ≤ 1000000; decide), fun L4 nL4 => ?_⟩⟩
  have g6 := (g3.trans g4).trans g5
  refine among_l (g6.new nL4).pot (g6.pot.ne nL4) (SqL.of upd_same) (by show 0 < 3; decide) (by show 3 ≤ 1000; decide) fun v hv H5 g7 => ?_
  have g8 := (g6.new (o := HO.lst [.str y1, .str y2, .str x]) nL4).trans g7
  simp only [List.mem_cons, List.not_mem_nil, or_false] at hv
  rcases hv with rfl | rfl | rfl
  · exact k _ _ hy1 (by omega) g8
  · exact k _ _ hy2 l2n g8
  · exact k _ _ hx lx g8
theorem ok_rowsL (F : Fun K "_law_rows" "_law_rows" s_law_rows f fd) (hm : mg "_law_rows" = some (.ref f)) (T : Txt K mg) (c_law_draw : Nm P w K mg base CX0 1 "_law_draw" s_law_draw ["_law_pot_here", "_law_many"] (spDraw)) (c_law_among : Nm P w K mg base CX0 2 "_law_among" s_law_among ["_law_pot_here", "_law_some"] (spAmong K)) (c_law_part : Nm P w K mg base CX0 4 "_law_part" s_law_part ["_law_pot_here", "_law_span", "_law_model"] (spPart)) : Nm P w K mg base CX0 5 "_law_rows" s_law_rows ["_law_pot_here", "_law_span"] (spRowsL) := by
  refine nm_of0 F hm sc_law_rows (fun vs H Q E h => ?_) fun cdv A outer s H vs Q E hr h => ?_
  · unfold spRowsL at h
    obtain ⟨p, n, rfl, hp, h0, h1, k⟩ := h
    subst_vars
    rfl
  unfold spRowsL at h
  obtain ⟨p, n, rfl, hp, h0, h1, k⟩ := h
  refine ⟨_, (pss_cons (ps_set (i := 2) sc_law_rows.nd rfl (by first | exact Or.inl rfl | exact Or.inr rfl) pe_dnewK)
      (pss_cons (ps_for PassesOwn.never rfl (pi_range1 (by rfl) T.b_range (pa_cons (pe_g c_law_draw hr (by decide) L2.pass0 bp_law_draw (by rfl) (pa_cons (pv 0) (pa_cons pe_int pa_nil))) pa_nil)) (pg_name (i := 3) sc_law_rows.nd rfl (by first | exact Or.inl rfl | exact Or.inr rfl)) (pss_one (ps_asg (pe_g c_law_among hr (by decide) L2.pass0 bp_law_among (by rfl) (pa_cons (pv 0) (pa_cons (pe_lst (pa_cons pe_str (pa_cons pe_str (pa_cons pe_str (pa_cons pe_str pa_nil))))) pa_nil))) (pg_sub (pv 2) (pe_g c_law_part hr (by decide) L2.pass0 bp_law_part (by rfl) (pa_cons (pv 0) (pa_cons (pv 1) (pa_cons (pv 2) pa_nil)))) (set_dict hr.u1)))))
      (pss_one (ps_ret (pv 2))))), ?_⟩
  intro M nM
  have g1 : Go p H (upd H M (.dK [])) := (Go.refl hp).new nM
  have np : M ≠ p := hp.ne nM
  refine ⟨_, rfl, ?_⟩
  refine draw_go g1.pot (by decide) (by decide) fun d H1 d0 d1 g2 => ?_
  obtain ⟨c, rfl⟩ := Int.eq_ofNat_of_zero_le d0
  have e1 : H1 M = some (.dK []) := g2.kp upd_same np
  refine ⟨c, rfl, by omega, by omega, for_it walk_range (fun i σ' H' => ∃ m a3, σ' = [some (.ref p), some (.int n), some (.ref M), a3] ∧ m.length ≤ i ∧ (m.map (·.1)).Nodup ∧ (∀ q ∈ m, RowOk n q) ∧ Go p H H' ∧ H' M = some (.dK (tk m))) ⟨[], _, rfl, Nat.le_refl _, .nil, (fun q hq => by cases hq), g1.trans g2, e1⟩ (fun _ _ _ _ _ => trivial) ?_ ?_⟩
  · rintro i x σ' H2 H2' hi ⟨m, a3, rfl, lm, nd, ok, g3, e3⟩ ⟨rfl, rfl⟩
    refine ⟨_, rfl, ⟨szl (by show 4 ≤ 1000000; decide), fun L nL => ?_⟩⟩
    refine among_l (g3.new nL).pot (g3.pot.ne nL) (SqL.of upd_same) (by show 0 < 4; decide) (by show 4 ≤ 1000; decide) fun v hv H3 g4 => ?_
    obtain ⟨gl, rfl, hgl⟩ : ∃ gl : Str, v = .str gl ∧ (goalB gl = true ∧ (∀ c ∈ gl.cps.toList, c < 128) ∧ gl.length ≤ 200) := by
      simp only [List.mem_cons, List.not_mem_nil, or_false] at hv
      rcases hv with rfl | rfl | rfl | rfl
      · exact ⟨_, rfl, g_a⟩
      · exact ⟨_, rfl, g_b⟩
      · exact ⟨_, rfl, g_home⟩
      · exact ⟨_, rfl, g_hole⟩
    have g5 := (g3.new (o := HO.lst [.str "a", .str "b", .str "home", .str "hole"]) nL).trans g4
    have e5 : H3 M = some (.dK (tk m)) := g4.kp (updn (nonn nL e3) e3) np
    refine ⟨_, rfl, ⟨_, rfl, ⟨_, rfl, ⟨_, rfl, ?_⟩⟩⟩⟩
    refine part_go g5.pot h0 h1 e5 (by omega) (fun x hx => by
      obtain ⟨q, hq, rfl⟩ := List.mem_map.mp hx
      exact ⟨(ok q hq).1, by have := (ok q hq).2.1; omega⟩) fun z H4 hz lz g6 => ?_
    have e6 : H4 M = some (.dK (tk m)) := g6.kp e5 np
    refine ⟨M, _, rfl, .inl ⟨tk m, Sum.inr z, e6, rfl, szt (by rw [tk_len]; omega), rfl⟩, ?_⟩
    refine ⟨putT m z gl, _, rfl, by have := put_len m z gl; omega, put_nodup nd, put_ok ok (rowOk_of hz (by omega) hgl), (g5.trans g6).mut nM np, ?_⟩
    rw [upd_same, tk_put]
  · rintro σ' H2 ⟨m, a3, rfl, lm, nd, ok, g3, e3⟩
    exact ⟨_, rfl, k M m H2 nM g3 e3 (by omega) nd ok⟩
end
open PySem PySem.Spec PyProof.Rows
open L2 hiding pass0
abbrev s_law_is_part : Stmt := top 41
theorem sc_law_is_part : FnScope ["_law_model", "_law_other_model", "_law_part_here"] ["_law_model", "_law_other_model"] (defScope s_law_is_part) := ⟨rfl, rfl, rfl, by decide +kernel, rfl, by decide +kernel, by decide +kernel⟩
theorem bp_law_is_part : BndP "_law_is_part" s_law_is_part ["_law_model", "_law_other_model"] := fun _ _ _ _ _ _ us h => match us, h with | [_, _], _ => rfl
abbrev s_law_pair_right : Stmt := top 42
theorem sc_law_pair_right : FnScope ["_law_here", "_law_there", "_law_model", "_law_other_model", "_law_told", "_law_due"] ["_law_here", "_law_there", "_law_model", "_law_other_model"] (defScope s_law_pair_right) := ⟨rfl, rfl, rfl, by decide +kernel, rfl, by decide +kernel, by decide +kernel⟩
theorem bp_law_pair_right : BndP "_law_pair_right" s_law_pair_right ["_law_here", "_law_there", "_law_model", "_law_other_model"] := fun _ _ _ _ _ _ us h => match us, h with | [_, _, _, _], _ => rfl
def pB (m1 m2 : List (Str × Str)) : Bool := m1.all fun q => decide (look m2 q.1 = some q.2)
theorem look_of {m : List (Str × Str)} : ∀ {q : Str × Str}, (m.map (·.1)).Nodup → q ∈ m → look m q.1 = some q.2 := by
  induction m with
  | nil => intro q _ h; cases h
  | cons p r ih =>
    intro q hn hq
    have hn' := List.nodup_cons.mp hn
    unfold look
    rcases List.mem_cons.mp hq with h | h
    · rw [h, List.find?_cons_of_pos (by simp)]
      rfl
    · have hne : ¬ p.1 = q.1 := fun e => hn'.1 (List.mem_map.mpr ⟨q, h, e.symm⟩)
      rw [List.find?_cons_of_neg (by simpa using hne)]
      exact ih hn'.2 h
theorem get_of {m : List (Str × Str)} {q : Str × Str} (hn : (m.map (·.1)).Nodup) (hq : q ∈ m) : getT m q.1 = q.2 := by
  rw [look_get, look_of hn hq]
  rfl
theorem srt_keys (m : List (Str × Str)) : (srt m).map (·.1) = tsort (m.map (·.1)) := by
  unfold srt
  rw [List.map_map]
  exact List.map_id' _
theorem srt_ok {n : Int} {m : List (Str × Str)} (ok : TabOk n m) : TabOk n (srt m) := by
  refine ⟨ok.w0, ok.w1, fun p hp => ?_, ?_, ?_⟩
  · obtain ⟨k, hk, rfl⟩ := List.mem_map.mp hp
    have hk2 := (tsort_perm _).mem_iff.mp hk
    obtain ⟨q, hq, rfl⟩ := List.mem_map.mp hk2
    rw [get_of ok.nd hq]
    exact ok.rows q hq
  · rw [srt_keys]
    exact (tsort_perm _).nodup_iff.mpr ok.nd
  · unfold srt
    rw [List.length_map, (tsort_perm _).length_eq, List.length_map]
    exact ok.few
theorem srt_len (m : List (Str × Str)) : (srt m).length = m.length := by
  unfold srt
  rw [List.length_map, (tsort_perm _).length_eq, List.length_map]
theorem srt_mem {m : List (Str × Str)} (hn : (m.map (·.1)).Nodup) {q : Str × Str} : q ∈ srt m ↔ q ∈ m := by
  constructor
  · intro h
    obtain ⟨k, hk, rfl⟩ := List.mem_map.mp h
    obtain ⟨q, hq, rfl⟩ := List.mem_map.mp ((tsort_perm _).mem_iff.mp hk)
    rw [get_of hn hq]
    exact hq
  · intro h
    refine List.mem_map.mpr ⟨q.1, (tsort_perm _).mem_iff.mpr (List.mem_map_of_mem (f := (·.1)) h), ?_⟩
    rw [get_of hn h]
theorem pB_srt {m1 m2 : List (Str × Str)} (hn : (m1.map (·.1)).Nodup) : pB (srt m1) (srt m2) = pB m1 m2 := by
  unfold pB
  rw [Bool.eq_iff_iff, List.all_eq_true, List.all_eq_true]
  constructor
  · intro h q hq
    have := h q ((srt_mem hn).mpr hq)
    rw [look_srt] at this
    exact this
  · intro h q hq
    have := h q ((srt_mem hn).mp hq)
    rw [look_srt]
    exact this
theorem allEq_tk (m1 m2 : List (Str × Str)) : allEq (tk m1) (tk m2) = pB m1 m2 := by
  unfold allEq pB
  show (m1.map _).all _ = _
  rw [List.all_map]
  congr 1
  funext q
  show (match valV (tk m2) (Sum.inr q.1) with | some v => eqV (.str q.2) v | none => false) = decide (look m2 q.1 = some q.2)
  rw [val_look]
  cases look m2 q.1 with
  | none => rfl
  | some v =>
    show (q.2 == v) = decide (some v = some q.2)
    rw [Bool.eq_iff_iff, beq_iff_eq, decide_eq_true_iff]
    exact ⟨fun e => by rw [e], fun e => (Option.some.inj e).symm⟩
theorem eqB_srt {n : Int} {m1 m2 : List (Str × Str)} (hn : (m1.map (·.1)).Nodup) : eqB n (srt m1) n (srt m2) = (m1.length == m2.length && pB m1 m2) := by
  unfold eqB
  rw [allEq_tk, pB_srt hn, srt_len, srt_len, decide_eq_true rfl, Bool.true_and]
theorem leB_srt {n : Int} {m1 m2 : List (Str × Str)} (hn : (m1.map (·.1)).Nodup) : leB n (srt m1) n (srt m2) = pB m1 m2 := by
  rw [← pB_srt hn]
  unfold leB
  rw [decide_eq_true rfl, Bool.true_and]
  rfl
@[irreducible] def spIsP : Sp := fun vs H Q _ => ∃ (M1 M2 : Addr) (m1 m2 : List (Str × Str)), vs = [.ref M1, .ref M2] ∧ H M1 = some (.dK (tk m1)) ∧ H M2 = some (.dK (tk m2)) ∧ (m1.map (·.1)).Nodup ∧ m1.length ≤ 1000 ∧ ∀ H', Same H H' → Q (.bl (pB m1 m2)) H'
theorem isp_go {M1 M2 : Addr} {m1 m2 : List (Str × Str)} {H : Hp} {Q : VK} {E : XK} (h1 : H M1 = some (.dK (tk m1))) (h2 : H M2 = some (.dK (tk m2))) (nd : (m1.map (·.1)).Nodup) (l : m1.length ≤ 1000) (k : ∀ H', Same H H' → Q (.bl (pB m1 m2)) H') : spIsP [.ref M1, .ref M2] H Q E := by
  unfold spIsP
  exact ⟨M1, M2, m1, m2, rfl, h1, h2, nd, l, k⟩
@[irreducible] def spPairT (C : Addr) : Sp := fun vs H Q _ => ∃ (a b M1 M2 : Addr) (n : Int) (m1 m2 : List (Str × Str)), vs = [.ref a, .ref b, .ref M1, .ref M2] ∧ TabAt C H a n (srt m1) ∧ TabAt C H b n (srt m2) ∧ H M1 = some (.dK (tk m1)) ∧ H M2 = some (.dK (tk m2)) ∧ TabOk n m1 ∧ TabOk n m2 ∧ ∀ H', Same H H' → Q (.bl true) H'
section
variable {P : Program} {w : World} {K : PySem.W.Frag} {mg : Str → Option Value} {base : Heap} {f C : Addr} {fd : FuncData}
theorem ok_isp (F : Fun K "_law_is_part" "_law_is_part" s_law_is_part f fd) (hm : mg "_law_is_part" = some (.ref f)) (T : Txt K mg) : Nm P w K mg base CX0 1 "_law_is_part" s_law_is_part ["_law_model", "_law_other_model"] (spIsP) := by
  refine nm_of F hm sc_law_is_part (fun vs H Q E h => ?_) fun cdv A outer s H vs Q E hr h => ?_
  · unfold spIsP at h
    obtain ⟨M1, M2, m1, m2, rfl, h1, h2, nd, hl, k⟩ := h
    subst_vars
    rfl
  unfold spIsP at h
  obtain ⟨M1, M2, m1, m2, rfl, h1, h2, nd, hl, k⟩ := h
  refine ⟨_, (pss_one (ps_ret (pe_callB (call_allK (K := K) rfl rfl) (by rfl) T.b_all (by decide +kernel) (pa_cons (pe_lock (pe_lc (own := [("_law_part_here", 2)]) (g := (gName 2)) (by rfl) sc_law_is_part.nd (pi_keys (pv 0)) (blkOk_by (own := [("_law_part_here", 2)]) (N := ["_law_model", "_law_other_model", "_law_part_here"]) (sc := defScope s_law_is_part) (by decide +kernel)) (fun _ _ _ _ _ => (pg_name (i := 2) sc_law_is_part.nd rfl (by first | exact Or.inl rfl | exact Or.inr rfl))) (fun _ _ _ _ _ => pts_nil) (fun _ _ _ _ _ => (pe_and (pe_cmp (pc_din hr.u1 (pv 2) (pv 1))) (pe_one (pe_cmpR op_eq (pe_dget hr.u1 (pv 1) (pv 2) (fun _ _ => rfl)) (pe_dget hr.u1 (pv 0) (pv 2) (fun _ _ => rfl)) (nomark _))))))) pa_nil)))), ?_⟩
  show ∃ d u, _
  refine ⟨M1, _, h1, trivial, fun od => ?_⟩
  refine ⟨_, rfl, ?_⟩
  refine ⟨M1, od, rfl, Or.inl ⟨tk m1, upd_same, fun B nB => ?_⟩⟩
  have hBM : B ≠ M1 := fun z => by rw [z, upd_same] at nB; cases nB
  have hR2 : Rd (upd H M1 (.frz od (.dK (tk m1)))) M2 (.dK (tk m2)) := by
    by_cases z : M2 = M1
    · rw [z, h1] at h2
      rw [z]
      have e : HO.dK (tk m1) = HO.dK (tk m2) := Option.some.inj h2
      exact .inr ⟨od, by rw [upd_same, e]⟩
    · exact .inl (updn z h2)
  refine lc_it walk_keys (fun i H1 => H1 B = some (.lst (((m1.take i).map fun q => decide (look m2 q.1 = some q.2)).map V.bl)) ∧ Same (upd H M1 (.frz od (.dK (tk m1)))) H1) ⟨upd_same, fun c o e => updn (nonn nB e) e⟩ (fun _ H1 _ h => h.2 _ _ upd_same) ?_ ?_
  · rintro i x HA HB hi ⟨hB, sm⟩ ⟨rfl, kk, vv, hkv, rfl⟩
    obtain ⟨q, hm1, rfl, rfl⟩ : ∃ q, m1[i]? = some q ∧ kk = Sum.inr q.1 ∧ vv = .str q.2 := by
      unfold tk at hkv
      rw [List.getElem?_map] at hkv
      cases hx : m1[i]? with
      | none => rw [hx] at hkv; cases hkv
      | some q =>
        rw [hx] at hkv
        have e := Option.some.inj hkv
        exact ⟨q, rfl, (Prod.mk.inj e).1.symm, (Prod.mk.inj e).2.symm⟩
    refine ⟨rfl, ?_⟩
    dsimp only [tYes]
    rw [if_pos rfl]
    have hR3 : Rd HB M2 (.dK (tk m2)) := by
      rcases hR2 with h | ⟨o2, h⟩
      · exact .inl (sm _ _ h)
      · exact .inr ⟨o2, sm _ _ h⟩
    have hR1 : Rd HB M1 (.dK (tk m1)) := .inr ⟨od, sm _ _ upd_same⟩
    have hqm := List.mem_of_getElem? hm1
    have hv1 := tk_val m1 (List.mem_map_of_mem (f := (·.1)) hqm)
    rw [get_of nd hqm] at hv1
    have fin : ∀ bb : Bool, bb = decide (look m2 q.1 = some q.2) → ∃ acc, HB B = some (.lst acc) ∧ acc.length < sizeLine ∧ upd HB B (.lst (acc ++ [.bl bb])) B = some (.lst (((m1.take (i + 1)).map fun q => decide (look m2 q.1 = some q.2)).map V.bl)) ∧ Same (upd H M1 (.frz od (.dK (tk m1)))) (upd HB B (.lst (acc ++ [.bl bb]))) := fun bb hbb => by
      refine ⟨_, hB, szt (by rw [List.length_map, List.length_map, List.length_take]; omega), ?_, fun c o e => updn (nonn nB e) (sm c o e)⟩
      rw [upd_same, List.take_add_one, hm1, List.map_append, List.map_append, hbb]
      rfl
    refine ⟨_, rfl, ⟨_, rfl, ⟨M2, _, rfl, .inl ⟨tk m2, Sum.inr q.1, hR3, rfl, rfl⟩, ?_⟩⟩⟩
    rw [look_has]
    cases hl2 : look m2 q.1 with
    | none =>
      rw [hl2] at fin
      exact ⟨_, rfl, iteF (fin _ rfl)⟩
    | some v =>
      have hv2 : valV (tk m2) (Sum.inr q.1) = some (.str v) := by rw [val_look, hl2]; rfl
      rw [hl2] at fin
      refine ⟨_, rfl, iteT ?_⟩
      refine ⟨_, rfl, ⟨_, rfl, ⟨M2, .str v, rfl, .inl ⟨tk m2, Sum.inr q.1, hR3, rfl, hv2.symm⟩, ?_⟩⟩⟩
      refine ⟨_, rfl, ⟨_, rfl, ⟨M1, .str q.2, rfl, .inl ⟨tk m1, Sum.inr q.1, hR1, rfl, hv1.symm⟩, ?_⟩⟩⟩
      refine ⟨rfl, ?_⟩
      refine fin _ ?_
      exact decide_eq_decide.mpr ⟨fun q => by injection q with q; rw [q], fun q => congrArg V.str (Option.some.inj q)⟩
  · rintro H1 ⟨hB, sm⟩
    rw [tk_len, List.take_length] at hB
    refine ⟨sm _ _ upd_same, ?_⟩
    refine ⟨_, _, rfl, SqL.of (updn hBM hB), ?_⟩
    have e : ((m1.map fun p => decide (look m2 p.1 = some p.2)).all id) = pB m1 m2 := by rw [List.all_map]; rfl
    rw [e]
    refine k _ fun c o h0 => ?_
    by_cases z : c = M1
    · rw [z] at h0 ⊢
      rw [h1] at h0
      rw [upd_same]
      exact h0
    · exact updn z (sm c o (updn z h0))
theorem ok_pair (F : Fun K "_law_pair_right" "_law_pair_right" s_law_pair_right f fd) (hm : mg "_law_pair_right" = some (.ref f)) (T : Txt K mg) (TC : TabC K C) (hne : PySem.W.findIn K (.ref C) "__ne__" = some (some (.builtin "object.__ne__"))) (hmo : PySem.W.mroIn K C (.type "object") = some true) (c_law_is_part : Nm P w K mg base CX0 1 "_law_is_part" s_law_is_part ["_law_model", "_law_other_model"] (spIsP)) (c_Table__le__ : Mth P w K mg base CX0 1 C "__le__" "Table.__le__" s_Table__le__ ["self", "other"] (spLe C)) (c_Table__ge__ : Mth P w K mg base CX0 2 C "__ge__" "Table.__ge__" s_Table__ge__ ["self", "other"] (spGe C)) (c_Table__eq__ : Mth P w K mg base CX0 1 C "__eq__" "Table.__eq__" s_Table__eq__ ["self", "other"] (spEq C)) : Nm P w K mg base CX0 4 "_law_pair_right" s_law_pair_right ["_law_here", "_law_there", "_law_model", "_law_other_model"] (spPairT C) := by
  refine nm_of F hm sc_law_pair_right (fun vs H Q E h => ?_) fun cdv A outer s H vs Q E hr h => ?_
  · unfold spPairT at h
    obtain ⟨a, b, M1, M2, n, m1, m2, rfl, ta, tb, e1, e2, ok1, ok2, k⟩ := h
    subst_vars
    rfl
  unfold spPairT at h
  obtain ⟨a, b, M1, M2, n, m1, m2, rfl, ta, tb, e1, e2, ok1, ok2, k⟩ := h
  refine ⟨_, (pss_cons (ps_set (i := 4) sc_law_pair_right.nd rfl (by first | exact Or.inl rfl | exact Or.inr rfl) (pe_lst (pa_cons (pe_cmpR (op_cmpS c_Table__le__ hr (by decide) L2.pass0 bm_Table__le__ rfl) (pv 0) (pv 1) (nomark _)) (pa_cons (pe_cmpR (op_cmpS c_Table__ge__ hr (by decide) L2.pass0 bm_Table__ge__ rfl) (pv 1) (pv 0) (nomark _)) (pa_cons (pe_cmpR (op_cmpS c_Table__eq__ hr (by decide) L2.pass0 bm_Table__eq__ rfl) (pv 0) (pv 1) (nomark _)) (pa_cons (pe_not (pe_cmpR (op_neS c_Table__eq__ hr (by decide) L2.pass0 bm_Table__eq__ hne hmo) (pv 0) (pv 1) (nomark _))) pa_nil))))))
      (pss_cons (ps_set (i := 5) sc_law_pair_right.nd rfl (by first | exact Or.inl rfl | exact Or.inr rfl) (pe_g c_law_is_part hr (by decide) L2.pass0 bp_law_is_part (by rfl) (pa_cons (pv 2) (pa_cons (pv 3) pa_nil))))
      (pss_one (ps_ret (pe_cmpR (op_eqDK (K := K) rfl hr.u64) (pv 4) (pe_lst (pa_cons (pv 5) (pa_cons (pv 5) (pa_cons (pe_cmpR (op_eq_dictT hr.u0) (pv 2) (pv 3) (nomark _)) (pa_cons (pe_cmpR (op_eq_dictT hr.u0) (pv 2) (pv 3) (nomark _)) pa_nil))))) (nomark _)))))), ?_⟩
  obtain ⟨dx, D, ha, hD, hne1⟩ := ta
  obtain ⟨dy, D2, hb, hD2, hne2⟩ := tb
  have o1 := srt_ok ok1
  have o2 := srt_ok ok2
  have f1 := o1.few
  have f2 := o2.few
  refine ⟨_, rfl, ⟨_, rfl, ⟨⟨a, dx, _, rfl, ha⟩, ⟨b, dy, _, rfl, hb⟩, ?_⟩⟩⟩
  refine le_go ⟨dx, D, ha, hD, hne1⟩ ⟨dy, D2, hb, hD2, hne2⟩ (by omega) fun H1 s1 => ?_
  rw [leB_srt ok1.nd]
  refine ⟨_, rfl, ⟨_, rfl, ⟨⟨b, dy, _, rfl, s1 _ _ hb⟩, ⟨a, dx, _, rfl, s1 _ _ ha⟩, ?_⟩⟩⟩
  refine ge_go ⟨dy, D2, s1 _ _ hb, s1 _ _ hD2, hne2⟩ ⟨dx, D, s1 _ _ ha, s1 _ _ hD, hne1⟩ (by omega) fun H2 s2 => ?_
  rw [leB_srt ok1.nd]
  have s12 := s1.trans s2
  refine ⟨_, rfl, ⟨_, rfl, ⟨⟨a, dx, _, rfl, s12 _ _ ha⟩, ⟨b, dy, _, rfl, s12 _ _ hb⟩, ?_⟩⟩⟩
  refine eq_go ⟨dx, D, s12 _ _ ha, s12 _ _ hD, hne1⟩ ⟨dy, D2, s12 _ _ hb, s12 _ _ hD2, hne2⟩ ?_
  rw [eqB_srt ok1.nd]
  refine ⟨_, rfl, ⟨_, rfl, ⟨⟨a, dx, _, rfl, s12 _ _ ha⟩, ⟨b, dy, _, rfl, s12 _ _ hb⟩, ?_⟩⟩⟩
  refine eq_go ⟨dx, D, s12 _ _ ha, s12 _ _ hD, hne1⟩ ⟨dy, D2, s12 _ _ hb, s12 _ _ hD2, hne2⟩ ?_
  rw [eqB_srt ok1.nd]
  generalize hx : (m1.length == m2.length && pB m1 m2) = x
  generalize hy : pB m1 m2 = y
  refine ⟨x, rfl, ⟨!x, rfl, ?_⟩⟩
  rw [Bool.not_not]
  refine ⟨szl (by show 4 ≤ 1000000; decide), fun L nL => ?_⟩
  have sL : Same H (upd H2 L (.lst [.bl y, .bl y, .bl x, .bl x])) := fun b o q => updn (nonn nL (s12 _ _ q)) (s12 _ _ q)
  have eL : upd H2 L (.lst [.bl y, .bl y, .bl x, .bl x]) L = some (.lst [.bl y, .bl y, .bl x, .bl x]) := upd_same
  generalize upd H2 L (.lst [.bl y, .bl y, .bl x, .bl x]) = H3 at sL eL ⊢
  refine ⟨_, rfl, ⟨_, rfl, ?_⟩⟩
  refine isp_go (sL _ _ e1) (sL _ _ e2) ok1.nd (by have := ok1.few; omega) fun H4 s4 => ?_
  rw [hy]
  have s04 := sL.trans s4
  refine ⟨_, rfl, ?_⟩
  refine ⟨_, rfl, ⟨_, rfl, ?_⟩⟩
  refine ⟨_, rfl, ⟨_, rfl, ⟨M1, M2, tk m1, tk m2, rfl, rfl, s04 _ _ e1, s04 _ _ e2, tk_flat m1, tk_flat m2, ?_⟩⟩⟩
  refine ⟨_, rfl, ⟨_, rfl, ⟨M1, M2, tk m1, tk m2, rfl, rfl, s04 _ _ e1, s04 _ _ e2, tk_flat m1, tk_flat m2, ?_⟩⟩⟩
  rw [tk_len, tk_len, allEq_tk, hx]
  refine ⟨szl (by show 4 ≤ 1000000; decide), fun L2 nL2 => ?_⟩
  have ft : Fit _ _ (.list [.bool y, .bool y, .bool x, .bool x]) := Fit.list (N := 10) (D := 0) fun d hd => by
    simp only [List.mem_cons, List.not_mem_nil, or_false] at hd
    rcases hd with rfl | rfl | rfl | rfl <;> exact .bool _
  refine ⟨_, _, .lst (SqL.of (updn (nonn nL2 (s4 _ _ eL)) (s4 _ _ eL))) (.cons (.bl y) (.cons (.bl y) (.cons (.bl x) (.cons (.bl x) .nil)))), .lst (SqL.of upd_same) (.cons (.bl y) (.cons (.bl y) (.cons (.bl x) (.cons (.bl x) .nil)))), ft.shp (by decide), ft.shp (by decide), ?_⟩
  rw [ft.eqv]
  exact k _ fun b o q => updn (nonn nL2 (s04 _ _ q)) (s04 _ _ q)
end
open PySem PySem.Spec PyProof.Rows
open L2 hiding pass0
abbrev s_law_back_right : Stmt := top 44
theorem sc_law_back_right : FnScope ["_law_pot_here", "_law_span", "_law_here", "_law_model", "_law_part_here"] ["_law_pot_here", "_law_span", "_law_here", "_law_model"] (defScope s_law_back_right) := ⟨rfl, rfl, rfl, by decide +kernel, rfl, by decide +kernel, by decide +kernel⟩
theorem bp_law_back_right : BndP "_law_back_right" s_law_back_right ["_law_pot_here", "_law_span", "_law_here", "_law_model"] := fun _ _ _ _ _ _ us h => match us, h with | [_, _, _, _], _ => rfl
theorem nodup_sub : ∀ {fs found : List Str}, fs.Nodup → (∀ x ∈ fs, x ∈ found) → fs.length ≤ found.length
  | [], _, _, _ => Nat.zero_le _
  | a :: t, found, hn, h => by
    have ha := h a (List.mem_cons_self ..)
    have hn' := List.nodup_cons.mp hn
    have := nodup_sub (found := found.erase a) hn'.2 fun x hx => by
      have ne : x ≠ a := fun q => hn'.1 (q ▸ hx)
      exact (List.mem_erase_of_ne ne).mpr (h x (List.mem_cons_of_mem _ hx))
    rw [List.length_erase_of_mem ha] at this
    have : 0 < found.length := List.length_pos_of_mem ha
    show t.length + 1 ≤ _
    omega
theorem look_mem_key {m : List (Str × Str)} {k : Str} : k ∈ m.map (·.1) ↔ (look m k).isSome = true := by
  rw [look_key, decide_eq_true_iff]
theorem same_look {X m : List (Str × Str)} (h1 : (X.map (·.1)).Nodup) (h2 : (m.map (·.1)).Nodup) (h : ∀ k, look X k = look m k) : (X.length == m.length && pB X m) = true := by
  rw [Bool.and_eq_true]
  constructor
  · rw [beq_iff_eq]
    have a := nodup_sub h1 (found := m.map (·.1)) fun x hx => by rw [look_mem_key] at hx ⊢; rw [← h x]; exact hx
    have b := nodup_sub h2 (found := X.map (·.1)) fun x hx => by rw [look_mem_key] at hx ⊢; rw [h x]; exact hx
    rw [List.length_map, List.length_map] at a b
    omega
  · refine List.all_eq_true.mpr fun q hq => decide_eq_true ?_
    rw [← h q.1]
    exact look_of h1 hq
theorem row_of {n : Int} {m : List (Str × Str)} {k v : Str} (ok : ∀ p ∈ m, RowOk n p) (h : look m k = some v) : RowOk n (k, v) := by
  unfold look at h
  cases hf : m.find? (fun p => decide (p.1 = k)) with
  | none => rw [hf] at h; cases h
  | some p =>
    rw [hf] at h
    have e1 : p.1 = k := by simpa using List.find?_some hf
    have e2 : p.2 = v := Option.some.inj h
    have := ok p (List.mem_of_find?_eq_some hf)
    rw [← e1, ← e2]
    exact this
theorem TabOk.put {n : Int} {m : List (Str × Str)} {k g : Str} (ok : TabOk n m) (r : RowOk n (k, g)) (hl : (putT m k g).length ≤ 40) : TabOk n (putT m k g) := ⟨ok.w0, ok.w1, put_ok ok.rows r, put_nodup ok.nd, hl⟩
theorem less_len (m : List (Str × Str)) (k : Str) : (lessT m k).length ≤ m.length := List.length_filter_le _ _
theorem add_go {C a t : Addr} {n : Int} {m : List (Str × Str)} {q : Str × Str} {H : Hp} {Q : VK} {E : XK} (ht : TabAt C H a n m) (hq : H t = some (.tup [.str q.1, .str q.2])) (ok : TabOk n m) (hr : RowOk n q) (hl : (putT m q.1 q.2).length ≤ 40) (k : ∀ a' H', Same H H' → H a' = none → TabAt C H' a' n (srt (putT m q.1 q.2)) → Q (.ref a') H') : spAdd C [.ref a, .ref t] H Q E := by
  unfold spAdd
  exact ⟨a, t, n, m, q, rfl, ht, hq, ok, hr, hl, k⟩
theorem TabAt.same {C a : Addr} {n : Int} {m : List (Str × Str)} {H H' : Hp} (h : TabAt C H a n m) (s : Same H H') : TabAt C H' a n m := by
  obtain ⟨dx, D, ha, hD, hne⟩ := h
  exact ⟨dx, D, s _ _ ha, s _ _ hD, hne⟩
theorem TabAt.ins {C a : Addr} {n : Int} {m : List (Str × Str)} {H : Hp} (h : TabAt C H a n m) : IsI H C (.ref a) := by
  obtain ⟨dx, D, ha, hD, hne⟩ := h
  exact ⟨a, dx, _, rfl, ha⟩
@[irreducible] def spBack (C : Addr) : Sp := fun vs H Q _ => ∃ (p a M : Addr) (n : Nat) (m : List (Str × Str)), vs = [.ref p, .int n, .ref a, .ref M] ∧ PotAt H p ∧ TabAt C H a n (srt m) ∧ H M = some (.dK (tk m)) ∧ TabOk n m ∧ m.length ≤ 39 ∧ ∀ H', Go p H H' → Q (.bl true) H'
section
variable {P : Program} {w : World} {K : PySem.W.Frag} {mg : Str → Option Value} {base : Heap} {f C : Addr} {fd : FuncData}
theorem ok_back (F : Fun K "_law_back_right" "_law_back_right" s_law_back_right f fd) (hm : mg "_law_back_right" = some (.ref f)) (T : Txt K mg) (TC : TabC K C) {gadd : Addr} (h0add : Meth K C "__add__" gadd) (c_law_part : Nm P w K mg base CX0 4 "_law_part" s_law_part ["_law_pot_here", "_law_span", "_law_model"] (spPart)) (c_Table__sub__ : Mth P w K mg base CX0 8 C "__sub__" "Table.__sub__" s_Table__sub__ ["self", "other"] (spSub C)) (c_Table__add__ : Mth P w K mg base CX0 8 C "__add__" "Table.__add__" s_Table__add__ ["self", "other"] (spAdd C)) (c_Table__radd__ : Mth P w K mg base CX0 9 C "__radd__" "Table.__radd__" s_Table__radd__ ["self", "other"] (spAdd C)) (c_Table__eq__ : Mth P w K mg base CX0 1 C "__eq__" "Table.__eq__" s_Table__eq__ ["self", "other"] (spEq C)) : Nm P w K mg base CX0 10 "_law_back_right" s_law_back_right ["_law_pot_here", "_law_span", "_law_here", "_law_model"] (spBack C) := by
  refine nm_of F hm sc_law_back_right (fun vs H Q E h => ?_) fun cdv A outer s H vs Q E hr h => ?_
  · unfold spBack at h
    obtain ⟨p, a, M, n, m, rfl, hp, ta, eM, ok, l39, k⟩ := h
    subst_vars
    rfl
  unfold spBack at h
  obtain ⟨p, a, M, n, m, rfl, hp, ta, eM, ok, l39, k⟩ := h
  refine ⟨_, (pss_cons (ps_set (i := 4) sc_law_back_right.nd rfl (by first | exact Or.inl rfl | exact Or.inr rfl) (pe_g c_law_part hr (by decide) L2.pass0 bp_law_part (by rfl) (pa_cons (pv 0) (pa_cons (pv 1) (pa_cons (pv 3) pa_nil)))))
      (pss_cons (ps_if (pt_cmp (pc_din hr.u1 (pv 4) (pv 3))) (pss_one (ps_ret (pe_and (pe_cmpR (op_cmpS c_Table__eq__ hr (by decide) L2.pass0 bm_Table__eq__ rfl) (pe_op (op_binL c_Table__add__ TC.sf hr (by decide) L2.pass0 bm_Table__add__ (T := "tuple") (by rfl)) (pe_op (op_binL c_Table__sub__ TC.sf hr (by decide) L2.pass0 bm_Table__sub__ (T := "str") (by rfl)) (pv 2) (pv 4)) (pe_tup (pa_cons (pv 4) (pa_cons (pe_dget hr.u1 (pv 3) (pv 4) (fun _ _ => rfl)) pa_nil)))) (pv 2) (nomark _)) (pe_one (pe_cmpR (op_cmpS c_Table__eq__ hr (by decide) L2.pass0 bm_Table__eq__ rfl) (pe_op (op_binR c_Table__radd__ TC.sf hr (by decide) L2.pass0 bm_Table__radd__ (T := "tuple") (by rfl) h0add) (pe_tup (pa_cons (pv 4) (pa_cons (pe_dget hr.u1 (pv 3) (pv 4) (fun _ _ => rfl)) pa_nil))) (pe_op (op_binL c_Table__sub__ TC.sf hr (by decide) L2.pass0 bm_Table__sub__ (T := "str") (by rfl)) (pv 2) (pv 4))) (pv 2) (nomark _)))))) pss_nil)
      (pss_one (ps_ret (pe_and (pe_cmpR (op_cmpS c_Table__eq__ hr (by decide) L2.pass0 bm_Table__eq__ rfl) (pe_op (op_binL c_Table__sub__ TC.sf hr (by decide) L2.pass0 bm_Table__sub__ (T := "str") (by rfl)) (pe_op (op_binL c_Table__add__ TC.sf hr (by decide) L2.pass0 bm_Table__add__ (T := "tuple") (by rfl)) (pv 2) (pe_tup (pa_cons (pv 4) (pa_cons pe_str pa_nil)))) (pv 4)) (pv 2) (nomark _)) (pe_one (pe_cmpR (op_cmpS c_Table__eq__ hr (by decide) L2.pass0 bm_Table__eq__ rfl) (pe_op (op_binL c_Table__sub__ TC.sf hr (by decide) L2.pass0 bm_Table__sub__ (T := "str") (by rfl)) (pe_op (op_binR c_Table__radd__ TC.sf hr (by decide) L2.pass0 bm_Table__radd__ (T := "tuple") (by rfl) h0add) (pe_tup (pa_cons (pv 4) (pa_cons pe_str pa_nil))) (pv 2)) (pv 4)) (pv 2) (nomark _)))))))), ?_⟩
  have w0 := ok.w0
  have w1 := ok.w1
  have oS := srt_ok ok
  have lS := srt_len m
  refine ⟨_, rfl, ⟨_, rfl, ⟨_, rfl, ?_⟩⟩⟩
  refine part_go hp (by omega) (by omega) eM (by omega) (fun x hx => by
    obtain ⟨q, hq, rfl⟩ := List.mem_map.mp hx
    exact ⟨(ok.rows q hq).1, by have := (ok.rows q hq).2.1; omega⟩) fun z H1 hz lz g1 => ?_
  have eM1 := g1.dk hp eM
  have ta1 := g1.tab hp ta
  refine ⟨_, rfl, ⟨_, rfl, ⟨M, _, rfl, .inl ⟨tk m, Sum.inr z, .inl eM1, rfl, rfl⟩, ?_⟩⟩⟩
  rw [look_has]
  have fin : ∀ H', Same H1 H' → Q (.bl true) H' := fun H' s => k H' (g1.trans (Go.of g1.pot s))
  cases hl : look m z with
  | some v =>
    refine ⟨_, rfl, iteT ?_⟩
    have hzm : z ∈ m.map (·.1) := look_mem_key.mpr (by rw [hl]; rfl)
    have hzs : z ∈ (srt m).map (·.1) := by rw [srt_keys]; exact (tsort_perm _).mem_iff.mpr hzm
    have hv : valV (tk m) (Sum.inr z) = some (.str v) := by rw [val_look, hl]; rfl
    have rv := row_of ok.rows hl
    have okL := srt_ok (oS.less z)
    have lX : (putT (srt (lessT (srt m) z)) z v).length ≤ 40 := by
      have a1 := put_len (srt (lessT (srt m) z)) z v
      have a2 := less_len (srt m) z
      rw [srt_len] at a1
      omega
    have okX := okL.put rv lX
    have lookX : ∀ k, look (putT (srt (lessT (srt m) z)) z v) k = look m k := fun k => by
      rw [look_put, look_srt]
      unfold lessT
      rw [look_less, look_srt]
      by_cases q : k = z
      · rw [if_pos q, q, hl]
      · rw [if_neg q, if_neg q]
    have eqX := same_look okX.nd ok.nd lookX
    refine ⟨_, rfl, ⟨_, rfl, ⟨ta1.ins, Or.inl rfl, ?_⟩⟩⟩
    refine sub_go ta1 oS hzs fun T2 H2 s2 n2 t2 => ?_
    refine ⟨_, rfl, ⟨_, rfl, ⟨_, rfl, ⟨M, .str v, rfl, .inl ⟨tk m, Sum.inr z, .inl (s2 _ _ eM1), rfl, hv.symm⟩, ⟨szl (by show 2 ≤ 1000000; decide), fun t nt => ?_⟩⟩⟩⟩⟩
    have st : Same H2 (upd H2 t (.tup [.str z, .str v])) := fun b o q => updn (nonn nt q) q
    have et : upd H2 t (.tup [.str z, .str v]) t = some (.tup [.str z, .str v]) := upd_same
    generalize upd H2 t (.tup [.str z, .str v]) = H3 at st et ⊢
    refine ⟨(t2.same st).ins, Or.inr ⟨rfl, t, _, rfl, et⟩, ?_⟩
    refine add_go (q := (z, v)) (t2.same st) et okL rv lX fun T3 H4 s4 n4 t4 => ?_
    have s14 := (s2.trans st).trans s4
    refine ⟨_, rfl, ⟨t4.ins, (ta1.same s14).ins, ?_⟩⟩
    refine eq_go t4 (ta1.same s14) ?_
    rw [eqB_srt okX.nd, eqX]
    refine ⟨_, rfl, iteT ?_⟩
    clear t4 n4 s4 et st nt t2 n2 s2
    refine ⟨_, rfl, ⟨_, rfl, ⟨_, rfl, ⟨M, .str v, rfl, .inl ⟨tk m, Sum.inr z, .inl (s14 _ _ eM1), rfl, hv.symm⟩, ⟨szl (by show 2 ≤ 1000000; decide), fun t nt => ?_⟩⟩⟩⟩⟩
    have st : Same H1 (upd H4 t (.tup [.str z, .str v])) := fun b o q => updn (nonn nt (s14 _ _ q)) (s14 _ _ q)
    have et : upd H4 t (.tup [.str z, .str v]) t = some (.tup [.str z, .str v]) := upd_same
    generalize upd H4 t (.tup [.str z, .str v]) = H5 at st et ⊢
    refine ⟨_, rfl, ⟨_, rfl, ⟨(ta1.same st).ins, Or.inl rfl, ?_⟩⟩⟩
    refine sub_go (ta1.same st) oS hzs fun T4 H6 s6 n6 t6 => ?_
    refine ⟨t6.ins, Or.inr ⟨rfl, t, _, rfl, s6 _ _ et⟩, ?_⟩
    refine add_go (q := (z, v)) t6 (s6 _ _ et) okL rv lX fun T5 H7 s7 n7 t7 => ?_
    have s17 := (st.trans s6).trans s7
    refine ⟨_, rfl, ⟨t7.ins, (ta1.same s17).ins, ?_⟩⟩
    refine eq_go t7 (ta1.same s17) ?_
    rw [eqB_srt okX.nd, eqX]
    exact fin _ s17
  | none =>
    refine ⟨_, rfl, iteF ?_⟩
    have key : ∀ g : Str, look m z = none → ∀ k, look (lessT (srt (putT (srt m) z g)) z) k = look m k := fun g h k => by
      unfold lessT
      rw [look_less, look_srt, look_put, look_srt]
      by_cases q : k = z
      · rw [if_pos q, q, h]
      · rw [if_neg q, if_neg q]
    have lP : ∀ g : Str, (putT (srt m) z g).length ≤ 40 := fun g => by
      have := put_len (srt m) z g
      omega
    have rA : RowOk n (z, ("a" : Str)) := rowOk_of hz (by omega) g_a
    have rB : RowOk n (z, ("b" : Str)) := rowOk_of hz (by omega) g_b
    have zin : ∀ g : Str, z ∈ (srt (putT (srt m) z g)).map (·.1) := fun g => look_mem_key.mpr (by rw [look_srt, look_put, if_pos rfl]; rfl)
    have okA := srt_ok (oS.put rA (lP "a"))
    have okB := srt_ok (oS.put rB (lP "b"))
    have eA := same_look (okA.less z).nd ok.nd (key "a" hl)
    have eB := same_look (okB.less z).nd ok.nd (key "b" hl)
    refine ⟨_, rfl, ⟨_, rfl, ⟨szl (by show 2 ≤ 1000000; decide), fun t nt => ?_⟩⟩⟩
    have st : Same H1 (upd H1 t (.tup [.str z, .str "a"])) := fun b o q => updn (nonn nt q) q
    have et : upd H1 t (.tup [.str z, .str "a"]) t = some (.tup [.str z, .str "a"]) := upd_same
    generalize upd H1 t (.tup [.str z, .str "a"]) = H3 at st et ⊢
    refine ⟨(ta1.same st).ins, Or.inr ⟨rfl, t, _, rfl, et⟩, ?_⟩
    refine add_go (q := (z, ("a" : Str))) (ta1.same st) et oS rA (lP "a") fun T3 H4 s4 n4 t4 => ?_
    refine ⟨_, rfl, ⟨t4.ins, Or.inl rfl, ?_⟩⟩
    refine sub_go t4 okA (zin "a") fun T5 H5 s5 n5 t5 => ?_
    have s15 := (st.trans s4).trans s5
    refine ⟨_, rfl, ⟨t5.ins, (ta1.same s15).ins, ?_⟩⟩
    refine eq_go t5 (ta1.same s15) ?_
    rw [eqB_srt (okA.less z).nd, eA]
    refine ⟨_, rfl, iteT ?_⟩
    clear t5 n5 s5 t4 n4 s4 et st nt
    refine ⟨_, rfl, ⟨szl (by show 2 ≤ 1000000; decide), fun t nt => ?_⟩⟩
    have st : Same H1 (upd H5 t (.tup [.str z, .str "b"])) := fun b o q => updn (nonn nt (s15 _ _ q)) (s15 _ _ q)
    have et : upd H5 t (.tup [.str z, .str "b"]) t = some (.tup [.str z, .str "b"]) := upd_same
    generalize upd H5 t (.tup [.str z, .str "b"]) = H6 at st et ⊢
    refine ⟨_, rfl, ⟨(ta1.same st).ins, Or.inr ⟨rfl, t, _, rfl, et⟩, ?_⟩⟩
    refine add_go (q := (z, ("b" : Str))) (ta1.same st) et oS rB (lP "b") fun T6 H7 s7 n7 t7 => ?_
    refine ⟨_, rfl, ⟨t7.ins, Or.inl rfl, ?_⟩⟩
    refine sub_go t7 okB (zin "b") fun T8 H8 s8 n8 t8 => ?_
    have s18 := (st.trans s7).trans s8
    refine ⟨_, rfl, ⟨t8.ins, (ta1.same s18).ins, ?_⟩⟩
    refine eq_go t8 (ta1.same s18) ?_
    rw [eqB_srt (okB.less z).nd, eB]
    exact fin _ s18
end
open PySem PySem.Spec PyProof.Rows
open L2 hiding pass0
abbrev s_law_deed : Stmt := top 40
theorem sc_law_deed : FnScope ["_law_pot_here", "_law_span", "_law_made", "_law_models", "_law_at", "_law_other_at", "_law_way", "_law_here", "_law_model", "_law_part_here", "_law_goal_now", "_law_more", "_law_near"] ["_law_pot_here", "_law_span", "_law_made", "_law_models"] (defScope s_law_deed) := ⟨rfl, rfl, rfl, by decide +kernel, rfl, by decide +kernel, by decide +kernel⟩
theorem bp_law_deed : BndP "_law_deed" s_law_deed ["_law_pot_here", "_law_span", "_law_made", "_law_models"] := fun _ _ _ _ _ _ us h => match us, h with | [_, _, _, _], _ => rfl
theorem tk_app (m r : List (Str × Str)) : tk (m ++ r) = tk m ++ tk r := by unfold tk; rw [List.map_append]
theorem mrg_more {m : List (Str × Str)} {k g : Str} (h : (m.map (·.1)).Nodup) : mergeK [] (tk (m ++ [(k, g)])) = tk (putT m k g) := by
  rw [tk_app]
  unfold mergeK
  rw [List.foldl_append]
  have e := mrg_nil h
  unfold mergeK at e
  rw [e, ← tk_put]
  rfl
/-- tuples of two texts at these places -/
inductive Tq (H : Hp) : List Addr → List (Str × Str) → Prop
  | nil : Tq H [] []
  | cons {a : Addr} {q : Str × Str} {ts : List Addr} {m : List (Str × Str)} : H a = some (.tup [.str q.1, .str q.2]) → Tq H ts m → Tq H (a :: ts) (q :: m)
theorem Tq.mono {H H' : Hp} (k : ∀ a l, H a = some (.tup l) → H' a = some (.tup l)) : ∀ {ts : List Addr} {m : List (Str × Str)}, Tq H ts m → Tq H' ts m
  | _, _, .nil => .nil
  | _, _, .cons h r => .cons (k _ _ h) (r.mono k)
theorem Tq.app {H : Hp} {us : List Addr} {qs : List (Str × Str)} (u : Tq H us qs) : ∀ {ts : List Addr} {m : List (Str × Str)}, Tq H ts m → Tq H (ts ++ us) (m ++ qs)
  | _, _, .nil => u
  | _, _, .cons h r => .cons h (Tq.app u r)
theorem Tq.len {H : Hp} : ∀ {ts : List Addr} {m : List (Str × Str)}, Tq H ts m → ts.length = m.length
  | _, _, .nil => rfl
  | _, _, .cons _ r => congrArg (· + 1) r.len
theorem Tq.pair {K : PySem.W.Frag} {H : Hp} : ∀ {ts : List Addr} {m : List (Str × Str)}, Tq H ts m → Paired (fun p (kv : Key × V) => SqT K H p [kV kv.1, kv.2]) ts (tk m)
  | _, _, .nil => .nil
  | _, _, .cons h r => .cons (SqT.of h) r.pair
theorem Tq.of {H : Hp} : ∀ {ts : List Addr} {m : List (Str × Str)}, Paired (fun (t : Addr) (q : Key × V) => H t = some (.tup [kV q.1, q.2])) ts (tk m) → Tq H ts m
  | [], [], _ => .nil
  | a :: ts, q :: m, h => by
    cases h with
    | cons h r => exact .cons h (Tq.of r)
  | [], q :: m, h => by cases h
  | a :: ts, [], h => by cases h
/-- a list at B, made since H0, of such tuples; there are draws -/
def LQ (p : Addr) (H0 : Hp) (B : Addr) (m : List (Str × Str)) (H : Hp) : Prop := (∃ ts : List Addr, H B = some (.lst (ts.map V.ref)) ∧ Tq H ts m) ∧ Go p H0 H
theorem LQ.nil {p B : Addr} {H0 : Hp} (hp : PotAt H0 p) (nB : H0 B = none) : LQ p H0 B [] (upd H0 B (.lst [])) := ⟨⟨[], upd_same, .nil⟩, (Go.refl hp).new nB⟩
theorem LQ.turn {p B t : Addr} {H0 H1 H2 : Hp} {x y : Str} {m : List (Str × Str)} (hp : PotAt H0 p) (h : LQ p H0 B m H1) (nB : H0 B = none) (g : Go p H1 H2) (nt : H2 t = none) (hl : m.length ≤ 100000) :
    ∃ acc, upd H2 t (.tup [.str x, .str y]) B = some (.lst acc) ∧ acc.length < sizeLine ∧ LQ p H0 B (m ++ [(x, y)]) (upd (upd H2 t (.tup [.str x, .str y])) B (.lst (acc ++ [.ref t]))) := by
  obtain ⟨⟨ts, hB, tq⟩, g1⟩ := h
  have npB : B ≠ p := hp.ne nB
  have hB2 := g.kp hB npB
  have nt' : B ≠ t := nonn nt hB2
  have tq2 : Tq (upd H2 t (.tup [.str x, .str y])) ts m := tq.mono fun a l e => by
    have e2 := g.tp g1.pot e
    exact updn (nonn nt e2) e2
  refine ⟨_, updn nt' hB2, szt (by rw [List.length_map, tq.len]; omega), ⟨ts ++ [t], by rw [upd_same, List.map_append]; rfl, ?_⟩, ?_⟩
  · have t3 : Tq (upd H2 t (.tup [.str x, .str y])) (ts ++ [t]) (m ++ [(x, y)]) := Tq.app (.cons (q := (x, y)) upd_same .nil) tq2
    refine t3.mono fun a l e => ?_
    have n : a ≠ B := fun q => by
      subst q
      rw [updn nt' hB2] at e
      cases e
    exact updn n e
  · exact ((g1.trans g).new nt).mut nB npB
theorem LQ.skip {p B : Addr} {H0 H1 H2 : Hp} {m : List (Str × Str)} (hp : PotAt H0 p) (h : LQ p H0 B m H1) (nB : H0 B = none) (g : Go p H1 H2) : LQ p H0 B m H2 := by
  obtain ⟨⟨ts, hB, tq⟩, g1⟩ := h
  exact ⟨⟨ts, g.kp hB (hp.ne nB), tq.mono fun a l e => g.tp g1.pot e⟩, g1.trans g⟩
/-- a table, its dict, what they hold -/
def Trio (C : Addr) (n : Int) (H : Hp) (x : Addr × Addr × List (Str × Str)) : Prop := TabAt C H x.1 n (srt x.2.2) ∧ H x.2.1 = some (.dK (tk x.2.2))
def Keys (U : List Str) (m : List (Str × Str)) : Prop := ∀ k ∈ m.map (·.1), k ∈ U
theorem keys_len {n : Int} {U : List Str} {m : List (Str × Str)} (ok : TabOk n m) (h : Keys U m) : m.length ≤ U.length := by
  have := nodup_sub ok.nd h
  rw [List.length_map] at this
  exact this
theorem perm_nd : ∀ {a b : List Str}, a.Nodup → b.Nodup → (∀ x, x ∈ a ↔ x ∈ b) → a.Perm b
  | [], b, _, _, h => by
    cases b with
    | nil => exact .nil
    | cons x r => exact absurd ((h x).mpr (List.mem_cons_self ..)) List.not_mem_nil
  | x :: a, b, ha, hb, h => by
    have hx : x ∈ b := (h x).mp (List.mem_cons_self ..)
    have ha' := List.nodup_cons.mp ha
    refine List.Perm.trans (List.Perm.cons x (perm_nd ha'.2 (hb.erase x) fun y => ?_)) (List.perm_cons_erase hx).symm
    rw [hb.mem_erase_iff]
    constructor
    · intro hy
      exact ⟨fun e => ha'.1 (e ▸ hy), (h y).mp (List.mem_cons_of_mem _ hy)⟩
    · rintro ⟨hne, hy⟩
      exact (List.mem_cons.mp ((h y).mpr hy)).resolve_left hne
theorem srt_eq {X m : List (Str × Str)} (h1 : (X.map (·.1)).Nodup) (h2 : (m.map (·.1)).Nodup) (h : ∀ k, look X k = look m k) : srt X = srt m := by
  have hp : (X.map (·.1)).Perm (m.map (·.1)) := perm_nd h1 h2 fun x => by rw [look_mem_key, look_mem_key, h x]
  have hk : tsort (X.map (·.1)) = tsort (m.map (·.1)) := tsort_uniq ((tsort_perm _).trans hp) (tsort_ts _)
  unfold srt
  rw [hk]
  refine List.map_congr_left fun k _ => ?_
  rw [look_get, look_get, h k]
theorem keys_put {U : List Str} {m : List (Str × Str)} {k g : Str} (h : Keys U m) : Keys (k :: U) (putT m k g) := fun x hx => by
  rw [look_mem_key, look_put] at hx
  by_cases q : x = k
  · rw [q]; exact List.mem_cons_self ..
  · rw [if_neg q] at hx
    exact List.mem_cons_of_mem _ (h x (look_mem_key.mpr hx))
theorem keys_less {U : List Str} {m : List (Str × Str)} {k : Str} (h : Keys U m) : Keys U (lessT m k) := fun x hx => h x ((less_sub m k).subset hx)
theorem keys_mono {U : List Str} {m : List (Str × Str)} {k : Str} (h : Keys U m) : Keys (k :: U) m := fun x hx => List.mem_cons_of_mem _ (h x hx)
theorem keys_mrg {U : List Str} : ∀ {r m : List (Str × Str)}, Keys U m → Keys U r → Keys U (mrgT m r)
  | [], _, h, _ => h
  | q :: r, m, h, h2 => keys_mrg (r := r) (m := putT m q.1 q.2) (fun x hx => by
      rcases List.mem_cons.mp (keys_put (k := q.1) (g := q.2) h x hx) with e | e
      · rw [e]; exact h2 q.1 (List.mem_cons_self ..)
      · exact e) fun x hx => h2 x (List.mem_cons_of_mem _ hx)
theorem mrg_two {m r : List (Str × Str)} (h : (m.map (·.1)).Nodup) : mergeK [] (tk (m ++ r)) = tk (mrgT m r) := by
  rw [tk_app]
  unfold mergeK
  rw [List.foldl_append]
  have e := mrg_nil h
  unfold mergeK at e
  rw [e]
  exact mrgT_tk r m
theorem or_go {C a b : Addr} {n : Int} {m r : List (Str × Str)} {H : Hp} {Q : VK} {E : XK} (ta : TabAt C H a n m) (tb : TabAt C H b n r) (o1 : TabOk n m) (o2 : TabOk n r) (hl : (mrgT m r).length ≤ 40) (k : ∀ a' H', Same H H' → H a' = none → TabAt C H' a' n (srt (mrgT m r)) → Q (.ref a') H') : spOr C [.ref a, .ref b] H Q E := by
  unfold spOr
  exact ⟨a, b, n, m, r, rfl, ta, tb, o1, o2, hl, k⟩
theorem keys_srt {U : List Str} {m : List (Str × Str)} (h : Keys U m) : Keys U (srt m) := fun x hx => h x (look_mem_key.mpr (by rw [look_mem_key, look_srt] at hx; exact hx))
theorem mrg_few {n : Int} {U : List Str} {m r : List (Str × Str)} (o1 : TabOk n m) (h1 : Keys U m) (h2 : Keys U r) : (mrgT m r).length ≤ U.length := by
  have := nodup_sub (mrgT_nd (r := r) o1.nd) (keys_mrg h1 h2)
  rw [List.length_map] at this
  exact this
@[irreducible] def spDeed (C : Addr) : Sp := fun vs H Q _ => ∃ (p LT LM : Addr) (n : Nat) (xs : List (Addr × Addr × List (Str × Str))) (U : List Str), vs = [.ref p, .int n, .ref LT, .ref LM] ∧ PotAt H p ∧ 1 ≤ n ∧ n ≤ 100 ∧ LT ≠ p ∧ LM ≠ p ∧
  H LT = some (.lst (xs.map fun x => V.ref x.1)) ∧ H LM = some (.lst (xs.map fun x => V.ref x.2.1)) ∧ 0 < xs.length ∧ xs.length ≤ 100 ∧ (∀ x ∈ xs, Trio C n H x ∧ TabOk n x.2.2 ∧ Keys U x.2.2) ∧ U.length ≤ 39 ∧
  ∀ (t : Addr) (y : Addr × Addr × List (Str × Str)) (k : Str) (H' : Hp), Go p H H' → H' t = some (.tup [.ref y.1, .ref y.2.1]) → Trio C n H' y → TabOk n y.2.2 → Keys (k :: U) y.2.2 → Q (.ref t) H'
section
variable {P : Program} {w : World} {K : PySem.W.Frag} {mg : Str → Option Value} {base : Heap} {f C : Addr} {fd : FuncData}
theorem ok_deed (F : Fun K "_law_deed" "_law_deed" s_law_deed f fd) (hm : mg "_law_deed" = some (.ref f)) (T : Txt K mg) (TC : TabC K C) {gadd : Addr} (h0add : Meth K C "__add__" gadd) (c_law_draw : Nm P w K mg base CX0 1 "_law_draw" s_law_draw ["_law_pot_here", "_law_many"] (spDraw)) (c_law_among : Nm P w K mg base CX0 2 "_law_among" s_law_among ["_law_pot_here", "_law_some"] (spAmong K)) (c_law_part : Nm P w K mg base CX0 4 "_law_part" s_law_part ["_law_pot_here", "_law_span", "_law_model"] (spPart)) (c_Table__sub__ : Mth P w K mg base CX0 8 C "__sub__" "Table.__sub__" s_Table__sub__ ["self", "other"] (spSub C)) (c_Table__add__ : Mth P w K mg base CX0 8 C "__add__" "Table.__add__" s_Table__add__ ["self", "other"] (spAdd C)) (c_Table__radd__ : Mth P w K mg base CX0 9 C "__radd__" "Table.__radd__" s_Table__radd__ ["self", "other"] (spAdd C)) (c_Table__or__ : Mth P w K mg base CX0 8 C "__or__" "Table.__or__" s_Table__or__ ["self", "other"] (spOr C)) : Nm P w K mg base CX0 10 "_law_deed" s_law_deed ["_law_pot_here", "_law_span", "_law_made", "_law_models"] (spDeed C) := by
  refine nm_of F hm sc_law_deed (fun vs H Q E h => ?_) fun cdv A outer s H vs Q E hr h => ?_
  · unfold spDeed at h
    obtain ⟨p, LT, LM, n, xs, U, rfl, hp, h0, h1, npT, npM, eT, eM, l0, l1, hx, lU, k⟩ := h
    subst_vars
    rfl
  unfold spDeed at h
  obtain ⟨p, LT, LM, n, xs, U, rfl, hp, h0, h1, npT, npM, eT, eM, l0, l1, hx, lU, k⟩ := h
  refine ⟨_, (C8.pss_cut (ps_par3 (i := 4) (j := 5) (l := 6) (by rfl) sc_law_deed.nd rfl rfl rfl (by decide) (by decide) (by decide) rfl rfl rfl (pa_cons (pe_g c_law_draw hr (by decide) L2.pass0 bp_law_draw (by rfl) (pa_cons (pv 0) (pa_cons (pe_callB (call_lenK (K := K) rfl) (by rfl) T.b_len PySem.boot_len (pa_cons (pv 2) pa_nil)) pa_nil))) (pa_cons (pe_g c_law_draw hr (by decide) L2.pass0 bp_law_draw (by rfl) (pa_cons (pv 0) (pa_cons (pe_callB (call_lenK (K := K) rfl) (by rfl) T.b_len PySem.boot_len (pa_cons (pv 2) pa_nil)) pa_nil))) (pa_cons (pe_g c_law_draw hr (by decide) L2.pass0 bp_law_draw (by rfl) (pa_cons (pv 0) (pa_cons pe_int pa_nil))) pa_nil))) (by rfl))
      (C8.pss_cut (ps_asg (pe_tup (pa_cons (pe_ix (ix_seqK (K := K) rfl) (pv 2) (pv 4) (fun _ _ => rfl)) (pa_cons (pe_ix (ix_seqK (K := K) rfl) (pv 3) (pv 4) (fun _ _ => rfl)) pa_nil))) (pg_tup (by rfl) (pgs_cons (pg_name (i := 7) sc_law_deed.nd rfl (by first | exact Or.inl rfl | exact Or.inr rfl)) (pgs_cons (pg_name (i := 8) sc_law_deed.nd rfl (by first | exact Or.inl rfl | exact Or.inr rfl)) pgs_nil))))
      (C8.pss_cut (ps_asg (pe_tup (pa_cons (pe_g c_law_part hr (by decide) L2.pass0 bp_law_part (by rfl) (pa_cons (pv 0) (pa_cons (pv 1) (pa_cons (pv 8) pa_nil)))) (pa_cons (pe_g c_law_among hr (by decide) L2.pass0 bp_law_among (by rfl) (pa_cons (pv 0) (pa_cons (pe_lst (pa_cons pe_str (pa_cons pe_str (pa_cons pe_str (pa_cons pe_str (pa_cons pe_str pa_nil)))))) pa_nil))) pa_nil))) (pg_tup (by rfl) (pgs_cons (pg_name (i := 9) sc_law_deed.nd rfl (by first | exact Or.inl rfl | exact Or.inr rfl)) (pgs_cons (pg_name (i := 10) sc_law_deed.nd rfl (by first | exact Or.inl rfl | exact Or.inr rfl)) pgs_nil))))
      (C8.pss_cut (ps_set (i := 11) sc_law_deed.nd rfl (by first | exact Or.inl rfl | exact Or.inr rfl) (pe_callTy (call_dictP rfl) (by rfl) T.b_dict (by decide +kernel) (pa_cons (pe_op op_cat (LiI.pe_listItems rfl (pv 8) (by rfl) T.b_list (by decide +kernel)) (pe_lst (pa_cons (pe_tup (pa_cons (pv 9) (pa_cons (pv 10) pa_nil))) pa_nil))) pa_nil)))
      (C8.pss_cut (ps_if (pt_cmpR op_eq (pv 6) pe_int (nomark _)) (pss_one (ps_ret (pe_tup (pa_cons (pe_op (op_binL c_Table__add__ TC.sf hr (by decide) L2.pass0 bm_Table__add__ (T := "tuple") (by rfl)) (pv 7) (pe_tup (pa_cons (pv 9) (pa_cons (pv 10) pa_nil)))) (pa_cons (pv 11) pa_nil))))) pss_nil)
      (C8.pss_cut (ps_if (pt_cmpR op_eq (pv 6) pe_int (nomark _)) (pss_one (ps_ret (pe_tup (pa_cons (pe_op (op_binR c_Table__radd__ TC.sf hr (by decide) L2.pass0 bm_Table__radd__ (T := "tuple") (by rfl) h0add) (pe_tup (pa_cons (pv 9) (pa_cons (pv 10) pa_nil))) (pv 7)) (pa_cons (pv 11) pa_nil))))) pss_nil)
      (C8.pss_cut (ps_if (PW.pt (pw_and (pt_cmpR op_eq (pv 6) pe_int (nomark _)) (pw_and1 (pt_cmpR (op_ne_dictT hr.u0) (pv 8) pe_dnewK (nomark _))))) (pss_cons (ps_set (i := 9) sc_law_deed.nd rfl (by first | exact Or.inl rfl | exact Or.inr rfl) (pe_g c_law_among hr (by decide) L2.pass0 bp_law_among (by rfl) (pa_cons (pv 0) (pa_cons (pe_callB (call_sortedD rfl) (by rfl) T.b_sorted (by decide +kernel) (pa_cons (pv 8) pa_nil)) pa_nil))))
      (pss_one (ps_ret (pe_tup (pa_cons (pe_op (op_binL c_Table__sub__ TC.sf hr (by decide) L2.pass0 bm_Table__sub__ (T := "str") (by rfl)) (pv 7) (pv 9)) (pa_cons (pe_callTy (call_dictP rfl) (by rfl) T.b_dict (by decide +kernel) (pa_cons (pe_lock (pe_lc (own := [("_law_near", 12)]) (g := (gName 12)) (by rfl) sc_law_deed.nd (pi_keys (pv 8)) (blkOk_by (own := [("_law_near", 12)]) (N := ["_law_pot_here", "_law_span", "_law_made", "_law_models", "_law_at", "_law_other_at", "_law_way", "_law_here", "_law_model", "_law_part_here", "_law_goal_now", "_law_more", "_law_near"]) (sc := defScope s_law_deed) (by decide +kernel)) (fun _ _ _ _ _ => (pg_name (i := 12) sc_law_deed.nd rfl (by first | exact Or.inl rfl | exact Or.inr rfl))) (fun _ _ _ _ _ => (pts_one (pt_cmpR op_ne (pv 12) (pv 9) (nomark _)))) (fun _ _ _ _ _ => (pe_tup (pa_cons (pv 12) (pa_cons (pe_dget hr.u1 (pv 8) (pv 12) (fun _ _ => rfl)) pa_nil)))))) pa_nil)) pa_nil)))))) pss_nil)
      (C8.pss_cut (ps_if (pt_cmpR op_eq (pv 6) pe_int (nomark _)) (pss_one (ps_ret (pe_tup (pa_cons (pe_op (op_binS c_Table__or__ TC.sf hr (by decide) L2.pass0 bm_Table__or__) (pv 7) (pv 7)) (pa_cons (pe_callTy call_dictD (by rfl) T.b_dict (by decide +kernel) (pa_cons (pv 8) pa_nil)) pa_nil))))) pss_nil)
      (C8.pss_cut (ps_if (PW.pt (pw_and (pt_cmpR op_eq (pv 6) pe_int (nomark _)) (pw_and1 (pt_cmpR op_le (pe_callB call_lenD (by rfl) T.b_len PySem.boot_len (pa_cons (pe_callTy (call_dictP rfl) (by rfl) T.b_dict (by decide +kernel) (pa_cons (pe_op op_cat (LiI.pe_listItems rfl (pv 8) (by rfl) T.b_list (by decide +kernel)) (LiI.pe_listItems rfl (pe_ix (ix_seqK (K := K) rfl) (pv 3) (pv 5) (fun _ _ => rfl)) (by rfl) T.b_list (by decide +kernel))) pa_nil)) pa_nil)) pe_int (nomark _))))) (pss_one (ps_ret (pe_tup (pa_cons (pe_op (op_binS c_Table__or__ TC.sf hr (by decide) L2.pass0 bm_Table__or__) (pv 7) (pe_ix (ix_seqK (K := K) rfl) (pv 2) (pv 5) (fun _ _ => rfl))) (pa_cons (pe_callTy (call_dictP rfl) (by rfl) T.b_dict (by decide +kernel) (pa_cons (pe_op op_cat (LiI.pe_listItems rfl (pv 8) (by rfl) T.b_list (by decide +kernel)) (LiI.pe_listItems rfl (pe_ix (ix_seqK (K := K) rfl) (pv 3) (pv 5) (fun _ _ => rfl)) (by rfl) T.b_list (by decide +kernel))) pa_nil)) pa_nil))))) pss_nil)
      (C8.pss_cut (ps_if (pt_cmpR (op_ne_dictT hr.u0) (pv 8) pe_dnewK (nomark _)) (pss_cons (ps_set (i := 9) sc_law_deed.nd rfl (by first | exact Or.inl rfl | exact Or.inr rfl) (pe_g c_law_among hr (by decide) L2.pass0 bp_law_among (by rfl) (pa_cons (pv 0) (pa_cons (pe_callB (call_sortedD rfl) (by rfl) T.b_sorted (by decide +kernel) (pa_cons (pv 8) pa_nil)) pa_nil))))
      (pss_one (ps_ret (pe_tup (pa_cons (pe_op (op_binL c_Table__add__ TC.sf hr (by decide) L2.pass0 bm_Table__add__ (T := "tuple") (by rfl)) (pv 7) (pe_tup (pa_cons (pv 9) (pa_cons (pv 10) pa_nil)))) (pa_cons (pe_callTy (call_dictP rfl) (by rfl) T.b_dict (by decide +kernel) (pa_cons (pe_op op_cat (LiI.pe_listItems rfl (pv 8) (by rfl) T.b_list (by decide +kernel)) (pe_lst (pa_cons (pe_tup (pa_cons (pv 9) (pa_cons (pv 10) pa_nil))) pa_nil))) pa_nil)) pa_nil)))))) pss_nil)
      (pss_one (ps_ret (pe_tup (pa_cons (pe_op (op_binL c_Table__add__ TC.sf hr (by decide) L2.pass0 bm_Table__add__ (T := "tuple") (by rfl)) (pv 7) (pe_tup (pa_cons pe_str (pa_cons (pv 10) pa_nil)))) (pa_cons (pe_disp (pps_cons pe_str (pv 10) pps_nil) (by rfl) (by rfl) (fun z => by cases z) (by decide)) pa_nil))))))))))))))), ?_⟩
  refine ⟨fun σ' H' => ∃ (i j : Nat) (w6 : Int), σ' = [some (.ref p), some (.int n), some (.ref LT), some (.ref LM), some (.int i), some (.int j), some (.int w6), none, none, none, none, none, none] ∧ i < xs.length ∧ j < xs.length ∧ Go p H H', ?_, ?_⟩
  · refine ⟨_, rfl, ⟨_, rfl, ⟨_, _, rfl, Or.inl ⟨_, SqL.of eT, rfl⟩, ?_⟩⟩⟩
    refine draw_go hp (by rw [List.length_map]; omega) (by rw [List.length_map]; omega) fun d1 H1 d10 d11 g1 => ?_
    refine ⟨_, rfl, ⟨_, rfl, ⟨_, _, rfl, Or.inl ⟨_, SqL.of (g1.kp eT npT), rfl⟩, ?_⟩⟩⟩
    refine draw_go g1.pot (by rw [List.length_map]; omega) (by rw [List.length_map]; omega) fun d2 H2 d20 d21 g2 => ?_
    refine ⟨_, rfl, ?_⟩
    refine draw_go (g1.trans g2).pot (by decide) (by decide) fun d3 H3 d30 d31 g3 => ?_
    obtain ⟨i, rfl⟩ := Int.eq_ofNat_of_zero_le d10
    obtain ⟨j, rfl⟩ := Int.eq_ofNat_of_zero_le d20
    rw [List.length_map] at d11 d21
    exact ⟨_, _, _, rfl, i, j, d3, rfl, by omega, by omega, (g1.trans g2).trans g3⟩
  rintro σ' H1 ⟨i, j, w6, rfl, hi, hj, g1⟩
  obtain ⟨⟨T, M, m⟩, hxi⟩ : ∃ x, xs[i]? = some x := ⟨xs[i], by simp [hi]⟩
  obtain ⟨⟨T2, M2, m2⟩, hxj⟩ : ∃ x, xs[j]? = some x := ⟨xs[j], by simp [hj]⟩
  obtain ⟨⟨tT, tM⟩, ok1, kU1⟩ := hx _ (List.mem_of_getElem? hxi)
  obtain ⟨⟨tT2, tM2⟩, ok2, kU2⟩ := hx _ (List.mem_of_getElem? hxj)
  dsimp only at tT tM ok1 kU1 tT2 tM2 ok2 kU2
  have f1 := keys_len ok1 kU1
  have f2 := keys_len ok2 kU2
  have oS1 := srt_ok ok1
  have oS2 := srt_ok ok2
  refine ⟨fun σ' H' => σ' = [some (.ref p), some (.int n), some (.ref LT), some (.ref LM), some (.int i), some (.int j), some (.int w6), some (.ref T), some (.ref M), none, none, none, none] ∧ Go p H H', ?_, ?_⟩
  · have a1 : atI (xs.map fun x => V.ref x.1) (i : Int) = some (.ref T) := atI_nat (by rw [List.getElem?_map, hxi]; rfl)
    have a2 : atI (xs.map fun x => V.ref x.2.1) (i : Int) = some (.ref M) := atI_nat (by rw [List.getElem?_map, hxi]; rfl)
    refine ⟨_, rfl, ⟨_, rfl, Or.inl ⟨LT, _, i, .ref T, rfl, rfl, SqL.of (g1.kp eT npT), a1, ?_⟩⟩⟩
    refine ⟨_, rfl, ⟨_, rfl, Or.inl ⟨LM, _, i, .ref M, rfl, rfl, SqL.of (g1.kp eM npM), a2, ?_⟩⟩⟩
    refine ⟨szl (by show 2 ≤ 1000000; decide), fun t nt => ?_⟩
    refine ⟨t, _, rfl, SqT.of upd_same, rfl, ?_⟩
    refine ⟨_, _, rfl, ?_⟩
    refine ⟨_, _, rfl, ?_⟩
    exact ⟨rfl, rfl, g1.new nt⟩
  rintro σ' H2 ⟨rfl, g2⟩
  clear g1
  refine ⟨fun σ' H' => ∃ z g, σ' = [some (.ref p), some (.int n), some (.ref LT), some (.ref LM), some (.int i), some (.int j), some (.int w6), some (.ref T), some (.ref M), some (.str z), some (.str g), none, none] ∧ RowOk n (z, g) ∧ (goalB g = true ∧ (∀ c ∈ g.cps.toList, c < 128) ∧ g.length ≤ 200) ∧ Go p H H', ?_, ?_⟩
  · refine ⟨_, rfl, ⟨_, rfl, ⟨_, rfl, ?_⟩⟩⟩
    refine part_go g2.pot h0 h1 (g2.dk hp tM) (by omega) (fun x hx => by
      obtain ⟨q, hq, rfl⟩ := List.mem_map.mp hx
      exact ⟨(ok1.rows q hq).1, by have := (ok1.rows q hq).2.1; omega⟩) fun z H3 hz lz g3 => ?_
    have g4 := g2.trans g3
    refine ⟨_, rfl, ⟨szl (by show 5 ≤ 1000000; decide), fun L nL => ?_⟩⟩
    refine among_l (g4.new nL).pot (g4.pot.ne nL) (SqL.of upd_same) (by show 0 < 5; decide) (by show 5 ≤ 1000; decide) fun v hv H4 g5 => ?_
    obtain ⟨gl, rfl, hgl⟩ : ∃ gl : Str, v = .str gl ∧ (goalB gl = true ∧ (∀ c ∈ gl.cps.toList, c < 128) ∧ gl.length ≤ 200) := by
      simp only [List.mem_cons, List.not_mem_nil, or_false] at hv
      rcases hv with rfl | rfl | rfl | rfl | rfl
      · exact ⟨_, rfl, g_a⟩
      · exact ⟨_, rfl, g_b⟩
      · exact ⟨_, rfl, g_c⟩
      · exact ⟨_, rfl, g_home⟩
      · exact ⟨_, rfl, g_hole⟩
    have g6 := (g4.new (o := HO.lst [.str "a", .str "b", .str "c", .str "home", .str "hole"]) nL).trans g5
    refine ⟨szl (by show 2 ≤ 1000000; decide), fun t nt => ?_⟩
    refine ⟨t, _, rfl, SqT.of upd_same, rfl, ?_⟩
    refine ⟨_, _, rfl, ?_⟩
    refine ⟨_, _, rfl, ?_⟩
    exact ⟨rfl, z, gl, rfl, rowOk_of hz (by omega) hgl, hgl, g6.new nt⟩
  rintro σ' H3 ⟨z, g, rfl, rzg, hgl, g3⟩
  clear g2
  refine ⟨fun σ' H' => ∃ W, σ' = [some (.ref p), some (.int n), some (.ref LT), some (.ref LM), some (.int i), some (.int j), some (.int w6), some (.ref T), some (.ref M), some (.str z), some (.str g), some (.ref W), none] ∧ Go p H H' ∧ H' W = some (.dK (tk (putT m z g))), ?_, ?_⟩
  · have eM3 := g3.dk hp tM
    refine ⟨_, rfl, ⟨M, tk m, rfl, eM3, fun HA pL ts smA nP nts hnin hL pr => ?_⟩⟩
    have tqA : Tq HA ts m := Tq.of pr
    have gA : Go p H3 HA := Go.of g3.pot smA
    refine ⟨_, rfl, ⟨_, rfl, ⟨szl (by show 2 ≤ 1000000; decide), fun tt ntt => ?_⟩⟩⟩
    refine ⟨szl (by show 1 ≤ 1000000; decide), fun LL nLL => ?_⟩
    have hLtt : pL ≠ tt := nonn ntt hL
    have hL2 : upd HA tt (.tup [.str z, .str g]) pL = some (.lst (ts.map V.ref)) := updn hLtt hL
    have hLL : pL ≠ LL := nonn nLL hL2
    refine ⟨pL, LL, _, _, rfl, rfl, updn hLL hL2, upd_same, szl (by rw [List.length_map, tqA.len]; show _ + 1 ≤ _; omega), fun L3 nL3 => ?_⟩
    have g11 : Go p H3 (upd (upd (upd HA tt (.tup [.str z, .str g])) LL (.lst [.ref tt])) L3 (.lst (ts.map V.ref ++ [.ref tt]))) := ((gA.new ntt).new nLL).new nL3
    have tqB : Tq (upd (upd (upd HA tt (.tup [.str z, .str g])) LL (.lst [.ref tt])) L3 (.lst (ts.map V.ref ++ [.ref tt]))) (ts ++ [tt]) (m ++ [(z, g)]) := by
      have t1 : Tq (upd HA tt (.tup [.str z, .str g])) (ts ++ [tt]) (m ++ [(z, g)]) := Tq.app (.cons (q := (z, g)) upd_same .nil) (tqA.mono fun a l e => updn (nonn ntt e) e)
      refine t1.mono fun a l e => ?_
      have e2 := updn (o := HO.lst [V.ref tt]) (nonn nLL e) e
      exact updn (nonn nL3 e2) e2
    have hL3 : upd (upd (upd HA tt (.tup [.str z, .str g])) LL (.lst [.ref tt])) L3 (.lst (ts.map V.ref ++ [.ref tt])) L3 = some (.lst ((ts ++ [tt]).map V.ref)) := by
      rw [upd_same, List.map_append]
      rfl
    generalize upd (upd (upd HA tt (.tup [.str z, .str g])) LL (.lst [.ref tt])) L3 (.lst (ts.map V.ref ++ [.ref tt])) = HB at g11 tqB hL3 ⊢
    refine ⟨L3, ts ++ [tt], tk (m ++ [(z, g)]), rfl, SqL.of hL3, tqB.pair, fun W nW => ?_⟩
    rw [mrg_more ok1.nd]
    exact ⟨W, rfl, (g3.trans g11).new nW, upd_same⟩
  rintro σ' H4 ⟨W, rfl, g4, eW⟩
  clear g3
  have eT4 : ∀ H', Go p H H' → TabAt C H' T n (srt m) := fun H' q => q.tab hp tT
  have lP : (putT (srt m) z g).length ≤ 40 := by have := put_len (srt m) z g; rw [srt_len] at this; omega
  have lP2 : (putT m z g).length ≤ 40 := by have := put_len m z g; omega
  have okP := ok1.put rzg lP2
  have okPS := oS1.put rzg lP
  have eqP : srt (putT (srt m) z g) = srt (putT m z g) := srt_eq okPS.nd okP.nd fun k => by rw [look_put, look_put, look_srt]
  refine ⟨fun σ' H' => σ' = [some (.ref p), some (.int n), some (.ref LT), some (.ref LM), some (.int i), some (.int j), some (.int w6), some (.ref T), some (.ref M), some (.str z), some (.str g), some (.ref W), none] ∧ Go p H H' ∧ H' W = some (.dK (tk (putT m z g))), ?_, ?_⟩
  · refine ⟨_, rfl, ⟨rfl, ?_⟩⟩
    refine ⟨_, rfl, ite2 (fun c => ?_) fun c => ?_⟩
    · refine ⟨_, rfl, ⟨_, rfl, ⟨_, rfl, ⟨szl (by show 2 ≤ 1000000; decide), fun t nt => ?_⟩⟩⟩⟩
      have g5 := g4.new (o := HO.tup [.str z, .str g]) nt
      refine ⟨(eT4 _ g5).ins, Or.inr ⟨rfl, t, _, rfl, upd_same⟩, ?_⟩
      refine add_go (q := (z, g)) (eT4 _ g5) upd_same oS1 rzg lP fun T3 H5 s5 n5 t5 => ?_
      have eW5 := s5 _ _ (updn (nonn nt eW) eW)
      refine ⟨_, rfl, ⟨szl (by show 2 ≤ 1000000; decide), fun t2 nt2 => ?_⟩⟩
      have g6 := g5.trans (Go.of g5.pot s5)
      rw [eqP] at t5
      exact k t2 (T3, W, putT m z g) z _ (g6.new nt2) upd_same ⟨((Go.refl g6.pot).new nt2).tab g6.pot t5, updn (nonn nt2 eW5) eW5⟩ okP (keys_put kU1)
    · exact ⟨rfl, g4, eW⟩
  rintro σ' H5 ⟨rfl, g5, eW5⟩
  clear g4 eW
  refine ⟨fun σ' H' => σ' = [some (.ref p), some (.int n), some (.ref LT), some (.ref LM), some (.int i), some (.int j), some (.int w6), some (.ref T), some (.ref M), some (.str z), some (.str g), some (.ref W), none] ∧ Go p H H' ∧ H' W = some (.dK (tk (putT m z g))), ?_, ?_⟩
  · refine ⟨_, rfl, ⟨rfl, ?_⟩⟩
    refine ⟨_, rfl, ite2 (fun c => ?_) fun c => ?_⟩
    · refine ⟨_, rfl, ⟨_, rfl, ⟨szl (by show 2 ≤ 1000000; decide), fun t nt => ?_⟩⟩⟩
      have g6 := g5.new (o := HO.tup [.str z, .str g]) nt
      refine ⟨_, rfl, ⟨(eT4 _ g6).ins, Or.inr ⟨rfl, t, _, rfl, upd_same⟩, ?_⟩⟩
      refine add_go (q := (z, g)) (eT4 _ g6) upd_same oS1 rzg lP fun T3 H6 s6 n6 t6 => ?_
      have eW6 := s6 _ _ (updn (nonn nt eW5) eW5)
      refine ⟨_, rfl, ⟨szl (by show 2 ≤ 1000000; decide), fun t2 nt2 => ?_⟩⟩
      have g7 := g6.trans (Go.of g6.pot s6)
      rw [eqP] at t6
      exact k t2 (T3, W, putT m z g) z _ (g7.new nt2) upd_same ⟨((Go.refl g7.pot).new nt2).tab g7.pot t6, updn (nonn nt2 eW6) eW6⟩ okP (keys_put kU1)
    · exact ⟨rfl, g5, eW5⟩
  rintro σ' H6 ⟨rfl, g6, eW6⟩
  clear g5 eW5
  refine ⟨fun σ' H' => σ' = [some (.ref p), some (.int n), some (.ref LT), some (.ref LM), some (.int i), some (.int j), some (.int w6), some (.ref T), some (.ref M), some (.str z), some (.str g), some (.ref W), none] ∧ Go p H H' ∧ H' W = some (.dK (tk (putT m z g))), ?_, ?_⟩
  · refine ⟨_, rfl, ⟨rfl, ?_⟩⟩
    refine ⟨_, rfl, ite2 (fun c => ?_) fun c => ?_⟩
    · refine ⟨_, rfl, ?_⟩
      intro d nd
      have g7 := g6.new (o := HO.dK []) nd
      have eM7 := g7.dk hp tM
      refine ⟨M, d, tk m, [], rfl, rfl, eM7, upd_same, tk_flat m, (fun q hq => by cases hq), ?_⟩
      refine ⟨_, rfl, ite2 (fun c2 => ?_) fun c2 => ?_⟩
      · have hm : 0 < m.length := by
          cases m with
          | nil => exact absurd c2 (by decide)
          | cons q r => exact Nat.succ_pos _
        refine ⟨_, rfl, ⟨_, rfl, ⟨M, tk m, m.map (·.1), rfl, .inl eM7, tk_keys m, by rw [List.length_map]; omega, fun ys pL pm _ npL => ?_⟩⟩⟩
        have g8 := g7.new (o := HO.lst (ys.map V.str)) npL
        have yl := pm.length_eq
        rw [List.length_map] at yl
        refine among_l g8.pot (g7.pot.ne npL) (SqL.of upd_same) (by rw [List.length_map]; omega) (by rw [List.length_map]; omega) fun v hv H8 g9 => ?_
        obtain ⟨x, hxy, rfl⟩ := List.mem_map.mp hv
        have hxm : x ∈ m.map (·.1) := pm.mem_iff.mp hxy
        have hxs : x ∈ (srt m).map (·.1) := by
          rw [srt_keys]
          exact (tsort_perm _).mem_iff.mpr hxm
        have g10 := g8.trans g9
        clear g8 g9 hv npL g7 nd
        refine ⟨_, rfl, ⟨_, rfl, ⟨(eT4 _ g10).ins, Or.inl rfl, ?_⟩⟩⟩
        refine sub_go (eT4 _ g10) oS1 hxs fun T3 H9 s9 n9 t9 => ?_
        have g11 := g10.trans (Go.of g10.pot s9)
        have eM11 := g11.dk hp tM
        have eqL : srt (lessT (srt m) x) = srt (lessT m x) := srt_eq (oS1.less x).nd (ok1.less x).nd fun kk => by unfold lessT; rw [look_less, look_less, look_srt]
        rw [eqL] at t9
        show ∃ d u, _
        refine ⟨M, _, eM11, trivial, fun od => ?_⟩
        refine ⟨_, rfl, ?_⟩
        refine ⟨M, od, rfl, Or.inl ⟨tk m, upd_same, fun B nB => ?_⟩⟩
        have hMp : M ≠ p := by
          intro q
          obtain ⟨u1, u2, e, _⟩ := g11.pot
          rw [← q, eM11] at e
          cases e
        have potF : PotAt (upd H9 M (.frz od (.dK (tk m)))) p := by
          obtain ⟨u1, u2, e, r⟩ := g11.pot
          exact ⟨u1, u2, updn (Ne.symm hMp) e, r⟩
        refine lc_it walk_keys (fun i' H' => LQ p (upd H9 M (.frz od (.dK (tk m)))) B (lessT (m.take i') x) H') (.nil potF nB) (fun i' H' _ h => h.2.kp upd_same hMp) ?_ ?_
        · rintro i' xk HA HB hi2 hq ⟨rfl, kk, vv, hkv, rfl⟩
          obtain ⟨q, hm1, rfl, rfl⟩ : ∃ q, m[i']? = some q ∧ kk = Sum.inr q.1 ∧ vv = .str q.2 := by
            unfold tk at hkv
            rw [List.getElem?_map] at hkv
            cases hx : m[i']? with
            | none => rw [hx] at hkv; cases hkv
            | some q =>
              rw [hx] at hkv
              have e := Option.some.inj hkv
              exact ⟨q, rfl, (Prod.mk.inj e).1.symm, (Prod.mk.inj e).2.symm⟩
          have etk : lessT (m.take (i' + 1)) x = lessT (m.take i') x ++ (if q.1 = x then [] else [q]) := by
            rw [List.take_add_one, hm1]
            unfold lessT
            rw [List.filter_append]
            congr 1
            by_cases e : q.1 = x <;> simp [e]
          refine ⟨rfl, ?_⟩
          refine ⟨_, rfl, ⟨_, rfl, ⟨rfl, ?_⟩⟩⟩
          refine ⟨_, rfl, ?_⟩
          refine ite2 (fun hq2 => ?_) fun hq2 => ?_
          · have ne : ¬ q.1 = x := fun e => by
              have hq3 : (!decide (V.str q.1 = V.str x)) = true := hq2
              rw [e] at hq3
              simp at hq3
            rw [if_neg ne] at etk
            have hv := tk_val m (List.mem_map_of_mem (f := (·.1)) (List.mem_of_getElem? hm1))
            rw [get_of ok1.nd (List.mem_of_getElem? hm1)] at hv
            have hMB : HB M = some (.frz od (.dK (tk m))) := hq.2.kp upd_same hMp
            refine ⟨_, rfl, ⟨_, rfl, ⟨_, rfl, ⟨M, .str q.2, rfl, .inl ⟨tk m, Sum.inr q.1, .inr ⟨od, hMB⟩, rfl, hv.symm⟩, ?_⟩⟩⟩⟩
            refine ⟨szl (by show 2 ≤ 1000000; decide), fun tt ntt => ?_⟩
            have lm : (lessT (m.take i') x).length ≤ 100000 := by
              refine Nat.le_trans (List.length_filter_le _ _) ?_
              rw [List.length_take]
              omega
            rw [etk]
            exact LQ.turn potF hq nB (Go.refl hq.2.pot) ntt lm
          · have e : q.1 = x := Decidable.byContradiction fun ne => hq2 (by
              show (!decide (V.str q.1 = V.str x)) = true
              have : ¬ (V.str q.1 = V.str x) := fun e => ne (V.str.inj e)
              rw [decide_eq_false this]
              rfl)
            rw [if_pos e, List.append_nil] at etk
            rw [etk]
            exact hq
        rintro HA hq
        rw [tk_len, List.take_length] at hq
        obtain ⟨⟨ts, hB, tq⟩, gA⟩ := hq
        have eMA : HA M = some (.frz od (.dK (tk m))) := gA.kp upd_same hMp
        refine ⟨eMA, ?_⟩
        have hBM : B ≠ M := fun q => by rw [q, eMA] at hB; cases hB
        have g12 : Go p H9 (upd HA M (.dK (tk m))) := by
          obtain ⟨u1, u2, e, r⟩ := gA.pot
          refine ⟨⟨u1, u2, updn (Ne.symm hMp) e, r⟩, fun c o hc nc => ?_⟩
          by_cases q : c = M
          · rw [q] at hc ⊢
            rw [eM11] at hc
            rw [upd_same]
            exact hc
          · exact updn q (gA.keep c o (updn q hc) nc)
        have tq2 : Tq (upd HA M (.dK (tk m))) ts (lessT m x) := tq.mono fun a l e => updn (fun q => by rw [q, eMA] at e; cases e) e
        have hB2 : upd HA M (.dK (tk m)) B = some (.lst (ts.map V.ref)) := updn hBM hB
        generalize upd HA M (.dK (tk m)) = HC at g12 tq2 hB2 ⊢
        clear eMA hB tq gA hBM
        refine ⟨B, ts, tk (lessT m x), rfl, SqL.of hB2, tq2.pair, fun W2 nW => ?_⟩
        rw [mrg_nil (ok1.less x).nd]
        refine ⟨szl (by show 2 ≤ 1000000; decide), fun t2 nt2 => ?_⟩
        have eW2 : upd HC W2 (.dK (tk (lessT m x))) W2 = some (.dK (tk (lessT m x))) := upd_same
        have g13 := g12.new (o := HO.dK (tk (lessT m x))) nW
        have g14 := g13.new (o := HO.tup [.ref T3, .ref W2]) nt2
        exact k t2 (T3, W2, lessT m x) z _ (g11.trans g14) upd_same ⟨g14.tab g11.pot t9, updn (nonn nt2 eW2) eW2⟩ (ok1.less x) (keys_mono (keys_less kU1))
      · exact ⟨rfl, g7, updn (nonn nd eW6) eW6⟩
    · exact ⟨rfl, g6, eW6⟩
  rintro σ' H7 ⟨rfl, g7, eW7⟩
  clear g6 eW6
  refine ⟨fun σ' H' => σ' = [some (.ref p), some (.int n), some (.ref LT), some (.ref LM), some (.int i), some (.int j), some (.int w6), some (.ref T), some (.ref M), some (.str z), some (.str g), some (.ref W), none] ∧ Go p H H' ∧ H' W = some (.dK (tk (putT m z g))), ?_, ?_⟩
  · refine ⟨_, rfl, ⟨rfl, ?_⟩⟩
    refine ⟨_, rfl, ite2 (fun c => ?_) fun c => ?_⟩
    · refine ⟨_, rfl, ⟨_, rfl, ⟨(eT4 _ g7).ins, (eT4 _ g7).ins, ?_⟩⟩⟩
      refine or_go (eT4 _ g7) (eT4 _ g7) oS1 oS1 (by have := mrg_few oS1 (keys_srt kU1) (keys_srt kU1); omega) fun T3 H8 s8 n8 t8 => ?_
      have e8 : srt (mrgT (srt m) (srt m)) = srt m := srt_eq (mrgT_nd oS1.nd) ok1.nd fun kk => by
        rw [look_mrg _ _ _ oS1.nd, look_srt]
        cases look m kk <;> rfl
      rw [e8] at t8
      have g8 := g7.trans (Go.of g7.pot s8)
      refine ⟨_, rfl, ⟨M, tk m, rfl, .inl (g8.dk hp tM), fun W2 nW2 => ?_⟩⟩
      refine ⟨szl (by show 2 ≤ 1000000; decide), fun t2 nt2 => ?_⟩
      have g9 := ((Go.refl g8.pot).new (o := HO.dK (tk m)) nW2).new (o := HO.tup [.ref T3, .ref W2]) nt2
      exact k t2 (T3, W2, m) z _ (g8.trans g9) upd_same ⟨g9.tab g8.pot t8, updn (nonn nt2 upd_same) upd_same⟩ ok1 (keys_mono kU1)
    · exact ⟨rfl, g7, eW7⟩
  rintro σ' H8 ⟨rfl, g8, eW8⟩
  clear g7 eW7
  have aM2 : atI (xs.map fun x => V.ref x.2.1) (j : Int) = some (.ref M2) := atI_nat (by rw [List.getElem?_map, hxj]; rfl)
  have aT2 : atI (xs.map fun x => V.ref x.1) (j : Int) = some (.ref T2) := atI_nat (by rw [List.getElem?_map, hxj]; rfl)
  have fM := mrg_few (r := m2) ok1 kU1 kU2
  refine ⟨fun σ' H' => σ' = [some (.ref p), some (.int n), some (.ref LT), some (.ref LM), some (.int i), some (.int j), some (.int w6), some (.ref T), some (.ref M), some (.str z), some (.str g), some (.ref W), none] ∧ Go p H H', ?_, ?_⟩
  · refine ⟨_, rfl, ⟨rfl, ?_⟩⟩
    refine ⟨_, rfl, ite2 (fun c => ?_) fun c => ?_⟩
    · refine ⟨_, rfl, ⟨M, tk m, rfl, g8.dk hp tM, fun HA1 pL1 ts1 smA1 nP1 nts1 hnin1 hL1 pr1 => ?_⟩⟩
      have tqA1 : Tq HA1 ts1 m := Tq.of pr1
      have gA1 := g8.trans (Go.of g8.pot smA1)
      refine ⟨_, rfl, ⟨_, rfl, Or.inl ⟨LM, _, j, .ref M2, rfl, rfl, SqL.of (gA1.kp eM npM), aM2, ?_⟩⟩⟩
      refine ⟨M2, tk m2, rfl, gA1.dk hp tM2, fun HB1 pR1 tr1 smB1 nR1 ntr1 hnir1 hR1 prr1 => ?_⟩
      have tqB1 : Tq HB1 tr1 m2 := Tq.of prr1
      have tqA21 : Tq HB1 ts1 m := tqA1.mono fun a l e => smB1 _ _ e
      refine ⟨pL1, pR1, _, _, rfl, rfl, smB1 _ _ hL1, hR1, szl (by rw [List.length_map, List.length_map, tqA1.len, tqB1.len]; omega), fun L31 nL31 => ?_⟩
      have gC1 := (gA1.trans (Go.of gA1.pot smB1)).new (o := HO.lst (ts1.map V.ref ++ tr1.map V.ref)) nL31
      have tqC1 : Tq (upd HB1 L31 (.lst (ts1.map V.ref ++ tr1.map V.ref))) (ts1 ++ tr1) (m ++ m2) := (Tq.app tqB1 tqA21).mono fun a l e => updn (nonn nL31 e) e
      have hL31 : upd HB1 L31 (.lst (ts1.map V.ref ++ tr1.map V.ref)) L31 = some (.lst ((ts1 ++ tr1).map V.ref)) := by rw [upd_same, List.map_append]
      generalize upd HB1 L31 (.lst (ts1.map V.ref ++ tr1.map V.ref)) = HC1 at gC1 tqC1 hL31 ⊢
      refine ⟨L31, ts1 ++ tr1, tk (m ++ m2), rfl, SqL.of hL31, tqC1.pair, fun W1 nW1 => ?_⟩
      rw [mrg_two ok1.nd]
      have gD1 := gC1.new (o := HO.dK (tk (mrgT m m2))) nW1
      have eD1 : upd HC1 W1 (.dK (tk (mrgT m m2))) W1 = some (.dK (tk (mrgT m m2))) := upd_same
      generalize hHD1 : upd HC1 W1 (.dK (tk (mrgT m m2))) = HD1 at gD1 eD1 ⊢
      refine ⟨W1, tk (mrgT m m2), rfl, eD1, ?_⟩
      refine ⟨_, _, rfl, rfl, ?_⟩
      refine ⟨_, rfl, ?_⟩
      refine ite2 (fun c2 => ?_) fun c2 => ?_
      · refine ⟨_, rfl, ⟨_, rfl, ⟨_, rfl, Or.inl ⟨LT, _, j, .ref T2, rfl, rfl, SqL.of (gD1.kp eT npT), aT2, ?_⟩⟩⟩⟩
        have tb := gD1.tab hp tT2
        refine ⟨(eT4 _ gD1).ins, tb.ins, ?_⟩
        refine or_go (eT4 _ gD1) tb oS1 oS2 (by have := mrg_few oS1 (keys_srt kU1) (keys_srt kU2); omega) fun T3 H9 s9 n9 t9 => ?_
        have e9 : srt (mrgT (srt m) (srt m2)) = srt (mrgT m m2) := srt_eq (mrgT_nd oS1.nd) (mrgT_nd ok1.nd) fun kk => by rw [look_mrg _ _ _ oS2.nd, look_mrg _ _ _ ok2.nd, look_srt, look_srt]
        rw [e9] at t9
        have g10 := gD1.trans (Go.of gD1.pot s9)
        have gR := Go.refl g10.pot
        have eMx := g10.dk hp tM
        have eM2x := g10.dk hp tM2
        have eMl := g10.kp eM npM
        refine ⟨_, rfl, ⟨M, tk m, rfl, eMx, fun HA2 pL2 ts2 smA2 nP2 nts2 hnin2 hL2 pr2 => ?_⟩⟩
        have tqA2 : Tq HA2 ts2 m := Tq.of pr2
        have gA2 := gR.trans (Go.of g10.pot smA2)
        refine ⟨_, rfl, ⟨_, rfl, Or.inl ⟨LM, _, j, .ref M2, rfl, rfl, SqL.of (gA2.kp eMl npM), aM2, ?_⟩⟩⟩
        refine ⟨M2, tk m2, rfl, gA2.dk g10.pot eM2x, fun HB2 pR2 tr2 smB2 nR2 ntr2 hnir2 hR2 prr2 => ?_⟩
        have tqB2 : Tq HB2 tr2 m2 := Tq.of prr2
        have tqA22 : Tq HB2 ts2 m := tqA2.mono fun a l e => smB2 _ _ e
        refine ⟨pL2, pR2, _, _, rfl, rfl, smB2 _ _ hL2, hR2, szl (by rw [List.length_map, List.length_map, tqA2.len, tqB2.len]; omega), fun L32 nL32 => ?_⟩
        have gC2 := (gA2.trans (Go.of gA2.pot smB2)).new (o := HO.lst (ts2.map V.ref ++ tr2.map V.ref)) nL32
        have tqC2 : Tq (upd HB2 L32 (.lst (ts2.map V.ref ++ tr2.map V.ref))) (ts2 ++ tr2) (m ++ m2) := (Tq.app tqB2 tqA22).mono fun a l e => updn (nonn nL32 e) e
        have hL32 : upd HB2 L32 (.lst (ts2.map V.ref ++ tr2.map V.ref)) L32 = some (.lst ((ts2 ++ tr2).map V.ref)) := by rw [upd_same, List.map_append]
        generalize upd HB2 L32 (.lst (ts2.map V.ref ++ tr2.map V.ref)) = HC2 at gC2 tqC2 hL32 ⊢
        refine ⟨L32, ts2 ++ tr2, tk (m ++ m2), rfl, SqL.of hL32, tqC2.pair, fun W2 nW2 => ?_⟩
        rw [mrg_two ok1.nd]
        have gD2 := gC2.new (o := HO.dK (tk (mrgT m m2))) nW2
        have eD2 : upd HC2 W2 (.dK (tk (mrgT m m2))) W2 = some (.dK (tk (mrgT m m2))) := upd_same
        generalize hHD2 : upd HC2 W2 (.dK (tk (mrgT m m2))) = HD2 at gD2 eD2 ⊢
        refine ⟨szl (by show 2 ≤ 1000000; decide), fun t2 nt2 => ?_⟩
        have g11 := gD2.new (o := HO.tup [.ref T3, .ref W2]) nt2
        exact k t2 (T3, W2, mrgT m m2) z _ (g10.trans g11) upd_same ⟨g11.tab g10.pot t9, updn (nonn nt2 eD2) eD2⟩ ⟨ok1.w0, ok1.w1, mrgT_ok ok1.rows ok2.rows, mrgT_nd ok1.nd, Nat.le_trans fM (by omega)⟩ (keys_mono (keys_mrg kU1 kU2))
      · exact ⟨rfl, gD1⟩
    · exact ⟨rfl, g8⟩
  rintro σ' H9 ⟨rfl, g9⟩
  clear g8 eW8
  refine ⟨fun σ' H' => σ' = [some (.ref p), some (.int n), some (.ref LT), some (.ref LM), some (.int i), some (.int j), some (.int w6), some (.ref T), some (.ref M), some (.str z), some (.str g), some (.ref W), none] ∧ Go p H H' ∧ m = [], ?_, ?_⟩
  · refine ⟨_, rfl, ?_⟩
    intro d nd
    have g10 := g9.new (o := HO.dK []) nd
    have eM10 := g10.dk hp tM
    refine ⟨M, d, tk m, [], rfl, rfl, eM10, upd_same, tk_flat m, (fun q hq => by cases hq), ?_⟩
    refine ⟨_, rfl, ite2 (fun c2 => ?_) fun c2 => ?_⟩
    · have hm : 0 < m.length := by
        cases m with
        | nil => exact absurd c2 (by decide)
        | cons q r => exact Nat.succ_pos _
      refine ⟨_, rfl, ⟨_, rfl, ⟨M, tk m, m.map (·.1), rfl, .inl eM10, tk_keys m, by rw [List.length_map]; omega, fun ys pL pm _ npL => ?_⟩⟩⟩
      have g11 := g10.new (o := HO.lst (ys.map V.str)) npL
      have yl := pm.length_eq
      rw [List.length_map] at yl
      refine among_l g11.pot (g10.pot.ne npL) (SqL.of upd_same) (by rw [List.length_map]; omega) (by rw [List.length_map]; omega) fun v hv H10 g12 => ?_
      obtain ⟨x, hxy, rfl⟩ := List.mem_map.mp hv
      have hxm : x ∈ m.map (·.1) := pm.mem_iff.mp hxy
      obtain ⟨q0, hq0, rfl⟩ := List.mem_map.mp hxm
      have rx : RowOk n (q0.1, g) := rowOk_of (ok1.rows q0 hq0).1 (ok1.rows q0 hq0).2.1 hgl
      have g13 := g11.trans g12
      have lQ : (putT (srt m) q0.1 g).length ≤ 40 := by have := put_len (srt m) q0.1 g; rw [srt_len] at this; omega
      have lQ2 : (putT m q0.1 g).length ≤ 40 := by have := put_len m q0.1 g; omega
      have okQ := ok1.put rx lQ2
      have eqQ : srt (putT (srt m) q0.1 g) = srt (putT m q0.1 g) := srt_eq (oS1.put rx lQ).nd okQ.nd fun k => by rw [look_put, look_put, look_srt]
      refine ⟨_, rfl, ⟨_, rfl, ⟨_, rfl, ⟨szl (by show 2 ≤ 1000000; decide), fun t nt => ?_⟩⟩⟩⟩
      have g14 := g13.new (o := HO.tup [.str q0.1, .str g]) nt
      refine ⟨(eT4 _ g14).ins, Or.inr ⟨rfl, t, _, rfl, upd_same⟩, ?_⟩
      refine add_go (q := (q0.1, g)) (eT4 _ g14) upd_same oS1 rx lQ fun T3 H11 s11 n11 t11 => ?_
      rw [eqQ] at t11
      have g15 := g14.trans (Go.of g14.pot s11)
      refine ⟨_, rfl, ⟨M, tk m, rfl, g15.dk hp tM, fun HA pL ts smA nP nts hnin hL pr => ?_⟩⟩
      have tqA : Tq HA ts m := Tq.of pr
      have gA : Go p H11 HA := Go.of g15.pot smA
      refine ⟨_, rfl, ⟨_, rfl, ⟨szl (by show 2 ≤ 1000000; decide), fun tt ntt => ?_⟩⟩⟩
      refine ⟨szl (by show 1 ≤ 1000000; decide), fun LL nLL => ?_⟩
      have hLtt : pL ≠ tt := nonn ntt hL
      have hL2 : upd HA tt (.tup [.str q0.1, .str g]) pL = some (.lst (ts.map V.ref)) := updn hLtt hL
      have hLL : pL ≠ LL := nonn nLL hL2
      refine ⟨pL, LL, _, _, rfl, rfl, updn hLL hL2, upd_same, szl (by rw [List.length_map, tqA.len]; show _ + 1 ≤ _; omega), fun L3 nL3 => ?_⟩
      have gB : Go p H11 (upd (upd (upd HA tt (.tup [.str q0.1, .str g])) LL (.lst [.ref tt])) L3 (.lst (ts.map V.ref ++ [.ref tt]))) := ((gA.new ntt).new nLL).new nL3
      have tqB : Tq (upd (upd (upd HA tt (.tup [.str q0.1, .str g])) LL (.lst [.ref tt])) L3 (.lst (ts.map V.ref ++ [.ref tt]))) (ts ++ [tt]) (m ++ [(q0.1, g)]) := by
        have t1 : Tq (upd HA tt (.tup [.str q0.1, .str g])) (ts ++ [tt]) (m ++ [(q0.1, g)]) := Tq.app (.cons (q := (q0.1, g)) upd_same .nil) (tqA.mono fun a l e => updn (nonn ntt e) e)
        refine t1.mono fun a l e => ?_
        have e2 := updn (o := HO.lst [V.ref tt]) (nonn nLL e) e
        exact updn (nonn nL3 e2) e2
      have hL3 : upd (upd (upd HA tt (.tup [.str q0.1, .str g])) LL (.lst [.ref tt])) L3 (.lst (ts.map V.ref ++ [.ref tt])) L3 = some (.lst ((ts ++ [tt]).map V.ref)) := by
        rw [upd_same, List.map_append]
        rfl
      generalize upd (upd (upd HA tt (.tup [.str q0.1, .str g])) LL (.lst [.ref tt])) L3 (.lst (ts.map V.ref ++ [.ref tt])) = HB at gB tqB hL3 ⊢
      refine ⟨L3, ts ++ [tt], tk (m ++ [(q0.1, g)]), rfl, SqL.of hL3, tqB.pair, fun W2 nW => ?_⟩
      rw [mrg_more ok1.nd]
      refine ⟨szl (by show 2 ≤ 1000000; decide), fun t2 nt2 => ?_⟩
      have g16 := (gB.new (o := HO.dK (tk (putT m q0.1 g))) nW).new (o := HO.tup [.ref T3, .ref W2]) nt2
      exact k t2 (T3, W2, putT m q0.1 g) q0.1 _ (g15.trans g16) upd_same ⟨g16.tab g15.pot t11, updn (nonn nt2 upd_same) upd_same⟩ okQ (keys_put kU1)
    · refine ⟨rfl, g10, ?_⟩
      cases m with
      | nil => rfl
      | cons q r => exact absurd (by rfl) c2
  rintro σ' H10 ⟨rfl, g10, hm0⟩
  subst hm0
  have re : RowOk n (("" : Str), g) := rowOk_of (fun c hc => by cases hc) (by show (0 : Int) ≤ n; omega) hgl
  have lE : (putT (srt []) "" g).length ≤ 40 := by have := put_len (srt []) "" g; rw [srt_len] at this; show _ ≤ 40; exact Nat.le_trans this (by decide)
  have eqE : srt (putT (srt []) "" g) = srt [(("" : Str), g)] := srt_eq (oS1.put re lE).nd (by simp) fun kk => by
    rw [look_put, look_srt]
    by_cases q : kk = ""
    · rw [if_pos q, q]; rfl
    · rw [if_neg q]
      unfold look
      rw [List.find?_cons_of_neg (by simpa using Ne.symm q)]
  refine ⟨_, rfl, ⟨_, rfl, ⟨szl (by show 2 ≤ 1000000; decide), fun t nt => ?_⟩⟩⟩
  have g11 := g10.new (o := HO.tup [.str "", .str g]) nt
  refine ⟨(eT4 _ g11).ins, Or.inr ⟨rfl, t, _, rfl, upd_same⟩, ?_⟩
  refine add_go (q := (("" : Str), g)) (eT4 _ g11) upd_same oS1 re lE fun T3 H12 s12 n12 t12 => ?_
  rw [eqE] at t12
  have g13 := g11.trans (Go.of g11.pot s12)
  intro d nd
  refine ⟨_, rfl, upd_same, [(Sum.inr "", V.str g)], rfl, by show 1 ≤ 15; decide, ?_⟩
  rw [upd_upd]
  refine ⟨szl (by show 2 ≤ 1000000; decide), fun t2 nt2 => ?_⟩
  have g14 := ((Go.refl g13.pot).new (o := HO.dK (mergeK [] [(Sum.inr "", V.str g)])) nd).new (o := HO.tup [.ref T3, .ref d]) nt2
  refine k t2 (T3, d, [(("" : Str), g)]) "" _ (g13.trans g14) upd_same ⟨g14.tab g13.pot t12, updn (nonn nt2 upd_same) upd_same⟩ ⟨ok1.w0, ok1.w1, ?_, by simp, by show 1 ≤ 40; decide⟩ ?_
  · intro q hq
    rw [List.mem_singleton.mp hq]
    exact re
  · intro x hx
    have : x ∈ [("" : Str)] := hx
    rw [List.mem_singleton.mp this]
    exact List.mem_cons_self ..
end
open PySem PySem.Spec PyProof.Rows
open L2 hiding pass0
abbrev s_law_all_right : Stmt := top 43
theorem sc_law_all_right : FnScope ["_law_span", "_law_made", "_law_models", "_law_here", "_law_model"] ["_law_span", "_law_made", "_law_models"] (defScope s_law_all_right) := ⟨rfl, rfl, rfl, by decide +kernel, rfl, by decide +kernel, by decide +kernel⟩
theorem bp_law_all_right : BndP "_law_all_right" s_law_all_right ["_law_span", "_law_made", "_law_models"] := fun _ _ _ _ _ _ us h => match us, h with | [_, _, _], _ => rfl
theorem sorted_srt {ys m : List (Str × Str)} (nd : (m.map (·.1)).Nodup) (hp : ys.Perm m) (hs : ys.Pairwise fun a b => pLt b a = false) : ys = srt m := by
  have hk : (ys.map (·.1)).Perm (m.map (·.1)) := hp.map _
  have ts : TS (ys.map (·.1)) := by
    unfold TS
    rw [List.pairwise_map]
    refine hs.imp fun {a b} h => ?_
    unfold pLt at h
    by_cases e : b.1 = a.1
    · rw [e]
      exact tLt_irr _
    · rw [if_neg e] at h
      exact h
  have e := tsort_uniq hk ts
  unfold srt
  rw [← e, List.map_map]
  symm
  conv => rhs; rw [← List.map_id ys]
  refine List.map_congr_left fun q hq => ?_
  have := get_of nd (hp.mem_iff.mp hq)
  show (q.1, getT m q.1) = q
  rw [this]
/-- a list of tables, one of their dicts -/
structure Both (C : Addr) (n : Int) (H : Hp) (A B : Addr) (xs : List (Addr × Addr × List (Str × Str))) : Prop where
  la : H A = some (.lst (xs.map fun x => V.ref x.1))
  lb : H B = some (.lst (xs.map fun x => V.ref x.2.1))
  tr : ∀ x ∈ xs, Trio C n H x
  ok : ∀ x ∈ xs, TabOk n x.2.2
  le : xs.length ≤ 1000
theorem Trio.same {C : Addr} {n : Int} {H H' : Hp} {x : Addr × Addr × List (Str × Str)} (h : Trio C n H x) (s : Same H H') : Trio C n H' x := ⟨h.1.same s, s _ _ h.2⟩
@[irreducible] def spAll (C : Addr) : Sp := fun vs H Q _ => ∃ (A B : Addr) (n : Int) (xs : List (Addr × Addr × List (Str × Str))), vs = [.int n, .ref A, .ref B] ∧ Both C n H A B xs ∧ ∀ H', Same H H' → Q (.bl true) H'
theorem all_go {C A B : Addr} {n : Int} {xs : List (Addr × Addr × List (Str × Str))} {H : Hp} {Q : VK} {E : XK} (b : Both C n H A B xs) (k : ∀ H', Same H H' → Q (.bl true) H') : spAll C [.int n, .ref A, .ref B] H Q E := by
  unfold spAll
  exact ⟨A, B, n, xs, rfl, b, k⟩
theorem trows_go {C a : Addr} {n : Int} {m : List (Str × Str)} {H : Hp} {Q : VK} {E : XK} (t : TabAt C H a n m) (k : ∀ p, H p = none → Q (.ref p) (upd H p (.dK (tk m)))) : spTRows C [.ref a] H Q E := by
  unfold spTRows
  exact ⟨a, n, m, rfl, t, k⟩
theorem tlen_go {C a : Addr} {n : Int} {m : List (Str × Str)} {H : Hp} {Q : VK} {E : XK} (t : TabAt C H a n m) (k : Q (.int m.length) H) : spTLen C [.ref a] H Q E := by
  unfold spTLen
  exact ⟨a, n, m, rfl, t, k⟩
theorem width_go {C a : Addr} {n : Int} {m : List (Str × Str)} {H : Hp} {Q : VK} {E : XK} (t : TabAt C H a n m) (k : Q (.int n) H) : spWidth C [.ref a] H Q E := by
  unfold spWidth
  exact ⟨a, n, m, rfl, t, k⟩
theorem zpair {K : PySem.W.Frag} {H : Hp} : ∀ {zs : List (Addr × Str × Str)}, (∀ z ∈ zs, H z.1 = some (.tup [.str z.2.1, .str z.2.2])) → Paired (fun p (kv : Key × V) => SqT K H p [kV kv.1, kv.2]) (zs.map (·.1)) (tk (zs.map (·.2)))
  | [], _ => .nil
  | z :: zs, h => .cons (SqT.of (h z (List.mem_cons_self ..))) (zpair fun x hx => h x (List.mem_cons_of_mem _ hx))
theorem rows_small {n : Int} {m : List (Str × Str)} (ok : TabOk n m) : ∀ p ∈ m, (∀ c ∈ p.1.cps.toList, c < 128) ∧ (∀ c ∈ p.2.cps.toList, c < 128) ∧ p.1.length ≤ 200 ∧ p.2.length ≤ 200 := fun p hp => by
  obtain ⟨h1, h2, _, h4, h5⟩ := ok.rows p hp
  have w1 := ok.w1
  refine ⟨fun c hc => ?_, fun c hc => ?_, by omega, h5⟩
  · rcases h1 c hc with e | e <;> omega
  · exact h4 c hc
section
variable {P : Program} {w : World} {K : PySem.W.Frag} {mg : Str → Option Value} {base : Heap} {f C : Addr} {fd : FuncData}
theorem ok_all (F : Fun K "_law_all_right" "_law_all_right" s_law_all_right f fd) (hm : mg "_law_all_right" = some (.ref f)) (T : Txt K mg) (TC : TabC K C) (c_Table_rows : Mth P w K mg base CX0 1 C "rows" "Table.rows" s_Table_rows ["self"] (spTRows C)) (c_Table__len__ : Mth P w K mg base CX0 1 C "__len__" "Table.__len__" s_Table__len__ ["self"] (spTLen C)) (c_Table_width : Prp P w K mg base CX0 1 C "width" "Table.width" s_Table_width ["self"] (spWidth C)) : Nm P w K mg base CX0 4 "_law_all_right" s_law_all_right ["_law_span", "_law_made", "_law_models"] (spAll C) := by
  refine nm_of0 F hm sc_law_all_right (fun vs H Q E h => ?_) fun cdv A outer s H vs Q E hr h => ?_
  · unfold spAll at h
    obtain ⟨A, B, n, xs, rfl, bt, k⟩ := h
    subst_vars
    rfl
  unfold spAll at h
  obtain ⟨A, B, n, xs, rfl, bt, k⟩ := h
  refine ⟨_, (pss_cons (ps_for PassesOwn.never rfl (pi_zip (by rfl) T.b_zip (pa_cons (pv 1) (pa_cons (pv 2) pa_nil))) (pg_tup (by rfl) (pgs_cons (pg_name (i := 3) sc_law_all_right.nd rfl (by first | exact Or.inl rfl | exact Or.inr rfl)) (pgs_cons (pg_name (i := 4) sc_law_all_right.nd rfl (by first | exact Or.inl rfl | exact Or.inr rfl)) pgs_nil))) (pss_one (ps_if (pt_cmpR op_ne (pe_callB (call_repr3 hr.g hr.u) (by rfl) T.b_repr (by decide +kernel) (pa_cons (pe_lstN (pa_cons (pe_m0 c_Table_rows TC.cl hr (by decide) L2.pass0 bm_Table_rows (pv 3)) (pa_cons (pe_callB (call_lenO c_Table__len__ hr (by decide) L2.pass0 bm_Table__len__) (by rfl) T.b_len PySem.boot_len (pa_cons (pv 3) pa_nil)) (pa_cons (pe_p c_Table_width TC.cl hr (by decide) L2.pass0 bm_Table_width (pv 3)) pa_nil)))) pa_nil)) (pe_callB (call_repr3 hr.g hr.u) (by rfl) T.b_repr (by decide +kernel) (pa_cons (pe_lstN (pa_cons (pe_callTy (call_dictP rfl) (by rfl) T.b_dict (by decide +kernel) (pa_cons (pe_callB (cr_sortedIt rfl hr.u64) (by rfl) T.b_sorted (by decide +kernel) (pa_cons (pe_bm0 PySem.F.plainAttrs_dict PySem.F.slot_dict_items PySem.F.type_dict_items mt_itemsK (pv 4)) pa_nil)) pa_nil)) (pa_cons (pe_callB call_lenD (by rfl) T.b_len PySem.boot_len (pa_cons (pv 4) pa_nil)) (pa_cons (pv 0) pa_nil)))) pa_nil)) (nomark _)) (pss_one (ps_ret pe_bl)) pss_nil)))
      (pss_one (ps_ret pe_bl))), ?_⟩
  refine ⟨_, rfl, ⟨_, rfl, ?_⟩⟩
  refine ⟨A, B, xs.map (fun x => V.ref x.1), xs.map (fun x => V.ref x.2.1), rfl, SqL.of bt.la, SqL.of bt.lb, for_it (walk_zip (n := xs.length) (by rw [List.length_map, List.length_map, Nat.min_self])) (fun i σ H1 => (∃ x3 x4, σ = [some (.int n), some (.ref A), some (.ref B), x3, x4]) ∧ Same H H1) ⟨⟨_, _, rfl⟩, Same.refl _⟩ (fun _ _ _ _ h => ⟨SqL.of (h.2 _ _ bt.la), SqL.of (h.2 _ _ bt.lb)⟩) ?_ ?_⟩
  · rintro i x σ H1 H2 hi ⟨⟨x3, x4, rfl⟩, sm⟩ ⟨T, y, z, ey, nT, eH, hy, hz⟩
    subst ey eH
    dsimp only at hy hz
    rw [List.getElem?_map] at hy hz
    have hx : xs[i]? = some xs[i] := List.getElem?_eq_getElem hi
    rw [hx] at hy hz
    cases hy
    cases hz
    have hm := List.getElem_mem hi
    have tr := bt.tr _ hm
    have ok := bt.ok _ hm
    generalize xs[i] = x at tr ok ⊢
    obtain ⟨a, M, m⟩ := x
    obtain ⟨ta, eM⟩ := tr
    have nA : T ≠ A := fun q => by rw [q, sm _ _ bt.la] at nT; cases nT
    have sm2 : Same H (upd H1 T (.tup [.ref a, .ref M])) := fun c o e => updn (nonn nT (sm c o e)) (sm c o e)
    refine ⟨T, _, rfl, SqT.of upd_same, rfl, ⟨_, _, rfl, ⟨_, _, rfl, ⟨rfl, ?_⟩⟩⟩⟩
    generalize upd H1 T (.tup [.ref a, .ref M]) = H3 at sm2 ⊢
    have ta3 := ta.same sm2
    obtain ⟨dx, D, ha, hD, hne1⟩ := ta3
    have ta3 : TabAt C H3 a n (srt m) := ⟨dx, D, ha, hD, hne1⟩
    refine ⟨_, rfl, ⟨a, dx, _, rfl, ha, by rfl⟩, ?_⟩
    have oS := srt_ok ok
    have lS := srt_len m
    have few : m.length ≤ 40 := ok.few
    have ok3 := d3_ok (a := ((srt m).length : Int)) (b := n) (rows_small oS) oS.few (by omega) (by omega) (by have := ok.w0; omega) (by have := ok.w1; omega)
    show spTRows C [.ref a] H3 _ _
    refine trows_go ta3 fun R nR => ?_
    have s4 : Same H3 (upd H3 R (.dK (tk (srt m)))) := fun c o e => updn (nonn nR e) e
    have e4 : upd H3 R (.dK (tk (srt m))) R = some (.dK (tk (srt m))) := upd_same
    generalize upd H3 R (.dK (tk (srt m))) = H4 at s4 e4 ⊢
    have ta4 := ta3.same s4
    refine ⟨_, rfl, ⟨a, dx, _, rfl, s4 _ _ ha, tlen_go ta4 ⟨_, rfl, by omega, by omega, ?_⟩⟩⟩
    refine ⟨_, rfl, ⟨a, dx, _, rfl, s4 _ _ ha, width_go ta4 ?_⟩⟩
    refine ⟨szl (by show 3 ≤ 1000000; decide), fun L nL hns => ?_⟩
    have s5 : Same H4 (upd H4 L (.lst [.ref R, .int ((srt m).length : Int), .int n])) := fun c o e => updn (nonn nL e) e
    have e5 : upd H4 L (.lst [.ref R, .int ((srt m).length : Int), .int n]) L = some (.lst [.ref R, .int ((srt m).length : Int), .int n]) := upd_same
    generalize upd H4 L (.lst [.ref R, .int ((srt m).length : Int), .int n]) = H5 at s5 e5 ⊢
    refine repr3_go hns e5 (s5 _ _ e4) ok3 ?_
    have s25 := (sm2.trans s4).trans s5
    have eM5 := s25 _ _ eM
    clear e5 e4
    refine ⟨_, rfl, Or.inr (Or.inr (Or.inl ⟨rfl, Or.inl ⟨_, eM5⟩⟩)), ⟨M, tk m, rfl, rfl, eM5, fun p np => ?_⟩⟩
    have s6 : Same H5 (upd H5 p (DX.itemsO p M)) := fun c o e => updn (nonn np e) e
    refine ⟨p, M, m, rfl, upd_same, s6 _ _ eM5, by omega, fun H6 l zs s7 nl hp hs hl hts => ?_⟩
    have s57 := s6.trans (fun c o e => s7 c o e : Same _ H6)
    refine ⟨l, zs.map (·.1), tk (zs.map (·.2)), rfl, SqL.of (by rw [List.map_map]; exact hl), zpair hts, fun d nd => ?_⟩
    rw [sorted_srt ok.nd hp (List.pairwise_map.mpr hs), mrg_nil oS.nd]
    have s8 : Same H5 (upd H6 d (.dK (tk (srt m)))) := fun c o e => updn (nonn nd (s57 c o e)) (s57 c o e)
    have e8 : upd H6 d (.dK (tk (srt m))) d = some (.dK (tk (srt m))) := upd_same
    generalize upd H6 d (.dK (tk (srt m))) = H8 at s8 e8 ⊢
    refine ⟨_, rfl, ⟨M, tk m, rfl, s8 _ _ eM5, ?_⟩⟩
    refine ⟨_, rfl, ⟨szl (by show 3 ≤ 1000000; decide), fun L2 nL2 hns2 => ?_⟩⟩
    rw [tk_len, ← lS]
    have s9 : Same H8 (upd H8 L2 (.lst [.ref d, .int ((srt m).length : Int), .int n])) := fun c o e => updn (nonn nL2 e) e
    refine repr3_go hns2 upd_same (s9 _ _ e8) ok3 ?_
    have s39 := ((s4.trans s5).trans s8).trans s9
    have s0 := sm2.trans s39
    refine ⟨rfl, ?_⟩
    rw [decide_eq_true rfl]
    refine ⟨_, rfl, iteF ?_⟩
    exact ⟨⟨_, _, rfl⟩, s0⟩
  · rintro σ H1 ⟨⟨x3, x4, rfl⟩, sm⟩
    exact k _ sm
end
open PySem PySem.Spec PyProof.Rows
open L2 hiding pass0
abbrev s_law_right : Stmt := top 45
theorem sc_law_right : FnScope ["_law_pot_here", "_law_span", "_law_models", "_law_made", "_law_turn", "_law_new", "_law_model", "_law_here", "_law_wide", "_law_told", "_law_there", "_law_far"] ["_law_pot_here"] (defScope s_law_right) := ⟨rfl, rfl, rfl, by decide +kernel, rfl, by decide +kernel, by decide +kernel⟩
theorem bp_law_right : BndP "_law_right" s_law_right ["_law_pot_here"] := fun _ _ _ _ _ _ us h => match us, h with | [_], _ => rfl
@[irreducible] def spRight : Sp := fun vs H Q _ => ∃ p, vs = [.ref p] ∧ PotAt H p ∧ ∀ H', Go p H H' → Q (.bl true) H'
theorem right_go {p : Addr} {H : Hp} {Q : VK} {E : XK} (h : PotAt H p) (q : ∀ H', Go p H H' → Q (.bl true) H') : spRight [.ref p] H Q E := by
  unfold spRight
  exact ⟨p, rfl, h, q⟩
theorem rowsL_go {p : Addr} {n : Nat} {H : Hp} {Q : VK} {E : XK} (hp : PotAt H p) (h0 : 1 ≤ n) (h1 : n ≤ 100) (k : ∀ (M : Addr) (m : List (Str × Str)) H', H M = none → Go p H H' → H' M = some (.dK (tk m)) → m.length ≤ 5 → (m.map (·.1)).Nodup → (∀ q ∈ m, RowOk n q) → Q (.ref M) H') : spRowsL [.ref p, .int n] H Q E := by
  unfold spRowsL
  exact ⟨p, n, rfl, hp, h0, h1, k⟩
theorem deed_go {C p LT LM : Addr} {n : Nat} {xs : List (Addr × Addr × List (Str × Str))} {U : List Str} {H : Hp} {Q : VK} {E : XK} (hp : PotAt H p) (h0 : 1 ≤ n) (h1 : n ≤ 100) (nT : LT ≠ p) (nM : LM ≠ p)
  (eT : H LT = some (.lst (xs.map fun x => V.ref x.1))) (eM : H LM = some (.lst (xs.map fun x => V.ref x.2.1))) (l0 : 0 < xs.length) (l1 : xs.length ≤ 100) (hx : ∀ x ∈ xs, Trio C n H x ∧ TabOk n x.2.2 ∧ Keys U x.2.2) (lU : U.length ≤ 39)
  (k : ∀ (t : Addr) (y : Addr × Addr × List (Str × Str)) (k : Str) (H' : Hp), Go p H H' → H' t = some (.tup [.ref y.1, .ref y.2.1]) → Trio C n H' y → TabOk n y.2.2 → Keys (k :: U) y.2.2 → Q (.ref t) H') : spDeed C [.ref p, .int n, .ref LT, .ref LM] H Q E := by
  unfold spDeed
  exact ⟨p, LT, LM, n, xs, U, rfl, hp, h0, h1, nT, nM, eT, eM, l0, l1, hx, lU, k⟩
theorem pair_go {C a b M1 M2 : Addr} {n : Int} {m1 m2 : List (Str × Str)} {H : Hp} {Q : VK} {E : XK} (ta : TabAt C H a n (srt m1)) (tb : TabAt C H b n (srt m2)) (e1 : H M1 = some (.dK (tk m1))) (e2 : H M2 = some (.dK (tk m2))) (o1 : TabOk n m1) (o2 : TabOk n m2) (k : ∀ H', Same H H' → Q (.bl true) H') : spPairT C [.ref a, .ref b, .ref M1, .ref M2] H Q E := by
  unfold spPairT
  exact ⟨a, b, M1, M2, n, m1, m2, rfl, ta, tb, e1, e2, o1, o2, k⟩
theorem back_go {C p a M : Addr} {n : Nat} {m : List (Str × Str)} {H : Hp} {Q : VK} {E : XK} (hp : PotAt H p) (ta : TabAt C H a n (srt m)) (eM : H M = some (.dK (tk m))) (ok : TabOk n m) (l : m.length ≤ 39) (k : ∀ H', Go p H H' → Q (.bl true) H') : spBack C [.ref p, .int n, .ref a, .ref M] H Q E := by
  unfold spBack
  exact ⟨p, a, M, n, m, rfl, hp, ta, eM, ok, l, k⟩
theorem Trio.go {C p : Addr} {n : Int} {H H' : Hp} {x : Addr × Addr × List (Str × Str)} (hp : PotAt H p) (h : Trio C n H x) (g : Go p H H') : Trio C n H' x := ⟨g.tab hp h.1, g.dk hp h.2⟩
theorem tab_mut {C L a : Addr} {n : Int} {m : List (Str × Str)} {H : Hp} {xs ys : List V} (h : TabAt C H a n m) (e : H L = some (.lst xs)) : TabAt C (upd H L (.lst ys)) a n m := by
  obtain ⟨dx, D, ha, hD, hne⟩ := h
  exact ⟨dx, D, updn (fun q => by rw [q, e] at ha; cases ha) ha, updn (fun q => by rw [q, e] at hD; cases hD) hD, hne⟩
theorem Trio.mut {C L : Addr} {n : Int} {H : Hp} {xs ys : List V} {x : Addr × Addr × List (Str × Str)} (h : Trio C n H x) (e : H L = some (.lst xs)) : Trio C n (upd H L (.lst ys)) x := ⟨tab_mut h.1 e, updn (fun q => by have := h.2; rw [q, e] at this; cases this) h.2⟩
theorem Keys.mono {U V : List Str} {m : List (Str × Str)} (h : Keys U m) (s : ∀ x ∈ U, x ∈ V) : Keys V m := fun k hk => s k (h k hk)
/-- what stands behind the deeds -/
structure Inv3 (C p LT LM : Addr) (n : Nat) (H0 H : Hp) (xs : List (Addr × Addr × List (Str × Str))) (U : List Str) (i : Nat) : Prop where
  go : Go p H0 H
  eT : H LT = some (.lst (xs.map fun x => V.ref x.1))
  eM : H LM = some (.lst (xs.map fun x => V.ref x.2.1))
  hx : ∀ x ∈ xs, Trio C n H x ∧ TabOk n x.2.2 ∧ Keys U x.2.2
  lx : xs.length = 3 + i
  lU : U.length ≤ 15 + i
theorem Inv3.goes {C p LT LM : Addr} {n : Nat} {H0 H H' : Hp} {xs : List (Addr × Addr × List (Str × Str))} {U : List Str} {i : Nat} (h : Inv3 C p LT LM n H0 H xs U i) (nT : LT ≠ p) (nM : LM ≠ p) (g : Go p H H') : Inv3 C p LT LM n H0 H' xs U i :=
  ⟨h.go.trans g, g.kp h.eT nT, g.kp h.eM nM, fun x hx => ⟨(h.hx x hx).1.go h.go.pot g, (h.hx x hx).2⟩, h.lx, h.lU⟩
theorem Inv3.both {C p LT LM : Addr} {n : Nat} {H0 H : Hp} {xs : List (Addr × Addr × List (Str × Str))} {U : List Str} {i : Nat} (h : Inv3 C p LT LM n H0 H xs U i) (hi : i ≤ 100) : Both C n H LT LM xs :=
  ⟨h.eT, h.eM, fun x hx => (h.hx x hx).1, fun x hx => (h.hx x hx).2.1, by have := h.lx; omega⟩
theorem flat_len : ∀ {ms : List (Addr × List (Str × Str))}, (∀ x ∈ ms, x.2.length ≤ 5) → (ms.flatMap fun x => x.2.map (·.1)).length ≤ 5 * ms.length
  | [], _ => Nat.le_refl _
  | x :: ms, h => by
    have a := flat_len (ms := ms) fun y hy => h y (List.mem_cons_of_mem _ hy)
    have b := h x (List.mem_cons_self ..)
    rw [List.flatMap_cons, List.length_append, List.length_map, List.length_cons]
    omega
section
variable {P : Program} {w : World} {K : PySem.W.Frag} {mg : Str → Option Value} {base : Heap} {f C : Addr} {fd : FuncData}
theorem ok_law_right (F : Fun K "_law_right" "_law_right" s_law_right f fd) (hm : mg "_law_right" = some (.ref f)) (T : Txt K mg) (TC : TabC K C) (c_law_among : Nm P w K mg base CX0 2 "_law_among" s_law_among ["_law_pot_here", "_law_some"] (spAmong K)) (c_law_draw : Nm P w K mg base CX0 1 "_law_draw" s_law_draw ["_law_pot_here", "_law_many"] (spDraw)) (c_law_rows : Nm P w K mg base CX0 5 "_law_rows" s_law_rows ["_law_pot_here", "_law_span"] (spRowsL)) (c_law_deed : Nm P w K mg base CX0 10 "_law_deed" s_law_deed ["_law_pot_here", "_law_span", "_law_made", "_law_models"] (spDeed C)) (c_law_all_right : Nm P w K mg base CX0 4 "_law_all_right" s_law_all_right ["_law_span", "_law_made", "_law_models"] (spAll C)) (c_law_pair_right : Nm P w K mg base CX0 4 "_law_pair_right" s_law_pair_right ["_law_here", "_law_there", "_law_model", "_law_other_model"] (spPairT C)) (c_law_back_right : Nm P w K mg base CX0 10 "_law_back_right" s_law_back_right ["_law_pot_here", "_law_span", "_law_here", "_law_model"] (spBack C))
    (c_Table__le__ : Mth P w K mg base CX0 1 C "__le__" "Table.__le__" s_Table__le__ ["self", "other"] (spLe C)) (c_Table__ge__ : Mth P w K mg base CX0 2 C "__ge__" "Table.__ge__" s_Table__ge__ ["self", "other"] (spGe C)) (c_Table__eq__ : Mth P w K mg base CX0 1 C "__eq__" "Table.__eq__" s_Table__eq__ ["self", "other"] (spEq C))
    (b_Table : BndI P w K mg base CX0 6 "Table" C ["self", "width", "rows"] (spInit C) 2 [] (fun us _ => us)) : Nm P w K mg base CX0 11 "_law_right" s_law_right ["_law_pot_here"] (spRight) := by
  refine nm_of0 F hm sc_law_right (fun vs H Q E h => ?_) fun cdv A outer s H vs Q E hr h => ?_
  · unfold spRight at h
    obtain ⟨p, rfl, hp, k⟩ := h
    subst_vars
    rfl
  unfold spRight at h
  obtain ⟨p, rfl, hp, k⟩ := h
  refine ⟨_, (C8.pss_cut (ps_set (i := 1) sc_law_right.nd rfl (by first | exact Or.inl rfl | exact Or.inr rfl) (pe_g c_law_among hr (by decide) L2.pass0 bp_law_among (by rfl) (pa_cons (pv 0) (pa_cons (pe_lst (pa_cons pe_int (pa_cons pe_int (pa_cons pe_int (pa_cons pe_int (pa_cons pe_int (pa_cons pe_int pa_nil))))))) pa_nil))))
      (C8.pss_cut (ps_setLc (i := 2) (own := [("_law_turn", 4)]) (g := (gName 4)) (by rfl) sc_law_right.nd rfl rfl (sw_true rfl rfl rfl (by decide +kernel)) (pi_range1 (by rfl) T.b_range (pa_cons pe_int pa_nil)) (blkOk_by (own := [("_law_turn", 4)]) (N := ["_law_pot_here", "_law_span", "_law_models", "_law_made", "_law_turn", "_law_new", "_law_model", "_law_here", "_law_wide", "_law_told", "_law_there", "_law_far"]) (sc := defScope s_law_right) (by decide +kernel)) (fun _ _ _ _ _ => (pg_name (i := 4) sc_law_right.nd rfl (by first | exact Or.inl rfl | exact Or.inr rfl))) (fun _ _ _ _ _ => pts_nil) (fun _ _ _ _ _ => (pe_g c_law_rows hr (by decide) L2.pass0 bp_law_rows (by rfl) (pa_cons (pv 0) (pa_cons (pv 1) pa_nil)))))
      (C8.pss_cut (ps_setLc (i := 3) (own := [("_law_model", 6)]) (g := (gName 6)) (by rfl) sc_law_right.nd rfl rfl (sw_true rfl rfl rfl (by decide +kernel)) (pi_listK (K := K) rfl (pv 2)) (blkOk_by (own := [("_law_model", 6)]) (N := ["_law_pot_here", "_law_span", "_law_models", "_law_made", "_law_turn", "_law_new", "_law_model", "_law_here", "_law_wide", "_law_told", "_law_there", "_law_far"]) (sc := defScope s_law_right) (by decide +kernel)) (fun _ _ _ _ _ => (pg_name (i := 6) sc_law_right.nd rfl (by first | exact Or.inl rfl | exact Or.inr rfl))) (fun _ _ _ _ _ => pts_nil) (fun _ _ _ _ _ => (pe_mk b_Table hr (by decide) L2.pass0 (by rfl) (pa_cons (pv 1) (pa_cons (pv 6) pa_nil)) pk_nil)))
      (C8.pss_cut (ps_for PassesOwn.never rfl (pi_range1 (by rfl) T.b_range (pa_cons (pe_g c_law_draw hr (by decide) L2.pass0 bp_law_draw (by rfl) (pa_cons (pv 0) (pa_cons pe_int pa_nil))) pa_nil)) (pg_name (i := 4) sc_law_right.nd rfl (by first | exact Or.inl rfl | exact Or.inr rfl)) (pss_cons (ps_asg (pe_g c_law_deed hr (by decide) L2.pass0 bp_law_deed (by rfl) (pa_cons (pv 0) (pa_cons (pv 1) (pa_cons (pv 3) (pa_cons (pv 2) pa_nil))))) (pg_tup (by rfl) (pgs_cons (pg_name (i := 5) sc_law_right.nd rfl (by first | exact Or.inl rfl | exact Or.inr rfl)) (pgs_cons (pg_name (i := 6) sc_law_right.nd rfl (by first | exact Or.inl rfl | exact Or.inr rfl)) pgs_nil))))
      (pss_cons (ps_expr (pe_bm PySem.F.plainAttrs_list PySem.F.slot_list_append PySem.F.type_list_append mt_append (pv 3) (pa_cons (pv 5) pa_nil)))
      (pss_cons (ps_expr (pe_bm PySem.F.plainAttrs_list PySem.F.slot_list_append PySem.F.type_list_append mt_append (pv 2) (pa_cons (pv 6) pa_nil)))
      (pss_one (ps_if (pt_not (pt_val (pe_g c_law_all_right hr (by decide) L2.pass0 bp_law_all_right (by rfl) (pa_cons (pv 1) (pa_cons (pv 3) (pa_cons (pv 2) pa_nil)))))) (pss_one (ps_ret pe_bl)) pss_nil))))))
      (C8.pss_cut (ps_for PassesOwn.never rfl (pi_zip (by rfl) T.b_zip (pa_cons (pv 3) (pa_cons (pv 2) pa_nil))) (pg_tup (by rfl) (pgs_cons (pg_name (i := 7) sc_law_right.nd rfl (by first | exact Or.inl rfl | exact Or.inr rfl)) (pgs_cons (pg_name (i := 6) sc_law_right.nd rfl (by first | exact Or.inl rfl | exact Or.inr rfl)) pgs_nil))) (pss_cons (ps_if (pt_not (pt_val (pe_callB (call_allK (K := K) rfl rfl) (by rfl) T.b_all (by decide +kernel) (pa_cons (pe_lc (own := [("_law_there", 10), ("_law_far", 11)]) (g := (gTup K 2 (gCons (gName 10) (gCons (gName 11) gNil)))) (by rfl) sc_law_right.nd (pi_zip (by rfl) T.b_zip (pa_cons (pv 3) (pa_cons (pv 2) pa_nil))) (blkOk_by (own := [("_law_there", 10), ("_law_far", 11)]) (N := ["_law_pot_here", "_law_span", "_law_models", "_law_made", "_law_turn", "_law_new", "_law_model", "_law_here", "_law_wide", "_law_told", "_law_there", "_law_far"]) (sc := defScope s_law_right) (by decide +kernel)) (fun _ _ _ _ _ => (pg_tup (by rfl) (pgs_cons (pg_name (i := 10) sc_law_right.nd rfl (by first | exact Or.inl rfl | exact Or.inr rfl)) (pgs_cons (pg_name (i := 11) sc_law_right.nd rfl (by first | exact Or.inl rfl | exact Or.inr rfl)) pgs_nil)))) (fun _ _ _ _ _ => pts_nil) (fun _ _ _ _ _ => (pe_g c_law_pair_right hr (by decide) L2.pass0 bp_law_pair_right (by rfl) (pa_cons (pv 7) (pa_cons (pv 10) (pa_cons (pv 6) (pa_cons (pv 11) pa_nil))))))) pa_nil)))) (pss_one (ps_ret pe_bl)) pss_nil)
      (pss_one (ps_if (pt_not (pt_val (pe_g c_law_back_right hr (by decide) L2.pass0 bp_law_back_right (by rfl) (pa_cons (pv 0) (pa_cons (pv 1) (pa_cons (pv 7) (pa_cons (pv 6) pa_nil))))))) (pss_one (ps_ret pe_bl)) pss_nil))))
      (C8.pss_cut (ps_if (pt_cmpR op_eq (pv 1) pe_int (nomark _)) (pss_one (ps_ret (pe_g c_law_all_right hr (by decide) L2.pass0 bp_law_all_right (by rfl) (pa_cons (pv 1) (pa_cons (pv 3) (pa_cons (pv 2) pa_nil)))))) pss_nil)
      (C8.pss_cut (ps_set (i := 8) sc_law_right.nd rfl (by first | exact Or.inl rfl | exact Or.inr rfl) (pe_mk b_Table hr (by decide) L2.pass0 (by rfl) (pa_cons (pe_op op_add (pv 1) pe_int) (pa_cons (pe_ix (ix_seqK (K := K) rfl) (pv 2) pe_int (fun _ _ => rfl)) pa_nil)) pk_nil))
      (pss_cons (ps_set (i := 9) sc_law_right.nd rfl (by first | exact Or.inl rfl | exact Or.inr rfl) (pe_lst (pa_cons (pe_cmpR (op_cmpS c_Table__eq__ hr (by decide) L2.pass0 bm_Table__eq__ rfl) (pv 8) (pe_ix (ix_seqK (K := K) rfl) (pv 3) pe_int (fun _ _ => rfl)) (nomark _)) (pa_cons (pe_cmpR (op_cmpS c_Table__le__ hr (by decide) L2.pass0 bm_Table__le__ rfl) (pv 8) (pe_ix (ix_seqK (K := K) rfl) (pv 3) pe_int (fun _ _ => rfl)) (nomark _)) (pa_cons (pe_cmpR (op_cmpS c_Table__le__ hr (by decide) L2.pass0 bm_Table__le__ rfl) (pe_ix (ix_seqK (K := K) rfl) (pv 3) pe_int (fun _ _ => rfl)) (pv 8) (nomark _)) (pa_cons (pe_cmpR (op_cmpS c_Table__ge__ hr (by decide) L2.pass0 bm_Table__ge__ rfl) (pv 8) (pe_ix (ix_seqK (K := K) rfl) (pv 3) pe_int (fun _ _ => rfl)) (nomark _)) (pa_cons (pe_cmpR (op_cmpS c_Table__ge__ hr (by decide) L2.pass0 bm_Table__ge__ rfl) (pe_ix (ix_seqK (K := K) rfl) (pv 3) pe_int (fun _ _ => rfl)) (pv 8) (nomark _)) pa_nil)))))))
      (pss_one (ps_ret (pe_and (pe_cmpR (op_eqDK (K := K) rfl hr.u64) (pv 9) (pe_op op_rep (pe_lst (pa_cons pe_bl pa_nil)) pe_int) (nomark _)) (pe_one (pe_g c_law_all_right hr (by decide) L2.pass0 bp_law_all_right (by rfl) (pa_cons (pv 1) (pa_cons (pv 3) (pa_cons (pv 2) pa_nil)))))))))))))))), ?_⟩
  refine ⟨fun σ' H' => ∃ n : Nat, σ' = [some (.ref p), some (.int n), none, none, none, none, none, none, none, none, none, none] ∧ (1 ≤ n ∧ n ≤ 100 ∧ (n ≠ 100 → n < 100)) ∧ Go p H H', ?_, ?_⟩
  · walk_at "s1"
    refine ⟨szl (by show 6 ≤ 1000000; decide), fun L nL => ?_⟩
    refine among_l ((Go.refl hp).new nL).pot (hp.ne nL) (SqL.of upd_same) (by show 0 < 6; decide) (by show 6 ≤ 1000; decide) fun v hv H1 g1 => ?_
    have gg : Go p H H1 := ((Go.refl hp).new nL).trans g1
    simp only [List.mem_cons, List.not_mem_nil, or_false] at hv
    rcases hv with rfl | rfl | rfl | rfl | rfl | rfl
    · exact ⟨1, rfl, by decide, gg⟩
    · exact ⟨2, rfl, by decide, gg⟩
    · exact ⟨3, rfl, by decide, gg⟩
    · exact ⟨4, rfl, by decide, gg⟩
    · exact ⟨60, rfl, by decide, gg⟩
    · exact ⟨100, rfl, by decide, gg⟩
  rintro σ' H1 ⟨n, rfl, ⟨h0, h1, h2⟩, g1⟩
  have pot1 := g1.pot
  refine ⟨fun σ' H' => ∃ (LM : Addr) (ms : List (Addr × List (Str × Str))), σ' = [some (.ref p), some (.int n), some (.ref LM), none, none, none, none, none, none, none, none, none] ∧ Go p H H' ∧ LM ≠ p ∧ H LM = none ∧ H' LM = some (.lst (ms.map fun x => V.ref x.1)) ∧ ms.length = 3 ∧ (∀ x ∈ ms, H' x.1 = some (.dK (tk x.2)) ∧ TabOk n x.2 ∧ x.2.length ≤ 5), ?_, ?_⟩
  · refine ⟨_, rfl, by decide, by decide, fun B nB => ?_⟩
    have nBp := pot1.ne nB
    refine lc_it walk_range (fun i H' => ∃ ms : List (Addr × List (Str × Str)), H' B = some (.lst (ms.map fun x => V.ref x.1)) ∧ ms.length = i ∧ (∀ x ∈ ms, H' x.1 = some (.dK (tk x.2)) ∧ TabOk n x.2 ∧ x.2.length ≤ 5) ∧ Go p H1 H') ⟨[], upd_same, rfl, (fun x hx => by cases hx), (Go.refl pot1).new nB⟩ (fun _ _ _ _ => trivial) ?_ ?_
    · rintro i x H2 H2' hi ⟨ms, hB, hl, hm, g2⟩ hy
      obtain ⟨rfl, rfl⟩ := hy
      refine ⟨rfl, ?_⟩
      dsimp only [tYes]
      rw [if_pos rfl]
      refine ⟨_, rfl, ⟨_, rfl, ?_⟩⟩
      refine rowsL_go g2.pot h0 h1 fun M m H3 nM g3 eM lm nd ok => ?_
      have hi3 : i < 3 := hi
      refine ⟨_, g3.kp hB nBp, szt (by rw [List.length_map]; omega), ms ++ [(M, m)], by rw [upd_same, List.map_append]; rfl, by rw [List.length_append, hl]; rfl, ?_, (g2.trans g3).mut nB nBp⟩
      have nMB : M ≠ B := fun q => by rw [q, hB] at nM; cases nM
      intro x hx
      rcases List.mem_append.mp hx with hx | hx
      · obtain ⟨a1, a2, a3⟩ := hm x hx
        have n1 : x.1 ≠ B := fun q => by rw [q, hB] at a1; cases a1
        exact ⟨updn n1 (g3.dk g2.pot a1), a2, a3⟩
      · rw [List.mem_singleton.mp hx]
        exact ⟨updn nMB eM, ⟨by omega, by omega, ok, nd, by show m.length ≤ 40; omega⟩, lm⟩
    · rintro H2 ⟨ms, hB, hl, hm, g2⟩
      exact ⟨B, ms, rfl, g1.trans g2, nBp, g1.fresh hp nB, hB, hl, hm⟩
  rintro σ' H2 ⟨LM, ms, rfl, g2, nMp, nM, eM, lm, hm⟩
  have pot2 := g2.pot
  refine ⟨fun σ' H' => ∃ (LT : Addr) (xs : List (Addr × Addr × List (Str × Str))) (U : List Str), σ' = [some (.ref p), some (.int n), some (.ref LM), some (.ref LT), none, none, none, none, none, none, none, none] ∧ LT ≠ p ∧ H LT = none ∧ LM ≠ LT ∧ Inv3 C p LT LM n H H' xs U 0, ?_, ?_⟩
  · refine ⟨_, rfl, ⟨LM, rfl, ⟨_, SqL.of eM⟩, fun B nB => ?_⟩⟩
    have nBp := pot2.ne nB
    have nMB : LM ≠ B := nonn nB eM
    refine lc_it (walk_list (xs := ms.map fun x => V.ref x.1)) (fun i H' => ∃ xs : List (Addr × Addr × List (Str × Str)), xs.map (·.2) = ms.take i ∧ H' B = some (.lst (xs.map fun x => V.ref x.1)) ∧ (∀ x ∈ xs, Trio C n H' x) ∧ Go p H2 H') ⟨[], rfl, upd_same, (fun x hx => by cases hx), (Go.refl pot2).new nB⟩ (fun i H' _ ⟨_, _, _, _, g⟩ => SqL.of (g.kp eM nMp)) ?_ ?_
    · rintro i x H3 H3' hi ⟨xs, hxs, hB, htr, g3⟩ ⟨rfl, hx⟩
      obtain ⟨y, hy, rfl⟩ : ∃ y, ms[i]? = some y ∧ x = .ref y.1 := by
        rw [List.getElem?_map] at hx
        cases e : ms[i]? with
        | none => rw [e] at hx; cases hx
        | some z => rw [e] at hx; exact ⟨z, rfl, (Option.some.inj hx).symm⟩
      obtain ⟨eY, okY, _⟩ := hm y (List.mem_of_getElem? hy)
      have eY3 := g3.dk pot2 eY
      refine ⟨rfl, ?_⟩
      dsimp only [tYes]
      rw [if_pos rfl]
      refine ⟨_, rfl, ⟨_, rfl, ⟨rfl, rfl, fun x dx hx hdx hxx => ?_⟩⟩⟩
      have mx : y.1 ≠ x := nonn hx eY3
      have md : y.1 ≠ dx := nonn hdx eY3
      refine init_go upd_same (updn mx (updn md eY3)) okY fun H4 kp tb => ⟨rfl, ?_⟩
      have s4 : Same H3' H4 := fun c o e => kp c o (nonn hx e) (updn (nonn hx e) (updn (nonn hdx e) e))
      have hB4 := s4 _ _ hB
      have l3 : xs.length = i := by
        have := congrArg List.length hxs
        rw [List.length_map, List.length_take] at this
        rw [List.length_map] at hi
        omega
      rw [List.length_map, lm] at hi
      refine ⟨_, hB4, szt (by rw [List.length_map]; omega), xs ++ [(x, y)], by rw [List.map_append, hxs, List.take_add_one, hy]; rfl, by rw [upd_same, List.map_append]; rfl, ?_, (g3.trans (Go.of g3.pot s4)).mut nB nBp⟩
      intro q hq
      rcases List.mem_append.mp hq with hq | hq
      · exact ((htr q hq).same s4).mut hB4
      · rw [List.mem_singleton.mp hq]
        exact (show Trio C n H4 (x, y) from ⟨tb, s4 _ _ eY3⟩).mut hB4
    · rintro H3 ⟨xs, hxs, hB, htr, g3⟩
      rw [List.length_map, List.take_length] at hxs
      refine ⟨B, xs, ms.flatMap fun x => x.2.map (·.1), rfl, nBp, g2.fresh hp nB, nMB, ⟨g2.trans g3, hB, ?_, ?_, ?_, ?_⟩⟩
      · have e := g3.kp eM nMp
        rw [e, ← hxs, List.map_map]
        rfl
      · intro x hx
        have hx2 : x.2 ∈ ms := by rw [← hxs]; exact List.mem_map_of_mem hx
        exact ⟨htr x hx, (hm _ hx2).2.1, fun k hk => List.mem_flatMap.mpr ⟨_, hx2, hk⟩⟩
      · have := congrArg List.length hxs
        rw [List.length_map] at this
        omega
      · have := flat_len (ms := ms) fun x hx => (hm x hx).2.2
        omega
  rintro σ' H3 ⟨LT, xs0, U0, rfl, nTp, nT, nMT, iv0⟩
  clear hm eM lm g2 pot2 g1 pot1
  refine ⟨fun σ' H' => ∃ (xs : List (Addr × Addr × List (Str × Str))) (U : List Str) (i : Nat) (x4 x5 x6 : Option V), σ' = [some (.ref p), some (.int n), some (.ref LM), some (.ref LT), x4, x5, x6, none, none, none, none, none] ∧ i ≤ 12 ∧ Inv3 C p LT LM n H H' xs U i, ?_, ?_⟩
  · refine ⟨_, rfl, ?_⟩
    refine draw_go iv0.go.pot (by decide) (by decide) fun d H4 d0 d1 g4 => ?_
    obtain ⟨d, rfl⟩ := Int.eq_ofNat_of_zero_le d0
    refine ⟨_, rfl, by omega, by omega, ?_⟩
    refine for_it walk_range (fun i σ' H' => ∃ (xs : List (Addr × Addr × List (Str × Str))) (U : List Str) (x4 x5 x6 : Option V), σ' = [some (.ref p), some (.int n), some (.ref LM), some (.ref LT), x4, x5, x6, none, none, none, none, none] ∧ Inv3 C p LT LM n H H' xs U i) ⟨xs0, U0, _, _, _, rfl, iv0.goes nTp nMp g4⟩ (fun _ _ _ _ _ => trivial) ?_ ?_
    · rintro i x σ' H5 H5' hi ⟨xs, U, x4, x5, x6, rfl, iv⟩ ⟨rfl, rfl⟩
      have hi12 : i < 12 := by
        have : i < (d : Int).toNat := hi
        omega
      have lx := iv.lx
      have lU := iv.lU
      refine ⟨_, rfl, ⟨_, rfl, ⟨_, rfl, ⟨_, rfl, ?_⟩⟩⟩⟩
      refine deed_go iv.go.pot h0 h1 nTp nMp iv.eT iv.eM (by omega) (by omega) iv.hx (by omega) fun t y kk H6 g6 et ty oky ky => ?_
      refine ⟨t, _, rfl, SqT.of et, rfl, ⟨_, _, rfl, ⟨_, _, rfl, ⟨rfl, ?_⟩⟩⟩⟩
      have eT6 := g6.kp iv.eT nTp
      have eM6 := g6.kp iv.eM nMp
      refine ⟨_, rfl, Or.inl ⟨rfl, _, SqL.of eT6⟩, ⟨_, rfl, ⟨LT, _, _, rfl, rfl, eT6, szt (by rw [List.length_map]; omega), ?_⟩⟩⟩
      have eM7 : upd H6 LT (.lst (xs.map (fun x => V.ref x.1) ++ [.ref y.1])) LM = _ := updn nMT eM6
      refine ⟨_, rfl, Or.inl ⟨rfl, _, SqL.of eM7⟩, ⟨_, rfl, ⟨LM, _, _, rfl, rfl, eM7, szt (by rw [List.length_map]; omega), ?_⟩⟩⟩
      have iv7 : Inv3 C p LT LM n H (upd (upd H6 LT (.lst (xs.map (fun x => V.ref x.1) ++ [.ref y.1]))) LM (.lst (xs.map (fun x => V.ref x.2.1) ++ [.ref y.2.1]))) (xs ++ [y]) (kk :: U) (i + 1) := by
        refine ⟨((iv.go.trans g6).mut nT nTp).mut nM nMp, ?_, ?_, ?_, ?_, ?_⟩
        · rw [List.map_append]
          exact updn (Ne.symm nMT) upd_same
        · rw [List.map_append]
          exact upd_same
        · intro q hq
          rcases List.mem_append.mp hq with hq | hq
          · obtain ⟨a1, a2, a3⟩ := iv.hx q hq
            exact ⟨((a1.go iv.go.pot g6).mut eT6).mut eM7, a2, a3.mono fun x hx => List.mem_cons_of_mem _ hx⟩
          · rw [List.mem_singleton.mp hq]
            exact ⟨(ty.mut eT6).mut eM7, oky, ky⟩
        · rw [List.length_append, lx]
          rfl
        · rw [List.length_cons]
          omega
      refine ⟨_, rfl, ⟨_, rfl, ⟨_, rfl, ?_⟩⟩⟩
      refine all_go (iv7.both (by omega)) fun H8 s8 => ?_
      refine ⟨true, rfl, iteF ?_⟩
      exact ⟨xs ++ [y], kk :: U, _, _, _, rfl, iv7.goes nTp nMp (Go.of iv7.go.pot s8)⟩
    · rintro σ' H5 ⟨xs, U, x4, x5, x6, rfl, iv⟩
      exact ⟨xs, U, _, x4, x5, x6, rfl, by omega, iv⟩
  rintro σ' H4 ⟨xs, U, i, x4, x5, x6, rfl, hi, iv⟩
  clear iv0
  have lx := iv.lx
  have lU := iv.lU
  refine ⟨fun σ' H' => ∃ (x6 x7 : Option V), σ' = [some (.ref p), some (.int n), some (.ref LM), some (.ref LT), x4, x5, x6, x7, none, none, none, none] ∧ Inv3 C p LT LM n H H' xs U i, ?_, ?_⟩
  · refine ⟨_, rfl, ⟨_, rfl, ?_⟩⟩
    refine ⟨LT, LM, xs.map (fun x => V.ref x.1), xs.map (fun x => V.ref x.2.1), rfl, SqL.of iv.eT, SqL.of iv.eM, for_it (walk_zip (n := xs.length) (by rw [List.length_map, List.length_map, Nat.min_self])) (fun j σ' H' => ∃ (x6 x7 : Option V), σ' = [some (.ref p), some (.int n), some (.ref LM), some (.ref LT), x4, x5, x6, x7, none, none, none, none] ∧ Inv3 C p LT LM n H H' xs U i) ⟨_, _, rfl, iv⟩ (fun _ _ _ _ ⟨_, _, _, h⟩ => ⟨SqL.of h.eT, SqL.of h.eM⟩) ?_ ?_⟩
    · rintro j v σ' H5 H5' hj ⟨x6, x7, rfl, iv5⟩ ⟨T, y, z, ey, nT5, eH, hy, hz⟩
      subst ey eH
      dsimp only at hy hz
      rw [List.getElem?_map] at hy hz
      have hx : xs[j]? = some xs[j] := List.getElem?_eq_getElem hj
      rw [hx] at hy hz
      cases hy
      cases hz
      have hm := List.getElem_mem hj
      clear hx
      generalize xs[j] = x at hm ⊢
      obtain ⟨a, M, m⟩ := x
      have iv6 : Inv3 C p LT LM n H (upd H5 T (.tup [.ref a, .ref M])) xs U i := iv5.goes nTp nMp ((Go.refl iv5.go.pot).new nT5)
      have et6 : upd H5 T (.tup [.ref a, .ref M]) T = some (.tup [.ref a, .ref M]) := upd_same
      generalize upd H5 T (.tup [.ref a, .ref M]) = H6 at iv6 et6 ⊢
      obtain ⟨⟨ta, eM6⟩, okm, kym⟩ := iv6.hx _ hm
      refine ⟨T, _, rfl, SqT.of et6, rfl, ⟨_, _, rfl, ⟨_, _, rfl, ⟨rfl, ?_⟩⟩⟩⟩
      refine ⟨_, rfl, ⟨_, rfl, ⟨LT, LM, xs.map (fun x => V.ref x.1), xs.map (fun x => V.ref x.2.1), rfl, SqL.of iv6.eT, SqL.of iv6.eM, fun B nB => ?_⟩⟩⟩
      refine lc_it (walk_zip (n := xs.length) (by rw [List.length_map, List.length_map, Nat.min_self])) (fun i H' => H' B = some (.lst ((List.replicate i true).map V.bl)) ∧ Same H6 H') ⟨upd_same, fun c o e => updn (nonn nB e) e⟩ (fun _ _ _ h => ⟨SqL.of (h.2 _ _ iv6.eT), SqL.of (h.2 _ _ iv6.eM)⟩) ?_ ?_
      · rintro q v H7 H7' hq ⟨hB, sm⟩ ⟨T2, y, z, ey, nT7, eH, hy, hz⟩
        subst ey eH
        dsimp only at hy hz
        rw [List.getElem?_map] at hy hz
        have hx : xs[q]? = some xs[q] := List.getElem?_eq_getElem hq
        rw [hx] at hy hz
        cases hy
        cases hz
        have hm2 := List.getElem_mem hq
        clear hx
        generalize xs[q] = x at hm2 ⊢
        obtain ⟨a2, M2, m2⟩ := x
        have s8 : Same H6 (upd H7 T2 (.tup [.ref a2, .ref M2])) := fun c o e => updn (nonn nT7 (sm c o e)) (sm c o e)
        have hB8 : upd H7 T2 (.tup [.ref a2, .ref M2]) B = _ := updn (nonn nT7 hB) hB
        have et8 : upd H7 T2 (.tup [.ref a2, .ref M2]) T2 = some (.tup [.ref a2, .ref M2]) := upd_same
        generalize upd H7 T2 (.tup [.ref a2, .ref M2]) = H8 at s8 hB8 et8 ⊢
        obtain ⟨⟨ta2, eM2⟩, okm2, _⟩ := iv6.hx _ hm2
        refine ⟨T2, _, rfl, SqT.of et8, rfl, ⟨_, _, rfl, ⟨_, _, rfl, ⟨rfl, ?_⟩⟩⟩⟩
        refine ⟨rfl, ?_⟩
        dsimp only [tYes]
        rw [if_pos rfl]
        refine ⟨_, rfl, ⟨_, rfl, ⟨_, rfl, ⟨_, rfl, ?_⟩⟩⟩⟩
        refine pair_go (ta.same s8) (ta2.same s8) (s8 _ _ eM6) (s8 _ _ eM2) okm okm2 fun H9 s9 => ?_
        refine ⟨_, s9 _ _ hB8, szt (by rw [List.length_map, List.length_replicate]; omega), by rw [upd_same, List.replicate_succ', List.map_append]; rfl, fun c o e => updn (nonn nB e) (s9 _ _ (s8 c o e))⟩
      · rintro H7 ⟨hB, sm⟩
        refine ⟨_, _, rfl, SqL.of hB, ?_⟩
        have e : ((List.replicate xs.length true).all id) = true := by simp
        rw [e]
        refine ⟨true, rfl, iteF ?_⟩
        have iv7 := iv6.goes nTp nMp (Go.of iv6.go.pot sm)
        refine ⟨_, rfl, ⟨_, rfl, ⟨_, rfl, ⟨_, rfl, ?_⟩⟩⟩⟩
        refine back_go iv7.go.pot (ta.same sm) (sm _ _ eM6) okm (by have := keys_len okm kym; omega) fun H8 g8 => ?_
        refine ⟨true, rfl, iteF ?_⟩
        exact ⟨_, _, rfl, iv7.goes nTp nMp g8⟩
    · rintro σ' H5 ⟨x6, x7, rfl, iv5⟩
      exact ⟨x6, x7, rfl, iv5⟩
  rintro σ' H5 ⟨x6, x7, rfl, iv5⟩
  clear iv
  refine ⟨fun σ' H' => σ' = [some (.ref p), some (.int n), some (.ref LM), some (.ref LT), x4, x5, x6, x7, none, none, none, none] ∧ H' = H5 ∧ n < 100, ?_, ?_⟩
  · refine ⟨_, rfl, ⟨rfl, ?_⟩⟩
    refine ⟨_, rfl, ite2 (fun hq => ?_) fun hq => ?_⟩
    · refine ⟨_, rfl, ⟨_, rfl, ⟨_, rfl, ?_⟩⟩⟩
      exact all_go (iv5.both (by omega)) fun H6 s6 => k _ (iv5.goes nTp nMp (Go.of iv5.go.pot s6)).go
    · exact ⟨rfl, rfl, h2 fun q => hq (by rw [q]; rfl)⟩
  rintro σ' H6 ⟨rfl, rfl, n99⟩
  obtain ⟨⟨a, M, m⟩, rs, hxs⟩ : ∃ x rs, xs = x :: rs := by
    cases xs with
    | nil => rw [List.length_nil] at lx; omega
    | cons x rs => exact ⟨x, rs, rfl⟩
  obtain ⟨⟨ta, eM5⟩, okm, _⟩ := iv5.hx (a, M, m) (by rw [hxs]; exact List.mem_cons_self ..)
  have okW : TabOk ((n : Int) + 1) m := ⟨by omega, by omega, fun q hq => ⟨(okm.rows q hq).1, by have := (okm.rows q hq).2.1; omega, (okm.rows q hq).2.2⟩, okm.nd, okm.few⟩
  have eTL : (xs.map fun x => V.ref x.1)[(0 : Nat)]? = some (.ref a) := by rw [hxs]; rfl
  have eTL' : atI (xs.map fun x => V.ref x.1) 0 = some (.ref a) := by rw [hxs]; unfold atI ixN; simp
  have eML : (xs.map fun x => V.ref x.2.1)[(0 : Nat)]? = some (.ref M) := by rw [hxs]; rfl
  have eML' : atI (xs.map fun x => V.ref x.2.1) 0 = some (.ref M) := by rw [hxs]; unfold atI ixN; simp
  refine ⟨fun σ' H' => ∃ W, σ' = [some (.ref p), some (.int n), some (.ref LM), some (.ref LT), x4, x5, x6, x7, some (.ref W), none, none, none] ∧ Same H6 H' ∧ TabAt C H' W ((n : Int) + 1) (srt m), ?_, ?_⟩
  · refine ⟨_, rfl, ⟨_, _, rfl, rfl, ?_⟩⟩
    refine ⟨_, rfl, Or.inl ⟨LM, _, 0, _, rfl, rfl, SqL.of iv5.eM, eML', ?_⟩⟩
    refine ⟨rfl, rfl, fun x dx hx hdx hxx => ?_⟩
    have mx : M ≠ x := nonn hx eM5
    have md : M ≠ dx := nonn hdx eM5
    refine init_go upd_same (updn mx (updn md eM5)) okW fun H7 kp tb => ⟨rfl, ?_⟩
    have s4 : Same H6 H7 := fun c o e => kp c o (nonn hx e) (updn (nonn hx e) (updn (nonn hdx e) e))
    exact ⟨x, rfl, s4, tb⟩
  rintro σ' H7 ⟨W, rfl, s7, tW⟩
  have e7 : ∀ H', Same H7 H' → Inv3 C p LT LM n H H' xs U i := fun H' s => iv5.goes nTp nMp (Go.of iv5.go.pot (s7.trans s))
  have ta7 := ta.same s7
  have eqF : ∀ x y : List (Str × Str), eqB ((n : Int) + 1) x n y = false := fun x y => by unfold eqB; rw [decide_eq_false (by omega)]; rfl
  have leF : ∀ x y : List (Str × Str), leB ((n : Int) + 1) x n y = false := fun x y => by unfold leB; rw [decide_eq_false (by omega)]; rfl
  have leG : ∀ x y : List (Str × Str), leB n x ((n : Int) + 1) y = false := fun x y => by unfold leB; rw [decide_eq_false (by omega)]; rfl
  have fw : (srt m).length ≤ 1000 := by have : m.length ≤ 40 := okm.few; rw [srt_len]; omega
  have iv7 := e7 H7 (Same.refl _)
  refine ⟨_, rfl, ⟨_, rfl, Or.inl ⟨LT, _, 0, _, rfl, rfl, SqL.of iv7.eT, eTL', ⟨tW.ins, ta7.ins, ?_⟩⟩⟩⟩
  refine eq_go tW ta7 ?_
  rw [eqF]
  refine ⟨_, rfl, ⟨_, rfl, Or.inl ⟨LT, _, 0, _, rfl, rfl, SqL.of iv7.eT, eTL', ⟨tW.ins, ta7.ins, ?_⟩⟩⟩⟩
  refine le_go tW ta7 fw fun H8 s8 => ?_
  rw [leF]
  refine ⟨_, rfl, Or.inl ⟨LT, _, 0, _, rfl, rfl, SqL.of (s8 _ _ iv7.eT), eTL', ⟨_, rfl, ⟨(ta7.same s8).ins, (tW.same s8).ins, ?_⟩⟩⟩⟩
  refine le_go (ta7.same s8) (tW.same s8) fw fun H9 s9 => ?_
  rw [leG]
  have s79 := s8.trans s9
  refine ⟨_, rfl, ⟨_, rfl, Or.inl ⟨LT, _, 0, _, rfl, rfl, SqL.of (s79 _ _ iv7.eT), eTL', ⟨(tW.same s79).ins, (ta7.same s79).ins, ?_⟩⟩⟩⟩
  refine ge_go (tW.same s79) (ta7.same s79) fw fun HA sA => ?_
  rw [leG]
  have s7A := s79.trans sA
  refine ⟨_, rfl, Or.inl ⟨LT, _, 0, _, rfl, rfl, SqL.of (s7A _ _ iv7.eT), eTL', ⟨_, rfl, ⟨(ta7.same s7A).ins, (tW.same s7A).ins, ?_⟩⟩⟩⟩
  refine ge_go (ta7.same s7A) (tW.same s7A) fw fun HB sB => ?_
  rw [leF]
  have s7B := s7A.trans sB
  refine ⟨szl (by show 5 ≤ 1000000; decide), fun L nL => ?_⟩
  have sC : Same H7 (upd HB L (.lst [.bl false, .bl false, .bl false, .bl false, .bl false])) := fun c o e => updn (nonn nL (s7B _ _ e)) (s7B _ _ e)
  have eC : upd HB L (.lst [.bl false, .bl false, .bl false, .bl false, .bl false]) L = some (.lst [.bl false, .bl false, .bl false, .bl false, .bl false]) := upd_same
  generalize upd HB L (.lst [.bl false, .bl false, .bl false, .bl false, .bl false]) = HC at sC eC ⊢
  refine ⟨_, rfl, ⟨szl (by show 1 ≤ 1000000; decide), fun L1 nL1 => ?_⟩⟩
  refine ⟨L1, 5, [.bl false], rfl, rfl, upd_same, by decide, by decide, szl (by decide), fun L2 nL2 => ?_⟩
  have sD : Same HC (upd (upd HC L1 (.lst [.bl false])) L2 (.lst (List.replicate (5 : Int).toNat [V.bl false]).flatten)) := fun c o e => updn (nonn nL2 (updn (nonn nL1 e) e)) (updn (nonn nL1 e) e)
  have eD : upd (upd HC L1 (.lst [.bl false])) L2 (.lst (List.replicate (5 : Int).toNat [V.bl false]).flatten) L2 = some (.lst [.bl false, .bl false, .bl false, .bl false, .bl false]) := upd_same
  generalize upd (upd HC L1 (.lst [.bl false])) L2 (.lst (List.replicate (5 : Int).toNat [V.bl false]).flatten) = HD at sD eD ⊢
  have ft : Fit _ _ (.list [.bool false, .bool false, .bool false, .bool false, .bool false]) := Fit.list (N := 10) (D := 0) fun d hd => by
    simp only [List.mem_cons, List.not_mem_nil, or_false] at hd
    rcases hd with rfl | rfl | rfl | rfl | rfl <;> exact .bool _
  refine ⟨_, _, .lst (SqL.of (sD _ _ eC)) (.cons (.bl false) (.cons (.bl false) (.cons (.bl false) (.cons (.bl false) (.cons (.bl false) .nil))))), .lst (SqL.of eD) (.cons (.bl false) (.cons (.bl false) (.cons (.bl false) (.cons (.bl false) (.cons (.bl false) .nil))))), ft.shp (by decide), ft.shp (by decide), ?_⟩
  rw [ft.eqv]
  have sE := sC.trans sD
  have ivE := e7 HD sE
  refine ⟨true, rfl, iteT ?_⟩
  refine ⟨_, rfl, ⟨_, rfl, ⟨_, rfl, ?_⟩⟩⟩
  exact all_go (ivE.both (by omega)) fun HE sF => k _ (ivE.goes nTp nMp (Go.of ivE.go.pot sF)).go
end
open PySem PySem.Spec PyProof.Rows
open L2 hiding pass0
abbrev s_law : Stmt := top 46
theorem sc_law : FnScope ["_law_script", "_law_k"] ["_law_script"] (defScope s_law) := ⟨rfl, rfl, rfl, by decide +kernel, rfl, by decide +kernel, by decide +kernel⟩
theorem bp_law : BndP "law" s_law ["_law_script"] := fun _ _ _ _ _ _ us h => match us, h with | [_], _ => rfl
theorem all_rep : ∀ n : Nat, (List.replicate n true).all id = true
  | 0 => rfl
  | n + 1 => by rw [List.replicate_succ, List.all_cons, all_rep n]; rfl
def spLaw (K : PySem.W.Frag) : Sp := fun vs H Q _ => ∃ (a : Addr) (ns : List Int), vs = [.ref a] ∧ SqL K H a (ns.map V.int) ∧ ns.length ≤ 63 ∧ (∀ b, H b = none ∨ b = a) ∧ ∀ H', Q (.bl true) H'
section
variable {P : Program} {w : World} {K : PySem.W.Frag} {mg : Str → Option Value} {base : Heap} {f : Addr} {fd : FuncData}
theorem ok_law (F : Fun K "law" "law" s_law f fd) (hm : mg "law" = some (.ref f)) (T : Txt K mg)
    (c_law_pot : Nm P w K mg base CX0 1 "_law_pot" s_law_pot ["_law_script", "_law_k"] (spPot K))
    (c_law_right : Nm P w K mg base CX0 11 "_law_right" s_law_right ["_law_pot_here"] spRight) : Nm P w K mg base CX0 12 "law" s_law ["_law_script"] (spLaw K) := by
  refine nm_of F hm sc_law (fun vs H Q E h => ?_) fun cdv A outer s H vs Q E hr h => ?_
  · obtain ⟨p, ns, rfl, _⟩ := h
    rfl
  · obtain ⟨a, ns, rfl, hS, hl, hO, k⟩ := h
    refine ⟨_, (pss_one (ps_ret (pe_callB (call_allK (K := K) rfl rfl) (by rfl) T.b_all (by decide +kernel) (pa_cons (pe_lc (own := [("_law_k", 1)]) (g := (gName 1)) (by rfl) sc_law.nd (pi_range1 (by rfl) T.b_range (pa_cons (pe_callB (call_max2 rfl) (by rfl) T.b_max (by decide +kernel) (pa_cons pe_int (pa_cons (pe_callB (call_min2 rfl) (by rfl) T.b_min (by decide +kernel) (pa_cons pe_int (pa_cons (pe_callB (call_lenK (K := K) rfl) (by rfl) T.b_len PySem.boot_len (pa_cons (pv 0) pa_nil)) pa_nil))) pa_nil))) pa_nil)) (blkOk_by (own := [("_law_k", 1)]) (N := ["_law_script", "_law_k"]) (sc := defScope s_law) (by decide +kernel)) (fun _ _ _ _ _ => (pg_name (i := 1) sc_law.nd rfl (by first | exact Or.inl rfl | exact Or.inr rfl))) (fun _ _ _ _ _ => pts_nil) (fun _ _ _ _ _ => (pe_g c_law_right hr (by decide) L2.pass0 bp_law_right (by rfl) (pa_cons (pe_g c_law_pot hr (by decide) L2.pass0 bp_law_pot (by rfl) (pa_cons (pv 0) (pa_cons (pv 1) pa_nil))) pa_nil)))) pa_nil)))), ?_⟩
    have hlen : ((ns.map V.int).length : Int) = (ns.length : Int) := by rw [List.length_map]
    repeat walk_at "s1"
    rename_i D nD
    refine lc_it walk_range (fun i H1 => H1 D = some (.lst ((List.replicate i true).map V.bl)) ∧ i ≤ 4 ∧ Same H H1) ⟨upd_same, by decide, fun b o e => updn (nonn nD e) e⟩ (fun _ _ _ _ => trivial) ?_ ?_
    · rintro i x H1 H2 hi ⟨hD, h5, sm⟩ ⟨rfl, rfl⟩
      have hi4 : i < 4 := by
        have q : i < Int.toNat (if (if ((ns.map V.int).length : Int) < 4 then ((ns.map V.int).length : Int) else 4) > 1 then (if ((ns.map V.int).length : Int) < 4 then ((ns.map V.int).length : Int) else 4) else 1) := hi
        split at q <;> (try split at q) <;> omega
      refine ⟨rfl, ?_⟩
      dsimp only [tYes]
      rw [if_pos rfl]
      repeat walk_at "s1"
      refine pot_go (sm.seq hS) hl (by omega) (by omega) fun p H3 np hp s3 => ?_
      repeat walk_at "s1"
      refine right_go hp fun H4 g4 => ?_
      have s4 : Same H2 H4 := fun b o e => g4.keep b o (s3 b o e) (nonn np e)
      refine ⟨_, s4 _ _ hD, szt (by rw [List.length_map, List.length_replicate]; omega), ?_, by omega, fun b o e => updn (nonn nD e) (s4 _ _ (sm _ _ e))⟩
      rw [upd_same, List.replicate_succ', List.map_append]
      rfl
    · rintro H1 ⟨hD, h5, sm⟩
      refine ⟨_, _, rfl, SqL.of hD, ?_⟩
      rw [all_rep]
      exact k H1
end
theorem Nm.fn {P : Program} {w : World} {K : PySem.W.Frag} {mg : Str → Option Value} {base : Heap} {CX : CXT} {k : Nat} {x : Str} {st : Stmt} {ps : List Str} {sp : Sp} {f : Addr} {fd : FuncData} (c : Nm P w K mg base CX k x st ps sp) (F : Fun K x x st f fd) (hm : mg x = some (.ref f)) : FnG P w K mg base CX k f fd ps sp := by
  obtain ⟨f', fd', F', hm', G⟩ := c.ex
  obtain rfl : f' = f := by
    have e := hm'.symm.trans hm
    injection e with e
    injection e
  obtain ⟨_, _, _, _, _, _, _, _, _, _, l1, _⟩ := F.ex
  obtain ⟨_, _, _, _, _, _, _, _, _, _, l2, _⟩ := F'.ex
  have e := l2.symm.trans l1
  injection e with e
  injection e with _ _ e _
  injection e with e
  subst e
  exact G
theorem all_mk {l : PySem.W.OpenLaw} {w : World} {K : PySem.W.Frag} {h : Heap} {mg : Str → Option Value} {fa f0 f1 f2 f3 f4 f5 f6 f7 f8 f9 f10 f11 f12 f13 f14 f15 f16 f17 f18 f19 f20 f21 f22 : Addr} (X : K.In h) (G : h.Ns mainGlobals mg) (hfa : mg "law" = some (.ref fa))
    {od0 an0 od1 an1 od2 an2 od3 an3 od4 an4 od5 an5 od6 an6 od7 an7 od8 an8 od9 an9 od10 an10 od11 an11 od12 an12 od13 an13 od14 an14 od15 an15 od16 an16 od17 an17 od18 an18 od19 an19 od20 an20 od21 an21 od22 an22 : Option Addr} {sl0 sl1 sl2 sl3 sl4 sl5 sl6 sl7 sl8 sl9 sl10 sl11 sl12 sl13 sl14 sl15 sl16 sl17 sl18 sl19 sl20 sl21 sl22 : Array (Option Value)} {oc0 kV0 dc0 pm0 cd0 ct0 oc1 kV1 dc1 pm1 cd1 ct1 oc2 kV2 dc2 pm2 cd2 ct2 oc3 kV3 dc3 pm3 cd3 ct3 oc4 kV4 dc4 pm4 cd4 ct4 oc5 kV5 dc5 pm5 cd5 ct5 oc6 kV6 dc6 pm6 cd6 ct6 oc7 kV7 dc7 pm7 cd7 ct7 oc8 kV8 dc8 pm8 cd8 ct8 oc9 kV9 dc9 pm9 cd9 ct9 oc10 kV10 dc10 pm10 cd10 ct10 oc11 kV11 dc11 pm11 cd11 ct11 oc12 kV12 dc12 pm12 cd12 ct12 oc13 kV13 dc13 pm13 cd13 ct13 oc14 kV14 dc14 pm14 cd14 ct14 oc15 kV15 dc15 pm15 cd15 ct15 oc16 kV16 dc16 pm16 cd16 ct16 oc17 kV17 dc17 pm17 cd17 ct17 oc18 kV18 dc18 pm18 cd18 ct18 oc19 kV19 dc19 pm19 cd19 ct19 oc20 kV20 dc20 pm20 cd20 ct20 oc21 kV21 dc21 pm21 cd21 ct21 oc22 kV22 dc22 pm22 cd22 ct22 : Value}
    (a0 : PySem.W.nsIn K mainGlobals "_law_draw" = some (some (.ref f0))) (l0 : K.lookup f0 = some ⟨oc0, od0, .func (PySem.W.fnOf "_law_draw" "_law_draw" (defArgs s_law_draw) (defBody s_law_draw) (defScope s_law_draw) .none kV0 dc0 pm0 an0 cd0 ct0), sl0⟩) (c0 : PySem.W.codeIn K cd0 "_law_draw" = true) (k0 : PySem.W.keepIn K (.ref f0) = true)
    (a1 : PySem.W.nsIn K mainGlobals "_law_pot" = some (some (.ref f1))) (l1 : K.lookup f1 = some ⟨oc1, od1, .func (PySem.W.fnOf "_law_pot" "_law_pot" (defArgs s_law_pot) (defBody s_law_pot) (defScope s_law_pot) .none kV1 dc1 pm1 an1 cd1 ct1), sl1⟩) (c1 : PySem.W.codeIn K cd1 "_law_pot" = true) (k1 : PySem.W.keepIn K (.ref f1) = true)
    (a2 : PySem.W.nsIn K mainGlobals "_law_among" = some (some (.ref f2))) (l2 : K.lookup f2 = some ⟨oc2, od2, .func (PySem.W.fnOf "_law_among" "_law_among" (defArgs s_law_among) (defBody s_law_among) (defScope s_law_among) .none kV2 dc2 pm2 an2 cd2 ct2), sl2⟩) (c2 : PySem.W.codeIn K cd2 "_law_among" = true) (k2 : PySem.W.keepIn K (.ref f2) = true)
    (a3 : PySem.W.nsIn K mainGlobals "_law_bits" = some (some (.ref f3))) (l3 : K.lookup f3 = some ⟨oc3, od3, .func (PySem.W.fnOf "_law_bits" "_law_bits" (defArgs s_law_bits) (defBody s_law_bits) (defScope s_law_bits) .none kV3 dc3 pm3 an3 cd3 ct3), sl3⟩) (c3 : PySem.W.codeIn K cd3 "_law_bits" = true) (k3 : PySem.W.keepIn K (.ref f3) = true)
    (a4 : PySem.W.nsIn K mainGlobals "is_count" = some (some (.ref f4))) (l4 : K.lookup f4 = some ⟨oc4, od4, .func (PySem.W.fnOf "is_count" "is_count" (defArgs s_is_count) (defBody s_is_count) (defScope s_is_count) .none kV4 dc4 pm4 an4 cd4 ct4), sl4⟩) (c4 : PySem.W.codeIn K cd4 "is_count" = true) (k4 : PySem.W.keepIn K (.ref f4) = true)
    (a5 : PySem.W.nsIn K mainGlobals "is_width" = some (some (.ref f5))) (l5 : K.lookup f5 = some ⟨oc5, od5, .func (PySem.W.fnOf "is_width" "is_width" (defArgs s_is_width) (defBody s_is_width) (defScope s_is_width) .none kV5 dc5 pm5 an5 cd5 ct5), sl5⟩) (c5 : PySem.W.codeIn K cd5 "is_width" = true) (k5 : PySem.W.keepIn K (.ref f5) = true)
    (a6 : PySem.W.nsIn K mainGlobals "is_bits" = some (some (.ref f6))) (l6 : K.lookup f6 = some ⟨oc6, od6, .func (PySem.W.fnOf "is_bits" "is_bits" (defArgs s_is_bits) (defBody s_is_bits) (defScope s_is_bits) .none kV6 dc6 pm6 an6 cd6 ct6), sl6⟩) (c6 : PySem.W.codeIn K cd6 "is_bits" = true) (k6 : PySem.W.keepIn K (.ref f6) = true)
    (a7 : PySem.W.nsIn K mainGlobals "is_name" = some (some (.ref f7))) (l7 : K.lookup f7 = some ⟨oc7, od7, .func (PySem.W.fnOf "is_name" "is_name" (defArgs s_is_name) (defBody s_is_name) (defScope s_is_name) .none kV7 dc7 pm7 an7 cd7 ct7), sl7⟩) (c7 : PySem.W.codeIn K cd7 "is_name" = true) (k7 : PySem.W.keepIn K (.ref f7) = true)
    (a8 : PySem.W.nsIn K mainGlobals "is_goal" = some (some (.ref f8))) (l8 : K.lookup f8 = some ⟨oc8, od8, .func (PySem.W.fnOf "is_goal" "is_goal" (defArgs s_is_goal) (defBody s_is_goal) (defScope s_is_goal) .none kV8 dc8 pm8 an8 cd8 ct8), sl8⟩) (c8 : PySem.W.codeIn K cd8 "is_goal" = true) (k8 : PySem.W.keepIn K (.ref f8) = true)
    (a9 : PySem.W.nsIn K mainGlobals "check_width" = some (some (.ref f9))) (l9 : K.lookup f9 = some ⟨oc9, od9, .func (PySem.W.fnOf "check_width" "check_width" (defArgs s_check_width) (defBody s_check_width) (defScope s_check_width) .none kV9 dc9 pm9 an9 cd9 ct9), sl9⟩) (c9 : PySem.W.codeIn K cd9 "check_width" = true) (k9 : PySem.W.keepIn K (.ref f9) = true)
    (a10 : PySem.W.nsIn K mainGlobals "is_stretch" = some (some (.ref f10))) (l10 : K.lookup f10 = some ⟨oc10, od10, .func (PySem.W.fnOf "is_stretch" "is_stretch" (defArgs s_is_stretch) (defBody s_is_stretch) (defScope s_is_stretch) .none kV10 dc10 pm10 an10 cd10 ct10), sl10⟩) (c10 : PySem.W.codeIn K cd10 "is_stretch" = true) (k10 : PySem.W.keepIn K (.ref f10) = true)
    (a11 : PySem.W.nsIn K mainGlobals "is_row" = some (some (.ref f11))) (l11 : K.lookup f11 = some ⟨oc11, od11, .func (PySem.W.fnOf "is_row" "is_row" (defArgs s_is_row) (defBody s_is_row) (defScope s_is_row) .none kV11 dc11 pm11 an11 cd11 ct11), sl11⟩) (c11 : PySem.W.codeIn K cd11 "is_row" = true) (k11 : PySem.W.keepIn K (.ref f11) = true)
    (a12 : PySem.W.nsIn K mainGlobals "is_rows" = some (some (.ref f12))) (l12 : K.lookup f12 = some ⟨oc12, od12, .func (PySem.W.fnOf "is_rows" "is_rows" (defArgs s_is_rows) (defBody s_is_rows) (defScope s_is_rows) .none kV12 dc12 pm12 an12 cd12 ct12), sl12⟩) (c12 : PySem.W.codeIn K cd12 "is_rows" = true) (k12 : PySem.W.keepIn K (.ref f12) = true)
    (a13 : PySem.W.nsIn K mainGlobals "check_same_width" = some (some (.ref f13))) (l13 : K.lookup f13 = some ⟨oc13, od13, .func (PySem.W.fnOf "check_same_width" "check_same_width" (defArgs s_check_same_width) (defBody s_check_same_width) (defScope s_check_same_width) .none kV13 dc13 pm13 an13 cd13 ct13), sl13⟩) (c13 : PySem.W.codeIn K cd13 "check_same_width" = true) (k13 : PySem.W.keepIn K (.ref f13) = true)
    (a14 : PySem.W.nsIn K mainGlobals "_law_part" = some (some (.ref f14))) (l14 : K.lookup f14 = some ⟨oc14, od14, .func (PySem.W.fnOf "_law_part" "_law_part" (defArgs s_law_part) (defBody s_law_part) (defScope s_law_part) .none kV14 dc14 pm14 an14 cd14 ct14), sl14⟩) (c14 : PySem.W.codeIn K cd14 "_law_part" = true) (k14 : PySem.W.keepIn K (.ref f14) = true)
    (a15 : PySem.W.nsIn K mainGlobals "_law_rows" = some (some (.ref f15))) (l15 : K.lookup f15 = some ⟨oc15, od15, .func (PySem.W.fnOf "_law_rows" "_law_rows" (defArgs s_law_rows) (defBody s_law_rows) (defScope s_law_rows) .none kV15 dc15 pm15 an15 cd15 ct15), sl15⟩) (c15 : PySem.W.codeIn K cd15 "_law_rows" = true) (k15 : PySem.W.keepIn K (.ref f15) = true)
    (a16 : PySem.W.nsIn K mainGlobals "_law_is_part" = some (some (.ref f16))) (l16 : K.lookup f16 = some ⟨oc16, od16, .func (PySem.W.fnOf "_law_is_part" "_law_is_part" (defArgs s_law_is_part) (defBody s_law_is_part) (defScope s_law_is_part) .none kV16 dc16 pm16 an16 cd16 ct16), sl16⟩) (c16 : PySem.W.codeIn K cd16 "_law_is_part" = true) (k16 : PySem.W.keepIn K (.ref f16) = true)
    (a17 : PySem.W.nsIn K mainGlobals "_law_pair_right" = some (some (.ref f17))) (l17 : K.lookup f17 = some ⟨oc17, od17, .func (PySem.W.fnOf "_law_pair_right" "_law_pair_right" (defArgs s_law_pair_right) (defBody s_law_pair_right) (defScope s_law_pair_right) .none kV17 dc17 pm17 an17 cd17 ct17), sl17⟩) (c17 : PySem.W.codeIn K cd17 "_law_pair_right" = true) (k17 : PySem.W.keepIn K (.ref f17) = true)
    (a18 : PySem.W.nsIn K mainGlobals "_law_all_right" = some (some (.ref f18))) (l18 : K.lookup f18 = some ⟨oc18, od18, .func (PySem.W.fnOf "_law_all_right" "_law_all_right" (defArgs s_law_all_right) (defBody s_law_all_right) (defScope s_law_all_right) .none kV18 dc18 pm18 an18 cd18 ct18), sl18⟩) (c18 : PySem.W.codeIn K cd18 "_law_all_right" = true) (k18 : PySem.W.keepIn K (.ref f18) = true)
    (a19 : PySem.W.nsIn K mainGlobals "_law_back_right" = some (some (.ref f19))) (l19 : K.lookup f19 = some ⟨oc19, od19, .func (PySem.W.fnOf "_law_back_right" "_law_back_right" (defArgs s_law_back_right) (defBody s_law_back_right) (defScope s_law_back_right) .none kV19 dc19 pm19 an19 cd19 ct19), sl19⟩) (c19 : PySem.W.codeIn K cd19 "_law_back_right" = true) (k19 : PySem.W.keepIn K (.ref f19) = true)
    (a20 : PySem.W.nsIn K mainGlobals "_law_deed" = some (some (.ref f20))) (l20 : K.lookup f20 = some ⟨oc20, od20, .func (PySem.W.fnOf "_law_deed" "_law_deed" (defArgs s_law_deed) (defBody s_law_deed) (defScope s_law_deed) .none kV20 dc20 pm20 an20 cd20 ct20), sl20⟩) (c20 : PySem.W.codeIn K cd20 "_law_deed" = true) (k20 : PySem.W.keepIn K (.ref f20) = true)
    (a21 : PySem.W.nsIn K mainGlobals "_law_right" = some (some (.ref f21))) (l21 : K.lookup f21 = some ⟨oc21, od21, .func (PySem.W.fnOf "_law_right" "_law_right" (defArgs s_law_right) (defBody s_law_right) (defScope s_law_right) .none kV21 dc21 pm21 an21 cd21 ct21), sl21⟩) (c21 : PySem.W.codeIn K cd21 "_law_right" = true) (k21 : PySem.W.keepIn K (.ref f21) = true)
    (a22 : PySem.W.nsIn K mainGlobals "law" = some (some (.ref f22))) (l22 : K.lookup f22 = some ⟨oc22, od22, .func (PySem.W.fnOf "law" "law" (defArgs s_law) (defBody s_law) (defScope s_law) .none kV22 dc22 pm22 an22 cd22 ct22), sl22⟩) (c22 : PySem.W.codeIn K cd22 "law" = true) (k22 : PySem.W.keepIn K (.ref f22) = true)
    (z0 : PySem.W.nsIn K mainGlobals "len" = some none)
    (z1 : PySem.W.nsIn K mainGlobals "abs" = some none)
    (z2 : PySem.W.nsIn K mainGlobals "max" = some none)
    (z3 : PySem.W.nsIn K mainGlobals "min" = some none)
    (z4 : PySem.W.nsIn K mainGlobals "int" = some none)
    (z5 : PySem.W.nsIn K mainGlobals "divmod" = some none)
    (z6 : PySem.W.nsIn K mainGlobals "range" = some none)
    (z7 : PySem.W.nsIn K mainGlobals "repr" = some none)
    (z8 : PySem.W.nsIn K mainGlobals "all" = some none)
    (z9 : PySem.W.nsIn K mainGlobals "str" = some none)
    (z10 : PySem.W.nsIn K mainGlobals "bool" = some none)
    (z11 : PySem.W.nsIn K mainGlobals "isinstance" = some none)
    (z12 : PySem.W.nsIn K mainGlobals "tuple" = some none)
    (z13 : PySem.W.nsIn K mainGlobals "dict" = some none)
    (z14 : PySem.W.nsIn K mainGlobals "list" = some none)
    (z15 : PySem.W.nsIn K mainGlobals "sorted" = some none)
    (z16 : PySem.W.nsIn K mainGlobals "zip" = some none)
    {tk_MOST_WIDTH : Tok} (m_MOST_WIDTH : PySem.W.nsIn K mainGlobals "MOST_WIDTH" = some (some (.int 100 tk_MOST_WIDTH)))
    {tk_MOST_LETTERS : Tok} (m_MOST_LETTERS : PySem.W.nsIn K mainGlobals "MOST_LETTERS" = some (some (.int 6 tk_MOST_LETTERS)))
    {tk_LETTERS : Tok} (m_LETTERS : PySem.W.nsIn K mainGlobals "LETTERS" = some (some (.str "abcdefghijklmnopqrstuvwxyz" tk_LETTERS)))
    {ad_NO_NAMES : Addr} {od_NO_NAMES : Option Addr} {nn_NO_NAMES : Nat} {sl_NO_NAMES : Array (Option Value)} {tk_NO_NAMES0 tk_NO_NAMES1 tk_NO_NAMES2 tk_NO_NAMES3 tk_NO_NAMES4 : Tok} (m_NO_NAMES : PySem.W.nsIn K mainGlobals "NO_NAMES" = some (some (.ref ad_NO_NAMES))) (t_NO_NAMES : K.lookup ad_NO_NAMES = some ⟨.type "tuple", od_NO_NAMES, .seq #[.str "home" tk_NO_NAMES0, .str "hole" tk_NO_NAMES1, .str "ring" tk_NO_NAMES2, .str "all" tk_NO_NAMES3, .str "none" tk_NO_NAMES4] nn_NO_NAMES, sl_NO_NAMES⟩)
    {ad_ENDS : Addr} {od_ENDS : Option Addr} {nn_ENDS : Nat} {sl_ENDS : Array (Option Value)} {tk_ENDS0 tk_ENDS1 : Tok} (m_ENDS : PySem.W.nsIn K mainGlobals "ENDS" = some (some (.ref ad_ENDS))) (t_ENDS : K.lookup ad_ENDS = some ⟨.type "tuple", od_ENDS, .seq #[.str "home" tk_ENDS0, .str "hole" tk_ENDS1] nn_ENDS, sl_ENDS⟩)
    {C : Addr} (aC : PySem.W.nsIn K mainGlobals "Table" = some (some (.ref C)))
    (pg : PySem.W.plainGet K C Str.empty = true) (hd : PySem.W.hasDictIn K C = true) (po : PySem.W.plainOver K C = true) (sa : PySem.W.findIn K (.ref C) "__setattr__" = some (some (.builtin "object.__setattr__"))) (mk : PySem.W.makesIn K C = true) (kc : PySem.W.keepIn K (.ref C) = true) (sf : PySem.W.selfFirst K C = true)
    (nf0 : PySem.W.findIn K (.ref C) "_width" = some none)
    (nf1 : PySem.W.findIn K (.ref C) "_rows" = some none)
    {tkc0 : Tok} (cn0 : PySem.W.findIn K (.ref C) "MOST_ROWS" = some (some (.int 40 tkc0))) (cg0 : PySem.W.specialIn K (.int 40 tkc0) "__get__" = some none)
    {fm0 : Addr} {odm0 anm0 : Option Addr} {slm0 : Array (Option Value)} {ocm0 kVm0 dcm0 pmm0 cdm0 ctm0 : Value} {adI : Addr} {odI : Option Addr} {nnI : Nat} {slI : Array (Option Value)}
    (am0 : PySem.W.findIn K (.ref C) "__init__" = some (some (.ref fm0))) (im0 : PySem.W.isFn K (.ref fm0) = true) (lm0 : K.lookup fm0 = some ⟨ocm0, odm0, .func (PySem.W.fnOf "__init__" "Table.__init__" (defArgs s_Tableinit) (defBody s_Tableinit) (defScope s_Tableinit) (.ref adI) kVm0 dcm0 pmm0 anm0 cdm0 ctm0), slm0⟩) (cm0 : PySem.W.codeIn K cdm0 "Table.__init__" = true) (km0 : PySem.W.keepIn K (.ref fm0) = true)
    (tI : K.lookup adI = some ⟨.type "tuple", odI, .seq #[.none] nnI, slI⟩)
    {fm1 : Addr} {odm1 anm1 : Option Addr} {slm1 : Array (Option Value)} {ocm1 kVm1 dcm1 pmm1 cdm1 ctm1 : Value}
    (am1 : PySem.W.findIn K (.ref C) "__len__" = some (some (.ref fm1))) (im1 : PySem.W.isFn K (.ref fm1) = true) (lm1 : K.lookup fm1 = some ⟨ocm1, odm1, .func (PySem.W.fnOf "__len__" "Table.__len__" (defArgs s_Table__len__) (defBody s_Table__len__) (defScope s_Table__len__) .none kVm1 dcm1 pmm1 anm1 cdm1 ctm1), slm1⟩) (cm1 : PySem.W.codeIn K cdm1 "Table.__len__" = true) (km1 : PySem.W.keepIn K (.ref fm1) = true)
    {fm2 : Addr} {odm2 anm2 : Option Addr} {slm2 : Array (Option Value)} {ocm2 kVm2 dcm2 pmm2 cdm2 ctm2 : Value}
    (am2 : PySem.W.findIn K (.ref C) "__contains__" = some (some (.ref fm2))) (im2 : PySem.W.isFn K (.ref fm2) = true) (lm2 : K.lookup fm2 = some ⟨ocm2, odm2, .func (PySem.W.fnOf "__contains__" "Table.__contains__" (defArgs s_Table__contains__) (defBody s_Table__contains__) (defScope s_Table__contains__) .none kVm2 dcm2 pmm2 anm2 cdm2 ctm2), slm2⟩) (cm2 : PySem.W.codeIn K cdm2 "Table.__contains__" = true) (km2 : PySem.W.keepIn K (.ref fm2) = true)
    {fm3 : Addr} {odm3 anm3 : Option Addr} {slm3 : Array (Option Value)} {ocm3 kVm3 dcm3 pmm3 cdm3 ctm3 : Value}
    (am3 : PySem.W.findIn K (.ref C) "__add__" = some (some (.ref fm3))) (im3 : PySem.W.isFn K (.ref fm3) = true) (lm3 : K.lookup fm3 = some ⟨ocm3, odm3, .func (PySem.W.fnOf "__add__" "Table.__add__" (defArgs s_Table__add__) (defBody s_Table__add__) (defScope s_Table__add__) .none kVm3 dcm3 pmm3 anm3 cdm3 ctm3), slm3⟩) (cm3 : PySem.W.codeIn K cdm3 "Table.__add__" = true) (km3 : PySem.W.keepIn K (.ref fm3) = true)
    {fm4 : Addr} {odm4 anm4 : Option Addr} {slm4 : Array (Option Value)} {ocm4 kVm4 dcm4 pmm4 cdm4 ctm4 : Value}
    (am4 : PySem.W.findIn K (.ref C) "__sub__" = some (some (.ref fm4))) (im4 : PySem.W.isFn K (.ref fm4) = true) (lm4 : K.lookup fm4 = some ⟨ocm4, odm4, .func (PySem.W.fnOf "__sub__" "Table.__sub__" (defArgs s_Table__sub__) (defBody s_Table__sub__) (defScope s_Table__sub__) .none kVm4 dcm4 pmm4 anm4 cdm4 ctm4), slm4⟩) (cm4 : PySem.W.codeIn K cdm4 "Table.__sub__" = true) (km4 : PySem.W.keepIn K (.ref fm4) = true)
    {fm5 : Addr} {odm5 anm5 : Option Addr} {slm5 : Array (Option Value)} {ocm5 kVm5 dcm5 pmm5 cdm5 ctm5 : Value}
    (am5 : PySem.W.findIn K (.ref C) "rows" = some (some (.ref fm5))) (im5 : PySem.W.isFn K (.ref fm5) = true) (lm5 : K.lookup fm5 = some ⟨ocm5, odm5, .func (PySem.W.fnOf "rows" "Table.rows" (defArgs s_Table_rows) (defBody s_Table_rows) (defScope s_Table_rows) .none kVm5 dcm5 pmm5 anm5 cdm5 ctm5), slm5⟩) (cm5 : PySem.W.codeIn K cdm5 "Table.rows" = true) (km5 : PySem.W.keepIn K (.ref fm5) = true)
    {fm6 : Addr} {odm6 anm6 : Option Addr} {slm6 : Array (Option Value)} {ocm6 kVm6 dcm6 pmm6 cdm6 ctm6 : Value}
    (am6 : PySem.W.findIn K (.ref C) "__radd__" = some (some (.ref fm6))) (im6 : PySem.W.isFn K (.ref fm6) = true) (lm6 : K.lookup fm6 = some ⟨ocm6, odm6, .func (PySem.W.fnOf "__radd__" "Table.__radd__" (defArgs s_Table__radd__) (defBody s_Table__radd__) (defScope s_Table__radd__) .none kVm6 dcm6 pmm6 anm6 cdm6 ctm6), slm6⟩) (cm6 : PySem.W.codeIn K cdm6 "Table.__radd__" = true) (km6 : PySem.W.keepIn K (.ref fm6) = true)
    {fm7 : Addr} {odm7 anm7 : Option Addr} {slm7 : Array (Option Value)} {ocm7 kVm7 dcm7 pmm7 cdm7 ctm7 : Value}
    (am7 : PySem.W.findIn K (.ref C) "__or__" = some (some (.ref fm7))) (im7 : PySem.W.isFn K (.ref fm7) = true) (lm7 : K.lookup fm7 = some ⟨ocm7, odm7, .func (PySem.W.fnOf "__or__" "Table.__or__" (defArgs s_Table__or__) (defBody s_Table__or__) (defScope s_Table__or__) .none kVm7 dcm7 pmm7 anm7 cdm7 ctm7), slm7⟩) (cm7 : PySem.W.codeIn K cdm7 "Table.__or__" = true) (km7 : PySem.W.keepIn K (.ref fm7) = true)
    {fm8 : Addr} {odm8 anm8 : Option Addr} {slm8 : Array (Option Value)} {ocm8 kVm8 dcm8 pmm8 cdm8 ctm8 : Value}
    (am8 : PySem.W.findIn K (.ref C) "__le__" = some (some (.ref fm8))) (im8 : PySem.W.isFn K (.ref fm8) = true) (lm8 : K.lookup fm8 = some ⟨ocm8, odm8, .func (PySem.W.fnOf "__le__" "Table.__le__" (defArgs s_Table__le__) (defBody s_Table__le__) (defScope s_Table__le__) .none kVm8 dcm8 pmm8 anm8 cdm8 ctm8), slm8⟩) (cm8 : PySem.W.codeIn K cdm8 "Table.__le__" = true) (km8 : PySem.W.keepIn K (.ref fm8) = true)
    {fm9 : Addr} {odm9 anm9 : Option Addr} {slm9 : Array (Option Value)} {ocm9 kVm9 dcm9 pmm9 cdm9 ctm9 : Value}
    (am9 : PySem.W.findIn K (.ref C) "__ge__" = some (some (.ref fm9))) (im9 : PySem.W.isFn K (.ref fm9) = true) (lm9 : K.lookup fm9 = some ⟨ocm9, odm9, .func (PySem.W.fnOf "__ge__" "Table.__ge__" (defArgs s_Table__ge__) (defBody s_Table__ge__) (defScope s_Table__ge__) .none kVm9 dcm9 pmm9 anm9 cdm9 ctm9), slm9⟩) (cm9 : PySem.W.codeIn K cdm9 "Table.__ge__" = true) (km9 : PySem.W.keepIn K (.ref fm9) = true)
    {fm10 : Addr} {odm10 anm10 : Option Addr} {slm10 : Array (Option Value)} {ocm10 kVm10 dcm10 pmm10 cdm10 ctm10 : Value}
    (am10 : PySem.W.findIn K (.ref C) "__eq__" = some (some (.ref fm10))) (im10 : PySem.W.isFn K (.ref fm10) = true) (lm10 : K.lookup fm10 = some ⟨ocm10, odm10, .func (PySem.W.fnOf "__eq__" "Table.__eq__" (defArgs s_Table__eq__) (defBody s_Table__eq__) (defScope s_Table__eq__) .none kVm10 dcm10 pmm10 anm10 cdm10 ctm10), slm10⟩) (cm10 : PySem.W.codeIn K cdm10 "Table.__eq__" = true) (km10 : PySem.W.keepIn K (.ref fm10) = true)
    {pW fmW : Addr} {rsW : List Value} {odmW anmW : Option Addr} {slmW : Array (Option Value)} {ocmW kVmW dcmW pmmW cdmW ctmW : Value} (apW : PySem.W.findIn K (.ref C) "width" = some (some (.ref pW))) (gpW : PySem.W.specialIn K (.ref pW) "__get__" = some (some (.builtin "property.__get__"))) (tpW : PySem.W.takesIn K (.ref pW) = some true) (rpW : PySem.W.recIn K pW "property" = some (.ref fmW :: rsW)) (lmW : K.lookup fmW = some ⟨ocmW, odmW, .func (PySem.W.fnOf "width" "Table.width" (defArgs s_Table_width) (defBody s_Table_width) (defScope s_Table_width) .none kVmW dcmW pmmW anmW cdmW ctmW), slmW⟩) (cmW : PySem.W.codeIn K cdmW "Table.width" = true) (kmW : PySem.W.keepIn K (.ref fmW) = true)
    (icA : PySem.W.findIn K (.ref C) "__class__" = some (some (.builtin "object.__class__"))) (icN : PySem.W.specialIn K (.builtin "object.__class__") "__get__" = some (some (.builtin "getset_descriptor.__get__"))) (icT : PySem.W.takesIn K (.builtin "object.__class__") = some true) (icM : PySem.W.mroIn K C (.type "object") = some true) (neF : PySem.W.findIn K (.ref C) "__ne__" = some (some (.builtin "object.__ne__")))
    : ∃ fd : FuncData, (∀ (s : Shared) (v : Value), BindsTo s fd ⟨[v], []⟩ [("_law_script", v)]) ∧ ∀ base : Heap, K.In base → base.Ns mainGlobals mg → FnG l.prog w K mg base CX0 12 fa fd ["_law_script"] (spLaw K) := by
  have e := hfa.symm.trans (PySem.W.mg_of X G a22)
  cases e
  have T : Txt K mg := ⟨PySem.W.mg_none_of X G z0, PySem.W.mg_none_of X G z1, PySem.W.mg_none_of X G z2, PySem.W.mg_none_of X G z3, PySem.W.mg_none_of X G z4, PySem.W.mg_none_of X G z5, PySem.W.mg_none_of X G z6, PySem.W.mg_none_of X G z7, PySem.W.mg_none_of X G z8, PySem.W.mg_none_of X G z9, PySem.W.mg_none_of X G z10, PySem.W.mg_none_of X G z11, PySem.W.mg_none_of X G z12, PySem.W.mg_none_of X G z13, PySem.W.mg_none_of X G z14, PySem.W.mg_none_of X G z15, PySem.W.mg_none_of X G z16⟩
  have CC : Cst K mg := ⟨⟨_, PySem.W.mg_of X G m_MOST_WIDTH, ⟨_, rfl⟩⟩, ⟨_, PySem.W.mg_of X G m_MOST_LETTERS, ⟨_, rfl⟩⟩, ⟨_, PySem.W.mg_of X G m_LETTERS, ⟨_, rfl⟩⟩, ad_NO_NAMES, ⟨_, PySem.W.mg_of X G m_NO_NAMES, rfl⟩, fun _ => .inr ⟨_, _, _, t_NO_NAMES, rfl, rfl, szl (Nat.le_of_ble_eq_true rfl), .cons ⟨_, rfl⟩ (.cons ⟨_, rfl⟩ (.cons ⟨_, rfl⟩ (.cons ⟨_, rfl⟩ (.cons ⟨_, rfl⟩ .nil))))⟩, ad_ENDS, ⟨_, PySem.W.mg_of X G m_ENDS, rfl⟩, fun _ => .inr ⟨_, _, _, t_ENDS, rfl, rfl, szl (Nat.le_of_ble_eq_true rfl), .cons ⟨_, rfl⟩ (.cons ⟨_, rfl⟩ .nil)⟩⟩
  have F0 := fun_mk (st := s_law_draw) l0 c0 k0
  have F1 := fun_mk (st := s_law_pot) l1 c1 k1
  have F2 := fun_mk (st := s_law_among) l2 c2 k2
  have F3 := fun_mk (st := s_law_bits) l3 c3 k3
  have F4 := fun_mk (st := s_is_count) l4 c4 k4
  have F5 := fun_mk (st := s_is_width) l5 c5 k5
  have F6 := fun_mk (st := s_is_bits) l6 c6 k6
  have F7 := fun_mk (st := s_is_name) l7 c7 k7
  have F8 := fun_mk (st := s_is_goal) l8 c8 k8
  have F9 := fun_mk (st := s_check_width) l9 c9 k9
  have F10 := fun_mk (st := s_is_stretch) l10 c10 k10
  have F11 := fun_mk (st := s_is_row) l11 c11 k11
  have F12 := fun_mk (st := s_is_rows) l12 c12 k12
  have F13 := fun_mk (st := s_check_same_width) l13 c13 k13
  have F14 := fun_mk (st := s_law_part) l14 c14 k14
  have F15 := fun_mk (st := s_law_rows) l15 c15 k15
  have F16 := fun_mk (st := s_law_is_part) l16 c16 k16
  have F17 := fun_mk (st := s_law_pair_right) l17 c17 k17
  have F18 := fun_mk (st := s_law_all_right) l18 c18 k18
  have F19 := fun_mk (st := s_law_back_right) l19 c19 k19
  have F20 := fun_mk (st := s_law_deed) l20 c20 k20
  have F21 := fun_mk (st := s_law_right) l21 c21 k21
  have F22 := fun_mk (st := s_law) l22 c22 k22
  have FM0 : FunD K "__init__" "Table.__init__" (defArgs s_Tableinit) (defBody s_Tableinit) (defScope s_Tableinit) [.non] [] fm0 _ := ⟨⟨_, _, _, _, _, _, _, _, _, _, rfl, lm0, cm0, .inr ⟨by simp, adI, _, [.none], nnI, rfl, tI, rfl, .cons rfl .nil⟩, .inl rfl⟩, km0⟩
  have FM1 := fun_mk (st := s_Table__len__) lm1 cm1 km1
  have FM2 := fun_mk (st := s_Table__contains__) lm2 cm2 km2
  have FM3 := fun_mk (st := s_Table__add__) lm3 cm3 km3
  have FM4 := fun_mk (st := s_Table__sub__) lm4 cm4 km4
  have FM5 := fun_mk (st := s_Table_rows) lm5 cm5 km5
  have FM6 := fun_mk (st := s_Table__radd__) lm6 cm6 km6
  have FM7 := fun_mk (st := s_Table__or__) lm7 cm7 km7
  have FM8 := fun_mk (st := s_Table__le__) lm8 cm8 km8
  have FM9 := fun_mk (st := s_Table__ge__) lm9 cm9 km9
  have FM10 := fun_mk (st := s_Table__eq__) lm10 cm10 km10
  refine ⟨PySem.W.fnOf "law" "law" (defArgs s_law) (defBody s_law) (defScope s_law) .none kV22 dc22 pm22 an22 cd22 ct22, fun s v => .of_eq rfl, fun base _ _ => ?_⟩
  have n_law_draw := ok_draw (P := l.prog) (w := w) (base := base) F0 (PySem.W.mg_of X G a0) T
  have n_law_pot := ok_pot (P := l.prog) (w := w) (base := base) F1 (PySem.W.mg_of X G a1) T
  have n_law_among := ok_among (P := l.prog) (w := w) (base := base) F2 (PySem.W.mg_of X G a2) T n_law_draw
  have n_law_bits := ok_bits (P := l.prog) (w := w) (base := base) F3 (PySem.W.mg_of X G a3) T n_law_draw n_law_among
  have n_is_count := ok_is_count (P := l.prog) (w := w) (base := base) F4 (PySem.W.mg_of X G a4) T
  have n_is_width := ok_is_width (P := l.prog) (w := w) (base := base) F5 (PySem.W.mg_of X G a5) T CC n_is_count
  have n_is_bits := ok_is_bits (P := l.prog) (w := w) (base := base) F6 (PySem.W.mg_of X G a6) T
  have n_is_name := ok_is_name (P := l.prog) (w := w) (base := base) F7 (PySem.W.mg_of X G a7) T CC
  have n_is_goal := ok_is_goal (P := l.prog) (w := w) (base := base) F8 (PySem.W.mg_of X G a8) T CC n_is_name
  have n_check_width := ok_check_width (P := l.prog) (w := w) (base := base) F9 (PySem.W.mg_of X G a9) T n_is_width
  have n_is_stretch := ok_is_stretch (P := l.prog) (w := w) (base := base) F10 (PySem.W.mg_of X G a10) T n_check_width n_is_bits
  have n_is_row := ok_is_row (P := l.prog) (w := w) (base := base) F11 (PySem.W.mg_of X G a11) T n_is_stretch n_is_goal
  have n_is_rows := ok_is_rows (P := l.prog) (w := w) (base := base) F12 (PySem.W.mg_of X G a12) T n_is_stretch n_is_goal
  have n_check_same_width := ok_same (P := l.prog) (w := w) (base := base) F13 (PySem.W.mg_of X G a13) T
  have n_law_part := ok_part (P := l.prog) (w := w) (base := base) F14 (PySem.W.mg_of X G a14) T n_law_among n_law_bits
  have n_law_rows := ok_rowsL (P := l.prog) (w := w) (base := base) F15 (PySem.W.mg_of X G a15) T n_law_draw n_law_among n_law_part
  have TC : TabC K C := ⟨⟨pg, hd, po, sa⟩, nf0, nf1, ⟨_, ⟨cn0, ⟨_, rfl⟩, cg0, by decide +kernel⟩⟩, sf⟩
  have okI := ok_init (P := l.prog) (w := w) (base := base) FM0 T TC n_check_width n_is_rows
  have b_Tab := b_table FM0 ⟨mk, am0, im0, kc⟩ (PySem.W.mg_of X G aC) okI
  have IC : C8.InsC K C := ⟨⟨pg, hd, po, sa⟩, icA, icN, icT, icM, if_pos (beq_self_eq_true _)⟩
  have gC : ∃ u, mg "Table" = some u ∧ RelV (.ref C) u := ⟨_, PySem.W.mg_of X G aC, rfl⟩
  have mAdd : Meth K C "__add__" fm3 := ⟨am3, im3, km3⟩
  have c_len := ok_tlen (P := l.prog) (w := w) (base := base) FM1 ⟨am1, im1, km1⟩ T TC
  have c_has := ok_thas (P := l.prog) (w := w) (base := base) FM2 ⟨am2, im2, km2⟩ T TC
  have c_add := ok_add (P := l.prog) (w := w) (base := base) FM3 ⟨am3, im3, km3⟩ T TC n_is_row b_Tab
  have c_sub := ok_sub (P := l.prog) (w := w) (base := base) FM4 ⟨am4, im4, km4⟩ T TC c_has b_Tab
  have c_rows := ok_trows (P := l.prog) (w := w) (base := base) FM5 ⟨am5, im5, km5⟩ T TC
  have c_radd := ok_radd (P := l.prog) (w := w) (base := base) FM6 ⟨am6, im6, km6⟩ T TC c_add
  have c_or := ok_or (P := l.prog) (w := w) (base := base) FM7 ⟨am7, im7, km7⟩ T TC n_check_same_width b_Tab
  have c_le := ok_le (P := l.prog) (w := w) (base := base) FM8 ⟨am8, im8, km8⟩ T TC IC gC
  have c_ge := ok_ge (P := l.prog) (w := w) (base := base) FM9 ⟨am9, im9, km9⟩ T TC IC gC c_le
  have c_eq := ok_eq (P := l.prog) (w := w) (base := base) FM10 ⟨am10, im10, km10⟩ T TC IC gC
  have FMW := fun_mk (st := s_Table_width) lmW cmW kmW
  have c_width := ok_width (P := l.prog) (w := w) (base := base) FMW ⟨apW, gpW, tpW, ⟨_, rpW⟩⟩ T TC
  have n_law_is_part := ok_isp (P := l.prog) (w := w) (base := base) F16 (PySem.W.mg_of X G a16) T
  have n_law_pair_right := ok_pair (P := l.prog) (w := w) (base := base) F17 (PySem.W.mg_of X G a17) T TC neF icM n_law_is_part c_le c_ge c_eq
  have n_law_all_right := ok_all (P := l.prog) (w := w) (base := base) F18 (PySem.W.mg_of X G a18) T TC c_rows c_len c_width
  have n_law_back_right := ok_back (P := l.prog) (w := w) (base := base) F19 (PySem.W.mg_of X G a19) T TC mAdd n_law_part c_sub c_add c_radd c_eq
  have n_law_deed := ok_deed (P := l.prog) (w := w) (base := base) F20 (PySem.W.mg_of X G a20) T TC mAdd n_law_draw n_law_among n_law_part c_sub c_add c_radd c_or
  have n_law_right := ok_law_right (P := l.prog) (w := w) (base := base) F21 (PySem.W.mg_of X G a21) T TC n_law_among n_law_draw n_law_rows n_law_deed n_law_all_right n_law_pair_right n_law_back_right c_le c_ge c_eq b_Tab
  have n_law := ok_law (P := l.prog) (w := w) (base := base) F22 (PySem.W.mg_of X G a22) T n_law_pot n_law_right
  exact n_law.fn F22 (PySem.W.mg_of X G a22)
theorem walk {l : PySem.W.OpenLaw} {q : Program} {loose : List Str} {XP : (Str → Option Value) → Heap → Prop} {YP : World → Heap → Prop} {d : DefRec} {K : Params → PySem.W.Frag} (hn : l.most = some 63) (hdf : d.params.defaults = [])
    (hY : ∀ (w : World) (h : Heap), YP w h → (K w.params).In h)
    (F : ∀ (w : World) (mg : Str → Option Value) (fa : Addr) (h : Heap), (K w.params).In h → h.Ns mainGlobals mg → mg d.name = some (.ref fa) →
      ∃ fd : FuncData, (∀ (s : Shared) (u : Value), BindsTo s fd ⟨[u], []⟩ [("_law_script", u)]) ∧ ∀ base : Heap, (K w.params).In base → base.Ns mainGlobals mg → FnG l.prog w (K w.params) mg base CX0 12 fa fd ["_law_script"] (spLaw (K w.params))) :
    PySem.W.WalkO q loose XP YP l.row.toRowW d [] (fun f vs => PySem.call f vs) :=
  walk_g (n := 63) (k := 12) (x := "_law_script") (CX := fun _ => CX0) (sp := fun w => spLaw (K w.params)) hn (by decide) hdf roomTop hY F (fun _ _ a ns h1 h2 h3 => ⟨a, ns, rfl, h2, h1, h3, fun _ => rfl⟩) fun _ _ _ _ _ z => z
end Cov
open PySem PySem.W PyProof.Rows
set_option maxRecDepth 100000 in
set_option maxHeartbeats 0 in
theorem PySem.Challenge.cw_coverways_k18_whole_tables_by_dicts_holds : PySem.Challenge.rw_coverways_k18_whole_tables_by_dicts.Holds := by
  w_on; o_law; k_head; (case hw => w_witness2)
  k_fill
  refine Cov.walk (l := PySem.Challenge.rw_coverways_k18_whole_tables_by_dicts) rfl rfl (fun w h Y => PySem.W.kIn_of Y) ?F
  case F =>
    intro w mg fa h KX G hmg
    refine' Cov.all_mk KX G hmg ?a0 ?l0 ?c0 ?k0 ?a1 ?l1 ?c1 ?k1 ?a2 ?l2 ?c2 ?k2 ?a3 ?l3 ?c3 ?k3 ?a4 ?l4 ?c4 ?k4 ?a5 ?l5 ?c5 ?k5 ?a6 ?l6 ?c6 ?k6 ?a7 ?l7 ?c7 ?k7 ?a8 ?l8 ?c8 ?k8 ?a9 ?l9 ?c9 ?k9 ?a10 ?l10 ?c10 ?k10 ?a11 ?l11 ?c11 ?k11 ?a12 ?l12 ?c12 ?k12 ?a13 ?l13 ?c13 ?k13 ?a14 ?l14 ?c14 ?k14 ?a15 ?l15 ?c15 ?k15 ?a16 ?l16 ?c16 ?k16 ?a17 ?l17 ?c17 ?k17 ?a18 ?l18 ?c18 ?k18 ?a19 ?l19 ?c19 ?k19 ?a20 ?l20 ?c20 ?k20 ?a21 ?l21 ?c21 ?k21 ?a22 ?l22 ?c22 ?k22 ?z0 ?z1 ?z2 ?z3 ?z4 ?z5 ?z6 ?z7 ?z8 ?z9 ?z10 ?z11 ?z12 ?z13 ?z14 ?z15 ?z16 ?m_MOST_WIDTH ?m_MOST_LETTERS ?m_LETTERS ?m_NO_NAMES ?t_NO_NAMES ?m_ENDS ?t_ENDS ?aC ?pg ?hd ?po ?sa ?mk ?kc ?sf ?nf0 ?nf1 ?cn0 ?cg0 ?am0 ?im0 ?lm0 ?cm0 ?km0 ?tI ?am1 ?im1 ?lm1 ?cm1 ?km1 ?am2 ?im2 ?lm2 ?cm2 ?km2 ?am3 ?im3 ?lm3 ?cm3 ?km3 ?am4 ?im4 ?lm4 ?cm4 ?km4 ?am5 ?im5 ?lm5 ?cm5 ?km5 ?am6 ?im6 ?lm6 ?cm6 ?km6 ?am7 ?im7 ?lm7 ?cm7 ?km7 ?am8 ?im8 ?lm8 ?cm8 ?km8 ?am9 ?im9 ?lm9 ?cm9 ?km9 ?am10 ?im10 ?lm10 ?cm10 ?km10 ?apW ?gpW ?tpW ?rpW ?lmW ?cmW ?kmW ?icA ?icN ?icT ?icM ?neF
    (case a0 => k_is)
    (case l0 => k_is)
    (case c0 => k_is)
    (case k0 => k_is)
    (case a1 => k_is)
    (case l1 => k_is)
    (case c1 => k_is)
    (case k1 => k_is)
    (case a2 => k_is)
    (case l2 => k_is)
    (case c2 => k_is)
    (case k2 => k_is)
    (case a3 => k_is)
    (case l3 => k_is)
    (case c3 => k_is)
    (case k3 => k_is)
    (case a4 => k_is)
    (case l4 => k_is)
    (case c4 => k_is)
    (case k4 => k_is)
    (case a5 => k_is)
    (case l5 => k_is)
    (case c5 => k_is)
    (case k5 => k_is)
    (case a6 => k_is)
    (case l6 => k_is)
    (case c6 => k_is)
    (case k6 => k_is)
    (case a7 => k_is)
    (case l7 => k_is)
    (case c7 => k_is)
    (case k7 => k_is)
    (case a8 => k_is)
    (case l8 => k_is)
    (case c8 => k_is)
    (case k8 => k_is)
    (case a9 => k_is)
    (case l9 => k_is)
    (case c9 => k_is)
    (case k9 => k_is)
    (case a10 => k_is)
    (case l10 => k_is)
    (case c10 => k_is)
    (case k10 => k_is)
    (case a11 => k_is)
    (case l11 => k_is)
    (case c11 => k_is)
    (case k11 => k_is)
    (case a12 => k_is)
    (case l12 => k_is)
    (case c12 => k_is)
    (case k12 => k_is)
    (case a13 => k_is)
    (case l13 => k_is)
    (case c13 => k_is)
    (case k13 => k_is)
    (case a14 => k_is)
    (case l14 => k_is)
    (case c14 => k_is)
    (case k14 => k_is)
    (case a15 => k_is)
    (case l15 => k_is)
    (case c15 => k_is)
    (case k15 => k_is)
    (case a16 => k_is)
    (case l16 => k_is)
    (case c16 => k_is)
    (case k16 => k_is)
    (case a17 => k_is)
    (case l17 => k_is)
    (case c17 => k_is)
    (case k17 => k_is)
    (case a18 => k_is)
    (case l18 => k_is)
    (case c18 => k_is)
    (case k18 => k_is)
    (case a19 => k_is)
    (case l19 => k_is)
    (case c19 => k_is)
    (case k19 => k_is)
    (case a20 => k_is)
    (case l20 => k_is)
    (case c20 => k_is)
    (case k20 => k_is)
    (case a21 => k_is)
    (case l21 => k_is)
    (case c21 => k_is)
    (case k21 => k_is)
    (case a22 => k_is)
    (case l22 => k_is)
    (case c22 => k_is)
    (case k22 => k_is)
    (case z0 => k_is)
    (case z1 => k_is)
    (case z2 => k_is)
    (case z3 => k_is)
    (case z4 => k_is)
    (case z5 => k_is)
    (case z6 => k_is)
    (case z7 => k_is)
    (case z8 => k_is)
    (case z9 => k_is)
    (case z10 => k_is)
    (case z11 => k_is)
    (case z12 => k_is)
    (case z13 => k_is)
    (case z14 => k_is)
    (case z15 => k_is)
    (case z16 => k_is)
    (case m_MOST_WIDTH => k_is)
    (case m_MOST_LETTERS => k_is)
    (case m_LETTERS => k_is)
    (case m_NO_NAMES => k_is)
    (case t_NO_NAMES => k_is)
    (case m_ENDS => k_is)
    (case t_ENDS => k_is)
    (case aC => k_is)
    (case pg => k_is)
    (case hd => k_is)
    (case po => k_is)
    (case sa => k_is)
    (case mk => k_is)
    (case kc => k_is)
    (case sf => k_is)
    (case nf0 => k_is)
    (case nf1 => k_is)
    (case cn0 => k_is)
    (case cg0 => k_is)
    (case am0 => k_is)
    (case im0 => k_is)
    (case lm0 => k_is)
    (case cm0 => k_is)
    (case km0 => k_is)
    (case tI => k_is)
    (case am1 => k_is)
    (case im1 => k_is)
    (case lm1 => k_is)
    (case cm1 => k_is)
    (case km1 => k_is)
    (case am2 => k_is)
    (case im2 => k_is)
    (case lm2 => k_is)
    (case cm2 => k_is)
    (case km2 => k_is)
    (case am3 => k_is)
    (case im3 => k_is)
    (case lm3 => k_is)
    (case cm3 => k_is)
    (case km3 => k_is)
    (case am4 => k_is)
    (case im4 => k_is)
    (case lm4 => k_is)
    (case cm4 => k_is)
    (case km4 => k_is)
    (case am5 => k_is)
    (case im5 => k_is)
    (case lm5 => k_is)
    (case cm5 => k_is)
    (case km5 => k_is)
    (case am6 => k_is)
    (case im6 => k_is)
    (case lm6 => k_is)
    (case cm6 => k_is)
    (case km6 => k_is)
    (case am7 => k_is)
    (case im7 => k_is)
    (case lm7 => k_is)
    (case cm7 => k_is)
    (case km7 => k_is)
    (case am8 => k_is)
    (case im8 => k_is)
    (case lm8 => k_is)
    (case cm8 => k_is)
    (case km8 => k_is)
    (case am9 => k_is)
    (case im9 => k_is)
    (case lm9 => k_is)
    (case cm9 => k_is)
    (case km9 => k_is)
    (case am10 => k_is)
    (case im10 => k_is)
    (case lm10 => k_is)
    (case cm10 => k_is)
    (case km10 => k_is)
    (case apW => k_is)
    (case gpW => k_is)
    (case tpW => k_is)
    (case rpW => k_is)
    (case lmW => k_is)
    (case cmW => k_is)
    (case kmW => k_is)
    (case icA => k_is)
    (case icN => k_is)
    (case icT => k_is)
    (case icM => k_is)
    (case neF => k_is)

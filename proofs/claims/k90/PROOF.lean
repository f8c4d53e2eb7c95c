import PyProof.Rows.All
import Wide.All
import OpenK.AllK
import Wide.FinOn
import HandS.ForMost
import HandS.Style
import HandS.Codes
import HandS.IsInst
import HandS.AnyAll
import HandS.StrMore
import HandS.Defaults
import HandS.HeadHook4
import HandS.HeadWalk
import HandS.Head2
import HandS.Walk
import HandS.GenList
import HandS.RaiseMore
import HandS.Dict
import HandS.Zip
import HandS.HotCalls
import PyProof.EqAt
import PyProof.EqKinds
import PyProof.NeKinds
import PyProof.NeData
import HandS.ExcInit
import HandS.ExcIs
import HandS.ExcField
import HandS.TryMany
import HandS.ExcValue
import KE.KExcIs
import HandS.WordsExc
import HandS.Small
import HandS.TupAny
import HandS.Wide
import HandS.Text
import HandS.More
import KE.DataCmp
import PySem.Challenge.RW_quicktongue_k90_clocks_and_outcomes
import HandS.Lambda
import HandS.TupMul
import HandS.Flt
set_option Elab.async false
set_option linter.all false
set_option maxRecDepth 100000
set_option maxHeartbeats 4000000
/-! Tools over the hand layer: a def's call by keywords alone, repr of data, a def that knows its code object. -/
namespace KT
open PySem PySem.Spec PyProof.Rows L2
section
variable {X : Cx} {CX : CXT} {k : Nat} {f : Addr} {fd : FuncData} {ps ks : List Str} {sp : Sp} {E : XK} {x : Str} {p pos : Pos} {kws : List Keyword} {tk : TA}
/-- how a call with keywords alone binds: g puts the keywords' values in the parameters' order -/
structure KB0 (fd : FuncData) (ps ks : List Str) (g : {α : Type} → List α → List α) : Prop where
  to : ∀ (s : Shared) (ws : List Value), (g ws).length = ps.length → BindsTo s fd ⟨[], ks.zip ws⟩ (ps.zip (g ws))
  rel : ∀ {zs : List V} {ws : List Value}, Vals zs ws → Vals (g zs) (g ws)
def tCallK0 (sp : Sp) (g : {α : Type} → List α → List α) (E : XK) (tk : TA) : TE := fun σ H Q => tk σ H fun zs H2 => sp (g zs) H2 Q E
theorem pe_callK0 {g : {α : Type} → List α → List α} (F : FnOk X.prog X.w X.K X.mg X.base CX k f fd ps sp) (hr : Room k X.A) (hg : Gl X x) (hm : X.mg x = some (.ref f)) (hk : PySem.W.keepIn X.K (.ref f) = true) (hb : KB0 fd ps ks g) (hx : Passes CX X E)
    (hkw : PK X kws tk) (hall : (backToKw pos (keywordEach kws X.env)).all (·.1.isSome) = true := by rfl) (hks : (backToKw pos (keywordEach kws X.env)).filterMap (·.1) = ks := by rfl)
    (hdb : (x == ("__debug__" : Str)) = false := by decide) (hpl : ((backTo pos (starEach [] X.env)).any (·.1) || (backToKw pos (keywordEach kws X.env)).any (·.1.isNone)) = false := by rfl) :
    PE X (.Call (.Name x p) [] kws pos) (tCallK0 sp g E tk) := by
  refine ⟨fun pins s σ H Q I h => ?_⟩
  refine wpAny_Call_Name_kw (ld_glob I hg hm ?_ hdb)
  refine PySem.W.callWith_KW0 (h₀ := X.base) I.ok.mod.kin hk hall ?_ hpl
  refine thn (hkw.run pos pins s σ H _ I h) fun ws s2 ⟨zs, H2, I2, rz, q2⟩ => ⟨I2.kIn, ?_⟩
  rw [hks]
  have r2 := hb.rel rz
  have hl : (g ws).length = ps.length := by rw [← r2.length]; exact F.len _ _ _ _ q2
  refine wpAny_call (codeAny_mono (F.run X.A X.stack s2 H2 ⟨[] ++ [], ks.zip ws⟩ (g ws) (g zs) Q E hr I2.env0 (hb.to s2 ws hl) r2 q2) fun r s' hq => ?_)
  cases r with
  | error e => exact hx pins σ H2 s2 e s' I2 hq
  | ok fl =>
    cases fl with
    | ret u => exact I2.after hq
    | next => exact False.elim hq
    | brk => exact False.elim hq
    | cont => exact False.elim hq
end
/-! ### a def by its datum -/
section
variable {P : Program} {w : World} {K : PySem.W.Frag} {mg : Str → Option Value} {base : Heap}
abbrev FnP (K : PySem.W.Frag) (x : Str) (st : Stmt) (f : Addr) (fd : FuncData) : Prop := FunD K x x (defArgs st) (defBody st) (defScope st) [] [] f fd
theorem fun_of {x : Str} {st : Stmt} {f : Addr} {fd : FuncData} (F : FnP K x st f fd) : Fun K x x st f fd := by
  obtain ⟨⟨oc, od, dV, kV, doc, pm, an, cdv, ct, osl, e, l, c, d, _⟩, kp⟩ := F
  have hd : dV = .none := by
    rcases d with ⟨_, h⟩ | ⟨h, _⟩
    · exact h
    · exact absurd rfl h
  subst hd
  exact ⟨⟨oc, od, kV, doc, pm, an, cdv, ct, osl, e, l, c⟩, kp⟩
/-- the rule for a def, its code object told -/
theorem okC {x : Str} {st : Stmt} {fd : FuncData} {N ps : List Str} {k : Nat} {sp : Sp} (F : FnP K x st (He.fAd K (x, none)) fd) (S : FnScope N ps (defScope st)) (len : ∀ vs H Q E, sp vs H Q E → vs.length = ps.length)
    (hbody : ∀ (cdv : Value) (A : Around) (outer : List Env) (s : Shared) (H : Hp) (vs : List V) (Q : VK) (E : XK), cdv = .ref (He.codeOf K (x, none)) → Room k (A.deeper (envOfC x (defScope st) s.heap.objs.size (He.fAd K (x, none)) cdv)) → sp vs H Q E →
      ∃ t, PSs (cxOf CX0 P w K mg base N x (defScope st) (He.fAd K (x, none)) cdv A outer s H E).nox (defBody st) t ∧ t { nx := fun _ H' => Q .non H', rt := Q } (start N vs) H) : FnOk P w K mg base CX0 (k + 1) (He.fAd K (x, none)) fd ps sp := by
  obtain ⟨oc, od, kV, doc, pm, an, cdv, ct, osl, rfl, lk, hcd⟩ := (fun_of F).ex
  refine fn_of lk hcd S len fun A outer s H vs Q E hr hsp => ?_
  obtain ⟨c, ec⟩ := He.codeIn_ref hcd
  have e2 : He.codeOf K (x, none) = c := He.codeOf_eq lk ec
  obtain ⟨t, h, q⟩ := hbody cdv A outer s H vs Q E (by rw [ec, e2]) hr hsp
  exact ⟨t, h.nox, q⟩
end
/-! ### repr of data -/
section
variable {X : Cx}
def rReprD (K : PySem.W.Frag) : List V → Hp → VK → Prop := fun xs H Q => ∃ a d, xs = [.ref a] ∧ Dp K H (.ref a) d ∧ d.showable = true ∧ d.canLay0 = true ∧ d.depth ≤ 62 ∧ d.shown.length ≤ sizeLine ∧ Q (.str d.shown) H
theorem call_reprD {k : Nat} (hr : Room k X.A) (hg : X.A.guards = some []) : CallR X (.builtin "repr") (rReprD X.K) := by
  intro pins s σ H xs us Q I r h
  obtain ⟨a, d, rfl, hd, hs, hc, hdep, hsz, q⟩ := h
  obtain ⟨u, rfl, r1⟩ := vals1 r
  cases (show u = Value.ref a from r1)
  obtain ⟨as, hrd⟩ := Dp.reads I d _ _ hd rfl
  have hu := hr.units
  refine PySem.repr_of_reads' hrd hs (fun z => ?_) hg (by omega) (fun b o e => e) (fun h' u tk kk => ?_) hsz
  · rw [PyData.hasDict_of_canLay d hc] at z
    cases z
  · exact ⟨.str d.shown, H, I.kept (t' := tk) kk, ⟨u, rfl⟩, q⟩
end
/-! ### promises that may lean on «no repr is under way» -/
structure FnG (P : Program) (w : World) (K : PySem.W.Frag) (mg : Str → Option Value) (base : Heap) (k : Nat) (f : Addr) (fd : FuncData) (ps : List Str) (sp : Sp) : Prop where
  len : ∀ vs H Q E, sp vs H Q E → vs.length = ps.length
  run : ∀ (A : Around) (outer : List Env) (s : Shared) (H : Hp) (args : Args) (us : List Value) (vs : List V) (Q : VK) (E : XK), A.guards = some [] → Room k A → Env0 P w K mg base A outer s H → BindsTo s fd args (ps.zip us) → Vals vs us → sp vs H Q E →
    codeAny (model P w) A (.call (.ref f) args) (CR CX0 outer P w H s Q E) s
section
variable {P : Program} {w : World} {K : PySem.W.Frag} {mg : Str → Option Value} {base : Heap}
theorem FnG.of {k : Nat} {f : Addr} {fd : FuncData} {ps : List Str} {sp : Sp} (F : FnOk P w K mg base CX0 k f fd ps sp) : FnG P w K mg base k f fd ps sp := ⟨F.len, fun A outer s H args us vs Q E _ => F.run A outer s H args us vs Q E⟩
theorem okG {x : Str} {st : Stmt} {f : Addr} {fd : FuncData} {N ps : List Str} {k : Nat} {sp : Sp} (F : Fun K x x st f fd) (S : FnScope N ps (defScope st)) (len : ∀ vs H Q E, sp vs H Q E → vs.length = ps.length)
    (hbody : ∀ (cdv : Value) (A : Around) (outer : List Env) (s : Shared) (H : Hp) (vs : List V) (Q : VK) (E : XK), A.guards = some [] → Room k (A.deeper (envOfC x (defScope st) s.heap.objs.size f cdv)) → sp vs H Q E →
      ∃ t, PSs (cxOf CX0 P w K mg base N x (defScope st) f cdv A outer s H E).nox (defBody st) t ∧ t { nx := fun _ H' => Q .non H', rt := Q } (start N vs) H) : FnG P w K mg base (k + 1) f fd ps sp := by
  obtain ⟨oc, od, kV, doc, pm, an, cdv, ct, osl, rfl, lk, hcd⟩ := F.ex
  refine ⟨len, fun A outer s H args us vs Q E hA hr e0 hb r hsp => ?_⟩
  -- at this around alone: the def's rule over a promise that is asked here
  have KX : K.In s.heap := e0.mod.kin.keeps fun b o e => (e0.bs b o e).1
  have li : s.heap.NoLimit := e0.mod.nolimit.keeps fun b o e => (e0.bs b o e).1
  have knd : ∀ y ∈ ps.zip us, (defScope st).names.lookup y.1 = some .local ∨ ((defScope st).names.lookup y.1 = some .cell ∧ ((cellsFrom (s.heap.objs.size + 1) (defScope st).names []).lookup y.1).isSome = true) := by
    rintro ⟨n, v⟩ hy
    exact (S.par n (List.of_mem_zip hy).1).imp id fun q => ⟨q, PySem.W.cellsFrom_some _ _ _ (.inl q)⟩
  refine codeAny_call_function (hr.depth) (KX _ _ lk) rfl S.co S.gen rfl (PySem.W.codeRec_of KX hcd) (hb _ _ _ _ (wpAny_newFunctionEnv_cells S.kind knd fun env he s1 x1 => ?_))
  subst he
  obtain ⟨t, ht, hq⟩ := hbody cdv A outer s H vs Q E hA (hr.deeper _) hsp
  have J := inv_start (CX := CX0) (E := E) (mg := mg) (cd := cdv) (f := f) (qual := x) S hr.hd e0 (len _ _ _ _ hsp) r x1
  refine ⟨li.keeps x1.toInCall.keep, codeAny_func (wpAny_mono (ht.nox.run [] s1 (start N vs) H _ J hq) (fun fl s' hs => ?_) fun e s' z => z)⟩
  have done : ∀ {σ' : L2.St} {H' : Hp} {v : V} {u : Value}, Inv (cxOf CX0 P w K mg base N x (defScope st) f cdv A outer s H E) [] σ' H' s' → RelV v u → Q v H' → CE outer P w H s Q u s' := fun j rv q => ⟨_, _, j.os, j.bare, j.base, j.hok, rv, q⟩
  cases fl with
  | ret u =>
    obtain ⟨v, σ', H', j, rv, q⟩ := hs
    exact done j rv q
  | next =>
    obtain ⟨σ', H', j, q⟩ := hs
    exact done (v := V.non) (u := Value.none) j rfl q
  | brk => exact hs.elim fun _ z => z.elim fun _ z => z.2.elim
  | cont => exact hs.elim fun _ z => z.elim fun _ z => z.2.elim
end
section
variable {X : Cx} {k : Nat} {f : Addr} {fd : FuncData} {ps ks : List Str} {sp : Sp} {x : Str} {p pos : Pos} {e : Expr} {es : List Expr} {t : TA}
theorem run_g {pins : List (Addr × Obj)} {σ : L2.St} {H : Hp} {s : Shared} {Q : VK} {us : List Value} {vs : List V} (F : FnG X.prog X.w X.K X.mg X.base k f fd ps sp) (hA : X.A.guards = some []) (hr : Room k X.A) (hb : Binds X.K fd ps [])
    (I : Inv X pins σ H s) (r : Vals vs us) (h : sp vs H Q E0) : wpAny (model X.prog X.w) X.A (call (.ref f) us) (EP X pins σ Q) X.xe s := by
  have hl : us.length = ps.length := r.length.symm.trans (F.len _ _ _ _ h)
  have hb2 : BindsTo s fd ⟨us, []⟩ (ps.zip us) := by
    have z := hb s us I.kIn (by rw [List.append_nil]; exact hl)
    rw [List.append_nil] at z
    exact z
  refine wpAny_call (codeAny_mono (F.run X.A X.stack s H ⟨us, []⟩ us vs Q E0 hA hr I.env0 hb2 r h) fun rr s' hq => ?_)
  match rr, hq with
  | .error e, hq => exact hq.elim
  | .ok (.ret u), hq => exact I.after hq
  | .ok .next, hq => exact hq.elim
  | .ok .brk, hq => exact hq.elim
  | .ok .cont, hq => exact hq.elim
theorem pe_callG (F : FnG X.prog X.w X.K X.mg X.base k f fd ps sp) (hA : X.A.guards = some []) (hr : Room k X.A) (hg : Gl X x) (hm : X.mg x = some (.ref f)) (hk : PySem.W.keepIn X.K (.ref f) = true) (hb : Binds X.K fd ps [])
    (ha : PA X (e :: es) t) (hdb : (x == ("__debug__" : Str)) = false := by decide) (he : starEach (e :: es) X.env = (false, eval e X.env) :: starEach es X.env := by rfl) (hpl : (backTo pos (starEach es X.env)).any (·.1) = false := by rfl) :
    PE X (.Call (.Name x p) (e :: es) [] pos) (tCall sp [] E0 t) := by
  refine ⟨fun pins s σ H Q I h => wpAny_Call_Name_kw (ld_glob I hg hm (PySem.W.callWith_K (h₀ := X.base) I.ok.mod.kin hk (thn (ha.run pos pins s σ H _ I h) fun us s1 ⟨vs, H1, I1, r, q⟩ => ⟨I1.kIn, ?_⟩) he hpl) hdb)⟩
  have q2 : sp vs H1 Q E0 := by
    have z : sp (vs ++ []) H1 Q E0 := q
    rw [List.append_nil] at z
    exact z
  exact run_g F hA hr hb I1 r q2
end
/-! ### the end of a law's row: the tables of code objects tracked, the script known to its object -/
section
open GxR
def tabsH (cs : List (Addr × Addr)) : Hp := fun b => if b ∈ cs.map (·.2) then some (.tbl #[]) else none
theorem tabsH_in {cs : List (Addr × Addr)} {p : Addr × Addr} (h : p ∈ cs) : tabsH cs p.2 = some (.tbl #[]) := if_pos (List.mem_map.mpr ⟨p, h, rfl⟩)
theorem tabsH_some {cs : List (Addr × Addr)} {b : Addr} {o : HO} (h : tabsH cs b = some o) : o = .tbl #[] ∧ ∃ p ∈ cs, p.2 = b := by
  unfold tabsH at h
  split at h
  · rename_i hb
    obtain ⟨p, hp, e⟩ := List.mem_map.mp hb
    exact ⟨(Option.some.inj h).symm, p, hp, e⟩
  · cases h
def NoTab : Obj := { cls := .none, data := .fields #[] }
/-- what the head says of a state s₁: the script at a, the tables at cs -/
structure At1 (K : PySem.W.Frag) (mg : Str → Option Value) (cs : List (Addr × Addr)) (a : Addr) (ns : List Int) (s₁ : Shared) : Prop where
  kin : K.In s₁.heap
  ns_ : s₁.heap.Ns mainGlobals mg
  blt : ∃ mb, s₁.heap.Ns builtinsNs mb ∧ ∀ x : Str, x ≠ "__name__" → mb x = bootBuiltins x
  lim : s₁.heap.NoLimit
  gens : s₁.gens = #[]
  tabs : ∀ p ∈ cs, s₁.heap.get? p.2 = some NoTab
  out : ∀ p ∈ cs, K.lookup p.2 = none
  code : ∀ p ∈ cs, PySem.W.CodeHd s₁.heap p.1 p.2
  bm : ∃ (bm : Addr) (ob : Obj), mg "__builtins__" = some (.ref bm) ∧ bm ≠ builtinsNs ∧ s₁.heap.get? bm = some ob ∧ ob.cls = .type "module" ∧ ob.dict = some builtinsNs ∧ ob.data = .plain
  scr : ∃ vs : List Value, s₁.heap.get? a = some { cls := .type "list", data := .seq vs.toArray } ∧ IntsAre vs ns
  len : ns.length ≤ sizeLine
/-- an abstract heap of such a state -/
structure Good (K : PySem.W.Frag) (cs : List (Addr × Addr)) (a : Addr) (s₁ : Shared) (H : Hp) : Prop where
  at_ : ∀ b o, H b = some o → (o = .tbl #[] ∧ s₁.heap.get? b = some NoTab ∧ ∃ p ∈ cs, p.2 = b) ∨ (b = a ∧ (∃ ob xs, o = .frz ob (.lst xs)) ∧ ∃ vs : List Value, s₁.heap.get? a = some { cls := .type "list", data := .seq vs.toArray })
  tb : ∀ p ∈ cs, H p.2 = some (.tbl #[])
  k : H a ≠ none → K.lookup a = none
theorem At1.good {P : Program} {w : World} {K : PySem.W.Frag} {mg : Str → Option Value} {cs : List (Addr × Addr)} {a : Addr} {ns : List Int} {s₁ : Shared} (h : At1 K mg cs a ns s₁) :
    ∃ H : Hp, Good K cs a s₁ H ∧ SqL K H a (ns.map V.int) ∧ HOk P w H s₁.heap := by
  obtain ⟨vs, ha, hi⟩ := h.scr
  have rv := vals_ints hi
  have tabAt : ∀ b o, tabsH cs b = some o → o = .tbl #[] ∧ s₁.heap.get? b = some NoTab ∧ ∃ p ∈ cs, p.2 = b := fun b o e => by
    obtain ⟨e1, p, hp, e2⟩ := tabsH_some e
    exact ⟨e1, by rw [← e2]; exact h.tabs p hp, p, hp, e2⟩
  have na : tabsH cs a = none := by
    cases e : tabsH cs a with
    | none => rfl
    | some o =>
      have z := (tabAt a o e).2.1
      rw [ha] at z
      cases z
  have okT : ∀ b o, tabsH cs b = some o → ∀ H : Hp, ObjOk P w H s₁.heap b o := fun b o e H => by
    obtain ⟨e1, e2, _⟩ := tabAt b o e
    subst e1
    exact e2
  cases hk : K.lookup a with
  | some o =>
    have z := h.kin a o hk
    rw [ha] at z
    cases z
    refine ⟨tabsH cs, ⟨fun b o e => .inl (tabAt b o e), fun p hp => tabsH_in hp, fun z => absurd na z⟩, .inr ⟨_, vs.toArray, _, hk, rfl, rfl, rfl, ?_, by simpa using rv⟩, fun b o e => okT b o e _⟩
    rw [List.size_toArray, hi.length]
    exact h.len
  | none =>
    refine ⟨upd (tabsH cs) a (.frz { cls := .type "list", data := .seq vs.toArray } (.lst (ns.map V.int))), ⟨fun b o e => ?_, fun p hp => ?_, fun _ => hk⟩, .inl (.inr ⟨_, upd_same⟩), fun b o e => ?_⟩
    · by_cases hb : b = a
      · subst hb
        rw [upd_same] at e
        exact .inr ⟨rfl, ⟨_, _, (Option.some.inj e).symm⟩, vs, ha⟩
      · rw [upd_ne hb] at e
        exact .inl (tabAt b o e)
    · rw [upd_ne (ne_of_none (tabsH_in hp) na)]
      exact tabsH_in hp
    · by_cases hb : b = a
      · subst hb
        rw [upd_same] at e
        cases e
        exact ⟨ha, by rw [List.length_map]; exact h.len, vs, _, rv, ha⟩
      · rw [upd_ne hb] at e
        exact okT b o e _
variable {P : Program} {w : World} {K : PySem.W.Frag} {mg : Str → Option Value}
theorem Good.free {cs : List (Addr × Addr)} {a : Addr} {s₁ : Shared} {H : Hp} (g : Good K cs a s₁ H) {b : Addr} {o : Obj} (e : s₁.heap.get? b = some o) (h1 : ∀ vs n, o.data ≠ .seq vs n) (h2 : o.data ≠ .fields #[]) : H b = none := by
  cases q : H b with
  | none => rfl
  | some u =>
    rcases g.at_ b u q with ⟨_, z, _⟩ | ⟨rfl, _, vs, z⟩
    · rw [e] at z
      cases z
      exact (h2 rfl).elim
    · rw [e] at z
      cases z
      exact (h1 _ _ rfl).elim
theorem At1.call {cs : List (Addr × Addr)} {a fa : Addr} {ns : List Int} {s₁ : Shared} {k : Nat} {fd : FuncData} {x : Str} {sp : Sp} (h : At1 K mg cs a ns s₁) (hr : Room k callerA)
    (F : ∀ base : Heap, K.In base → base.Ns mainGlobals mg → (∀ (b : Addr) (m : Str → Option Value), s₁.heap.Ns b m → base.Ns b m) → (∀ p ∈ cs, TabB base mg p.1 p.2) → FnG P w K mg base k fa fd [x] sp) (hbind : ∀ (s : Shared) (u : Value), BindsTo s fd ⟨[u], []⟩ [(x, u)])
    (hsp : ∀ H : Hp, (∀ p ∈ cs, H p.2 = some (.tbl #[])) → SqL K H a (ns.map V.int) → sp [.ref a] H (fun v _ => v = .bl true) E0) :
    codeAny (model P w) callerA (.call (.ref fa) ⟨[.ref a], []⟩) (fun r s' => r = .ok (.ret (.bool true)) ∧ OldK s₁.heap s'.heap ∧ s'.os = s₁.os ∧ AllBare s'.gens) s₁ := by
  obtain ⟨H, g, hS, hok⟩ := h.good (P := P) (w := w)
  have dict_free : ∀ {b : Addr} {o : Obj} {es : Array DictEntry} {ep : Nat}, s₁.heap.get? b = some o → o.data = .dict es ep → H b = none := fun {b o es ep} e d => g.free e (fun vs n z => by rw [d] at z; cases z) fun z => by rw [d] at z; cases z
  have space : ∀ {b : Addr} {m : Str → Option Value}, s₁.heap.Ns b m → (hidT s₁.heap H).Ns b m := fun {b m} ⟨o, es, ep, e, d, r⟩ => ⟨o, es, ep, hidT_get e (dict_free e d), d, r⟩
  have kb : K.In (hidT s₁.heap H) := fun b o e => hidT_get (h.kin b o e) (by
    cases q : H b with
    | none => rfl
    | some u =>
      rcases g.at_ b u q with ⟨_, _, p, hp, e2⟩ | ⟨rfl, _, _⟩
      · rw [← e2, h.out p hp] at e
        cases e
      · rw [g.k (by rw [q]; exact fun z => nomatch z)] at e
        cases e)
  obtain ⟨mb, hb, hbb⟩ := h.blt
  have md : L2.Mod K mg (hidT s₁.heap H) := ⟨kb, space h.ns_, ⟨mb, space hb, hbb⟩, let ⟨mc, h1, h2⟩ := h.lim; ⟨mc, space h1, h2⟩⟩
  have tb : ∀ p ∈ cs, TabB (hidT s₁.heap H) mg p.1 p.2 := fun p hp => by
    have hTp := h.tabs p hp
    have ng : mainGlobals ≠ p.2 := fun z => by
      obtain ⟨o, es, ep, e, hd, _⟩ := h.ns_
      rw [z, hTp] at e
      cases e
      cases hd
    obtain ⟨o, us, file, tf, flags, tg, inF, text, tt, e1, r1, r2, r3, r⟩ := h.code p hp
    obtain ⟨bm, ob, b1, b2, b3, b4, b5, b6⟩ := h.bm
    have f1 : H p.1 = none := g.free e1 (fun vs n z => by rw [r2] at z; cases z) fun z => by
      rw [r2] at z
      cases z
      simp at r3
    have f2 : H bm = none := g.free b3 (fun vs n z => by rw [b6] at z; cases z) fun z => by rw [b6] at z; cases z
    refine ⟨⟨o, us, file, tf, flags, tg, inF, text, tt, hidT_get e1 f1, r1, r2, r3, r⟩, ⟨bm, ob, b1, b2, fun q => ?_, fun q => ?_, hidT_get b3 f2, b4, b5, b6⟩, ng⟩
    · obtain ⟨o2, es, ep, e, hd, _⟩ := h.ns_
      rw [← q, b3] at e
      cases e
      rw [b6] at hd
      cases hd
    · rw [q, hTp] at b3
      cases b3
      cases b6
  have e0 : Env0 P w K mg (hidT s₁.heap H) callerA [] s₁ H := ⟨rfl, md, fun b o e => of_hidT e, Nat.le_of_eq (hidT_size _ _), trivial, fun b hb => absurd (show b ∈ ([] : List Addr) from hb) (by simp), hok, .of_eq h.gens⟩
  refine codeAny_mono ((F _ kb (space h.ns_) (fun _ _ z => space z) tb).run callerA [] s₁ H ⟨[.ref a], []⟩ [.ref a] [.ref a] _ _ rfl hr e0 (hbind s₁ (.ref a)) (.cons rfl .nil) (hsp H g.tb hS)) fun r s' hq => ?_
  match r, hq with
  | .error e, hq => exact hq.elim
  | .ok .next, hq => exact hq.elim
  | .ok .brk, hq => exact hq.elim
  | .ok .cont, hq => exact hq.elim
  | .ok (.ret u), hq =>
    obtain ⟨v, H', os, bare, un, hok', r', q⟩ := hq
    obtain rfl : v = .bl true := q
    obtain rfl : u = Value.bool true := r'
    have keep : ∀ b o, s₁.heap.get? b = some o → s'.heap.get? b = some o ∨ (o = NoTab ∧ (∃ p ∈ cs, p.2 = b) ∧ ∃ more : Array Value, s'.heap.get? b = some { cls := .none, data := .fields more }) := fun b o e => by
      cases q : H b with
      | none => exact .inl (un.keep b o e q (by intro z; exact absurd (show b ∈ ([] : List Addr) from z) (by simp)) (by simp))
      | some u =>
        rcases g.at_ b u q with ⟨rfl, z, p⟩ | ⟨rfl, ⟨ob, xs, rfl⟩, _⟩
        · rw [e] at z
          cases z
          obtain ⟨more, z2⟩ := un.tbls b #[] q
          exact .inr ⟨rfl, p, _, hok' b _ z2⟩
        · obtain ⟨e1, _⟩ := hok b _ q
          obtain ⟨e2, _⟩ := hok' b _ (un.frzs b ob _ q)
          rw [e] at e1
          cases e1
          exact .inl e2
    refine ⟨rfl, ⟨fun b o e => ?_, fun b o e => ?_⟩, os, bare⟩
    · rcases keep b o e with z | ⟨rfl, ⟨p, hp, rfl⟩, more, z⟩
      · exact .inl z
      · exact .inr (.inl ⟨((h.code p hp).tab (h.tabs p hp)).isCodeTable, rfl, #[], more, rfl, by rw [Array.empty_append]; exact z⟩)
    · rcases keep b o e with z | ⟨_, _, more, z⟩
      · exact ⟨o, z⟩
      · exact ⟨_, z⟩
/-- sys.modules stands in the base -/
def HasMods (base : Heap) : Prop := ∃ mm, base.Ns sysModules mm
/-- the row's end by such promises -/
def LawG (l : PySem.W.OpenLaw) (w : World) (K : PySem.W.Frag) (k n : Nat) (x : Str) (mg : Str → Option Value) (fa : Addr) (h : Heap) : Prop :=
  ∃ (fd : FuncData) (cs : List (Addr × Addr)) (sp : Sp), (∀ p ∈ cs, h.get? p.2 = some NoTab) ∧ (∀ p ∈ cs, K.lookup p.2 = none) ∧ (∀ p ∈ cs, PySem.W.CodeHd h p.1 p.2) ∧ (∀ (s : Shared) (u : Value), BindsTo s fd ⟨[u], []⟩ [(x, u)]) ∧
    (∀ (H : Hp) (a : Addr) (ns : List Int), ns.length ≤ n → (∀ z ∈ ns, Builtin.Int.intBits z ≤ 1048576) → (∀ p ∈ cs, H p.2 = some (.tbl #[])) → SqL K H a (ns.map V.int) → sp [.ref a] H (fun v _ => v = .bl true) E0) ∧
    ∀ base : Heap, K.In base → base.Ns mainGlobals mg → HasMods base → (∀ p ∈ cs, TabB base mg p.1 p.2) → FnG l.prog w K mg base k fa fd [x] sp
theorem walkG {l : PySem.W.OpenLaw} {n k : Nat} {q : Program} {loose : List Str} {XP : (Str → Option Value) → Heap → Prop} {YP : World → Heap → Prop} {d : DefRec} {x : Str}
    (hn : l.most = some n) (hn2 : n ≤ sizeLine) (hdf : d.params.defaults = []) (hi : importsNone q = true) (hr : Room k callerA)
    (F : ∀ (w : World) (mg : Str → Option Value) (fa : Addr) (h : Heap), YP w h → h.Ns mainGlobals mg → mg d.name = some (.ref fa) → ∃ K : PySem.W.Frag, K.In h ∧ LawG l w K k n x mg fa h) :
    PySem.W.WalkO q loose XP YP l.row.toRowW d [] (fun f vs => PySem.call f vs) := by
  refine Att.attach_callB hn hdf fun w s₀ s₁ mg mb fa o pm cd doc a vs ns G Y ho hd hcd hmg hobj hints hlen hbits hg => ?_
  obtain ⟨K, kx, fd, cs, sp, hT, nT, C, hb, hsp, hF⟩ := F w mg fa _ Y G.T.g hmg
  exact At1.call (K := K) (cs := cs) (sp := sp) ⟨kx, G.T.g, ⟨mb, G.T.b, G.T.builtins⟩, G.T.nolimit, hg, hT, nT, C, G.T.bmain, ⟨vs, hobj, hints⟩, Nat.le_trans hlen hn2⟩ hr (fun base kb nb sp tb => hF base kb nb (let ⟨mm, z, _⟩ := (G.T.seer hi).mods; ⟨mm, sp _ _ z⟩) tb) hb fun H hH hS => hsp H a ns hlen hbits hH hS
end
/-! ### a def of the text: its datum, its name, how it binds -/
structure Df (K : PySem.W.Frag) (mg : Str → Option Value) (x : Str) (st : Stmt) (ps : List Str) (fd : FuncData) : Prop where
  F : FnP K x st (He.fAd K (x, none)) fd
  g : mg x = some (.ref (He.fAd K (x, none)))
  b : Binds K fd ps []
/-- a promise that none asks -/
def spNo : Sp := fun _ _ _ _ => False
theorem ok_no {P : Program} {w : World} {K : PySem.W.Frag} {mg : Str → Option Value} {base : Heap} {CX : CXT} {k : Nat} {f : Addr} {fd : FuncData} {ps : List Str} : FnOk P w K mg base CX k f fd ps spNo := ⟨fun _ _ _ _ h => h.elim, fun _ _ _ _ _ _ _ _ _ _ _ _ _ h => h.elim⟩
/-! ### isinstance of a built-in class -/
def isS : V → Bool
  | .str _ => true
  | _ => false
/-- x has a class, told, and whether it is T is told by b -/
def IsA (K : PySem.W.Frag) (H : Hp) (x : V) (T : String) (b : Bool) : Prop := ∃ t, TyX K H x (.type t) ∧ kitB t T = some b
theorem rIsi_of {K : PySem.W.Frag} {H : Hp} {x : V} {T : String} {b : Bool} {Q : VK} (h : IsA K H x T b) (q : Q (.bl b) H) : rIsi K [x, .ty T] H Q := by
  obtain ⟨t, h1, h2⟩ := h
  exact ⟨x, .ty T, .type t, .type T, b, rfl, .ty T, h1, kit_ty h2, q⟩
end KT

set_option Elab.async false
set_option linter.all false
set_option maxRecDepth 100000
set_option maxHeartbeats 4000000
/-! all(e for x in it), any(e for x in it): any element, calls of defs in it too. -/
namespace KG
open PySem PySem.Spec PyProof.Rows L2 GxR GenW KT
theorem over_cs {A : Around} {elt tg iter : Expr} {ifs : List Expr} {scope : Scope} {pos : Pos} {it acc : Value} {env : Env} : A.over (.compStart (.GeneratorExp elt [⟨tg, iter, ifs, 0⟩] scope pos) 0 it acc env) [] = A.deeper env := rfl
theorem over_cl {A : Around} {elt tg iter : Expr} {ifs : List Expr} {scope : Scope} {pos : Pos} {it acc : Value} {env : Env} : A.over (.compLoop (.GeneratorExp elt [⟨tg, iter, ifs, 0⟩] scope pos) 0 it acc env) [] = A.deeper env := rfl
/-- the context of a generator expression's frame: entered at s -/
abbrev gX (X : Cx) (s : Shared) (H : Hp) (cenv : Env) (fp : List Addr) : Cx := { X with s_0 := s, H_0 := H, env := cenv, A := X.A.in1.in1.deeper cenv, outer := X.stack, stack := cenv :: X.stack, ex := fp, fn := fun _ => false, pn := [], xe := fun _ _ => False }
theorem room_gen {k : Nat} {A : Around} {env : Env} (r : Room (k + 3) A) : Room k (A.in1.in1.deeper env) := (r.in1.in1).deeper env
structure GnOk (N : List Str) (sc scope : Scope) (own : List (Str × Nat)) : Prop where
  blk : BlkOk N sc scope own
  co : scope.isCoroutine = false
  cell : ∀ y ∈ scope.names, y.2 ≠ .cell
  dot : scope.names.lookup (".0" : Str) = some NameKind.local
def gnC (N : List Str) (sc scope : Scope) (own : List (Str × Nat)) : Bool :=
  blkC N sc scope own && (!scope.isCoroutine && ((scope.names.all fun y => decide (y.2 ≠ .cell)) && decide (scope.names.lookup (".0" : Str) = some NameKind.local)))
theorem gnOk_by {N : List Str} {sc scope : Scope} {own : List (Str × Nat)} (h : gnC N sc scope own = true) : GnOk N sc scope own := by
  unfold gnC at h
  obtain ⟨h1, h⟩ := Bool.and_eq_true_iff.mp h
  obtain ⟨h2, h⟩ := Bool.and_eq_true_iff.mp h
  obtain ⟨h3, h4⟩ := Bool.and_eq_true_iff.mp h
  refine ⟨blkOk_by h1, ?_, fun y hy => of_decide_eq_true (List.all_eq_true.mp h3 y hy), of_decide_eq_true h4⟩
  cases e : scope.isCoroutine with
  | false => rfl
  | true =>
    rw [e] at h2
    cases h2
section
variable {X : Cx} {pins : List (Addr × Obj)} {σ : L2.St} {H : Hp} {s : Shared}
theorem Inv_gens {X : Cx} {pins : List (Addr × Obj)} {σ : L2.St} {H : Hp} {s : Shared} {g' : Array GenState} {t' : Nat} (I : L2.Inv X pins σ H s) (hg : AllBare g') : L2.Inv X pins σ H { s with gens := g', toks := t' } := by
  refine I.step (h' := s.heap) (g' := g') (t' := t') (d' := s.drawn) (ch := []) (fun b hb => absurd hb (by simp)) (fun b o _ _ _ e _ => e) (fun b o _ _ _ e _ => ⟨o.slots, e⟩) (fun b o _ _ n => n) (fun b o _ e => ⟨o, e⟩) (fun _ _ e => e) (fun _ _ _ e => e) (fun b ps e => ⟨#[], by rw [e]; simp⟩) (fun m hm => hm) I.hok hg
theorem gen_start {scope : Scope} {own : List (Str × Nat)} {fp : List Addr} {code : Value} {h' : Heap} {o : Obj} {gs : GenState} {tk : Nat} {m0 : Str → Option Value} (I : L2.Inv X pins σ H s) (ok : GnOk X.N X.env.scope scope own) (hN : X.N.Nodup) (hfp : ∀ b ∈ fp, FpOk X pins H b ∧ b < s.heap.objs.size)
    (hn : h'.Ns s.heap.objs.size m0) (hsz : h'.objs.size = s.heap.objs.size + 1) (kp : ∀ b o, s.heap.get? b = some o → h'.get? b = some o) (hod : ∀ v, o.data ≠ .cell v) (hoc : o.isFreed = false) (hg : gs.bare = true) :
    L2.Inv (gX X s H (genEnv scope (cloFrom X.env.cells scope.names []) s.heap.objs.size code builtinsNs X.env) fp) [(h'.objs.size, o)] (wipe σ (own.map (·.2))) H { s with gens := s.gens.push gs, toks := tk, heap := h'.push o } := by
  have bk := ok.blk
  have hfree : ∀ y ∈ scope.names, y.2 = .free → ∃ c, X.env.cells.lookup y.1 = some c := fun y hy e => (bk.free y hy e).elim (fun k => I.ok.has _ (.inl k)) fun k => I.ok.has _ (.inr k)
  have kp2 : ∀ b u, s.heap.get? b = some u → (h'.push o).get? b = some u := fun b u e => Heap.get?_push_of_some _ (kp b u e)
  have cm : ∀ {y c}, (cloFrom X.env.cells scope.names []).lookup y = some c → X.env.cells.lookup y = some c ∧ (y, NameKind.free) ∈ scope.names := fun {y c} e => by
    rcases cloFrom_mem (PySem.mem_of_lookup e) with z | ⟨h1, rfl⟩
    · cases z
    · obtain ⟨c, hc⟩ := hfree _ h1 rfl
      rw [hc]
      exact ⟨rfl, h1⟩
  have clt : ∀ {y c}, X.env.cells.lookup y = some c → c < s.heap.objs.size := fun {y c} e => by
    obtain ⟨v, z⟩ := I.cell _ _ e
    exact z.lt
  have look : ∀ {y}, scope.names.lookup y = some .free → ∃ c, (cloFrom X.env.cells scope.names []).lookup y = some c ∧ X.env.cells.lookup y = some c := fun {y} hl => by
    obtain ⟨c, e⟩ := mem_lookup (cloFrom_has (cells := X.env.cells) (acc := []) (PySem.mem_of_lookup hl))
    exact ⟨c, e, (cm e).1⟩
  have bLt : ∀ b ∈ fp, b ≠ s.heap.objs.size := fun b hb => Nat.ne_of_lt (hfp b hb).2
  have kind_of : ∀ {y k}, scope.names.lookup y = some k → k = .cell ∨ k = .free → scope.names.lookup y = some .free := fun {y k} e hk => by
    rcases hk with rfl | rfl
    · exact absurd rfl (ok.cell _ (PySem.mem_of_lookup e))
    · exact e
  have okB : (gX X s H (genEnv scope (cloFrom X.env.cells scope.names []) s.heap.objs.size code builtinsNs X.env) fp).Ok := by
    refine { mod := I.ok.mod, kind := bk.kind, glob := I.ok.glob, blt := rfl, above := Nat.le_refl _, inj := fun y z c e1 e2 => I.ok.inj y z c (cm e1).1 (cm e2).1, has := fun y hy => ?_, cab := fun y c z _ => absurd z Bool.false_ne_true, hd := I.ok.hd, frames := Around.frames_deeper I.ok.frames, stk := .inr ⟨rfl, rfl⟩, exf := fun b hb => ⟨bLt b hb, fun y c e z => ?_⟩, bs := I.bs, bsz := Nat.le_trans I.ok.bsz I.sz, noex := fun b u e hb => ?_, exfs := fun b hb z => ?_, funs := I.stack, frf := I.stkFree }
    · rcases hy with hy | hy
      · obtain ⟨c, e, _⟩ := look (kind_of hy (.inl rfl))
        exact ⟨c, e⟩
      · obtain ⟨c, e, _⟩ := look hy
        exact ⟨c, e⟩
    · exact (hfp b hb).1.2.2.2.2.1 y c (cm e).1 z
    · rcases (hfp b hb).1.2.2.2.1 with z | z
      · exact I.ok.noex b u e z
      · exact absurd (Nat.lt_of_lt_of_le (Heap.lt_size e) (Nat.le_trans I.ok.bsz z)) (Nat.lt_irrefl _)
    · rcases List.mem_cons.mp (I.stkSub b z) with z | z
      · exact (hfp b hb).1.2.1 z
      · exact (hfp b hb).1.2.2.1 z
  have fsLt : ∀ b ∈ frs X.stack, b < s.heap.objs.size := fun b hb => by
    rcases List.mem_cons.mp (I.stkSub b hb) with z | z
    · rw [z]; exact I.lt
    · exact Nat.lt_of_not_le fun q => I.nofs q z
  refine ⟨okB, rfl, I.bare.push hg, Un.kept kp2, ⟨m0, hn.push _, fun i y av e1 e2 e3 => ?_⟩, fun y c e => ?_, I.hok.fresh (Nat.le_refl _), fun y c e => I.freeC y c (cm e).1, fun p hp => ?_, I.hok.kept kp2, by rw [wipe_length]; exact I.len⟩
  · obtain ⟨e2, hne⟩ := wipe_some e2
    have no : ∀ k, scope.names.lookup y = some k → k = .local ∨ k = .cell → False := fun k hk hh => by
      rcases bk.own _ (PySem.mem_of_lookup hk) hh with e' | e'
      · obtain ⟨p, hp, hpy⟩ := List.mem_map.mp e'
        have e3 := bk.ix p hp
        have q : p.1 = y := hpy
        rw [q] at e3
        exact hne (List.mem_map.mpr ⟨p, hp, nodup_ix hN e3 e1⟩)
      · exact e' (List.mem_of_getElem? e1)
    have fr : scope.names.lookup y = some .free := by
      have e3 : Vis scope y := e3
      rcases e3 with e3 | e3 | e3
      · exact (no _ e3 (.inl rfl)).elim
      · exact (no _ e3 (.inr rfl)).elim
      · exact e3
    obtain ⟨m, _, hl⟩ := I.loc
    have hv : Vis X.env.scope y := (bk.free _ (PySem.mem_of_lookup fr) rfl).elim (fun k => .inr (.inl k)) fun k => .inr (.inr k)
    obtain ⟨u, r, q⟩ := hl i y av e1 e2 hv
    obtain ⟨c, h1, h2⟩ := look fr
    refine ⟨u, r, .inr ⟨.inr fr, c, h1, ?_⟩⟩
    rcases q with ⟨k, _⟩ | ⟨_, c', e', z⟩
    · have k : X.env.scope.names.lookup y = some .local := k
      rcases bk.free _ (PySem.mem_of_lookup fr) rfl with k' | k' <;> rw [show X.env.scope.names.lookup y = _ from k'] at k <;> cases k
    · rw [h2] at e'
      cases e'
      exact z.keeps kp2
  · obtain ⟨v, z⟩ := I.cell y c (cm e).1
    exact ⟨v, z.keeps kp2⟩
  · obtain rfl : p = (h'.objs.size, o) := List.mem_singleton.mp hp
    refine ⟨Heap.get?_push_size _ hoc, I.hok.fresh (by rw [hsz]; exact Nat.le_succ _), ?_, fun z => ?_, hod⟩
    · show h'.objs.size ≠ s.heap.objs.size
      rw [hsz]
      exact Nat.succ_ne_self _
    · have q : h'.objs.size < s.heap.objs.size := fsLt _ z
      rw [hsz] at q
      exact Nat.lt_irrefl _ (Nat.lt_trans (Nat.lt_succ_self _) q)
end
section
variable {X : Cx}
/-- what the consumer sees at a yield: b0 lets it go on -/
def gY (X : Cx) (pa : List (Addr × Obj)) (σ : L2.St) (fp : List Addr) (tn : Nat → Heap → Prop) (b0 : Bool) (W : Nat → Nat → Hp → Prop) (Qf : Hp → Prop) : Protocol := fun n _ v s kap =>
  ∃ (i : Nat) (H : Hp) (b : Bool), v = .bool b ∧ L2.Inv X pa σ H s ∧ tn i s.heap ∧ (∀ b ∈ fp, H b = none) ∧ (b ≠ b0 → Qf H) ∧
    (b = b0 → (∃ m, m < n ∧ W i m H) ∧ ∀ s' : Shared, s'.heap = s.heap → s'.os = s.os → s'.drawn = s.drawn → AllBare s'.gens → kap (.send .none) s')
def gR (X : Cx) (pa : List (Addr × Obj)) (σ : L2.St) (Qe : Hp → Prop) : Nat → Shared → Shared → Prop := fun _ _ s => ∃ H, L2.Inv X pa σ H s ∧ Qe H
/-- the turns of such a walk, as the reading tells them -/
def Turns (J : It) (g : TG) (te : TE) (σ : L2.St) (vs : List Nat) (b0 : Bool) (W : Nat → Nat → Hp → Prop) (Qe Qf : Hp → Prop) : Prop := ∀ i m H, W i m H →
  (J.stop i H ∧ Qe H) ∨ (J.go i H ∧ ∃ Nx : Hp → Prop, (∀ H', Nx H' → ∃ m', m' < m ∧ W (i + 1) m' H') ∧ ∀ x H', J.yld i H x H' → g x (wipe σ vs) H' fun σ2 H2 => wipe σ2 vs = wipe σ vs ∧ te σ2 H2 fun y H3 => ∃ b, y = .bl b ∧ if b = b0 then Nx H3 else Qf H3)
theorem seg_turns {A : Around} {elt tg iter : Expr} {scope : Scope} {pos : Pos} {it : Addr} {fp : List Addr} {tn : Nat → Heap → Prop} {J : It} {g : TG} {te : TE} {σ : L2.St} {vs : List Nat} {b0 : Bool} {W : Nat → Nat → Hp → Prop} {Qe Qf : Hp → Prop} {pa : List (Addr × Obj)}
    (hA : A.deeper X.env = X.A) (hc : X.calm = true) (hpn : X.pn = []) (hpa : ∀ p ∈ pa, p.1 ∉ fp) (hex : X.ex = fp) (hco : X.env.scope.isCoroutine = false) (T : Turn X.prog X.w X.K tg J fp it tn) (pg : PG X tg g) (pe : PE X elt te) (hxe : X.xe = fun _ _ => False)
    (turn : Turns J g te σ vs b0 W Qe Qf) :
    ∀ (n m i : Nat) (s₀ s : Shared) (H : Hp), m < n → W i m H → L2.Inv X pa (wipe σ vs) H s → tn i s.heap → (∀ b ∈ fp, H b = none) →
      Seg (model X.prog X.w) A (fun n s₀ r s₁ => r = .ok .next ∧ gR X pa (wipe σ vs) Qe n s₀ s₁) (gY X pa (wipe σ vs) fp tn b0 W Qf) n s₀ (.compLoop (.GeneratorExp elt [⟨tg, iter, [], 0⟩] scope pos) 0 (.ref it) .none X.env)
        ((model X.prog X.w).den (.compLoop (.GeneratorExp elt [⟨tg, iter, [], 0⟩] scope pos) 0 (.ref it) .none X.env)) [] s := by
  have stat : ∀ {σ' : L2.St} {H' : Hp} {s' : Shared}, L2.Inv X pa σ' H' s' → (∀ b ∈ fp, H' b = none) → ∀ b ∈ fp, FpOk X pa H' b := fun {σ' H' s'} I' hn b hb => by
    have hb' : b ∈ X.ex := by rw [hex]; exact hb
    refine ⟨hn b hb, (I'.ok.exf b hb').1, I'.ok.exfs b hb', .inl hb', fun x c e => (I'.ok.exf b hb').2 x c e, fun p hp z => ?_⟩
    rw [hpn, List.nil_append] at hp
    exact hpa p hp (z ▸ hb)
  have ov : A.over (.compLoop (.GeneratorExp elt [⟨tg, iter, [], 0⟩] scope pos) 0 (.ref it) .none X.env) [] = X.A := by
    rw [over_cl]
    exact hA
  intro n
  induction n with
  | zero => intro m i s₀ s H h; exact absurd h (Nat.not_lt_zero _)
  | succ n ih =>
    intro m i s₀ s H hm w I st nf
    show Seg _ A _ _ _ s₀ _ ((compTurn (.GeneratorExp elt [⟨tg, iter, [], 0⟩] scope pos) 0 (.ref it) .none X.env).onRaise (leaving X.env)) [] s
    rw [compTurn_gen, Sem.onRaise_eq_wrap]
    refine seg_bind_wrap (wpAny_standAt ?_)
    rcases turn i m H w with ⟨stop, qe⟩ | ⟨go, Nx, hNx, step⟩
    · refine seg_bind_wrap ?_
      rw [ov]
      refine thnF (T.done X rfl rfl rfl hc i pa s _ H (fun _ _ => False) I (stat I nf) st stop) fun r s1 ⟨hr, I1⟩ => ?_
      subst hr
      exact seg_end (.ok .next) ⟨rfl, H, I1, qe⟩
    · refine seg_bind_wrap ?_
      rw [ov]
      refine thnF (T.item X rfl rfl rfl hc i pa s _ H (fun _ _ => False) I (stat I nf) st go) fun r s1 ⟨u, hr, h1⟩ => ?_
      subst hr
      refine seg_bind_wrap ?_
      rw [ov]
      refine thnF h1 fun _ s2 ⟨x, H2, I2, r2, y2, st2, n2⟩ => ?_
      have I2' := I2.pinned (stat I2 n2) (T.obj _ _ st2)
      refine seg_bind_wrap ?_
      rw [ov]
      have e0 : X.xe = fun _ _ => False := hxe
      have pgr := pg.run _ s2 _ H2 x u _ I2' r2 (step x H2 y2)
      rw [e0] at pgr
      refine thnF pgr fun _ s3 ⟨σ3, H3, I3, hw3, q3⟩ => ?_
      refine seg_bind_wrap ?_
      simp only [List.forIn_nil]
      refine wpAny_pure ?_
      simp only [if_true]
      have hy : ∀ v, yieldOut X.env v = yieldValue v := fun v => by simp only [yieldOut, hco, Bool.false_eq_true, if_false]
      simp only [hy]
      rw [Sem.bind_eq_wrap', Sem.bind_eq_wrap', Sem.wrap_wrap, Sem.wrap_wrap]
      refine seg_wrap ?_
      rw [ov]
      have per := pe.run _ s3 σ3 H3 _ I3 q3
      rw [e0] at per
      refine thnF per fun z s4 ⟨yv, H4, I4, r4, b, eb, q4⟩ => ?_
      subst eb
      obtain rfl : z = Value.bool b := r4
      have pin' : ∀ b ∈ fp, ∀ o, s2.heap.get? b = some o → s4.heap.get? b = some o ∧ H4 b = none := fun b hb o e =>
        let z := I4.pin (b, o) (List.mem_append_right _ (List.mem_append_right _ (mem_pinsAt hb e)))
        ⟨z.1, z.2.1⟩
      have hl : (wipe σ vs).length = σ3.length := by rw [← hw3, wipe_length]
      have J4 : L2.Inv X pa (wipe σ vs) H4 s4 := (I4.pins_of fun p hp => I4.pin p (List.mem_append_right _ (List.mem_append_left _ hp))).weak hl fun j v e => by
        rw [← hw3] at e
        exact (wipe_some e).1
      have st4 : tn (i + 1) s4.heap := T.keep _ _ _ st2 fun b hb o e => (pin' b hb o e).1
      have n4 : ∀ b ∈ fp, H4 b = none := fun b hb => by
        obtain ⟨o, e, _⟩ := T.obj _ _ st2 b hb
        exact (pin' b hb o e).2
      refine seg_at (seg_yield rfl rfl rfl ⟨i + 1, H4, b, rfl, J4, st4, n4, fun hb => ?_, fun hb => ?_⟩)
      · rw [if_neg hb] at q4
        exact q4
      · rw [if_pos hb] at q4
        obtain ⟨m', hm', w'⟩ := hNx H4 q4
        refine ⟨⟨m', by omega, w'⟩, fun s' h1 h2 h3 h4 => ?_⟩
        refine seg_again rfl (ih m' (i + 1) s' s' H4 (by omega) w' ?_ (by rw [h1]; exact st4) n4)
        have J5 := Inv_gens (g' := s'.gens) (t' := s'.toks) J4 h4
        obtain ⟨hp', g', d', t', o'⟩ := s'
        obtain rfl : hp' = s4.heap := h1
        obtain rfl : o' = s4.os := h2
        obtain rfl : d' = s4.drawn := h3
        exact J5
theorem seg_begin {A : Around} {elt tg iter : Expr} {scope : Scope} {pos : Pos} {it : Addr} {R : GenEnd} {Y : Protocol} {n : Nat} {s₀ s : Shared} {env : Env}
    (hs : ∀ (B : Around) (Q : Value → Shared → Prop) (E : Value → Shared → Prop), Q (.ref it) s → wpAny (model X.prog X.w) B (pyIter (.ref it)) Q E s)
    (loop : Seg (model X.prog X.w) A R Y n s₀ (.compLoop (.GeneratorExp elt [⟨tg, iter, [], 0⟩] scope pos) 0 (.ref it) .none env) ((model X.prog X.w).den (.compLoop (.GeneratorExp elt [⟨tg, iter, [], 0⟩] scope pos) 0 (.ref it) .none env)) [] s) :
    Seg (model X.prog X.w) A R Y n s₀ (.compStart (.GeneratorExp elt [⟨tg, iter, [], 0⟩] scope pos) 0 (.ref it) .none env) ((model X.prog X.w).den (.compStart (.GeneratorExp elt [⟨tg, iter, [], 0⟩] scope pos) 0 (.ref it) .none env)) [] s := by
  show Seg _ A _ _ _ s₀ _ ((compStart (.GeneratorExp elt [⟨tg, iter, [], 0⟩] scope pos) 0 (.ref it) .none env).onRaise (leaving env)) [] s
  unfold compStart
  rw [Sem.onRaise_eq_wrap]
  show Seg _ A R Y n s₀ _ ((ask >>= _).wrap _ _ _ _) [] s
  refine seg_bind_wrap (wpAny_askSetting ?_)
  split
  · exact seg_again rfl loop
  · first
      | exact seg_bind_wrap (wpAny_rule (seg_bind_wrap (wpAny_standAt (seg_bind_wrap (hs _ _ _ (seg_again rfl loop))))))
      | (refine seg_bind_wrap (wpAny_rule ?_); show Seg _ A R Y n s₀ _ ((standAt iter.pos >>= _).wrap _ _ _ _) [] s; exact seg_bind_wrap (wpAny_standAt (seg_bind_wrap (hs _ _ _ (seg_again rfl loop)))))
/-- a generator expression's object stands ready -/
def GRdy (X : Cx) (A : Around) (pa : List (Addr × Obj)) (σ : L2.St) (fp : List Addr) (tn : Nat → Heap → Prop) (b0 : Bool) (W : Nat → Nat → Hp → Prop) (Qe Qf : Hp → Prop) (a : Addr) (g n : Nat) (s : Shared) : Prop :=
  s.heap.IsGen a g ∧ s.heap.NoLimit ∧ ∃ gs, s.gens[g]? = some gs ∧ gs.Goes (model X.prog X.w) A (fun n s₀ r s₁ => r = .ok .next ∧ gR X pa σ Qe n s₀ s₁) (gY X pa σ fp tn b0 W Qf) n (.send .none) (s.setGen g .running)
theorem all_loop {A B : Around} {pa : List (Addr × Obj)} {σ : L2.St} {fp : List Addr} {tn : Nat → Heap → Prop} {W : Nat → Nat → Hp → Prop} {Qe Qf : Hp → Prop} {a : Addr} {g : Nat} {R : Result → Shared → Prop} (hB : A.in1.in1 = B) (hh : A.handled = none) (hd : A.depth < recursionLimit)
    (hag : ∀ {σ' : L2.St} {H' : Hp} {s' : Shared}, L2.Inv X pa σ' H' s' → s'.heap.IsGen a g)
    (he : ∀ H' s', L2.Inv X pa σ H' s' → Qe H' → R (.ok (.ret (.bool true))) s') (hf : ∀ H' s', L2.Inv X pa σ H' s' → Qf H' → R (.ok (.ret (.bool false))) s') :
    ∀ (n : Nat) (s : Shared), GRdy X B pa σ fp tn true W Qe Qf a g n s → codeAny (model X.prog X.w) A (.builtin "all.loop" ⟨[.ref a], []⟩) R s := by
  subst hB
  have step : ∀ (n : Nat) (s : Shared), (∀ m s', n = m + 1 → GRdy X A.in1.in1 pa σ fp tn true W Qe Qf a g m s' → codeAny (model X.prog X.w) A (.builtin "all.loop" ⟨[.ref a], []⟩) R s') → GRdy X A.in1.in1 pa σ fp tn true W Qe Qf a g n s → codeAny (model X.prog X.w) A (.builtin "all.loop" ⟨[.ref a], []⟩) R s := by
    intro n s ih ⟨hg, hl, gs, hgs, hgo⟩
    have hgl : g < s.gens.size := (Array.getElem?_eq_some_iff.mp hgs).1
    refine codeAny_builtin F.entry_all_loop ?_
    rw [Around.under_plainId F.plain_all_loop _]
    show wpAny _ A.in1 (pyNext (.ref a) >>= _) _ _ s
    refine wpAny_bind (wpAny_gsz (n := g + 1) hgl (wpAny_pyNext_genexpQ (A := A.in1) hh hl hd hg hgs hgo (fun v s₁ gs' hbare hv hsz => ?_) (fun s₁ hp h' hk hsz => ?_)))
    · obtain ⟨i, H', b, rfl, I, st, nf, qf, qn⟩ := hv
      have hsz1 : g < s₁.gens.size := by
        have q : (s₁.setGen g gs').gens.size = s₁.gens.size := setGen_size _ _ _
        have q2 : g + 1 ≤ (s₁.setGen g gs').gens.size := hsz
        omega
      have J : L2.Inv X pa σ H' (s₁.setGen g gs') := Inv_gens I (allBare_setGen I.bare hbare)
      refine wpAny_bind (wpAny_holding (wpAny_truthy_bool ?_))
      refine wpAny_bind (wpAny_letGo ?_)
      cases b with
      | true =>
        obtain ⟨_, kap⟩ := qn rfl
        simp only [if_true]
        cases n with
        | zero => exact (kap s₁ rfl rfl rfl I.bare).elim
        | succ m =>
          refine wpAny_pure ⟨plainId_quiet F.plain_all_loop _, ih m _ rfl ⟨hag J, J.nolimit, gs', setGen_at hsz1, ?_⟩⟩
          exact kap _ rfl rfl rfl (allBare_setGen J.bare rfl)
      | false =>
        simp only [Bool.false_eq_true, if_false]
        exact wpAny_bind (wpAny_rule (wpAny_pure (hf H' _ J (qf Bool.false_ne_true))))
    · obtain ⟨H', I, qe⟩ := hp
      refine wpAny_bind (wpAny_rule (wpAny_pure (he H' _ ?_ qe)))
      have J : L2.Inv X pa σ H' (s₁.setGen g .finished) := Inv_gens I (allBare_setGen I.bare rfl)
      exact J.kept (t' := (s₁.setGen g .finished).toks) hk
  intro n
  induction n with
  | zero => exact fun s => step 0 s fun m s' h => nomatch h
  | succ n ih =>
    refine fun s => step (n + 1) s fun m s' h => ?_
    obtain rfl : n = m := Nat.succ.inj h
    exact ih s'
theorem any_loop {A B : Around} {pa : List (Addr × Obj)} {σ : L2.St} {fp : List Addr} {tn : Nat → Heap → Prop} {W : Nat → Nat → Hp → Prop} {Qe Qf : Hp → Prop} {a : Addr} {g : Nat} {R : Result → Shared → Prop} (hB : A.in1.in1 = B) (hh : A.handled = none) (hd : A.depth < recursionLimit)
    (hag : ∀ {σ' : L2.St} {H' : Hp} {s' : Shared}, L2.Inv X pa σ' H' s' → s'.heap.IsGen a g)
    (he : ∀ H' s', L2.Inv X pa σ H' s' → Qe H' → R (.ok (.ret (.bool false))) s') (hf : ∀ H' s', L2.Inv X pa σ H' s' → Qf H' → R (.ok (.ret (.bool true))) s') :
    ∀ (n : Nat) (s : Shared), GRdy X B pa σ fp tn false W Qe Qf a g n s → codeAny (model X.prog X.w) A (.builtin "any.loop" ⟨[.ref a], []⟩) R s := by
  subst hB
  have step : ∀ (n : Nat) (s : Shared), (∀ m s', n = m + 1 → GRdy X A.in1.in1 pa σ fp tn false W Qe Qf a g m s' → codeAny (model X.prog X.w) A (.builtin "any.loop" ⟨[.ref a], []⟩) R s') → GRdy X A.in1.in1 pa σ fp tn false W Qe Qf a g n s → codeAny (model X.prog X.w) A (.builtin "any.loop" ⟨[.ref a], []⟩) R s := by
    intro n s ih ⟨hg, hl, gs, hgs, hgo⟩
    have hgl : g < s.gens.size := (Array.getElem?_eq_some_iff.mp hgs).1
    refine codeAny_builtin F.entry_any_loop ?_
    rw [Around.under_plainId F.plain_any_loop _]
    show wpAny _ A.in1 (pyNext (.ref a) >>= _) _ _ s
    refine wpAny_bind (wpAny_gsz (n := g + 1) hgl (wpAny_pyNext_genexpQ (A := A.in1) hh hl hd hg hgs hgo (fun v s₁ gs' hbare hv hsz => ?_) (fun s₁ hp h' hk hsz => ?_)))
    · obtain ⟨i, H', b, rfl, I, st, nf, qf, qn⟩ := hv
      have hsz1 : g < s₁.gens.size := by
        have q : (s₁.setGen g gs').gens.size = s₁.gens.size := setGen_size _ _ _
        have q2 : g + 1 ≤ (s₁.setGen g gs').gens.size := hsz
        omega
      have J : L2.Inv X pa σ H' (s₁.setGen g gs') := Inv_gens I (allBare_setGen I.bare hbare)
      refine wpAny_bind (wpAny_holding (wpAny_truthy_bool ?_))
      refine wpAny_bind (wpAny_letGo ?_)
      cases b with
      | true =>
        simp only [if_true]
        exact wpAny_bind (wpAny_rule (wpAny_pure (hf H' _ J (qf fun z => nomatch z))))
      | false =>
        obtain ⟨_, kap⟩ := qn rfl
        simp only [Bool.false_eq_true, if_false]
        cases n with
        | zero => exact (kap s₁ rfl rfl rfl I.bare).elim
        | succ m =>
          refine wpAny_pure ⟨plainId_quiet F.plain_any_loop _, ih m _ rfl ⟨hag J, J.nolimit, gs', setGen_at hsz1, ?_⟩⟩
          exact kap _ rfl rfl rfl (allBare_setGen J.bare rfl)
    · obtain ⟨H', I, qe⟩ := hp
      refine wpAny_bind (wpAny_rule (wpAny_pure (he H' _ ?_ qe)))
      have J : L2.Inv X pa σ H' (s₁.setGen g .finished) := Inv_gens I (allBare_setGen I.bare rfl)
      exact J.kept (t' := (s₁.setGen g .finished).toks) hk
  intro n
  induction n with
  | zero => exact fun s => step 0 s fun m s' h => nomatch h
  | succ n ih =>
    refine fun s => step (n + 1) s fun m s' h => ?_
    obtain rfl : n = m := Nat.succ.inj h
    exact ih s'
/-- b0: true for all, false for any; vs: the expression's own slots; P: the def's table -/
def tAG (b0 : Bool) (wi : TI) (g : TG) (te : TE) (vs : List Nat) (P : Addr) : TE := fun σ H Q => wi σ H fun J H1 => TabG H1 P ∧ ∀ H2, Tabbed P H1 H2 → ∃ W : Nat → Nat → Hp → Prop, (∃ m, W 0 m H2) ∧ Turns J g te σ vs b0 W (fun H => Q (.bl b0) H) fun H => Q (.bl (!b0)) H
variable {pins : List (Addr × Obj)} {σ : L2.St} {H : Hp} {s : Shared}
theorem gen_make {c P : Addr} {elt tg iter : Expr} {scope : Scope} {gpos : Pos} {own : List (Str × Nat)} {wi : TI} {g : TG} {te : TE} {k : Nat} {b0 : Bool} {Q : VK} {Q' : Value → Shared → Prop} (hc : X.calm = true) (hN : X.N.Nodup)
    (hr : Room k X.A) (TB : TabB X.base X.mg c P) (hcode : X.env.code = .ref c) (ok : GnOk X.N X.env.scope scope own) (hi : PI X tg iter wi)
    (hg : ∀ (s : Shared) (H : Hp) (cl : List (Str × Addr)) (C : Addr) (code : Value) (fp : List Addr), PG (gX X s H (genEnv scope cl C code builtinsNs X.env) fp) tg g)
    (he : ∀ (s : Shared) (H : Hp) (cl : List (Str × Addr)) (C : Addr) (code : Value) (fp : List Addr), PE (gX X s H (genEnv scope cl C code builtinsNs X.env) fp) elt te)
    (hs : ∀ v, genFold iter X.env v = pure v) (I : L2.Inv X pins σ H s) (h : tAG b0 wi g te (own.map (·.2)) P σ H Q)
    (hQ : ∀ (Y : Cx) (pa : List (Addr × Obj)) (fp : List Addr) (tn : Nat → Heap → Prop) (W : Nat → Nat → Hp → Prop) (a : Addr) (gn n : Nat) (s5 : Shared), Y.prog = X.prog → Y.w = X.w → (∀ {σ' : L2.St} {H' : Hp} {s' : Shared}, L2.Inv Y pa σ' H' s' → s'.heap.IsGen a gn) →
      (∀ H' s', L2.Inv Y pa (wipe σ (own.map (·.2))) H' s' → L2.Inv X pins σ H' s') → s5.heap.IsGen a gn → GRdy Y X.A.in1.in1 pa (wipe σ (own.map (·.2))) fp tn b0 W (fun H => Q (.bl b0) H) (fun H => Q (.bl (!b0)) H) a gn n s5 → Q' (.ref a) s5) :
    wpAny (model X.prog X.w) X.A (eval (.GeneratorExp elt [⟨tg, iter, [], 0⟩] scope gpos) X.env) Q' X.xe s := by
  have bk := ok.blk
  have hfree : ∀ y ∈ scope.names, y.2 = .free → ∃ c, X.env.cells.lookup y.1 = some c := fun y hy e => (bk.free y hy e).elim (fun k => I.ok.has _ (.inl k)) fun k => I.ok.has _ (.inr k)
  refine wpAny_GeneratorExp_make ok.co (closure_ok hfree) ok.cell ok.dot bk.kind (by have := hr.dp; omega) (thn (hi.run pins s σ H _ I h) fun xv s1 hx => thn hx fun itv s2 h2 => ?_) hs
  obtain ⟨it, fp, tn, J, H1, rfl, I1, T, st, hf, ⟨ps, hP, ht⟩, q⟩ := h2
  have hPs : s2.heap.get? P = some { cls := .none, data := .fields ps } := I1.hok P _ hP
  have cd : PySem.W.CodeHd s2.heap c P := TB.code.keeps fun b u e => I1.bk b u e
  have nP : ∀ b ∈ fp, b ≠ P := fun b hb z => by
    have q := (hf b hb).1
    rw [z, hP] at q
    cases q
  have cont : ∀ (code : Value) (h3 : Heap) (tk : Nat) (more : Array Value), Heap.ExtBut P s2.heap h3 → s2.heap.objs.size ≤ h3.objs.size → h3.get? P = some { cls := .none, data := .fields (ps ++ more) } → TriplesOk (ps ++ more).toList →
      wpAny (model X.prog X.w) X.A (builtinsFor X.env.globals X.env.builtins) (fun bi s₄ => ∀ h', h'.Ns s₄.heap.objs.size (fun y => if y = ".0" then some (Value.ref it) else none) → Heap.SameBut s₄.heap.objs.size (s₄.heap.push { cls := .type "frame", data := .dict #[] }) h' →
          Q' (.ref h'.objs.size) { s₄ with
            gens := s₄.gens.push (.fresh (.compStart (.GeneratorExp elt [⟨tg, iter, [], 0⟩] scope gpos) 0 (.ref it) .none (genEnv scope (cloFrom X.env.cells scope.names []) s₄.heap.objs.size code bi X.env)))
            toks := s₄.toks + 1 + 1 + 1
            heap := h'.push { cls := .type "generator", data := .fields #[.int s₄.gens.size 0, .str "<genexpr>" (s₄.toks + 1), .str (X.env.qual ++ "<genexpr>") (s₄.toks + 1 + 1)] } }) X.xe { s2 with heap := h3, toks := tk } := by
    intro code h3 tk more hx hsz hP3 ht3
    obtain ⟨bm, ob, e1, e2, e3, e4, e5, e6, e7, e8⟩ := TB.bm
    have J3 : L2.Inv X pins σ (upd H1 P (.tbl (ps ++ more))) { s2 with heap := h3, toks := tk } := inv_tab (more := more) (h' := h3) (g' := s2.gens) (d' := s2.drawn) (t' := tk) I1 hP (fun b u hb e => hx b u hb e) hP3 I1.bare
    refine wpAny_builtinsFor (m := X.mg) (by rw [I1.ok.glob]; exact J3.mod.glob.keeps J3.bk) e1 e2 (J3.bk _ _ e5) e6 e7 e8 ?_
    intro h' hn' hs'
    obtain ⟨W, ⟨m0, w0⟩, turn⟩ := q (upd H1 P (.tbl (ps ++ more))) ⟨⟨ps ++ more, upd_same, ht3⟩, fun b hb => upd_ne hb⟩
    have hsz' : h'.objs.size = h3.objs.size + 1 := by rw [hs'.1, Heap.size_push]
    have kp : ∀ b o, h3.get? b = some o → h'.get? b = some o := fun b o e => hs'.extBut b o (Nat.ne_of_lt (Heap.lt_size e)) (Heap.get?_push_of_some _ e)
    have hf3 : ∀ b ∈ fp, FpOk X pins (upd H1 P (.tbl (ps ++ more))) b ∧ b < h3.objs.size := fun b hb => by
      obtain ⟨o, e, _⟩ := T.obj _ _ st b hb
      refine ⟨⟨?_, (hf b hb).2⟩, Nat.lt_of_lt_of_le (Heap.lt_size e) hsz⟩
      rw [upd_ne (nP b hb)]
      exact (hf b hb).1
    have st3 : tn 0 h3 := T.keep _ _ _ st fun b hb o e => hx b o (nP b hb) e
    have st4 : tn 0 h' := T.keep _ _ _ st3 fun b hb o e => kp b o e
    have I5 := gen_start (fp := fp) (own := own) (scope := scope) (code := code) (h' := h') (o := { cls := .type "generator", data := .fields #[.int s2.gens.size 0, .str "<genexpr>" (tk + 1), .str (X.env.qual ++ "<genexpr>") (tk + 1 + 1)] })
      (gs := .fresh (.compStart (.GeneratorExp elt [⟨tg, iter, [], 0⟩] scope gpos) 0 (.ref it) .none (genEnv scope (cloFrom X.env.cells scope.names []) h3.objs.size code builtinsNs X.env))) (tk := tk + 1 + 1 + 1) J3 ok hN hf3 hn' hsz' kp (fun v z => by cases z) rfl rfl
    have pgx := hg { s2 with heap := h3, toks := tk } (upd H1 P (.tbl (ps ++ more))) (cloFrom X.env.cells scope.names []) h3.objs.size code fp
    have pex := he { s2 with heap := h3, toks := tk } (upd H1 P (.tbl (ps ++ more))) (cloFrom X.env.cells scope.names []) h3.objs.size code fp
    have gen : ∀ {σ' : L2.St} {H' : Hp} {s' : Shared}, L2.Inv (gX X { s2 with heap := h3, toks := tk } (upd H1 P (.tbl (ps ++ more))) (genEnv scope (cloFrom X.env.cells scope.names []) h3.objs.size code builtinsNs X.env) fp) [(h'.objs.size, _)] σ' H' s' → s'.heap.IsGen h'.objs.size s2.gens.size := fun {σ' H' s'} Z =>
      ⟨_, _, _, (Z.pin (h'.objs.size, { cls := .type "generator", data := .fields #[.int s2.gens.size 0, .str "<genexpr>" (tk + 1), .str (X.env.qual ++ "<genexpr>") (tk + 1 + 1)] }) (List.mem_append_right _ List.mem_cons_self)).1, rfl, rfl, rfl⟩
    refine hQ (gX X { s2 with heap := h3, toks := tk } (upd H1 P (.tbl (ps ++ more))) (genEnv scope (cloFrom X.env.cells scope.names []) h3.objs.size code builtinsNs X.env) fp) [(h'.objs.size, _)] fp tn W h'.objs.size s2.gens.size (m0 + 1) _ rfl rfl gen (fun H' s' Z => ?_) (gen I5) ⟨gen I5, I5.nolimit, _, Array.getElem?_push_size .., rfl, ?_⟩
    · exact J3.call' (ch := fp) Z.os Z.base Z.hok Z.bare fun b hb => ⟨(hf3 b hb).1.2.2.2.1, (hf3 b hb).1.2.1, (hf3 b hb).1.2.2.2.2.1, (hf3 b hb).1.2.2.2.2.2⟩
    · have I6 := Inv_gens (g' := (Shared.setGen _ s2.gens.size .running).gens) (t' := tk + 1 + 1 + 1) I5 (allBare_setGen (g := s2.gens.size) (x := .running) I5.bare rfl)
      have st6 : tn 0 (h'.push { cls := .type "generator", data := .fields #[.int s2.gens.size 0, .str "<genexpr>" (tk + 1), .str (X.env.qual ++ "<genexpr>") (tk + 1 + 1)] }) := T.keep _ _ _ st4 fun b hb o e => Heap.get?_push_of_some _ e
      refine seg_begin (X := X) (fun B Q E z => T.self B 0 _ Q E st6 z) ?_
      refine seg_turns (X := gX X { s2 with heap := h3, toks := tk } (upd H1 P (.tbl (ps ++ more))) (genEnv scope (cloFrom X.env.cells scope.names []) h3.objs.size code builtinsNs X.env) fp) rfl hc rfl (fun p hp z => ?_) rfl ok.co T pgx pex rfl turn (m0 + 1) m0 0 _ _ (upd H1 P (.tbl (ps ++ more))) (Nat.lt_succ_self _) w0 I6 st6 fun b hb => (hf3 b hb).1.1
      obtain rfl : p = (h'.objs.size, _) := List.mem_singleton.mp hp
      have z2 : h'.objs.size < h3.objs.size := (hf3 _ z).2
      omega
  refine ⟨I1.nolimit, ?_⟩
  cases hf' : codeAmong gpos ps.toList with
  | none =>
    refine wpAny_genexprCodeX hcode (cd.code hPs ht) (cd.tab hPs) hf' fun c' h' tk hx hge hlt hco' _ htab' _ => ?_
    obtain ⟨o1, vs, f1, tf, fl, tgg, inF, tx, tt, op, _, _, _, _, _, _, _, _, _, htr, _⟩ := hco'
    exact cont _ h' tk _ hx (Nat.le_trans hge (Nat.le_of_lt hlt)) htab'.2 htr
  | some cv =>
    refine wpAny_genexprCode_hit hcode (cd.code hPs ht) hf' ?_
    have e : ps ++ #[] = ps := by simp
    exact cont cv s2.heap s2.toks #[] (Heap.ExtBut.refl _ _) (Nat.le_refl _) (by rw [e]; exact hPs) (by rw [e]; exact ht)
theorem pe_all {c P : Addr} {elt tg iter : Expr} {scope : Scope} {p pos gpos : Pos} {own : List (Str × Nat)} {wi : TI} {g : TG} {te : TE} {k : Nat} (hc : X.calm = true) (hN : X.N.Nodup)
    (hr : Room k X.A) (hgl : Gl X "all") (hm : X.mg "all" = none) (TB : TabB X.base X.mg c P) (hcode : X.env.code = .ref c) (ok : GnOk X.N X.env.scope scope own) (hi : PI X tg iter wi)
    (hg : ∀ (s : Shared) (H : Hp) (cl : List (Str × Addr)) (C : Addr) (code : Value) (fp : List Addr), PG (gX X s H (genEnv scope cl C code builtinsNs X.env) fp) tg g)
    (he : ∀ (s : Shared) (H : Hp) (cl : List (Str × Addr)) (C : Addr) (code : Value) (fp : List Addr), PE (gX X s H (genEnv scope cl C code builtinsNs X.env) fp) elt te)
    (hs : ∀ v, genFold iter X.env v = pure v := by intro _; rfl)
    (hst : starEach [.GeneratorExp elt [⟨tg, iter, [], 0⟩] scope gpos] X.env = (false, eval (.GeneratorExp elt [⟨tg, iter, [], 0⟩] scope gpos) X.env) :: starEach [] X.env := by rfl) :
    PE X (.Call (.Name "all" p) [.GeneratorExp elt [⟨tg, iter, [], 0⟩] scope gpos] [] pos) (tAG true wi g te (own.map (·.2)) P) := by
  refine ⟨fun pins s σ H Q I h => wpAny_Call_Name_kw (ld_blt I hgl hm (by decide +kernel : bootBuiltins "all" = some (.builtin "all")) (PyProof.Rows.callWith_builtin1 ?_ hst (by rfl)))⟩
  rw [hst]
  show wpAny _ _ (spliced ((false, eval (.GeneratorExp elt [⟨tg, iter, [], 0⟩] scope gpos) X.env) :: backTo pos (starEach [] X.env))) _ _ s
  refine Calls.spliced_cons (gen_make (b0 := true) (Q := Q) hc hN hr TB hcode ok hi hg he hs I h fun Y pa fp tn W a gn n s5 e1 e2 hag back hg5 rdy => Calls.spliced_nil ?_)
  refine call_function_tree F.kind_all F.plain_all F.entry_all (F.args_all1 _) ?_
  unfold Builtin.«all»
  refine wpAny_bind (m := oneArg "all" _) (wpAny_pure (wpAny_bind (wpAny_pyIter_gen hg5 (wpAny_pure ⟨plainId_quiet F.plain_all_loop _, ?_⟩))))
  rw [← e1, ← e2]
  exact all_loop rfl hr.hd (by have := hr.dp; omega) hag (fun H' s' z q => ⟨.bl true, H', back H' s' z, rfl, q⟩) (fun H' s' z q => ⟨.bl false, H', back H' s' z, rfl, q⟩) n s5 rdy
theorem pe_any {c P : Addr} {elt tg iter : Expr} {scope : Scope} {p pos gpos : Pos} {own : List (Str × Nat)} {wi : TI} {g : TG} {te : TE} {k : Nat} (hc : X.calm = true) (hN : X.N.Nodup)
    (hr : Room k X.A) (hgl : Gl X "any") (hm : X.mg "any" = none) (TB : TabB X.base X.mg c P) (hcode : X.env.code = .ref c) (ok : GnOk X.N X.env.scope scope own) (hi : PI X tg iter wi)
    (hg : ∀ (s : Shared) (H : Hp) (cl : List (Str × Addr)) (C : Addr) (code : Value) (fp : List Addr), PG (gX X s H (genEnv scope cl C code builtinsNs X.env) fp) tg g)
    (he : ∀ (s : Shared) (H : Hp) (cl : List (Str × Addr)) (C : Addr) (code : Value) (fp : List Addr), PE (gX X s H (genEnv scope cl C code builtinsNs X.env) fp) elt te)
    (hs : ∀ v, genFold iter X.env v = pure v := by intro _; rfl)
    (hst : starEach [.GeneratorExp elt [⟨tg, iter, [], 0⟩] scope gpos] X.env = (false, eval (.GeneratorExp elt [⟨tg, iter, [], 0⟩] scope gpos) X.env) :: starEach [] X.env := by rfl) :
    PE X (.Call (.Name "any" p) [.GeneratorExp elt [⟨tg, iter, [], 0⟩] scope gpos] [] pos) (tAG false wi g te (own.map (·.2)) P) := by
  refine ⟨fun pins s σ H Q I h => wpAny_Call_Name_kw (ld_blt I hgl hm (by decide +kernel : bootBuiltins "any" = some (.builtin "any")) (PyProof.Rows.callWith_builtin1 ?_ hst (by rfl)))⟩
  rw [hst]
  show wpAny _ _ (spliced ((false, eval (.GeneratorExp elt [⟨tg, iter, [], 0⟩] scope gpos) X.env) :: backTo pos (starEach [] X.env))) _ _ s
  refine Calls.spliced_cons (gen_make (b0 := false) (Q := Q) hc hN hr TB hcode ok hi hg he hs I h fun Y pa fp tn W a gn n s5 e1 e2 hag back hg5 rdy => Calls.spliced_nil ?_)
  refine call_function_tree F.kind_any F.plain_any F.entry_any (F.args_any1 _) ?_
  unfold Builtin.«any»
  refine wpAny_bind (m := oneArg "any" _) (wpAny_pure (wpAny_bind (wpAny_pyIter_gen hg5 (wpAny_pure ⟨plainId_quiet F.plain_any_loop _, ?_⟩))))
  rw [← e1, ← e2]
  exact any_loop rfl hr.hd (by have := hr.dp; omega) hag (fun H' s' z q => ⟨.bl false, H', back H' s' z, rfl, q⟩) (fun H' s' z q => ⟨.bl true, H', back H' s' z, rfl, q⟩) n s5 rdy
end
/-- such a walk over anything that HandS.Walk knows -/
theorem turns_it {J : It} {n : Nat} {G : Hp → Prop} {Y : Nat → Hp → V → Hp → Prop} (w : Walk J n G Y) {g : TG} {te : TE} {vs : List Nat} {σ : L2.St} {b0 : Bool} {Hs : Hp} {Qe Qf : Hp → Prop} (Pv : Nat → Hp → Prop) (h0 : Pv 0 Hs) (hG : ∀ i H, i ≤ n → Pv i H → G H)
    (hs : ∀ i x H H', i < n → Pv i H → Y i H x H' → g x (wipe σ vs) H' fun σ2 H2 => wipe σ2 vs = wipe σ vs ∧ te σ2 H2 fun y H3 => ∃ b, y = .bl b ∧ if b = b0 then Pv (i + 1) H3 else Qf H3) (hd : ∀ H, Pv n H → Qe H) :
    ∃ W : Nat → Nat → Hp → Prop, (∃ m, W 0 m Hs) ∧ Turns J g te σ vs b0 W Qe Qf := by
  refine ⟨fun i m H => i ≤ n ∧ m + i = n ∧ Pv i H, ⟨n, Nat.zero_le _, rfl, h0⟩, fun i m H hW => ?_⟩
  obtain ⟨hi, hm, p⟩ := hW
  have q := hG i H hi p
  rcases Nat.lt_or_eq_of_le hi with hlt | rfl
  · exact .inr ⟨w.goes i H hlt q, Pv (i + 1), fun H' p' => ⟨m - 1, by omega, hlt, by omega, p'⟩, fun x H' y => hs i x H H' hlt p (w.yields i H x H' hlt q y)⟩
  · exact .inl ⟨w.stops H q, hd H p⟩
end KG

set_option linter.all false
set_option maxRecDepth 100000
set_option maxHeartbeats 4000000
namespace KM
open PySem PySem.Spec PyProof.Rows L2 KT
theorem small1000' {n : Nat} (h : n ≤ 2000) : n < sizeLine := Nat.lt_of_le_of_lt h (by decide)
def isW (z : Str) : Bool := z.cps.toList.all fun c => decide (c ∈ ("01" : Str).cps.toList)
theorem tw_all {p : Nat → Bool} : ∀ {l : List Nat}, l.all p = true → l.takeWhile p = l
  | [], _ => rfl
  | a :: r, h => by
    rw [List.all_cons, Bool.and_eq_true] at h
    rw [List.takeWhile_cons, h.1, tw_all h.2]
    rfl
theorem tw_lt {p : Nat → Bool} : ∀ {l : List Nat}, l.all p = false → (l.takeWhile p).length < l.length
  | [], h => by cases h
  | a :: r, h => by
    rw [List.takeWhile_cons]
    cases e : p a with
    | false => exact Nat.succ_pos _
    | true =>
      rw [List.all_cons, e, Bool.true_and] at h
      have ih := tw_lt h
      show (a :: r.takeWhile p).length < (a :: r).length
      rw [List.length_cons, List.length_cons]
      omega
theorem tw_head {p : Nat → Bool} : ∀ {l : List Nat}, l.all p = false → ∃ a r, l.drop (l.takeWhile p).length = a :: r ∧ p a = false
  | [], h => by cases h
  | a :: r, h => by
    rw [List.takeWhile_cons]
    cases e : p a with
    | false => exact ⟨a, r, rfl, e⟩
    | true =>
      rw [List.all_cons, e, Bool.true_and] at h
      exact tw_head h
theorem strip_len (goes : Nat → Bool) (z : Str) : (Txt.stripBy goes true true z).length = z.length - ((z.cps.toList.drop (z.cps.toList.takeWhile goes).length).reverse.takeWhile goes).length - (z.cps.toList.takeWhile goes).length := by
  have e1 : stripLo goes true z = (z.cps.toList.takeWhile goes).length := rfl
  have e2 : stripHi goes true z (stripLo goes true z) = z.length - ((z.cps.toList.drop (z.cps.toList.takeWhile goes).length).reverse.takeWhile goes).length := rfl
  unfold Txt.stripBy
  by_cases h : stripSame goes true true z = true
  · rw [if_pos h]
    unfold stripSame at h
    rw [Bool.and_eq_true] at h
    have h1 : stripLo goes true z = 0 := eq_of_beq h.1
    have h2 : stripHi goes true z (stripLo goes true z) = z.length := eq_of_beq h.2
    rw [← e2, ← e1, h2, h1, Nat.sub_zero]
  · rw [if_neg h]
    unfold stripped
    rw [size_strSub]
    · rw [e2, e1]
    · rw [e2]
      exact Nat.sub_le _ _
theorem len0 {z : Str} : z.length = 0 ↔ z = "" := by
  constructor
  · intro h
    obtain ⟨a⟩ := z
    have h2 : a.size = 0 := h
    have h3 : a = #[] := Array.eq_empty_of_size_eq_zero h2
    subst h3
    rfl
  · intro h
    subst h
    rfl
theorem strip_empty (goes : Nat → Bool) (z : Str) : (Txt.stripBy goes true true z = "") ↔ z.cps.toList.all goes = true := by
  rw [← len0, strip_len]
  have hl : z.cps.toList.length = z.length := by
    show z.cps.toList.length = z.cps.size
    rw [Array.length_toList]
  cases h : z.cps.toList.all goes with
  | true =>
    have e := tw_all h
    simp only [e, List.drop_length, List.reverse_nil, List.takeWhile_nil, List.length_nil, Nat.sub_zero, iff_true]
    omega
  | false =>
    have h1 := tw_lt h
    obtain ⟨a, r, h2, h3⟩ := tw_head h
    have h4 : ((z.cps.toList.drop (z.cps.toList.takeWhile goes).length).reverse).all goes = false := by
      rw [h2, List.all_reverse, List.all_cons, h3, Bool.false_and]
    have h5 := tw_lt h4
    rw [List.length_reverse, List.length_drop] at h5
    simp only [Bool.false_eq_true, iff_false]
    omega
theorem strip01 (z : Str) : decide (V.str (Txt.stripChars z "01") = V.str "") = isW z := by
  have h := strip_empty (("01" : Str).cps.contains) z
  have e : z.cps.toList.all (("01" : Str).cps.contains) = isW z := by
    unfold isW
    congr 1
    funext c
    rw [Array.contains_eq_mem]
    exact decide_eq_decide.mpr Array.mem_def
  rw [e] at h
  cases hw : isW z with
  | true => exact decide_eq_true (congrArg V.str (h.mpr hw))
  | false =>
    refine decide_eq_false fun q => ?_
    have z2 := h.mp (V.str.inj q)
    rw [hw] at z2
    cases z2
/-! ### signs of a text -/
def sg (c : Nat) : V := .str ⟨#[c]⟩
theorem dp_signs {K : PySem.W.Frag} {H : Hp} : ∀ cs : List Nat, DpAll K H (cs.map sg) (cs.map fun c => PyData.str ⟨#[c]⟩)
  | [] => .nil
  | c :: r => .cons (.str _) (dp_signs r)
theorem lay_signs : ∀ cs : List Nat, (∀ c ∈ cs, c < 128) → PyData.canLayAll0 (cs.map fun c => PyData.str ⟨#[c]⟩) = true
  | [], _ => rfl
  | c :: r, h => by
    show (PyData.canLay0 (.str ⟨#[c]⟩) && PyData.canLayAll0 (r.map fun c => PyData.str ⟨#[c]⟩)) = true
    rw [lay_signs r fun x hx => h x (List.mem_cons_of_mem _ hx), Bool.and_true]
    have hc := h c (List.mem_cons_self ..)
    show PyData.strOk ⟨#[c]⟩ = true
    have : c < 0x110000 := by omega
    simp [PyData.strOk, this]
theorem dep_signs : ∀ cs : List Nat, PyData.depthAll (cs.map fun c => PyData.str ⟨#[c]⟩) ≤ 1
  | [] => by simp [PyData.depthAll]
  | c :: r => by
    have h := dep_signs r
    simp only [List.map_cons, PyData.depthAll, PyData.depth]
    omega
theorem shaped_signs {cs : List Nat} (h : ∀ c ∈ cs, c < 128) : SeqAt.shaped (.list (cs.map fun c => PyData.str ⟨#[c]⟩)) = true := by
  unfold SeqAt.shaped
  rw [Bool.and_eq_true]
  refine ⟨lay_signs cs h, decide_eq_true ?_⟩
  have h2 := dep_signs cs
  simp only [PyData.depth]
  omega
theorem eqv_signs (cs : List Nat) : PyData.eqv (.list (cs.map fun c => PyData.str ⟨#[c]⟩)) (.list []) = cs.isEmpty := by
  cases cs <;> simp [PyData.eqv, PyData.eqvAll]
/-- a comprehension over a text that keeps some signs -/
theorem lc_signs {z : Str} {i : Nat} {tt : TT} {σ : L2.St} {H1 : Hp} {D : Addr} {Qd : Hp → Prop} (pb : Nat → Bool) (hz : z.length ≤ 2000) (hi : i < σ.length)
    (ht : ∀ c H (Q : Bool → Hp → Prop), c ∈ z.cps.toList → Q (pb c) H → tt ((wipe σ [i]).set i (some (sg c))) H Q) (hd : Qd (upd H1 D (.lst ((z.cps.toList.filter pb).map sg)))) :
    ∃ W : Nat → Nat → Hp → Prop, (∃ m, W 0 m (upd H1 D (.lst []))) ∧ ∀ j m H, W j m H →
      ((Its z).stop j H ∧ Qd H) ∨ ((Its z).go j H ∧ ∃ Nx : Hp → Prop, (∀ H', Nx H' → ∃ m', m' < m ∧ W (j + 1) m' H') ∧ ∀ x H', (Its z).yld j H x H' → gName i x (wipe σ [i]) H' fun σ2 H2 => wipe σ2 [i] = wipe σ [i] ∧ tt σ2 H2 fun b H3 =>
        if b = true then tVar i σ2 H3 fun y H4 => ∃ acc, H4 D = some (.lst acc) ∧ acc.length < sizeLine ∧ Nx (upd H4 D (.lst (acc ++ [y]))) else Nx H3) := by
  have hl : z.cps.toList.length = z.length := by
    show z.cps.toList.length = z.cps.size
    rw [Array.length_toList]
  refine lc_it walk_str (fun j H => H = upd H1 D (.lst (((z.cps.toList.take j).filter pb).map sg))) rfl (fun _ _ _ _ => trivial) (fun j x H H' hj h y => ?_) (fun H h => ?_)
  · obtain ⟨rfl, c, hc, rfl⟩ := y
    subst h
    have hc2 : z.cps.toList[j]? = some c := by rw [Array.getElem?_toList]; exact hc
    have hwi : (wipe σ [i]).length = σ.length := wipe_length σ [i]
    refine ⟨?_, ht c _ _ (List.mem_of_getElem? hc2) ?_⟩
    · show ((σ.set i none).set i (some (sg c))).set i none = σ.set i none
      rw [List.set_set, List.set_set]
    · have et : (z.cps.toList.take (j + 1)).filter pb = (z.cps.toList.take j).filter pb ++ (if pb c = true then [c] else []) := by
        rw [List.take_add_one, hc2, List.filter_append]
        congr 1
        show List.filter pb [c] = _
        rw [List.filter_cons, List.filter_nil]
      cases hp : pb c with
      | true =>
        rw [if_pos rfl]
        refine ⟨sg c, ?_, _, upd_same, ?_, ?_⟩
        · show ((σ.set i none).set i (some (sg c)))[i]? = some (some (sg c))
          rw [List.set_set, List.getElem?_set_self hi]
        · rw [List.length_map]
          refine small1000' ?_
          refine Nat.le_trans (List.length_filter_le _ _) ?_
          rw [List.length_take]
          omega
        · rw [upd_upd, et, hp, if_pos rfl, List.map_append]
          rfl
      | false =>
        rw [if_neg Bool.false_ne_true, et, hp, if_neg Bool.false_ne_true, List.append_nil]
  · subst h
    rw [List.take_of_length_le (by rw [hl]; exact Nat.le_refl _)]
    exact hd
end KM

set_option Elab.async false
set_option linter.all false
set_option maxRecDepth 100000
set_option maxHeartbeats 4000000
/-! Data at any depth with dicts in it; its repr; a row's end that knows where sys.modules is. -/
namespace KX
open PySem PySem.Spec PyProof.Rows L2 KT
def keyD : Key → PyData
  | .inl i => .int i
  | .inr x => .str x
/-! ### a value's data; M are addresses that may change -/
mutual
inductive Dx (M : Addr → Prop) (H : Hp) : V → PyData → Prop
  | non : Dx M H .non .none
  | bl (b : Bool) : Dx M H (.bl b) (.bool b)
  | int (i : Int) : Dx M H (.int i) (.int i)
  | str (x : Str) : Dx M H (.str x) (.str x)
  | lst {a : Addr} {xs : List V} {ds : List PyData} : ¬ M a → H a = some (.lst xs) → DxAll M H xs ds → Dx M H (.ref a) (.list ds)
  | tup {a : Addr} {xs : List V} {ds : List PyData} : H a = some (.tup xs) → DxAll M H xs ds → Dx M H (.ref a) (.tuple ds)
  | dk {a : Addr} {kvs : List (Key × V)} {ds : List (PyData × PyData)} : ¬ M a → H a = some (.dK kvs) → DxKv M H kvs ds → Dx M H (.ref a) (.dict ds)
inductive DxAll (M : Addr → Prop) (H : Hp) : List V → List PyData → Prop
  | nil : DxAll M H [] []
  | cons {v : V} {vs : List V} {d : PyData} {ds : List PyData} : Dx M H v d → DxAll M H vs ds → DxAll M H (v :: vs) (d :: ds)
inductive DxKv (M : Addr → Prop) (H : Hp) : List (Key × V) → List (PyData × PyData) → Prop
  | nil : DxKv M H [] []
  | cons {k : Key} {v : V} {r : List (Key × V)} {d : PyData} {ds : List (PyData × PyData)} : Dx M H v d → DxKv M H r ds → DxKv M H ((k, v) :: r) ((keyD k, d) :: ds)
end
/-- what is no table and may not change is kept; what may change is no tuple -/
structure Kp (M : Addr → Prop) (H H' : Hp) : Prop where
  st : ∀ a o, ¬ M a → (∀ ps, o ≠ .tbl ps) → H a = some o → H' a = some o
  tp : ∀ a xs, H a = some (.tup xs) → H' a = some (.tup xs)
theorem Kp.refl (M : Addr → Prop) (H : Hp) : Kp M H H := ⟨fun _ _ _ _ e => e, fun _ _ e => e⟩
theorem Kp.trans {M : Addr → Prop} {H H1 H2 : Hp} (a : Kp M H H1) (b : Kp M H1 H2) : Kp M H H2 := ⟨fun c o n t e => b.st c o n t (a.st c o n t e), fun c xs e => b.tp c xs (a.tp c xs e)⟩
theorem Kp.same {M : Addr → Prop} {H H' : Hp} (s : Same H H') : Kp M H H' := ⟨fun a o _ _ e => s a o e, fun a xs e => s a _ e⟩
theorem Kp.less {M N : Addr → Prop} {H H' : Hp} (k : Kp M H H') (h : ∀ a, M a → N a) : Kp N H H' := ⟨fun a o n => k.st a o fun z => n (h a z), k.tp⟩
mutual
theorem Dx.kp {M : Addr → Prop} {H H' : Hp} (k : Kp M H H') : ∀ (d : PyData) (v : V), Dx M H v d → Dx M H' v d
  | .none, _, h => by
    cases h
    exact .non
  | .bool b, _, h => by
    cases h
    exact .bl b
  | .int i, _, h => by
    cases h
    exact .int i
  | .str x, _, h => by
    cases h
    exact .str x
  | .list ds, _, h => by
    cases h with
    | lst n e r => exact .lst n (k.st _ _ n (fun _ z => by cases z) e) (Dx.kpAll k ds _ r)
  | .tuple ds, _, h => by
    cases h with
    | tup e r => exact .tup (k.tp _ _ e) (Dx.kpAll k ds _ r)
  | .dict ds, _, h => by
    cases h with
    | dk n e r => exact .dk n (k.st _ _ n (fun _ z => by cases z) e) (Dx.kpKv k ds _ r)
theorem Dx.kpAll {M : Addr → Prop} {H H' : Hp} (k : Kp M H H') : ∀ (ds : List PyData) (vs : List V), DxAll M H vs ds → DxAll M H' vs ds
  | [], _, h => by
    cases h
    exact .nil
  | d :: ds, _, h => by
    cases h with
    | cons h1 h2 => exact .cons (Dx.kp k d _ h1) (Dx.kpAll k ds _ h2)
theorem Dx.kpKv {M : Addr → Prop} {H H' : Hp} (k : Kp M H H') : ∀ (ds : List (PyData × PyData)) (vs : List (Key × V)), DxKv M H vs ds → DxKv M H' vs ds
  | [], _, h => by
    cases h
    exact .nil
  | (_, d) :: ds, _, h => by
    cases h with
    | cons h1 h2 => exact .cons (Dx.kp k d _ h1) (Dx.kpKv k ds _ h2)
end
theorem DxAll.length {M : Addr → Prop} {H : Hp} : ∀ {vs : List V} {ds : List PyData}, DxAll M H vs ds → vs.length = ds.length
  | [], [], _ => rfl
  | _ :: _, _ :: _, h => by
    cases h with
    | cons _ h2 => simp [DxAll.length h2]
  | [], _ :: _, h => by cases h
  | _ :: _, [], h => by cases h
theorem DxAll.at {M : Addr → Prop} {H : Hp} : ∀ {vs : List V} {ds : List PyData} {i : Nat} {v : V}, DxAll M H vs ds → vs[i]? = some v → ∃ d, ds[i]? = some d ∧ Dx M H v d
  | [], _, _, _, _, e => by simp at e
  | _ :: _, [], _, _, h, _ => by cases h
  | x :: vs, d :: ds, i, v, h, e => by
    cases h with
    | cons h1 h2 =>
      cases i with
      | zero =>
        cases e
        exact ⟨d, rfl, h1⟩
      | succ i => exact DxAll.at (i := i) h2 (by simpa using e)
theorem DxAll.app {M : Addr → Prop} {H : Hp} : ∀ {vs ws : List V} {ds es : List PyData}, DxAll M H vs ds → DxAll M H ws es → DxAll M H (vs ++ ws) (ds ++ es)
  | [], _, [], _, _, h => h
  | _ :: _, _, _ :: _, _, h, k => by
    cases h with
    | cons h1 h2 => exact .cons h1 (DxAll.app h2 k)
  | [], _, _ :: _, _, h, _ => by cases h
  | _ :: _, _, [], _, h, _ => by cases h
theorem DxAll.take {M : Addr → Prop} {H : Hp} : ∀ {vs : List V} {ds : List PyData} (n : Nat), DxAll M H vs ds → DxAll M H (vs.take n) (ds.take n)
  | _, _, 0, _ => .nil
  | [], [], _ + 1, _ => .nil
  | _ :: _, _ :: _, n + 1, h => by
    cases h with
    | cons h1 h2 => exact .cons h1 (DxAll.take n h2)
  | [], _ :: _, _ + 1, h => by cases h
  | _ :: _, [], _ + 1, h => by cases h
theorem DxAll.drop {M : Addr → Prop} {H : Hp} : ∀ {vs : List V} {ds : List PyData} (n : Nat), DxAll M H vs ds → DxAll M H (vs.drop n) (ds.drop n)
  | _, _, 0, h => h
  | [], [], _ + 1, _ => .nil
  | _ :: _, _ :: _, n + 1, h => by
    cases h with
    | cons h1 h2 => exact DxAll.drop n h2
  | [], _ :: _, _ + 1, h => by cases h
  | _ :: _, [], _ + 1, h => by cases h
theorem DxAll.rev {M : Addr → Prop} {H : Hp} : ∀ {vs : List V} {ds : List PyData}, DxAll M H vs ds → DxAll M H vs.reverse ds.reverse
  | [], [], h => h
  | _ :: _, _ :: _, h => by
    cases h with
    | cons h1 h2 =>
      rw [List.reverse_cons, List.reverse_cons]
      exact (DxAll.rev h2).app (.cons h1 .nil)
  | [], _ :: _, h => by cases h
  | _ :: _, [], h => by cases h
/-! ### such a value reads as its data -/
section
variable {X : Cx} {pins : List (Addr × Obj)} {σ : L2.St} {H : Hp} {s : Shared} {M : Addr → Prop}
theorem kv_reads {P : Program} {w : World} : ∀ {kvs : List (Key × V)} {vs : List (Key × Value)} {es : List DictEntry}, KV kvs vs → Pairs (mixKind P w) es vs →
    (∀ h : Heap, ∃ as, ReadsAll h (es.map (·.key)) (kvs.map fun p => keyD p.1) as ∧ sysModules ∉ as) ∧ Vals (kvs.map (·.2)) (es.map (·.val))
  | [], [], [], _, _ => ⟨fun _ => ⟨[], .nil, fun h => by cases h⟩, .nil⟩
  | (k, v) :: kvs, (k', v') :: vs, e :: es, r, p => by
    cases r with
    | cons r1 r2 =>
      cases p with
      | cons p1 p2 p3 =>
        obtain ⟨h1, h2⟩ := kv_reads r2 p3
        obtain ⟨rk, rv⟩ := r1
        dsimp only at rk rv p2
        subst rk
        refine ⟨fun h => ?_, ?_⟩
        · obtain ⟨as, q, nq⟩ := h1 h
          have key : Reads h e.key (keyD k) [] := by
            rcases keyIs_shape p1 with ⟨i, t, e1, e2⟩ | ⟨x, t, e1, e2⟩
            · rw [show k = Sum.inl i from e1, e2]
              exact .int i t
            · rw [show k = Sum.inr x from e1, e2]
              exact .str x t
          exact ⟨[] ++ as, .cons key q, nq⟩
        · refine .cons ?_ h2
          show L2.RelV v e.val
          rw [p2]
          exact rv
  | [], _ :: _, _, r, _ => by cases r
  | _ :: _, [], _, r, _ => by cases r
  | _, [], _ :: _, _, p => by cases p
  | _, _ :: _, [], _, p => by cases p
theorem not_mods {base : Heap} (hm : HasMods base) (hb : ∀ b o, base.get? b = some o → s.heap.get? b = some o) {a : Addr} {o : Obj} {vs : Array Value} {n : Nat} (e : s.heap.get? a = some o) (hd : o.data = .seq vs n) : a ≠ sysModules := fun z => by
  obtain ⟨mm, o2, es, ep, e2, d2, _⟩ := hm
  have q := hb _ _ e2
  rw [← z, e] at q
  cases q
  rw [hd] at d2
  cases d2
theorem kv_split {M : Addr → Prop} {H : Hp} : ∀ {kvs : List (Key × V)} {ds : List (PyData × PyData)}, DxKv M H kvs ds → (ds.map (·.1)) = kvs.map (fun p => keyD p.1) ∧ DxAll M H (kvs.map (·.2)) (ds.map (·.2))
  | [], [], _ => ⟨rfl, .nil⟩
  | (k, v) :: r, (k', d) :: ds, h => by
    cases h with
    | cons h1 h2 =>
      obtain ⟨q1, q2⟩ := kv_split h2
      exact ⟨by rw [List.map_cons, List.map_cons, q1], .cons h1 q2⟩
  | [], _ :: _, h => by cases h
  | _ :: _, [], h => by cases h
mutual
theorem Dx.reads (hm : HasMods X.base) (I : Inv X pins σ H s) : ∀ (d : PyData) (v : V) (u : Value), Dx M H v d → RelV v u → ∃ as, Reads s.heap u d as ∧ sysModules ∉ as
  | .none, _, _, h, r => by
    cases h
    cases r
    exact ⟨_, Reads.none, fun h => by cases h⟩
  | .bool b, _, _, h, r => by
    cases h
    cases r
    exact ⟨_, Reads.bool b, fun h => by cases h⟩
  | .int i, _, _, h, r => by
    cases h
    obtain ⟨t, rfl⟩ := r
    exact ⟨_, Reads.int i t, fun h => by cases h⟩
  | .str x, _, _, h, r => by
    cases h
    obtain ⟨t, rfl⟩ := r
    exact ⟨_, Reads.str x t, fun h => by cases h⟩
  | .list ds, _, _, h, r => by
    cases h with
    | lst n e ha =>
      cases r
      obtain ⟨z, its, n, rv, hl, ho⟩ := I.lstM e
      obtain ⟨as, hr, nr⟩ := Dx.readsAll hm I ds _ its ha rv
      refine ⟨_, Reads.list ho rfl rfl (by simpa using hr), fun hz => ?_⟩
      rcases List.mem_cons.mp hz with hz | hz
      · exact not_mods hm I.bk ho rfl hz.symm
      · exact nr hz
  | .tuple ds, _, _, h, r => by
    cases h with
    | tup e ha =>
      cases r
      obtain ⟨its, rv, ⟨o, ho, hc, n, hd⟩, _⟩ := I.tuple (SqT.of e)
      obtain ⟨as, hr, nr⟩ := Dx.readsAll hm I ds _ its ha rv
      exact ⟨_, Reads.tuple ho hc hd (by simpa using hr), nr⟩
  | .dict ds, _, _, h, r => by
    cases h with
    | dk n e ha =>
      cases r
      obtain ⟨_, nm, vs, rv, o, es, ep, ho, hx, hd, _, hp, _⟩ := dk_of I.hok e
      obtain ⟨q1, q2⟩ := kv_reads rv hp
      obtain ⟨w1, w2⟩ := kv_split ha
      obtain ⟨as, hr, nr⟩ := q1 s.heap
      obtain ⟨bs, hs, ns⟩ := Dx.readsKv hm I ds _ _ w2 q2
      refine ⟨_, Reads.dict ho hx.1 hd (by rw [w1]; exact hr) hs, fun hz => ?_⟩
      rcases List.mem_append.mp hz with hz | hz
      · rcases List.mem_cons.mp hz with hz | hz
        · rw [← hz] at nm
          simp at nm
        · exact nr hz
      · exact ns hz
theorem Dx.readsAll (hm : HasMods X.base) (I : Inv X pins σ H s) : ∀ (ds : List PyData) (vs : List V) (us : List Value), DxAll M H vs ds → Vals vs us → ∃ as, ReadsAll s.heap us ds as ∧ sysModules ∉ as
  | [], _, _, h, r => by
    cases h
    cases r
    exact ⟨_, ReadsAll.nil, fun h => by cases h⟩
  | d :: ds, _, _, h, r => by
    cases h with
    | cons h1 h2 =>
      cases r with
      | cons r1 r2 =>
        obtain ⟨as, q1, n1⟩ := Dx.reads hm I d _ _ h1 r1
        obtain ⟨bs, q2, n2⟩ := Dx.readsAll hm I ds _ _ h2 r2
        exact ⟨_, ReadsAll.cons q1 q2, fun hz => (List.mem_append.mp hz).elim n1 n2⟩
theorem Dx.readsKv (hm : HasMods X.base) (I : Inv X pins σ H s) : ∀ (ds : List (PyData × PyData)) (vs : List V) (us : List Value), DxAll M H vs (ds.map (·.2)) → Vals vs us → ∃ as, ReadsAll s.heap us (ds.map (·.2)) as ∧ sysModules ∉ as
  | [], _, _, h, r => by
    cases h
    cases r
    exact ⟨_, ReadsAll.nil, fun h => by cases h⟩
  | (_, d) :: ds, _, _, h, r => by
    cases h with
    | cons h1 h2 =>
      cases r with
      | cons r1 r2 =>
        obtain ⟨as, q1, n1⟩ := Dx.reads hm I d _ _ h1 r1
        obtain ⟨bs, q2, n2⟩ := Dx.readsKv hm I ds _ _ h2 r2
        exact ⟨_, ReadsAll.cons q1 q2, fun hz => (List.mem_append.mp hz).elim n1 n2⟩
end
/-- repr of any such value -/
def rReprX (M : Addr → Prop) : List V → Hp → VK → Prop := fun xs H Q => ∃ v d, xs = [v] ∧ Dx M H v d ∧ d.showable = true ∧ d.depth ≤ 150 ∧ d.shown.length ≤ sizeLine ∧ Q (.str d.shown) H
theorem call_reprX {k : Nat} (hr : Room k X.A) (hg : X.A.guards = some []) (hm : HasMods X.base) (M : Addr → Prop) : CallR X (.builtin "repr") (rReprX M) := by
  intro pins s σ H xs us Q I r h
  obtain ⟨v, d, rfl, hd, hs, hdep, hsz, q⟩ := h
  obtain ⟨u, rfl, r1⟩ := vals1 r
  have hu := hr.un
  have heap : ∀ {a : Addr}, v = .ref a → wpAny (model X.prog X.w) X.A (call (.builtin "repr") [u]) (EP X pins σ Q) X.xe s := fun {a} e => by
    subst e
    cases (show u = Value.ref a from r1)
    obtain ⟨as, hrd, nr⟩ := Dx.reads hm I d _ _ hd rfl
    refine PySem.repr_of_reads' hrd hs (fun _ => nr) hg (by omega) (fun b o e => e) (fun h' u tk kk => ?_) hsz
    exact ⟨.str d.shown, H, I.kept (t' := tk) kk, ⟨u, rfl⟩, q⟩
  cases hd with
  | non =>
    cases r1
    exact PySem.P.repr_of_none ⟨.str _, H, I.tok _, ⟨_, rfl⟩, q⟩
  | bl b =>
    cases r1
    exact PySem.P.repr_of_bool ⟨.str _, H, I.tok _, ⟨_, rfl⟩, q⟩
  | int i =>
    obtain ⟨t, rfl⟩ := r1
    exact PySem.P.repr_of_int (of_decide_eq_true hs) ⟨.str _, H, I.tok _, ⟨_, rfl⟩, q⟩
  | str x =>
    obtain ⟨t, rfl⟩ := r1
    exact PySem.P.repr_of_str ⟨.str _, H, I.tok _, ⟨_, rfl⟩, q⟩ hsz
  | lst n e r => exact heap rfl
  | tup e r => exact heap rfl
  | dk n e r => exact heap rfl
end
end KX

set_option Elab.async false
set_option linter.all false
set_option maxRecDepth 100000
set_option maxHeartbeats 4000000
/-! type(x) of any datum. -/
namespace KY
open PySem PySem.Spec PyProof.Rows L2 KT KX
def tyN : PyData → String
  | .none => "NoneType"
  | .bool _ => "bool"
  | .int _ => "int"
  | .str _ => "str"
  | .list _ => "list"
  | .tuple _ => "tuple"
  | .dict _ => "dict"
section
variable {X : Cx} {M : Addr → Prop} {H : Hp}
theorem ty_is {pins : List (Addr × Obj)} {σ : L2.St} {s : Shared} {v : V} {u : Value} {D : PyData} (h : Dx M H v D) (I : Inv X pins σ H s) (r : RelV v u) : s.TypeIs u (tyN D) ∧ (Value.type (tyN D) == Value.type "builtin_function_or_method") = false := by
  cases h with
  | non =>
    cases r
    exact ⟨rfl, by decide +kernel⟩
  | bl b =>
    cases r
    exact ⟨rfl, (by decide +kernel : (Value.type "bool" == Value.type "builtin_function_or_method") = false)⟩
  | int i =>
    obtain ⟨k, rfl⟩ := r
    exact ⟨typeIs_int s i k, (by decide +kernel : (Value.type "int" == Value.type "builtin_function_or_method") = false)⟩
  | str z =>
    obtain ⟨k, rfl⟩ := r
    exact ⟨typeIs_str s z k, (by decide +kernel : (Value.type "str" == Value.type "builtin_function_or_method") = false)⟩
  | lst n e _ =>
    cases r
    obtain ⟨its, rv, p, _⟩ := I.list (SqL.of e)
    exact ⟨p.isList.typeIs, (by decide +kernel : (Value.type "list" == Value.type "builtin_function_or_method") = false)⟩
  | tup e _ =>
    cases r
    obtain ⟨its, rv, p, _⟩ := I.tuple (SqT.of e)
    exact ⟨p.typeIs, (by decide +kernel : (Value.type "tuple" == Value.type "builtin_function_or_method") = false)⟩
  | dk n e _ =>
    cases r
    exact ⟨dict_typeIs I (DGet.k (k := Sum.inl 0) e), (by decide +kernel : (Value.type "dict" == Value.type "builtin_function_or_method") = false)⟩
def rTyX (M : Addr → Prop) : List V → Hp → VK → Prop := fun xs H Q => ∃ (v : V) (D : PyData), xs = [v] ∧ Dx M H v D ∧ Q (.ty (tyN D)) H
theorem call_typeX (M : Addr → Prop) : CallR X (.type "type") (rTyX M) := by
  intro pins s σ H xs us Q I r h
  obtain ⟨v, D, rfl, hD, q⟩ := h
  obtain ⟨u, rfl, rx⟩ := vals1 r
  obtain ⟨h1, h2⟩ := ty_is hD I rx
  exact call_type_of h1 h2 ⟨.ty (tyN D), H, I, rfl, q⟩
end
end KY

set_option Elab.async false
set_option linter.all false
set_option maxRecDepth 100000
set_option maxHeartbeats 4000000
/-! repr of any datum, also while an exception is handled. -/
namespace KZ
open PySem PySem.Spec PyProof.Rows L2 KT KX
section
variable {X : Cx}
theorem call_reprU (hu : X.A.units + 200 < cLine) (hg : X.A.guards = some []) (hm : HasMods X.base) (M : Addr → Prop) : CallR X (.builtin "repr") (rReprX M) := by
  intro pins s σ H xs us Q I r ⟨v, d, e, hd, hs, hdep, hsz, q⟩
  subst e
  obtain ⟨u, rfl, ru⟩ := vals1 r
  by_cases isR : ∃ a, v = V.ref a
  · obtain ⟨a, rfl⟩ := isR
    obtain rfl : u = Value.ref a := ru
    obtain ⟨as, reads, off⟩ := Dx.reads hm I d _ _ hd rfl
    refine PySem.repr_of_reads' reads hs (fun _ => off) hg (by omega) (fun b o z => z) (fun h' u tk kept => ⟨.str d.shown, H, I.kept (t' := tk) kept, ⟨u, rfl⟩, q⟩) hsz
  · cases hd with
    | non =>
      cases ru
      exact PySem.P.repr_of_none ⟨.str _, H, I.tok _, ⟨_, rfl⟩, q⟩
    | bl b =>
      cases ru
      exact PySem.P.repr_of_bool ⟨.str _, H, I.tok _, ⟨_, rfl⟩, q⟩
    | int i =>
      obtain ⟨t, rfl⟩ := ru
      exact PySem.P.repr_of_int (of_decide_eq_true hs) ⟨.str _, H, I.tok _, ⟨_, rfl⟩, q⟩
    | str x =>
      obtain ⟨t, rfl⟩ := ru
      exact PySem.P.repr_of_str ⟨.str _, H, I.tok _, ⟨_, rfl⟩, q⟩ hsz
    | lst n e r => exact absurd ⟨_, rfl⟩ isR
    | tup e r => exact absurd ⟨_, rfl⟩ isR
    | dk n e r => exact absurd ⟨_, rfl⟩ isR
end
end KZ

set_option Elab.async false
set_option linter.all false
set_option maxRecDepth 100000
set_option maxHeartbeats 4000000
/-! A list or tuple against an empty one; a comprehension whose filter calls. -/
namespace KE0
open PySem PySem.Spec PyProof.Rows L2 KT KX PySem.SeqAt
section
variable {X : Cx} {k : Nat}
theorem emp_range {n : Nat} {e : Nat → Bool} (he : n = 0 → True) : ((List.range (min n 0)).all e && n == 0) = (n == 0) := by
  rw [Nat.min_zero]
  rfl
/-- a list == [] -/
def rEqE (K : PySem.W.Frag) : R2 := fun x y H Q => ∃ a b xs, x = .ref a ∧ y = .ref b ∧ ((SqL K H a xs ∧ SqL K H b []) ∨ (SqT K H a xs ∧ SqT K H b [])) ∧ Q (.bl xs.isEmpty) H
def rNeE (K : PySem.W.Frag) : R2 := fun x y H Q => ∃ a b xs, x = .ref a ∧ y = .ref b ∧ ((SqL K H a xs ∧ SqL K H b []) ∨ (SqT K H a xs ∧ SqT K H b [])) ∧ Q (.bl (!xs.isEmpty)) H
theorem vals_emp {xs : List V} {its : List Value} (r : Vals xs its) : (its.toArray.size == 0) = xs.isEmpty := by
  have e := r.length
  rw [List.size_toArray, ← e]
  cases xs <;> rfl
theorem op_eqE (hr : Room k X.A) : OpR X (compareOp .Eq) (rEqE X.K) := by
  intro pins s σ H x y v u Q I rx ry h
  obtain ⟨a, b, xs, rfl, rfl, hs, q⟩ := h
  cases rx
  cases ry
  have hu : X.A.units < cLine := by have := hr.un; omega
  rcases hs with ⟨h1, h2⟩ | ⟨h1, h2⟩
  · obtain ⟨its, r, pl, _⟩ := I.list h1
    obtain ⟨its2, r2, pl2, _⟩ := I.list h2
    cases r2
    have e := vals_emp r
    cases he : xs.isEmpty with
    | true =>
      rw [he] at e q
      have hz : its.toArray.size = 0 := eq_of_beq e
      refine RcAt.lists (e := fun _ => true) pl.isList pl2.isList hz hu (fun j h1 h2 => absurd h2 (by simp)) X.prog X.w X.xe _ ?_
      rw [hz]
      exact ⟨.bl true, H, I, rfl, q⟩
    | false =>
      rw [he] at e q
      exact RcAt.lists_lengths pl.isList pl2.isList (by simpa using e) hu X.prog X.w X.xe _ ⟨.bl false, H, I, rfl, q⟩
  · obtain ⟨its, r, pl, _⟩ := I.tuple h1
    obtain ⟨its2, r2, pl2, _⟩ := I.tuple h2
    cases r2
    have e := vals_emp r
    refine RcAt.tuples (e := fun _ => true) pl pl2 hu (fun j h1 h2 => absurd h2 (by simp)) X.prog X.w X.xe _ ?_
    have e3 : ((List.range (min its.toArray.size ([] : List Value).toArray.size)).all (fun _ => true) && its.toArray.size == ([] : List Value).toArray.size) = xs.isEmpty := by
      show ((List.range (min its.toArray.size 0)).all (fun _ => true) && its.toArray.size == 0) = xs.isEmpty
      rw [Nat.min_zero, e]
      rfl
    rw [e3]
    exact ⟨.bl _, H, I, rfl, q⟩
theorem op_neE (hr : Room k X.A) : OpR X (compareOp .NotEq) (rNeE X.K) := by
  intro pins s σ H x y v u Q I rx ry h
  obtain ⟨a, b, xs, rfl, rfl, hs, q⟩ := h
  cases rx
  cases ry
  have hu : X.A.units < cLine := by have := hr.un; omega
  rcases hs with ⟨h1, h2⟩ | ⟨h1, h2⟩
  · obtain ⟨its, r, pl, _⟩ := I.list h1
    obtain ⟨its2, r2, pl2, _⟩ := I.list h2
    cases r2
    have e := vals_emp r
    cases he : xs.isEmpty with
    | true =>
      rw [he] at e q
      have hz : its.toArray.size = 0 := eq_of_beq e
      refine RcNeAt.lists (e := fun _ => true) pl.isList pl2.isList hz hu (fun j h1 h2 => absurd h2 (by simp)) X.prog X.w X.xe _ ?_
      rw [hz]
      exact ⟨.bl false, H, I, rfl, q⟩
    | false =>
      rw [he] at e q
      exact RcNeAt.lists_lengths pl.isList pl2.isList (by simpa using e) hu X.prog X.w X.xe _ ⟨.bl true, H, I, rfl, q⟩
  · obtain ⟨its, r, pl, _⟩ := I.tuple h1
    obtain ⟨its2, r2, pl2, _⟩ := I.tuple h2
    cases r2
    have e := vals_emp r
    refine RcNeAt.tuples (e := fun _ => true) pl pl2 hu (fun j h1 h2 => absurd h2 (by simp)) X.prog X.w X.xe _ ?_
    have e3 : (!((List.range (min its.toArray.size ([] : List Value).toArray.size)).all (fun _ => true) && its.toArray.size == ([] : List Value).toArray.size)) = !xs.isEmpty := by
      show (!((List.range (min its.toArray.size 0)).all (fun _ => true) && its.toArray.size == 0)) = !xs.isEmpty
      rw [Nat.min_zero, e]
      rfl
    rw [e3]
    exact ⟨.bl _, H, I, rfl, q⟩
end
end KE0

set_option Elab.async false
set_option linter.all false
set_option maxRecDepth 100000
set_option maxHeartbeats 4000000
/-! Any value against a text: ==, !=, in a tuple of texts. -/
namespace KQ
open PySem PySem.Spec PyProof.Rows L2 KT KX PySem.SeqAt
theorem sub_sd : isSubtype (.type "str") (.type "dict") = pure false := by rw [isSubtype_type]; kernel_rfl
theorem sub_ds : isSubtype (.type "dict") (.type "str") = pure false := by rw [isSubtype_type]; kernel_rfl
theorem dict_eq_no (l : Addr) (es : Array DictEntry) (ep : Nat) (dd : Option Addr) (sl : Array (Option Value)) (b : Str) (u : Tok) :
    Meets (Builtin.«dict.__eq__» ⟨[.ref l, .str b u], []⟩) (fun _ R s => s.heap.get? l = some { cls := .type "dict", dict := dd, data := .dict es ep, slots := sl } ∧ R (.ok (.ret .notImplemented)) s) :=
  .of_wp fun prog w A R s h => by obtain ⟨hp, g, d, tk, os⟩ := s; obtain ⟨hl, h⟩ := h; have f1 := sub_sd; wp_walk using wpAny_loadPart' hl, wpAny_load hl; exact ⟨_, rfl, h⟩
theorem dict_ne_no (l : Addr) (es : Array DictEntry) (ep : Nat) (dd : Option Addr) (sl : Array (Option Value)) (b : Str) (u : Tok) :
    Meets (Builtin.«dict.__ne__» ⟨[.ref l, .str b u], []⟩) (fun _ R s => s.heap.get? l = some { cls := .type "dict", dict := dd, data := .dict es ep, slots := sl } ∧ R (.ok (.ret .notImplemented)) s) :=
  .of_wp fun prog w A R s h => by obtain ⟨hp, g, d, tk, os⟩ := s; obtain ⟨hl, h⟩ := h; have f1 := sub_sd; wp_walk using wpAny_loadPart' hl, wpAny_load hl; exact ⟨_, rfl, h⟩
theorem str_eq_no (b : Str) (u : Tok) (l : Addr) (c : Value) (es : Array DictEntry) (ep : Nat) (dd : Option Addr) (sl : Array (Option Value)) :
    Meets (Builtin.«str.__eq__» ⟨[.str b u, .ref l], []⟩) (fun _ R s => s.heap.get? l = some { cls := c, dict := dd, data := .dict es ep, slots := sl } ∧ R (.ok (.ret .notImplemented)) s) :=
  .of_wp fun prog w A R s h => by obtain ⟨hp, g, d, tk, os⟩ := s; obtain ⟨hl, h⟩ := h; wp_walk using wpAny_loadPart' hl, wpAny_load hl; exact ⟨_, rfl, h⟩
theorem str_ne_no (b : Str) (u : Tok) (l : Addr) (c : Value) (es : Array DictEntry) (ep : Nat) (dd : Option Addr) (sl : Array (Option Value)) :
    Meets (Builtin.«str.__ne__» ⟨[.str b u, .ref l], []⟩) (fun _ R s => s.heap.get? l = some { cls := c, dict := dd, data := .dict es ep, slots := sl } ∧ R (.ok (.ret .notImplemented)) s) :=
  .of_wp fun prog w A R s h => by obtain ⟨hp, g, d, tk, os⟩ := s; obtain ⟨hl, h⟩ := h; wp_walk using wpAny_loadPart' hl, wpAny_load hl; exact ⟨_, rfl, h⟩
def IsDct (h : Heap) (l : Addr) : Prop := ∃ (dd : Option Addr) (es : Array DictEntry) (ep : Nat) (sl : Array (Option Value)), h.get? l = some { cls := .type "dict", dict := dd, data := .dict es ep, slots := sl }
section
variable {A : Around} {s : Shared} {l : Addr}
theorem rc_ds (b : Str) (u : Tok) (hl : IsDct s.heap l) (hu : A.units < cLine) : RcAt A s (.ref l) (.str b u) false := fun prog w E Q h => by
  obtain ⟨dd, es, ep, sl, ho⟩ := hl
  exact rc_eq_decline_or (k := false) ⟨_, ho, rfl⟩ (typeIs_str s b u) (by decide) sub_sd F.slot_dict_eq F.slot_str_eq_refl
    (fun _ hq => call_meets F.slot_dict_eq ⟨_, ho, rfl⟩ F.entry_dict_eq (F.args_dict_eq_2 _ _) (dict_eq_no l es ep dd sl b u) ⟨ho, hq⟩)
    (fun _ hq => call_meets F.slot_str_eq_refl (typeIs_str s b u) F.entry_str_eq (F.args_str_eq_2 _ _) (str_eq_no b u l (.type "dict") es ep dd sl) ⟨ho, hq⟩)
    (fun _ hq => wpAny_of_eq (rfl : isSame (.ref l) (.str b u) = pure false) hq) (.inr hu) h
theorem rc_sd (b : Str) (u : Tok) (hl : IsDct s.heap l) (hu : A.units < cLine) : RcAt A s (.str b u) (.ref l) false := fun prog w E Q h => by
  obtain ⟨dd, es, ep, sl, ho⟩ := hl
  exact rc_eq_decline_or (k := false) (typeIs_str s b u) ⟨_, ho, rfl⟩ (by decide) sub_ds F.slot_str_eq F.slot_dict_eq_refl
    (fun _ hq => call_meets F.slot_str_eq (typeIs_str s b u) F.entry_str_eq (F.args_str_eq_2 _ _) (str_eq_no b u l (.type "dict") es ep dd sl) ⟨ho, hq⟩)
    (fun _ hq => call_meets F.slot_dict_eq_refl ⟨_, ho, rfl⟩ F.entry_dict_eq (F.args_dict_eq_2 _ _) (dict_eq_no l es ep dd sl b u) ⟨ho, hq⟩)
    (fun _ hq => wpAny_of_eq (rfl : isSame (.str b u) (.ref l) = pure false) hq) (.inr hu) h
theorem eq_sd (b : Str) (u : Tok) (hl : IsDct s.heap l) (hu : A.units < cLine) : EqAt A s (.str b u) (.ref l) false := fun prog w E Q h => by
  unfold eqBool
  refine wpAny_holding ?_
  refine wpAny_ite_split (fun hab => absurd (eq_of_beq hab) nofun) (fun _ => ?_)
  exact wpAny_bind (rc_sd b u hl hu prog w E _ (wpAny_truthy_bool h))
theorem rn_ds (b : Str) (u : Tok) (hl : IsDct s.heap l) (hu : A.units < cLine) : RcNeAt A s (.ref l) (.str b u) true := fun prog w E Q h => by
  obtain ⟨dd, es, ep, sl, ho⟩ := hl
  exact rc_ne_decline_or (k := false) ⟨_, ho, rfl⟩ (typeIs_str s b u) (by decide) sub_sd F.slot_dict_ne F.slot_str_ne_refl
    (fun _ hq => call_meets F.slot_dict_ne ⟨_, ho, rfl⟩ F.entry_dict_ne (F.args_dict_ne_2 _ _) (dict_ne_no l es ep dd sl b u) ⟨ho, hq⟩)
    (fun _ hq => call_meets F.slot_str_ne_refl (typeIs_str s b u) F.entry_str_ne (F.args_str_ne_2 _ _) (str_ne_no b u l (.type "dict") es ep dd sl) ⟨ho, hq⟩)
    (fun _ hq => wpAny_of_eq (rfl : isSame (.ref l) (.str b u) = pure false) hq) (.inr hu) h
end
section
variable {X : Cx} {pins : List (Addr × Obj)} {σ : L2.St} {H : Hp} {s : Shared} {M : Addr → Prop} {A : Around}
def isT (v : V) (z : Str) : Bool := decide (v = .str z)
theorem isT_str (x z : Str) : isT (.str x) z = (x == z) := by
  unfold isT
  by_cases h : x = z
  · subst h
    simp
  · have : ¬ V.str x = V.str z := fun e => h (by cases e; rfl)
    rw [decide_eq_false this]
    exact (beq_eq_false_iff_ne.mpr h).symm
theorem isT_strR (x z : Str) : isT (.str x) z = (z == x) := by
  rw [isT_str]
  exact Bool.beq_comm ..
theorem dct_of {kvs : List (Key × V)} (ok : HOk X.prog X.w H s.heap) {a : Addr} (e : H a = some (.dK kvs)) : IsDct s.heap a := by
  obtain ⟨_, _, vs, _, o, es, ep, ho, hx, hd, _⟩ := dk_of ok e
  obtain ⟨cls, dd, data, sl⟩ := o
  obtain ⟨h1, _, _⟩ := hx
  dsimp only at h1 hd
  subst h1 hd
  exact ⟨_, _, _, _, ho⟩
theorem rc_any (I : Inv X pins σ H s) {v : V} {d : PyData} {u : Value} {z : Str} {t : Tok} (h : Dx M H v d) (r : RelV v u) (hu : A.units < cLine) : RcAt A s u (.str z t) (isT v z) := by
  cases h with
  | non => cases r; exact RcAt.none_str z t
  | bl b => cases r; exact RcAt.bool_str b z t
  | int i => obtain ⟨t', rfl⟩ := r; exact RcAt.int_str i t' z t
  | str x =>
    obtain ⟨t', rfl⟩ := r
    rw [isT_str]
    exact RcAt.str_str x t' z t
  | lst n e ha =>
    cases r
    obtain ⟨_, its, k, _, _, ho⟩ := I.lstM e
    exact RcAt.list_str (items := its.toArray) z t ⟨_, ho, rfl, k, rfl⟩ hu
  | tup e ha =>
    cases r
    obtain ⟨its, _, p, _⟩ := I.tuple (SqT.of e)
    exact RcAt.tuple_str z t p hu
  | dk n e ha => cases r; exact rc_ds z t (dct_of I.hok e) hu
theorem rn_any (I : Inv X pins σ H s) {v : V} {d : PyData} {u : Value} {z : Str} {t : Tok} (h : Dx M H v d) (r : RelV v u) (hu : A.units < cLine) : RcNeAt A s u (.str z t) (!isT v z) := by
  cases h with
  | non => cases r; exact RcNeAt.none_str z t
  | bl b => cases r; exact RcNeAt.bool_str b z t
  | int i => obtain ⟨t', rfl⟩ := r; exact RcNeAt.int_str i t' z t
  | str x =>
    obtain ⟨t', rfl⟩ := r
    rw [isT_str]
    exact RcNeAt.str_str x t' z t
  | lst n e ha =>
    cases r
    obtain ⟨_, its, k, _, _, ho⟩ := I.lstM e
    exact RcNeAt.list_str (items := its.toArray) z t ⟨_, ho, rfl, k, rfl⟩ hu
  | tup e ha =>
    cases r
    obtain ⟨its, _, p, _⟩ := I.tuple (SqT.of e)
    exact RcNeAt.tuple_str z t p hu
  | dk n e ha => cases r; exact rn_ds z t (dct_of I.hok e) hu
theorem eq_any (I : Inv X pins σ H s) {v : V} {d : PyData} {u : Value} {z : Str} {t : Tok} (h : Dx M H v d) (r : RelV v u) (hu : A.units < cLine) : EqAt A s (.str z t) u (isT v z) := by
  cases h with
  | non => cases r; exact EqAt.str_none z t
  | bl b => cases r; exact EqAt.str_bool z t b
  | int i => obtain ⟨t', rfl⟩ := r; exact EqAt.str_int z t i t'
  | str x =>
    obtain ⟨t', rfl⟩ := r
    rw [isT_strR]
    exact EqAt.str_str z t x t'
  | lst n e ha =>
    cases r
    obtain ⟨_, its, k, _, _, ho⟩ := I.lstM e
    exact EqAt.str_list (items := its.toArray) z t ⟨_, ho, rfl, k, rfl⟩ hu
  | tup e ha =>
    cases r
    obtain ⟨its, _, p, _⟩ := I.tuple (SqT.of e)
    exact EqAt.str_tuple z t p hu
  | dk n e ha => cases r; exact eq_sd z t (dct_of I.hok e) hu
end
section
variable {X : Cx} {k : Nat}
/-- any value == a text -/
def rEqT (M : Addr → Prop) : R2 := fun x y H Q => ∃ d z, Dx M H x d ∧ y = .str z ∧ Q (.bl (isT x z)) H
def rNeT (M : Addr → Prop) : R2 := fun x y H Q => ∃ d z, Dx M H x d ∧ y = .str z ∧ Q (.bl (!isT x z)) H
theorem op_eqT (hr : Room k X.A) (M : Addr → Prop) : OpR X (compareOp .Eq) (rEqT M) := by
  intro pins s σ H x y v u Q I rx ry h
  obtain ⟨d, z, hd, rfl, q⟩ := h
  obtain ⟨t, rfl⟩ := ry
  exact rc_any I hd rx (by have := hr.un; omega) X.prog X.w X.xe _ ⟨.bl _, H, I, rfl, q⟩
theorem op_neT (hr : Room k X.A) (M : Addr → Prop) : OpR X (compareOp .NotEq) (rNeT M) := by
  intro pins s σ H x y v u Q I rx ry h
  obtain ⟨d, z, hd, rfl, q⟩ := h
  obtain ⟨t, rfl⟩ := ry
  exact rn_any I hd rx (by have := hr.un; omega) X.prog X.w X.xe _ ⟨.bl _, H, I, rfl, q⟩
/-- any value in a tuple of texts -/
def rInT (M : Addr → Prop) (K : PySem.W.Frag) : R2 := fun x y H Q => ∃ d p, ∃ zs : List Str, Dx M H x d ∧ y = .ref p ∧ SqT K H p (zs.map V.str) ∧ Q (.bl (zs.any fun z => isT x z)) H
theorem op_inT (hr : Room (k + 1) X.A) (M : Addr → Prop) : OpR X (compareOp .In) (rInT M X.K) := by
  intro pins s σ H x y v u Q I rx ry h
  obtain ⟨d, p, zs, hd, rfl, hp, q⟩ := h
  cases ry
  obtain ⟨its, r, pl, hz⟩ := I.tuple hp
  have hu : X.A.in1.units < cLine := by have := hr.in1.un; omega
  have key : ∀ {zs : List Str} {its : List Value}, Vals (zs.map V.str) its → (∀ y ∈ its, ∃ z t, y = .str z t) ∧ ∀ e : Value → Bool, (∀ z t, e (.str z t) = isT x z) → its.any e = zs.any fun z => isT x z := by
    intro zs
    induction zs with
    | nil =>
      intro its r
      cases r
      exact ⟨(fun y hy => by cases hy), fun e _ => rfl⟩
    | cons a zs ih =>
      intro its r
      cases r with
      | cons r1 r2 =>
        obtain ⟨t, rfl⟩ := r1
        obtain ⟨h1, h2⟩ := ih r2
        exact ⟨fun y hy => (List.mem_cons.mp hy).elim (fun e => ⟨a, t, e⟩) (h1 y), fun e he => by rw [List.any_cons, List.any_cons, he, h2 e he]⟩
  obtain ⟨k1, k2⟩ := key r
  let e : Value → Bool := fun y => match y with
    | .str z _ => isT x z
    | _ => false
  refine SeqAt.in_tupleAt e pl (fun y hy => ?_) ⟨.bl _, H, I, rfl, ?_⟩
  · obtain ⟨z, t, rfl⟩ := k1 y (by simpa using hy)
    exact eq_any I hd rx hu
  · rw [show its.toArray.any e = its.any e by simp, k2 e fun _ _ => rfl]
    exact q
end
end KQ

set_option Elab.async false
set_option linter.all false
set_option maxRecDepth 100000
set_option maxHeartbeats 4000000
/-! Looks at data that leave all as it was but tables; all(..) over a tuple's parts. -/
namespace LK
open PySem PySem.Spec PyProof.Rows L2 KT KG KX GxR
theorem same_new {H : Hp} {p : Addr} {o : HO} (np : H p = none) : Same H (upd H p o) := fun b u e => by
  rw [upd_ne (ne_of_none e np)]
  exact e
def allT (f : PyData → Bool) : PyData → Bool
  | .tuple ys => ys.all f
  | _ => false
theorem depth_mem : ∀ {ys : List PyData} {y : PyData}, y ∈ ys → y.depth ≤ PyData.depthAll ys
  | a :: r, y, h => by
    rcases List.mem_cons.mp h with rfl | h
    · simp only [PyData.depthAll]
      exact Nat.le_max_left _ _
    · simp only [PyData.depthAll]
      exact Nat.le_trans (depth_mem h) (Nat.le_max_right _ _)
/-! ### what a look leaves -/
def Ts (Tl : List Addr) (H : Hp) : Prop := ∀ P ∈ Tl, TabG H P
structure Lk (M : Addr → Prop) (Tl : List Addr) (H H' : Hp) : Prop where
  k : Kp M H H'
  t : Ts Tl H → Ts Tl H'
  on : ∀ a, H' a = none → H a = none
theorem Lk.refl (M : Addr → Prop) (Tl : List Addr) (H : Hp) : Lk M Tl H H := ⟨.refl _ _, id, fun _ z => z⟩
theorem Lk.trans {M : Addr → Prop} {Tl : List Addr} {H H1 H2 : Hp} (a : Lk M Tl H H1) (b : Lk M Tl H1 H2) : Lk M Tl H H2 := ⟨a.k.trans b.k, fun h => b.t (a.t h), fun c z => a.on c (b.on c z)⟩
theorem Lk.same {M : Addr → Prop} {Tl : List Addr} {H H' : Hp} (s : Same H H') : Lk M Tl H H' := ⟨.same s, fun h P hP => by
  obtain ⟨ps, e, ok⟩ := h P hP
  exact ⟨ps, s _ _ e, ok⟩, fun a z => by
  cases e : H a with
  | none => rfl
  | some o =>
    rw [s _ _ e] at z
    cases z⟩
theorem Lk.new {M : Addr → Prop} {Tl : List Addr} {H : Hp} {p : Addr} {o : HO} (n : H p = none) : Lk M Tl H (upd H p o) := .same (same_new n)
theorem Lk.tab {M : Addr → Prop} {Tl : List Addr} {H H' : Hp} {P : Addr} (g : TabG H P) (t : Tabbed P H H') : Lk M Tl H H' := by
  obtain ⟨ps, e, _⟩ := g
  refine ⟨⟨fun a o n nt ea => ?_, fun a xs ea => ?_⟩, fun h Q hQ => ?_, fun a z => ?_⟩
  · have : a ≠ P := fun z => by
      rw [z, e] at ea
      exact nt _ (Option.some.inj ea).symm
    rw [t.2 a this]
    exact ea
  · have : a ≠ P := fun z => by
      rw [z, e] at ea
      cases ea
    rw [t.2 a this]
    exact ea
  · by_cases z : Q = P
    · rw [z]
      exact t.1
    · obtain ⟨qs, f, ok⟩ := h Q hQ
      exact ⟨qs, by rw [t.2 Q z]; exact f, ok⟩
  · by_cases y : a = P
    · obtain ⟨qs, f, _⟩ := t.1
      rw [y, f] at z
      cases z
    · rw [t.2 a y] at z
      exact z
theorem Lk.tabs {M : Addr → Prop} {Tl : List Addr} {H H' : Hp} {P : Addr} (g : TabG H P) (t : Tabbed P H H' ∨ H' = H) : Lk M Tl H H' := by
  rcases t with t | rfl
  · exact Lk.tab g t
  · exact .refl _ _ _
section
variable {M : Addr → Prop} {H : Hp}
def isTup : PyData → Bool
  | .tuple _ => true
  | _ => false
theorem Dx.isaT {K : PySem.W.Frag} {v : V} {d : PyData} (h : Dx M H v d) : IsA K H v "tuple" (isTup d) := by
  cases h with
  | non => exact ⟨_, .base .non, by decide +kernel⟩
  | bl b => exact ⟨_, .base (.bl b), (by decide +kernel : kitB "bool" "tuple" = some false)⟩
  | int i => exact ⟨_, .base (.int i), (by decide +kernel : kitB "int" "tuple" = some false)⟩
  | str h => exact ⟨_, .base (.str _), (by decide +kernel : kitB "str" "tuple" = some false)⟩
  | lst n e _ => exact ⟨_, .base (.lst e), (by decide +kernel : kitB "list" "tuple" = some false)⟩
  | tup e _ => exact ⟨_, .base (.tup e), (by decide +kernel : kitB "tuple" "tuple" = some true)⟩
  | dk n e _ => exact ⟨_, .base (.dK e), (by decide +kernel : kitB "dict" "tuple" = some false)⟩
theorem Dx.tupOf {v : V} {ys : List PyData} (h : Dx M H v (.tuple ys)) : ∃ a xs, v = .ref a ∧ H a = some (.tup xs) ∧ DxAll M H xs ys := by
  cases h with
  | tup e r => exact ⟨_, _, rfl, e, r⟩
end
section
variable {P : Program} {w : World} {K : PySem.W.Frag} {mg : Str → Option Value} {base : Heap} {Tl : List Addr}
theorem all_take {f : PyData → Bool} {ys : List PyData} {i : Nat} {y : PyData} (h : (ys.take i).all f = true) (e : ys[i]? = some y) (hf : f y = true) : (ys.take (i + 1)).all f = true := by
  rw [List.take_add_one, e, List.all_append, h]
  show (true && (f y && true)) = true
  rw [hf]
  rfl
theorem all_false {f : PyData → Bool} {ys : List PyData} {i : Nat} {y : PyData} (e : ys[i]? = some y) (hf : f y = false) : ys.all f = false := by
  rw [List.all_eq_false]
  exact ⟨y, List.mem_of_getElem? e, by rw [hf]; exact Bool.false_ne_true⟩
/-- the turns of all(look(part, ..) for part in a tuple) -/
theorem turns_tup {H2 : Hp} {M : Addr → Prop} {a : Addr} {xs : List V} {ys : List PyData} {f : PyData → Bool} {g : TG} {te : TE} {vs : List Nat} {σ : L2.St} {Qe Qf : Hp → Prop}
    (e : H2 a = some (.tup xs)) (r : DxAll M H2 xs ys) (t : Ts Tl H2)
    (hs : ∀ (x : V) (y : PyData) (H : Hp) (R : Hp → Bool → Prop), y ∈ ys → Dx M H x y → Ts Tl H → Lk M Tl H2 H → (∀ H', Lk M Tl H H' → R H' (f y)) → g x (wipe σ vs) H fun σ2 H3 => wipe σ2 vs = wipe σ vs ∧ te σ2 H3 fun b H4 => ∃ c, b = .bl c ∧ R H4 c)
    (he : ∀ H, Lk M Tl H2 H → ys.all f = true → Qe H) (hf : ∀ H, Lk M Tl H2 H → ys.all f = false → Qf H) :
    ∃ W : Nat → Nat → Hp → Prop, (∃ m, W 0 m H2) ∧ KG.Turns (Itt K a) g te σ vs true W Qe Qf := by
  have hl := DxAll.length r
  refine turns_it (n := xs.length) walk_tup (fun i H => Lk M Tl H2 H ∧ (ys.take i).all f = true) ⟨.refl _ _ _, rfl⟩ (fun i H hi p => SqT.of (p.1.k.tp _ _ e)) (fun i x H H' hi p y => ?_) (fun H p => ?_)
  · obtain ⟨rfl, hx⟩ := y
    obtain ⟨lk, al⟩ := p
    obtain ⟨d, hd, hxd⟩ := DxAll.at r hx
    refine hs x d H' (fun H4 c => if c = true then (Lk M Tl H2 H4 ∧ (ys.take (i + 1)).all f = true) else Qf H4) (List.mem_of_getElem? hd) (Dx.kp lk.k _ _ hxd) (lk.t t) lk (fun H4 l4 => ?_)
    cases hfd : f d with
    | true =>
      rw [if_pos rfl]
      exact ⟨lk.trans l4, all_take al hd hfd⟩
    | false =>
      rw [if_neg Bool.false_ne_true]
      exact hf H4 (lk.trans l4) (all_false hd hfd)
  · refine he H p.1 ?_
    have := p.2
    rw [hl, List.take_length] at this
    exact this
end
theorem len2 {M : Addr → Prop} {H : Hp} {xs : List V} {ys : List PyData} (r : DxAll M H xs ys) (h : xs.length = 2) : ∃ a b p q, xs = [a, b] ∧ ys = [p, q] ∧ Dx M H a p ∧ Dx M H b q :=
  match xs, ys, r, h with
  | [_, _], [_, _], .cons h1 (.cons h2 .nil), _ => ⟨_, _, _, _, rfl, rfl, h1, h2⟩
theorem decV (n m : Nat) : decide (V.int (n : Int) = V.int (m : Int)) = decide (n = m) := by
  apply decide_eq_decide.mpr
  constructor
  · intro h
    have : (n : Int) = (m : Int) := by cases h; rfl
    omega
  · intro h
    rw [h]
end LK

set_option Elab.async false
set_option linter.all false
set_option maxRecDepth 100000
set_option maxHeartbeats 4000000
/-! An own exception class over an own class over Exception, with an __init__ of its own: its making, with a value by position or by name. -/
namespace PySem
namespace QX
open Builtin HandSPX
section
variable {M : Model} {A : Around} {E : Value → Shared → Prop} {h : Heap} {g : Array GenState} {d : Drawn} {t : Nat} {os : OsState}
variable {nm q : Str} {C N : Addr} {bs bm bmB : List Value} {hdct : Bool} {sn : List Str} {sub : List Value} {ab : Bool} {col : Option Bool} {dd : Option Addr} {k0 k1 k2 k3 k5 : Option Value} {B newId initId : String}
theorem q_check (F : ExcBaseFacts B newId initId bmB) (hT : ∀ X : String, bm.contains (.type X) = bmB.contains (.type X)) {us : List Value} {kw : List (Str × Value)} {Q : Unit → Shared → Prop}
    (hC : h.get? C = some (excClassObj nm q C N bs bm hdct sn sub ab col dd k0 k1 k2 k3 k5 newId)) (hq : Q () ⟨h, g, d, t, os⟩) : wpAny M A (checkBuiltinCall newId ⟨.ref C :: us, kw⟩) Q E ⟨h, g, d, t, os⟩ := by
  have has : (Value.ref C :: bm).contains (.type B) = true := by
    rw [List.contains_cons, hT, F.hasB]
    exact Bool.or_true _
  have ns := F.noStar
  simp only [checkBuiltinCall, F.newKind, F.newSplit, F.newRow]
  repeat (first
    | refine wpAny_loadPart_at hC ?_
    | (refine wpAny_isSubtype_exc hC ?_
       rw [has])
    | refine wpAny_staticBase_exc hC ?_
    | refine wpAny_madeBy_exc hC ?_
    | simp only [bne_self_eq_false, Bool.false_eq_true, if_false]
    | wp_step)
  exact hq
end
section
variable {prog : Program} {w : World} {A : Around} {E : Value → Shared → Prop} {R : Result → Shared → Prop} {h : Heap} {g : Array GenState} {d : Drawn} {t : Nat} {os : OsState}
variable {nm q : Str} {C N : Addr} {bs bm bmB : List Value} {hdct : Bool} {sn : List Str} {sub : List Value} {ab : Bool} {col : Option Bool} {dd : Option Addr} {k0 k1 k2 k3 k5 : Option Value} {B newId initId : String}
/-- what __new__ leaves: the tuple of the values by position, then the exception -/
def born (h : Heap) (us : List Value) (C : Addr) : Heap := (h.push (W.kdv_tup us)).push (excO C h.objs.size)
theorem born_old {us : List Value} {b : Addr} {o : Obj} (e : h.get? b = some o) : (born h us C).get? b = some o := Heap.get?_push_of_some _ (Heap.get?_push_of_some _ e)
theorem born_at {us : List Value} : (born h us C).get? (h.objs.size + 1) = some (excO C h.objs.size) := by
  unfold born
  heap_get
theorem q_new (F : ExcBaseFacts B newId initId bmB) (hT : ∀ X : String, bm.contains (.type X) = bmB.contains (.type X)) {us : List Value} {kw : List (Str × Value)}
    (hC : h.get? C = some (excClassObj nm q C N bs bm hdct sn sub ab col dd k0 k1 k2 k3 k5 newId)) (hz : us.length ≤ sizeLine)
    (hq : R (.ok (.ret (.ref (h.objs.size + 1)))) ⟨born h us C, g, d, t, os⟩) : codeAny (model prog w) A (.builtin newId ⟨.ref C :: us, kw⟩) R ⟨h, g, d, t, os⟩ := by
  have he := F.ends
  have c1 : (Value.ref C :: bm).contains (.type B) = true := by
    rw [List.contains_cons, hT, F.hasB]
    exact Bool.or_true _
  have c2 : (Value.ref C :: bm).contains (.type "AttributeError") = false := by
    rw [List.contains_cons, hT, F.noAttr]
    rfl
  have c3 : (Value.ref C :: bm).contains (.type "NameError") = false := by
    rw [List.contains_cons, hT, F.noName]
    rfl
  refine codeAny_builtinAt F.entry ?_
  unfold Builtin.«BaseException.__new__»
  refine wpAt_bind ?_
  show wpAt _ _ _ (stack >>= _) _ _ _
  refine wpAt_bind (wpAt_stack fun p lo => wpAt_of_wpAny ?_)
  wp_walk
  refine wpAt_of_wpAny ?_
  rw [F.owner]
  repeat (first
    | with_reducible refine wpAny_madeHere_exc F.canon hC ?_
    | with_reducible refine wpAny_loadPart_at hC ?_
    | (with_reducible refine wpAny_isSubtype_exc hC ?_
       first
         | rw [c1]
         | rw [c2]
         | rw [c3])
    | wp_step)
  show R _ _
  rw [Heap.size_push]
  exact hq
theorem q_tcheck {M : Model} {us : List Value} {kw : List (Str × Value)} {Q : Unit → Shared → Prop} {E : Value → Shared → Prop} (hC : h.get? C = some (excClassObj nm q C N bs bm hdct sn sub ab col dd k0 k1 k2 k3 k5 newId)) (hq : Q () ⟨h, g, d, t, os⟩) :
    wpAny M A (checkBuiltinCall "type.__call__" ⟨.ref C :: us, kw⟩) Q E ⟨h, g, d, t, os⟩ := by
  have f3 := tc_sub
  have hTy : (⟨h, g, d, t, os⟩ : Shared).TypeIs (.ref C) "type" := ⟨_, hC, rfl⟩
  simp only [checkBuiltinCall, tc_kind, tc_split]
  repeat (any_goals (first
    | assumption
    | with_reducible refine wpAny_loadPart_at hC ?_
    | with_reducible refine wpAny_onRaise ?_
    | with_reducible refine wpAny_map ?_
    | wp_step))
theorem q_call (F : ExcBaseFacts B newId initId bmB) (hT : ∀ X : String, bm.contains (.type X) = bmB.contains (.type X)) {us : List Value} {kw : List (Str × Value)} {fI : Addr}
    (hC : h.get? C = some (excClassObj nm q C N bs bm hdct sn sub ab col dd k0 k1 k2 k3 k5 newId))
    (hi : W.Looks (model prog w) h (typeLookup (.ref C) "__init__") (some (.ref fI))) (hb : ∀ self, W.Looks (model prog w) h (bindSpecial (.ref fI) self) (.ref fI, [self])) (hz : us.length ≤ sizeLine)
    (hq : codeAny (model prog w) (A.under (.builtin "type.__call__" ⟨.ref C :: us, kw⟩)) (.call (.ref fI) ⟨.ref (h.objs.size + 1) :: us, kw⟩) (W.InitBack (h.objs.size + 1) R) ⟨born h us C, g, d, t, os⟩) :
    codeAny (model prog w) A (.call (.ref C) ⟨us, kw⟩) R ⟨h, g, d, t, os⟩ := by
  have f1 := tc_lookup
  have f2 := tc_bind (.ref C)
  have hTy : (⟨h, g, d, t, os⟩ : Shared).TypeIs (.ref C) "type" := ⟨_, hC, rfl⟩
  refine codeAny_of_tree ?_
  show wpAny _ _ (callAny (.ref C) _) _ _ _
  repeat (any_goals (first
    | assumption
    | with_reducible refine wpAny_loadPart_at hC ?_
    | wp_step))
  refine ⟨rfl, ?_⟩
  refine codeAny_call_builtin_at (Code.quiet_builtin _ (by decide +kernel)) entry_typeCall (q_tcheck hC ?_)
  show wpAny (model prog w) _ (Builtin.«type.__call__» ⟨.ref C :: us, kw⟩) _ _ _
  repeat (first
    | with_reducible refine wpAny_loadPart_at hC ?_
    | with_reducible refine wpAny_madeBy_exc hC ?_
    | wp_step)
  refine codeAny_call_builtin_code (Code.quiet_builtin _ F.quiet) (q_check F hT hC ?_)
  refine q_new F hT hC hz ?_
  show wpAny _ _ _ _ _ _
  have hC1 := born_old (us := us) (C := C) hC
  have hx : (born h us C).get? (h.objs.size + 1) = some (excO C h.objs.size) := born_at
  have own : (Value.ref C :: bm).contains (.ref C) = true := by simp
  have i1 := hi.keeps fun b o e => born_old (us := us) (C := C) e
  have b1 := (hb (.ref (h.objs.size + 1))).keeps fun b o e => born_old (us := us) (C := C) e
  unfold isInstance
  repeat (first
    | with_reducible refine wpAny_loadPart_at hx ?_
    | (with_reducible refine wpAny_isSubtype_exc hC1 ?_
       rw [own])
    | wp_step)
  show wpAny _ _ (typeLookup (.ref C) _) _ _ _
  refine i1.at ?_
  refine wpAny_holding (wpAny_bind (b1.at ?_))
  refine wpAny_bind ?_
  refine wpAny_call (codeAny_mono hq fun r s' z => ?_)
  cases r with
  | error e => exact z
  | ok fl =>
    cases fl with
    | ret v =>
      obtain ⟨rfl, z⟩ := z
      exact wpAny_pure (wpAny_pure z)
    | next => exact False.elim z
    | brk => exact False.elim z
    | cont => exact False.elim z
end
/-! ### self.name = v on such an exception that has no dict yet -/
abbrev exTail : List Value := [.type "Exception", .type "BaseException", .type "object"]
theorem q_pass (C Q : Addr) (self : Value) : refuseLoop self "__setattr__" (.ref C :: .ref Q :: exTail) = pure () := by
  rw [refuseLoop_ref, refuseLoop_ref]
  exact F.store_Exception.passes self
theorem q_has (Q : Addr) (X : String) : (Value.ref Q :: exTail).contains (.type X) = exTail.contains (.type X) := by
  rw [List.contains_cons]
  rfl
section
open Builtin.ObjectAttr
variable {prog : Program} {w : World} {A : Around} {E : Value → Shared → Prop} {R : Result → Shared → Prop} {hp : Heap} {g : Array GenState} {d : Drawn} {t : Nat} {os : OsState}
theorem q_osa {K : W.Frag} {name : Str} {tk : Tok} {v : Value} {x C Q : Addr} {fv : Array Value} {cd : ClassData}
    (X : K.In hp) (hx : hp.get? x = some { cls := .ref C, data := .fields fv }) (hcd : W.clsIn K C = some cd) (hm : cd.mro = .ref C :: .ref Q :: exTail) (hh : cd.hasDict = true) (ha : W.findIn K (.ref C) name = some none)
    (hq : ∀ h' tk' dx, (∀ b o, b ≠ x → hp.get? b = some o → h'.get? b = some o) → hp.objs.size ≤ dx → dx ≠ x → h'.get? x = some { cls := .ref C, dict := some dx, data := .fields fv } → h'.Ns1 dx (fun y => if y = name then some v else none) → R (.ok (.ret .none)) ⟨h', g, d, tk', os⟩) :
    codeAny (model prog w) A (.call (.builtin "object.__setattr__") ⟨[.ref x, .str name tk, v], []⟩) R ⟨hp, g, d, t, os⟩ := by
  have I : W.InstAt hp x { cls := .ref C, data := .fields fv } C none := ⟨hx, rfl, rfl, trivial⟩
  have ob : cd.mro.contains (.type "object") = true := by
    rw [hm]
    simp
  have xs : x ≠ hp.objs.size := Nat.ne_of_lt (Heap.lt_size hx)
  have sub : W.Looks (model prog w) hp (isInstance (.ref x) (.type "object")) true := I.type.andThen (W.looks_mroIn X (by
    unfold W.mroIn
    rw [hcd, Option.bind_some, if_neg (by rw [hm]; exact Bool.false_ne_true), ob]))
  have S0 := F.store_object
  refine codeAny_call_builtin S0.slot.plain S0.entry (@W.check_slot (model prog w) _ _ ⟨hp, g, d, t, os⟩ "object.__setattr__" "object" "__setattr__" (.ref x) [.str name tk, v] [] _ S0.kind S0.split sub (S0.args (.ref x) (.str name tk) v) ?_)
  have lm : W.Looks (model prog w) hp (mroOf (.ref C)) cd.mro := (W.looks_clsIn X hcd).andThen .now
  have ls : W.Looks (model prog w) hp (storeTaker? none) none := .now
  have lc : W.Looks (model prog w) hp (classData C) cd := W.looks_clsIn X hcd
  rw [W.osa_eq, refuse_eq]
  refine wpAny_bind (wpAny_bind (I.type.at (wpAny_bind (lm.at ?_))))
  rw [hm, q_pass]
  refine wpAny_pure (wpAny_bind (I.type.at (wpAny_bind ((W.looks_findIn X ha).at (wpAny_bind (ls.at ?_))))))
  show wpAny _ _ (storeInOwnDict (.ref x) (.ref C) (.str name tk) name v false) _ _ _
  obtain ⟨nm, bs, mro, ns, qn, hd, sn, sb, ab, col, del⟩ := cd
  dsimp only at hh
  subst hh
  unfold storeInOwnDict ownDictForStores
  repeat (first
    | with_reducible refine store_in_new ?_ ?_
    | with_reducible refine wpAny_loadPart_at hx ?_
    | with_reducible refine lc.at ?_
    | wp_step)
  · exact ⟨_, #[], _, (Heap.get?_update_ne _ _ _ _ xs.symm).trans (Heap.get?_push_at rfl rfl), rfl, fun e he => absurd he (by simp), fun _ => rfl⟩
  · intro h' tk' hn' hs
    have hx1 : (hp.push { cls := .type "dict", data := .dict #[] }).get? x = some { cls := .ref C, data := .fields fv } := Heap.get?_push_of_some _ hx
    exact hq h' tk' hp.objs.size (fun b o hb ho => (hs.2 b (Nat.ne_of_lt (Heap.lt_size ho))).trans ((Heap.get?_update_ne _ _ _ _ hb).trans (Heap.get?_push_of_some _ ho))) (Nat.le_refl _) xs.symm ((hs.2 x xs).trans (Heap.get?_update_self _ hx1 rfl)) hn'
end
end QX
end PySem

set_option Elab.async false
set_option linter.all false
set_option maxRecDepth 100000
set_option maxHeartbeats 4000000
/-! Rules for such errors: the store in __init__, the making as a value, a field, raise. -/
namespace QY
open PySem PySem.Spec PyProof.Rows L2 KT
open PySem.QX (exTail q_osa q_call q_has born born_old born_at)
/-- what the written part says of such a class at C, its __init__ at fI, its field f -/
structure Qc (K : PySem.W.Frag) (C fI : Addr) (f : Str) : Prop where
  cls : ∃ nm q N bs Q sn sub ab col dd k0 k1 k2 k3 k5, K.lookup C = some (excClassObj nm q C N bs (.ref Q :: exTail) true sn sub ab col dd k0 k1 k2 k3 k5 "Exception.__new__")
  sa : PySem.W.findIn K (.ref C) "__setattr__" = some (some (.builtin "object.__setattr__"))
  no : PySem.W.findIn K (.ref C) f = some none
  iC : PySem.W.findIn K (.ref C) "__init__" = some (some (.ref fI))
  tI : PySem.W.typeIn K (.ref fI) = some (.type "function")
  kC : PySem.W.keepIn K (.ref C) = true
  exC : PySem.W.subIn K (.ref C) (.type "BaseException") = some true
  tyC : PySem.W.typeIn K (.ref C) = some (.type "type")
  ga : PySem.W.findIn K (.ref C) "__getattribute__" = some (some (.builtin "BaseException.__getattribute__"))
  gg : PySem.W.findIn K (.ref C) "__getattr__" = some none
  hd : PySem.W.hasDictIn K C = true
section
variable {X : Cx} {pins : List (Addr × Obj)} {σ : L2.St} {H : Hp} {s : Shared} {a C dx fI : Addr} {f : Str} {y : V} {u : Value} {Q : Unit → Shared → Prop} {E : Value → Shared → Prop} {A : Around}
/-- self.f = y on a new one -/
theorem qst_new (T : Qc X.K C fI f) (I : Inv X pins σ H s) (e : H a = some (exo a C none)) (ry : RelV y u)
    (h : ∀ dx s', H dx = none → dx ≠ a → Inv X pins σ (upd (upd H dx (exd dx [(f, y)])) a (exo a C (some dx))) s' → Q () s') : wpAny (model X.prog X.w) A (setAttr (.ref a) f u) Q E s := by
  obtain ⟨nm, q, N, bs, Qa, sn, sub, ab, col, dd, k0, k1, k2, k3, k5, hC⟩ := T.cls
  have hcl : PySem.W.clsIn X.K C = some { name := nm, bases := bs, mro := .ref C :: .ref Qa :: exTail, ns := N, qualname := q, hasDict := true, slotNames := sn, subclasses := sub, abstract := ab, collection := col, hasDel := false } := by
    unfold PySem.W.clsIn
    rw [hC] <;> rfl
  obtain ⟨t1, ho⟩ := exo_at I.hok e
  obtain ⟨hp, g, d, t, os⟩ := s
  refine PySem.W.set_plain I.kIn (ox := { cls := .ref C, dict := none, data := .fields #[.ref t1, .none, .none, .none, .bool false, .none] }) (od := none) ⟨ho, rfl, rfl, trivial⟩ T.sa ?_
  refine q_osa I.kIn ho hcl rfl rfl T.no (fun h' tk' dx k dn dne hx hn => ?_)
  have fdx : H dx = none := I.hok.fresh dn
  have neD : ∀ {b : Addr} {o : Obj}, hp.get? b = some o → b ≠ dx := fun {b o} q => Nat.ne_of_lt (Nat.lt_of_lt_of_le (Heap.lt_size q) dn)
  have neA : ∀ {b : Addr}, H b = none → b ≠ a := fun {b} n z => by
    rw [z, e] at n
    cases n
  have far : ∀ {b : Addr} {o : HO}, H b = some o → o ≠ exo a C none → (upd (upd H dx (exd dx [(f, y)])) a (exo a C (some dx))) b = some o := fun {b o} q n => by
    rw [upd_ne (fun z => n (by rw [z, e] at q; exact (Option.some.inj q).symm)), upd_ne (ne_of_none q fdx)]
    exact q
  have U : Un X.fs [] H (upd (upd H dx (exd dx [(f, y)])) a (exo a C (some dx))) hp h' :=
    ⟨fun b o q n _ _ => k b o (neA n) q, fun b o q n _ _ => ⟨o.slots, k b o (neA n) q⟩, fun b o q n _ => by
      rw [upd_ne (neA n), upd_ne (neD q)]
      exact n, fun b o q _ => by
      by_cases hb : b = a
      · exact ⟨_, by rw [hb]; exact hx⟩
      · exact ⟨o, k b o hb q⟩, fun b xs q => far q (fun z => exo_tup z.symm), fun b o v q => far q (fun z => exo_frz z.symm), fun b ps q => ⟨#[], by rw [far q (fun z => exo_tbl z.symm)]; simp⟩⟩
  refine h dx _ fdx dne (I.un (t' := tk') U fun b o q => ?_)
  by_cases hb : b = a
  · subst hb
    rw [upd_same] at q
    cases q
    exact exo_ok hx
  · rw [upd_ne hb] at q
    by_cases hd : b = dx
    · subst hd
      rw [upd_same] at q
      cases q
      exact exd_ok hn (relO_put (fs := []) ry fun g => True.intro)
    · rw [upd_ne hd] at q
      exact (I.hok b o q).stay (fun c v hc z => k c v (hc.elim (fun hc => by rw [hc]; exact hb) fun hc => at_ne e hc exo_own) z) (fun c hc => far hc fun z => exo_own z.symm) (fun c xs hc => far hc fun z => exo_tup z.symm)
end
/-- self.f = e in such an __init__ -/
def tQst (K : PySem.W.Frag) (f : Str) (to te : TE) : TS := fun D σ H => te σ H fun y H1 => to σ H1 fun x H2 => ∃ a C fI : Addr, x = .ref a ∧ Qc K C fI f ∧ H2 a = some (exo a C none) ∧ ∀ dx, H2 dx = none → dx ≠ a → D.nx σ (upd (upd H2 dx (exd dx [(f, y)])) a (exo a C (some dx)))
section
variable {X : Cx} {o e : Expr} {es : List Expr} {to te : TE} {ta : TA} {f : Str} {p p' p1 p2 pos : Pos} {kws : List Keyword}
theorem ps_qst (ho : PE X o to) (he : PE X e te) (hs : swapsWith e (some (.Attribute o f p')) pos.line X.env = pure false := by rfl) : PS X (.Assign [.Attribute o f p'] e pos) (tQst X.K f to te) := by
  refine ⟨fun pins s σ H D I h => ?_⟩
  refine plainObj_wpAny_Assign_Attribute (thn (he.run pins s σ H _ I h) fun v s1 ⟨y, H1, I1, r1, q1⟩ => thn (ho.run pins s1 σ H1 _ I1 q1) fun u s2 ⟨x, H2, I2, r2, a, C, fI, ex, T, ea, q⟩ => ?_) hs
  subst ex
  obtain rfl : u = Value.ref a := r2
  exact qst_new T I2 ea r1 fun dx s' n ne J => ⟨σ, _, J, q dx n ne⟩
/-- C(e, ..) as a value -/
def tQmk (C : Addr) (sp : Sp) (ta : TA) : TE := fun σ H Q => ta σ H fun vs H1 => vs.length ≤ 1000 ∧ ∀ a, H1 a = none → sp (.ref a :: vs) (upd H1 a (exo a C none)) (fun v H2 => v = .non ∧ Q (.ref a) H2) (fun _ _ _ => False)
theorem q_make {CX : CXT} {C fI : Addr} {k : Nat} {fd : FuncData} {ps : List Str} {sp : Sp} {f : Str} {pins : List (Addr × Obj)} {σ : L2.St} {H1 : Hp} {s1 : Shared} {us : List Value} {kw : List (Str × Value)} {zs : List V} {ws : List Value} {Q : VK}
    (T : Qc X.K C fI f) (F1 : FnOk X.prog X.w X.K X.mg X.base CX k fI fd ps sp) (hr : Room (k + 1) X.A) (hx : Passes CX X (fun _ _ _ => False)) (I1 : Inv X pins σ H1 s1) (hz : us.length ≤ sizeLine)
    (hb : ∀ (s : Shared) (a : Addr), X.K.In s.heap → (Value.ref a :: ws).length = ps.length → BindsTo s fd ⟨.ref a :: us, kw⟩ (ps.zip (.ref a :: ws))) (r1 : Vals zs ws)
    (q1 : ∀ a, H1 a = none → sp (.ref a :: zs) (upd H1 a (exo a C none)) (fun v H2 => v = .non ∧ Q (.ref a) H2) (fun _ _ _ => False)) :
    wpAny (model X.prog X.w) X.A (call (.ref C) us kw) (EP X pins σ Q) X.xe s1 := by
  obtain ⟨nm, q, N, bs, Qa, sn, sub, ab, col, dd, k0, k1, k2, k3, k5, hC⟩ := T.cls
  obtain ⟨hp, g, dr, tk, os⟩ := s1
  have hsz : hp.objs.size ≤ hp.objs.size + 1 := Nat.le_succ _
  have hn : H1 (hp.objs.size + 1) = none := I1.hok.fresh hsz
  have hq := q1 (hp.objs.size + 1) hn
  have I2 : Inv X pins σ (upd H1 (hp.objs.size + 1) (exo (hp.objs.size + 1) C none)) ⟨born hp us C, g, dr, tk, os⟩ :=
    I1.laid (t' := tk) (a := hp.objs.size + 1) (o := exo (hp.objs.size + 1) C none) (h' := born hp us C) (fun b o e => born_old e) hsz (exo_ok born_at)
  have r2 : Vals (V.ref (hp.objs.size + 1) :: zs) (Value.ref (hp.objs.size + 1) :: ws) := .cons rfl r1
  have hl : (Value.ref (hp.objs.size + 1) :: ws).length = ps.length := by
    have e := r2.length
    rw [F1.len _ _ _ _ hq] at e
    exact e.symm
  refine wpAny_call (q_call PySem.F.excBase_Exception (q_has Qa) (I1.kIn _ _ hC) (PySem.W.looks_findIn I1.kIn T.iC) (fun self => PySem.W.bind_fn I1.kIn self T.tI) hz
    (codeAny_mono (F1.run _ X.stack _ _ ⟨Value.ref (hp.objs.size + 1) :: us, kw⟩ (Value.ref (hp.objs.size + 1) :: ws) _ _ (fun _ _ _ => False) (hr.make C us kw) (I2.env0.make C us kw) (hb _ _ I2.kIn hl) r2 hq) fun r s' hq' => ?_))
  cases r with
  | error er => exact hx pins σ _ _ er s' I2 hq'
  | ok fl =>
    cases fl with
    | ret u =>
      obtain ⟨v, H2, J, rv, rfl, q2⟩ := I2.after hq'
      cases rv
      exact ⟨rfl, .ref (hp.objs.size + 1), _, J, rfl, q2⟩
    | next => exact False.elim hq'
    | brk => exact False.elim hq'
    | cont => exact False.elim hq'
/-- C(e), by position -/
theorem pe_qmk {CX : CXT} {x : Str} {C fI : Addr} {k : Nat} {fd : FuncData} {ps : List Str} {sp : Sp} {n : Str} (T : Qc X.K C fI n) (F1 : FnOk X.prog X.w X.K X.mg X.base CX k fI fd ps sp) (hr : Room (k + 1) X.A) (hb : Binds X.K fd ps []) (hx : Passes CX X (fun _ _ _ => False)) (hg : Gl X x) (hm : X.mg x = some (.ref C)) (ha : PA X (e :: es) ta)
    (hdb : (x == ("__debug__" : Str)) = false := by decide) (he : starEach (e :: es) X.env = (false, eval e X.env) :: starEach es X.env := by rfl) (hpl : (backTo pos (starEach es X.env)).any (·.1) = false := by rfl) :
    PE X (.Call (.Name x p) (e :: es) [] pos) (tQmk C sp ta) := by
  refine ⟨fun pins s σ H Q I h => ?_⟩
  refine wpAny_Call_Name_kw (ld_glob I hg hm ?_ hdb)
  refine PySem.W.callWith_K (h₀ := X.base) I.ok.mod.kin T.kC (thn (ha.run pos pins s σ H _ I h) fun us s1 ⟨vs, H1, I1, r1, hz, q1⟩ => ⟨I1.kIn, ?_⟩) he hpl
  show wpAny _ _ (call (.ref C) us) _ _ _
  refine q_make (kw := []) (ws := us) T F1 hr hx I1 (by rw [← Paired.length r1, sizeLine_eq]; omega) (fun s a kI hl => by
    have z := hb s (.ref a :: us) kI (by rw [List.append_nil]; exact hl)
    rw [List.append_nil] at z
    exact z) r1 q1
/-- C(n=e), by name -/
structure KB1 (fd : FuncData) (ps ks : List Str) : Prop where
  to : ∀ (s : Shared) (a : Addr) (ws : List Value), (Value.ref a :: ws).length = ps.length → BindsTo s fd ⟨[.ref a], ks.zip ws⟩ (ps.zip (.ref a :: ws))
theorem pe_qmkK {CX : CXT} {x : Str} {C fI : Addr} {k : Nat} {fd : FuncData} {ps ks : List Str} {sp : Sp} {n : Str} (T : Qc X.K C fI n) (F1 : FnOk X.prog X.w X.K X.mg X.base CX k fI fd ps sp) (hr : Room (k + 1) X.A) (hb : KB1 fd ps ks) (hx : Passes CX X (fun _ _ _ => False)) (hg : Gl X x) (hm : X.mg x = some (.ref C)) (hkw : PK X kws ta)
    (hall : (backToKw pos (keywordEach kws X.env)).all (·.1.isSome) = true := by rfl) (hks : (backToKw pos (keywordEach kws X.env)).filterMap (·.1) = ks := by rfl)
    (hdb : (x == ("__debug__" : Str)) = false := by decide) (hpl : ((backTo pos (starEach [] X.env)).any (·.1) || (backToKw pos (keywordEach kws X.env)).any (·.1.isNone)) = false := by rfl) :
    PE X (.Call (.Name x p) [] kws pos) (tQmk C sp ta) := by
  refine ⟨fun pins s σ H Q I h => ?_⟩
  refine wpAny_Call_Name_kw (ld_glob I hg hm ?_ hdb)
  refine PySem.W.callWith_KW0 (h₀ := X.base) I.ok.mod.kin T.kC hall ?_ hpl
  refine thn (hkw.run pos pins s σ H _ I h) fun ws s2 ⟨zs, H2, I2, rz, hz, q2⟩ => ⟨I2.kIn, ?_⟩
  rw [hks]
  exact q_make (us := []) (kw := ks.zip ws) (ws := ws) T F1 hr hx I2 (Nat.zero_le _) (fun s a _ hl => hb.to s a ws hl) rz q2
end
end QY

set_option Elab.async false
set_option linter.all false
set_option maxRecDepth 100000
set_option maxHeartbeats 4000000
/-! Such an error as a value: its field, isinstance; raised. -/
namespace QZ
open PySem PySem.Spec PyProof.Rows L2 KT QY
/-- at a: an exception of the class at C, its dict at d; what else it holds is not told -/
def exq (a C : Addr) (d : Option Addr) : HO := .ext fun h => ∃ oe : Obj, h.get? a = some oe ∧ Zc (.ref C) d oe ∧ ∃ vs, oe.data = .fields vs
/-- an error stands at a: of the class at C, its field f holds v -/
def Xo (H : Hp) (a C : Addr) (f : Str) (v : V) : Prop := ∃ (dx : Addr) (fs : List (Str × V)), (H a = some (exo a C (some dx)) ∨ H a = some (exq a C (some dx))) ∧ (H dx = some (exd dx fs) ∨ H dx = some (.xd fs)) ∧ fs.lookup f = some v
theorem Xo.same {H H' : Hp} {a C : Addr} {f : Str} {v : V} (s : Same H H') (h : Xo H a C f v) : Xo H' a C f v := by
  obtain ⟨dx, fs, h1, h2, h3⟩ := h
  exact ⟨dx, fs, h1.imp (s _ _) (s _ _), h2.imp (s _ _) (s _ _), h3⟩
section
variable {X : Cx} {pins : List (Addr × Obj)} {σ : L2.St} {H : Hp} {s : Shared} {a C fI : Addr} {f : Str} {v : V}
theorem Xo.inst (I : Inv X pins σ H s) (h : Xo H a C f v) : ∃ (ox : Obj) (od : Obj) (u : Value), PySem.W.InstAt s.heap a ox C (some od) ∧ PySem.W.lookIn f od = some (some u) ∧ RelV v u := by
  obtain ⟨dx, fs, h1, h2, h3⟩ := h
  have hx : ∃ oe : Obj, s.heap.get? a = some oe ∧ Zc (.ref C) (some dx) oe ∧ ∃ vs, oe.data = .fields vs := by
    rcases h1 with h1 | h1
    · obtain ⟨t1, e⟩ := exo_at I.hok h1
      exact ⟨_, e, ⟨rfl, rfl⟩, _, rfl⟩
    · have z : ObjOk X.prog X.w H s.heap a (.ext fun h => ∃ oe : Obj, h.get? a = some oe ∧ Zc (.ref C) (some dx) oe ∧ ∃ vs, oe.data = .fields vs) := I.hok a _ h1
      exact z.1
  have hd : ∃ mA, s.heap.Ns1 dx mA ∧ ∀ f, RelO (fs.lookup f) (mA f) := by
    rcases h2 with h2 | h2
    · exact exd_at I.hok h2
    · have z : ObjOk X.prog X.w H s.heap dx (.xd fs) := I.hok dx _ h2
      exact z
  obtain ⟨oe, e, hz, vs, hv⟩ := hx
  obtain ⟨mA, hns, hr⟩ := hd
  obtain ⟨od, ho, hl⟩ := lookIn_ns hns
  obtain ⟨u, hu, ru⟩ := RelO.some_of (v := v) (o := mA f) (by rw [← h3]; exact hr f)
  refine ⟨oe, od, u, ⟨e, hz.1, by unfold PySem.W.notCls; rw [hv] <;> rfl, by rw [hz.2]; exact ho⟩, by rw [hl, hu], ru⟩
end
/-- e.f -/
def tQf (K : PySem.W.Frag) (f : Str) (te : TE) : TE := fun σ H Q => te σ H fun x H1 => ∃ (a C fI : Addr) (v : V), x = .ref a ∧ Qc K C fI f ∧ Xo H1 a C f v ∧ Q v H1
theorem pe_qf {X : Cx} {e : Expr} {te : TE} {pos : Pos} {n : Str} (he : PE X e te) (hb : attributeBase e n X.env (eval e X.env) = eval e X.env := by rfl) : PE X (.Attribute e n pos) (tQf X.K n te) := by
  refine ⟨fun pins s σ H Q I h => ?_⟩
  refine attr_of hb (thn (he.run pins s σ H _ I h) fun u s1 ⟨x, H1, I1, rx, a, C, fI, v, ex, T, xo, q⟩ => ?_)
  subst ex
  obtain rfl : u = Value.ref a := rx
  obtain ⟨ox, od, u, J, hl, ru⟩ := xo.inst I1
  exact HandSPX.exc_get I1.kIn J T.ga T.gg T.exC (PySem.W.findObj_own T.hd T.no rfl hl) (handed_of ru) ⟨v, H1, I1.tok _, ru, q⟩
/-- what isinstance asks of the class besides -/
structure Qi (K : PySem.W.Frag) (C : Addr) : Prop where
  ha : PySem.W.findIn K (.ref C) "__class__" = some (some (.builtin "object.__class__"))
  hn : PySem.W.specialIn K (.builtin "object.__class__") "__get__" = some (some (.builtin "getset_descriptor.__get__"))
  ht : PySem.W.takesIn K (.builtin "object.__class__") = some true
  hm : PySem.W.mroIn K C (.type "object") = some true
theorem kit_q {K : PySem.W.Frag} {a C fI : Addr} {f : Str} {ox : Obj} {od : Option Obj} (T : Qc K C fI f) (U : Qi K C) : PySem.W.KitX K (.ref a) (.ref C) (fun h => PySem.W.InstAt h a ox C od) := by
  refine PySem.W.kitx_exc ?_ T.ga T.gg T.exC U.ha U.hn U.ht U.hm
  have z := T.hd
  obtain ⟨cd, hc, _⟩ := PySem.W.any_some z
  rw [hc]
  rfl
def rIsQ (K : PySem.W.Frag) : List V → Hp → VK → Prop := fun xs H Q => ∃ (a C fI : Addr) (f : Str) (v c : V) (cv : Value) (b : Bool), xs = [.ref a, c] ∧ Xo H a C f v ∧ Qc K C fI f ∧ Qi K C ∧ ClsV c cv ∧ PySem.W.kitOne K (.ref C) cv = some b ∧ Q (.bl b) H
theorem call_isQ {X : Cx} : CallR X (.builtin "isinstance") (rIsQ X.K) := by
  intro pins s σ H xs us Q I r h
  obtain ⟨a, C, fI, f, v, c, cv, b, rfl, xo, T, U, k, e, q⟩ := h
  obtain ⟨u1, u2, rfl, r1, r2⟩ := vals2 r
  have e2 := k.eq r2
  subst e2
  obtain rfl : u1 = Value.ref a := r1
  obtain ⟨ox, od, u, J, hl, ru⟩ := xo.inst I
  exact PySem.W.kia_one (kit_q T U) I.kIn J e (fun z => nomatch z) fun tk => ⟨.bl b, H, I.kept (t' := tk) fun _ _ z => z, rfl, q⟩
def rIsQT (K : PySem.W.Frag) : List V → Hp → VK → Prop := fun xs H Q => ∃ (a C fI : Addr) (f : Str) (v : V) (tp : Addr) (cs : List V) (us : List Value) (b : Bool), xs = [.ref a, .ref tp] ∧ Xo H a C f v ∧ Qc K C fI f ∧ Qi K C ∧ H tp = some (.tup cs) ∧ Paired ClsV cs us ∧ PySem.W.kitAny K (.ref C) us = some b ∧ Q (.bl b) H
theorem call_isQT {X : Cx} : CallR X (.builtin "isinstance") (rIsQT X.K) := by
  intro pins s σ H xs us Q I r h
  obtain ⟨a, C, fI, f, v, tp, cs, ws, b, rfl, xo, T, U, hT, k, e, q⟩ := h
  obtain ⟨u1, u2, rfl, r1, r2⟩ := vals2 r
  cases (show u2 = Value.ref tp from r2)
  obtain rfl : u1 = Value.ref a := r1
  obtain ⟨ox, od, u, J, hl, ru⟩ := xo.inst I
  obtain ⟨_, its, rv, o, h1, h2, n, h3⟩ := (show ObjOk X.prog X.w H s.heap tp (.tup cs) from I.hok tp _ hT)
  have e3 := ClsV.all k rv
  subst e3
  obtain ⟨oc, oz, dt, sl⟩ := o
  dsimp only at h2 h3
  subst h2 h3
  exact PySem.W.kia_tup (kit_q T U) I.kIn J h1 e (fun z => nomatch z) fun tk => ⟨.bl b, H, I.kept (t' := tk) fun _ _ z => z, rfl, q⟩
/-- raise of what makes such an error -/
theorem pmk_q {X : Cx} {e : Expr} {te : TE} (hx : X.ex = []) (he : PE X e te) :
    PMk X e (fun σ H Q => te σ H fun x H1 => ∃ (a C fI d : Addr) (f : Str) (fs : List (Str × V)), x = .ref a ∧ Qc X.K C fI f ∧ H1 a = some (exo a C (some d)) ∧ H1 d = some (exd d fs) ∧ Fr0 X.H_0 a ∧ Q (.ref C) (some d) (upd (delH H1 a) d (.xd fs))) := by
  intro pins s σ H Q I h
  refine wpAny_mono (he.run pins s σ H _ I h) (fun u s1 hu => ?_) fun _ _ x => x
  obtain ⟨v, H1, I1, r1, a, C, fI, d, f, fs, rfl, T, ha, hd, h0, q⟩ := hu
  cases r1
  obtain ⟨t1, ho⟩ := exo_at I1.hok ha
  obtain ⟨mA, hns, rel⟩ := exd_at I1.hok hd
  have hda : d ≠ a := fun z => by
    obtain ⟨o, es, ep, e1, e2, _⟩ := hns
    rw [z, ho] at e1
    have z2 := Option.some.inj e1
    subst z2
    cases e2
  obtain ⟨G, gs, ga, J⟩ := I1.untrack (φ := fun h => ∃ t1 : Addr, h.get? a = some ({ cls := .ref C, dict := some d, data := .fields #[.ref t1, .none, .none, .none, .bool false, .none] } : Obj)) ha h0 hx
  have hd2 : delH H1 a d = some (exd d fs) := by
    rw [delH_ne hda]
    exact hd
  obtain ⟨mB, hn2, rel2⟩ := exd_at J.hok hd2
  have hg : ∃ o, G.get? d = some o := by
    obtain ⟨o, _, _, e, _⟩ := hn2
    exact ⟨o, e⟩
  have J2 := J.write (x := d) (e := d) (o := .xd fs) (h' := G) (t' := s1.toks) (by rw [hd2]; exact True.intro) (.inl rfl) (fun _ _ _ e => e) hg ⟨mB, hn2, rel2⟩
  exact ⟨a, _, _, _, _, .ref C, some d, rfl, J2, gs, ga, ho, ⟨rfl, rfl⟩, rfl, rfl, by rw [upd_ne hda.symm, delH_same], rfl, I1.bare, raises_own T.exC T.tyC, q⟩
end QZ

set_option Elab.async false
set_option linter.all false
set_option maxRecDepth 100000
set_option maxHeartbeats 4000000
/-! A def whose promise holds under a handled exception too: its body's rules ask no calm. -/
namespace QH
open PySem PySem.Spec PyProof.Rows L2 KT
open L2H (RoomH)
/-- the context of such a body -/
def cxQ (CX : CXT) (P : Program) (w : World) (K : PySem.W.Frag) (mg : Str → Option Value) (base : Heap) (N : List Str) (qual : Str) (scope : Scope) (f : Addr) (cd : Value) (A : Around) (outer : List Env) (s : Shared) (H : Hp) (E : XK) : Cx :=
  { cxOf CX P w K mg base N qual scope f cd A outer s H E with calm := false }
section
variable {CX : CXT} {P : Program} {w : World} {K : PySem.W.Frag} {mg : Str → Option Value} {base : Heap} {N ps : List Str} {qual : Str} {scope : Scope} {f : Addr} {cd : Value} {A : Around} {outer : List Env} {s s1 : Shared} {H : Hp} {E : XK} {us : List Value} {vs : List V}
theorem startQ (S : FnScope N ps scope) (e0 : Env0 P w K mg base A outer s H) (hl : vs.length = ps.length) (r : Vals vs us)
    (x : InCallC s s.heap.objs.size (bindL (envOfC qual scope s.heap.objs.size f cd).kindOf (ps.zip us) fun _ => none) (cellsFrom (s.heap.objs.size + 1) scope.names []) (bindC (envOfC qual scope s.heap.objs.size f cd).kindOf (ps.zip us) fun _ => none) s1) :
    Inv (cxQ CX P w K mg base N qual scope f cd A outer s H E) [] (L2.start N vs) H s1 := by
  have e1 : Env0 P w K mg base { A with handled := none } outer s H := ⟨e0.frames, e0.mod, e0.bs, e0.bsz, e0.funs, e0.frf, e0.hok, e0.bare⟩
  have I := L2.inv_start (CX := CX) (E := E) (A := { A with handled := none }) S rfl e1 hl r x
  have k := I.ok
  exact ⟨⟨k.mod, k.kind, k.glob, k.blt, k.above, k.inj, k.has, k.cab, (fun z => Bool.noConfusion (show false = true from z)), Around.frames_deeper e0.frames, k.stk, k.exf, k.bs, k.bsz, k.noex, k.exfs, k.funs, k.frf⟩,
    I.os, I.bare, I.base, I.loc, I.cell, I.free, I.freeC, I.pin, I.hok, I.len⟩
end
structure FnQ (P : Program) (w : World) (K : PySem.W.Frag) (mg : Str → Option Value) (base : Heap) (k : Nat) (f : Addr) (fd : FuncData) (ps : List Str) (sp : Sp) : Prop where
  len : ∀ vs H Q E, sp vs H Q E → vs.length = ps.length
  run : ∀ (A : Around) (outer : List Env) (s : Shared) (H : Hp) (args : Args) (us : List Value) (vs : List V) (Q : VK), RoomH k A → Env0 P w K mg base A outer s H → BindsTo s fd args (ps.zip us) → Vals vs us → sp vs H Q E0 →
    codeAny (model P w) A (.call (.ref f) args) (CR CX0 outer P w H s Q E0) s
section
variable {P : Program} {w : World} {K : PySem.W.Frag} {mg : Str → Option Value} {base : Heap} {k : Nat} {f : Addr} {x qual : Str} {st : Stmt} {fd : FuncData} {N ps : List Str} {sp : Sp}
theorem okQ (F : Fun K x qual st f fd) (S : FnScope N ps (defScope st)) (len : ∀ vs H Q E, sp vs H Q E → vs.length = ps.length)
    (body : ∀ (cdv : Value) (A : Around) (outer : List Env) (s : Shared) (H : Hp) (vs : List V) (Q : VK), RoomH k (A.deeper (envOfC qual (defScope st) s.heap.objs.size f cdv)) → sp vs H Q E0 →
      ∃ t, PSs (cxQ CX0 P w K mg base N qual (defScope st) f cdv A outer s H E0) (defBody st) t ∧ t { nx := fun _ H' => Q .non H', rt := Q } (L2.start N vs) H) : FnQ P w K mg base (k + 1) f fd ps sp := by
  obtain ⟨oc, od, kV, doc, pm, an, cdv, ct, osl, e, l, c⟩ := F.ex
  subst e
  refine ⟨len, fun A outer s H args us vs Q hr e0 hb r hsp => ?_⟩
  have hl := len _ _ _ _ hsp
  have inK : K.In s.heap := e0.mod.kin.keeps fun b o e => (e0.bs b o e).1
  have kinds : ∀ y ∈ ps.zip us, (defScope st).names.lookup y.1 = some .local ∨ ((defScope st).names.lookup y.1 = some .cell ∧ ((cellsFrom (s.heap.objs.size + 1) (defScope st).names []).lookup y.1).isSome = true) := fun ⟨n, v⟩ hy =>
    (S.par n (List.of_mem_zip hy).1).imp id fun q => ⟨q, PySem.W.cellsFrom_some _ _ _ (.inl q)⟩
  refine codeAny_call_function hr.depth (inK _ _ l) rfl S.co S.gen rfl (PySem.W.codeRec_of inK c) (hb _ _ _ _ ?_)
  refine wpAny_newFunctionEnv_cells S.kind kinds fun env he s1 x => ?_
  subst he
  refine ⟨(e0.mod.nolimit.keeps fun b o e => (e0.bs b o e).1).keeps x.toInCall.keep, codeAny_func ?_⟩
  obtain ⟨t, ht, hq⟩ := body cdv A outer s H vs Q (hr.deeper _) hsp
  have I : Inv (cxQ CX0 P w K mg base N qual (defScope st) f cdv A outer s H E0) [] (L2.start N vs) H s1 := startQ S e0 hl r x
  have fin : ∀ {σ' : L2.St} {s' : Shared} {H' : Hp} {v : V} {u : Value}, Inv (cxQ CX0 P w K mg base N qual (defScope st) f cdv A outer s H E0) [] σ' H' s' → RelV v u → Q v H' → CE outer P w H s Q u s' :=
    fun {σ' s' H' v u} J rv q => ⟨v, H', J.os, J.bare, J.base, J.hok, rv, q⟩
  refine wpAny_mono (ht.run [] s1 (L2.start N vs) H _ I hq) (fun fl s' hs => ?_) fun e s' hs => hs
  match fl, hs with
  | .ret u, ⟨v, σ', H', J, rv, q⟩ => exact fin J rv q
  | .next, ⟨σ', H', J, q⟩ => exact fin (v := V.non) (u := Value.none) J rfl q
  | .brk, ⟨_, _, _, q⟩ => exact q.elim
  | .cont, ⟨_, _, _, q⟩ => exact q.elim
end
section
variable {X : Cx} {k : Nat} {f : Addr} {fd : FuncData} {ps : List Str} {sp : Sp} {x : Str} {q pos : Pos} {e : Expr} {es : List Expr} {t : TA}
theorem pe_callQ (F : FnQ X.prog X.w X.K X.mg X.base k f fd ps sp) (hr : RoomH k X.A) (hg : Gl X x) (hm : X.mg x = some (.ref f)) (hk : PySem.W.keepIn X.K (.ref f) = true) (hb : L2.Binds X.K fd ps [])
    (ha : PA X (e :: es) t) (hdb : (x == ("__debug__" : Str)) = false := by decide) (he : starEach (e :: es) X.env = (false, eval e X.env) :: starEach es X.env := by rfl) (hpl : (backTo pos (starEach es X.env)).any (·.1) = false := by rfl) :
    PE X (.Call (.Name x q) (e :: es) [] pos) (fun σ H Q => t σ H fun vs H1 => sp vs H1 Q E0) := by
  refine ⟨fun pins s σ H Q I h => ?_⟩
  refine wpAny_Call_Name_kw (ld_glob I hg hm ?_ hdb)
  refine PySem.W.callWith_K (h₀ := X.base) I.ok.mod.kin hk (thn (ha.run pos pins s σ H _ I h) fun us s1 ⟨vs, H1, I1, r, q1⟩ => ⟨I1.kIn, ?_⟩) he hpl
  have hl : us.length = ps.length := by
    rw [← r.length]
    exact F.len _ _ _ _ q1
  have b := hb s1 us I1.kIn (by rw [List.append_nil]; exact hl)
  rw [List.append_nil] at b
  refine wpAny_call (codeAny_mono (F.run X.A X.stack s1 H1 ⟨us, []⟩ us vs Q hr I1.env0 b r q1) fun r s' hq => ?_)
  match r, hq with
  | .error e, hq => exact pass0 pins σ H1 s1 e s' I1 hq
  | .ok (.ret u), hq => exact I1.after hq
  | .ok .next, hq => exact False.elim hq
  | .ok .brk, hq => exact False.elim hq
  | .ok .cont, hq => exact False.elim hq
end
end QH

set_option Elab.async false
set_option linter.all false
set_option maxRecDepth 100000
set_option maxHeartbeats 4000000
/-! The class facts, as one Bool of the written part. -/
namespace QB
open PySem PySem.Spec PyProof.Rows L2 KT QY QZ
open PySem.QX (exTail)
open He (ga ma eqO eqO_ok)
variable {K : PySem.W.Frag}
def qclsB (K : PySem.W.Frag) (C Q : Addr) : Bool := match K.lookup C with
  | some ⟨.type T, _, .cls cd, sl⟩ => decide (T = "type") && (match sl.toList with
    | [_, _, _, _, some (.builtin n), _] => decide (n = "Exception.__new__") && (decide (cd.mro = .ref C :: .ref Q :: exTail) && (cd.hasDict && !cd.hasDel))
    | _ => false)
  | _ => false
theorem and2 {a b : Bool} (h : (a && b) = true) : a = true ∧ b = true := (Bool.and_eq_true _ _).mp h
theorem qclsB_ok {C Q : Addr} (h : qclsB K C Q = true) :
    ∃ nm q N bs Q sn sub ab col dd k0 k1 k2 k3 k5, K.lookup C = some (excClassObj nm q C N bs (.ref Q :: exTail) true sn sub ab col dd k0 k1 k2 k3 k5 "Exception.__new__") := by
  unfold qclsB at h
  split at h
  · rename_i T dd cd sl e
    obtain ⟨h1, h2⟩ := and2 h
    have eT := of_decide_eq_true h1
    split at h2
    · rename_i k0 k1 k2 k3 n k5 es
      obtain ⟨g1, g2⟩ := and2 h2
      obtain ⟨g3, g4⟩ := and2 g2
      obtain ⟨g5, g6⟩ := and2 g4
      have en := of_decide_eq_true g1
      have em := of_decide_eq_true g3
      obtain ⟨sl⟩ := sl
      have es2 : sl = [k0, k1, k2, k3, some (.builtin n), k5] := es
      subst eT en es2
      obtain ⟨a1, a2, a3, a4, a5, a6, a7, a8, a9, a10, a11⟩ := cd
      dsimp only at em g5 g6
      have g7 : a11 = false := by
        cases a11
        · rfl
        · cases g6
      subst em g5 g7
      exact ⟨_, _, _, _, Q, _, _, _, _, _, _, _, _, _, _, e⟩
    · cases h2
  · cases h
def qB (K : PySem.W.Frag) (x f : Str) : Bool :=
  qclsB K (ga K x) (ga K "QuickError") && (eqO (PySem.W.findIn K (.ref (ga K x)) "__setattr__") (some (some (.builtin "object.__setattr__"))) && (eqO (PySem.W.findIn K (.ref (ga K x)) f) (some none) &&
  (eqO (PySem.W.findIn K (.ref (ga K x)) "__init__") (some (some (.ref (ma K (ga K x) "__init__")))) && (decide (PySem.W.typeIn K (.ref (ma K (ga K x) "__init__")) = some (.type "function")) && (PySem.W.keepIn K (.ref (ga K x)) &&
  (decide (PySem.W.subIn K (.ref (ga K x)) (.type "BaseException") = some true) && (decide (PySem.W.typeIn K (.ref (ga K x)) = some (.type "type")) && (eqO (PySem.W.findIn K (.ref (ga K x)) "__getattribute__") (some (some (.builtin "BaseException.__getattribute__"))) &&
  (eqO (PySem.W.findIn K (.ref (ga K x)) "__getattr__") (some none) && (PySem.W.hasDictIn K (ga K x) && (eqO (PySem.W.findIn K (.ref (ga K x)) "__class__") (some (some (.builtin "object.__class__"))) &&
  (decide (PySem.W.mroIn K (ga K x) (.type "object") = some true) && (eqO (PySem.W.specialIn K (.builtin "object.__class__") "__get__") (some (some (.builtin "getset_descriptor.__get__"))) && decide (PySem.W.takesIn K (.builtin "object.__class__") = some true))))))))))))))
theorem qB_ok {x f : Str} (h : qB K x f = true) : Qc K (ga K x) (ma K (ga K x) "__init__") f ∧ Qi K (ga K x) := by
  obtain ⟨h1, h⟩ := and2 h
  obtain ⟨h2, h⟩ := and2 h
  obtain ⟨h3, h⟩ := and2 h
  obtain ⟨h4, h⟩ := and2 h
  obtain ⟨h5, h⟩ := and2 h
  obtain ⟨h6, h⟩ := and2 h
  obtain ⟨h7, h⟩ := and2 h
  obtain ⟨h8, h⟩ := and2 h
  obtain ⟨h9, h⟩ := and2 h
  obtain ⟨h10, h⟩ := and2 h
  obtain ⟨h11, h⟩ := and2 h
  obtain ⟨h12, h⟩ := and2 h
  obtain ⟨h13, h⟩ := and2 h
  obtain ⟨h14, h15⟩ := and2 h
  exact ⟨⟨qclsB_ok h1, eqO_ok h2, eqO_ok h3, eqO_ok h4, of_decide_eq_true h5, h6, of_decide_eq_true h7, of_decide_eq_true h8, eqO_ok h9, eqO_ok h10, h11⟩, ⟨eqO_ok h12, eqO_ok h14, of_decide_eq_true h15, of_decide_eq_true h13⟩⟩
/-- the classes, each with its field -/
def clsL : List (Str × Str) := [("BadTree", "thing"), ("BadProgram", "thing"), ("BadWord", "thing"), ("BadText", "at"), ("BadPath", "thing"), ("BadRaw", "thing"), ("BadName", "thing"), ("BadInputs", "thing"), ("BadPoly", "thing"),
  ("BadTable", "thing"), ("BadNumber", "thing"), ("BadStep", "thing"), ("BadUnit", "thing"), ("BadStanding", "thing"), ("BadSharing", "thing"), ("BadBytes", "at"), ("BadUnits", "thing"), ("BadMachine", "thing")]
def farL : List Value := [.type "ValueError", .type "TypeError", .type "LookupError", .type "ArithmeticError", .type "RuntimeError", .type "AttributeError"]
def oneB (K : PySem.W.Frag) (x : Str) : Bool :=
  decide (PySem.W.kitOne K (.ref (ga K x)) (.ref (ga K "QuickError")) = some true) && (decide (PySem.W.kitOne K (.ref (ga K x)) (.type "Exception") = some true) && (decide (PySem.W.kitAny K (.ref (ga K x)) farL = some false) &&
  (decide (PySem.W.exmOne K (.ref (ga K x)) (.ref (ga K "QuickError")) = some true) && clsL.all fun q => decide (PySem.W.kitOne K (.ref (ga K x)) (.ref (ga K q.1)) = some (decide (x = q.1))) && decide (PySem.W.exmOne K (.ref (ga K x)) (.ref (ga K q.1)) = some (decide (x = q.1))))))
def allB (K : PySem.W.Frag) : Bool := clsL.all fun p => qB K p.1 p.2 && oneB K p.1
/-- what the written part says of such a class, by its name -/
structure Qk (K : PySem.W.Frag) (x f : Str) : Prop where
  c : Qc K (ga K x) (ma K (ga K x) "__init__") f
  i : Qi K (ga K x)
  own : PySem.W.kitOne K (.ref (ga K x)) (.ref (ga K "QuickError")) = some true
  exc : PySem.W.kitOne K (.ref (ga K x)) (.type "Exception") = some true
  far : PySem.W.kitAny K (.ref (ga K x)) farL = some false
  base : PySem.W.exmOne K (.ref (ga K x)) (.ref (ga K "QuickError")) = some true
  is : ∀ q ∈ clsL, PySem.W.kitOne K (.ref (ga K x)) (.ref (ga K q.1)) = some (decide (x = q.1)) ∧ PySem.W.exmOne K (.ref (ga K x)) (.ref (ga K q.1)) = some (decide (x = q.1))
theorem allB_ok (h : allB K = true) {x f : Str} (m : (x, f) ∈ clsL) : Qk K x f := by
  obtain ⟨h1, h⟩ := and2 (List.all_eq_true.mp h _ m)
  obtain ⟨h2, h⟩ := and2 h
  obtain ⟨h3, h⟩ := and2 h
  obtain ⟨h4, h⟩ := and2 h
  obtain ⟨h5, h6⟩ := and2 h
  obtain ⟨g1, g2⟩ := qB_ok h1
  exact ⟨g1, g2, of_decide_eq_true h2, of_decide_eq_true h3, of_decide_eq_true h4, of_decide_eq_true h5, fun q hq => by
    obtain ⟨e1, e2⟩ := and2 (List.all_eq_true.mp h6 q hq)
    exact ⟨of_decide_eq_true e1, of_decide_eq_true e2⟩⟩
end QB

set_option Elab.async false
set_option linter.all false
set_option maxRecDepth 100000
set_option maxHeartbeats 4000000
/-! Such errors by their names: made, kept in a list. -/
namespace QE
open PySem PySem.Spec PyProof.Rows L2 KT QY QZ QB QH
open L2H (RoomH)
open He (ga ma)
section
variable {K : PySem.W.Frag} {x qual : Str} {st : Stmt} {params : Arguments} {body : List Stmt} {scope : Scope} {f : Addr} {fd : FuncData} {ps ks : List Str}
theorem fun_ofM (F : FunD K x qual (defArgs st) (defBody st) (defScope st) [] [] f fd) : Fun K x qual st f fd := by
  obtain ⟨⟨oc, od, dV, kV, doc, pm, an, cdv, ct, osl, e, l, c, d, _⟩, kp⟩ := F
  obtain rfl : dV = .none := by
    rcases d with ⟨_, h⟩ | ⟨h, _⟩
    · exact h
    · exact absurd rfl h
  exact ⟨⟨oc, od, kV, doc, pm, an, cdv, ct, osl, e, l, c⟩, kp⟩
theorem kb1_of (F : FunD K x qual params body scope [] [] f fd)
    (h : ∀ (kV doc pm : Value) (an : Option Addr) (cdv ct : Value) (ws : List Value) (a : Addr), (Value.ref a :: ws).length = ps.length → bindArgs (PySem.W.fnOf x qual params body scope .none kV doc pm an cdv ct) ⟨[.ref a], ks.zip ws⟩ = pure (ps.zip (.ref a :: ws))) : KB1 fd ps ks := by
  obtain ⟨oc, od, dV, kV, doc, pm, an, cdv, ct, osl, rfl, lk, hcd, hD, hK⟩ := F.ex
  rcases hD with ⟨_, rfl⟩ | ⟨e, _⟩
  · exact ⟨fun s a ws hl => .of_eq (h kV doc pm an cdv ct ws a hl)⟩
  · exact absurd rfl e
end
/-- a promise under a handled exception is one under none -/
theorem _root_.QH.FnQ.ok {P : Program} {w : World} {K : PySem.W.Frag} {mg : Str → Option Value} {base : Heap} {k : Nat} {f : Addr} {fd : FuncData} {ps : List Str} {sp : Sp} (F : FnQ P w K mg base k f fd ps sp) (h : ∀ vs H Q E, sp vs H Q E → sp vs H Q E0) :
    FnOk P w K mg base CX0 k f fd ps sp := ⟨F.len, fun A outer s H args us vs Q E hr e0 hb r q => codeAny_mono (F.run A outer s H args us vs Q (L2H.roomH_of hr) e0 hb r (h _ _ _ _ q)) fun rr s' hq => match rr, hq with
  | .ok (.ret _), hq => hq
  | .ok .next, hq => hq.elim
  | .ok .brk, hq => hq.elim
  | .ok .cont, hq => hq.elim
  | .error _, hq => False.elim hq⟩
/-! ### made -/
/-- a new error of the class x at a, its field f -/
def New (K : PySem.W.Frag) (H H' : Hp) (a : Addr) (x f : Str) (y : V) : Prop :=
  Same H H' ∧ H a = none ∧ ∃ dx, H dx = none ∧ dx ≠ a ∧ H' a = some (exo a (ga K x) (some dx)) ∧ H' dx = some (exd dx [(f, y)])
theorem New.xo {K : PySem.W.Frag} {H H' : Hp} {a : Addr} {x f : Str} {y : V} (n : New K H H' a x f y) : Xo H' a (ga K x) f y := by
  obtain ⟨_, _, dx, _, _, h1, h2⟩ := n
  refine ⟨dx, _, .inl h1, .inl h2, ?_⟩
  rw [List.lookup_cons]
  simp
/-- what such an __init__ does -/
def spI (K : PySem.W.Frag) (f : Str) : Sp := fun vs H Q _ => ∃ (a C fI : Addr) (y : V), vs = [.ref a, y] ∧ Qc K C fI f ∧ H a = some (exo a C none) ∧ ∀ dx, H dx = none → dx ≠ a → Q .non (upd (upd H dx (exd dx [(f, y)])) a (exo a C (some dx)))
/-- what is known of the class x: its facts, its name, its __init__ -/
structure Ec (P : Program) (w : World) (K : PySem.W.Frag) (mg : Str → Option Value) (base : Heap) (x f : Str) (fd : FuncData) : Prop where
  k : Qk K x f
  g : mg x = some (.ref (ga K x))
  F : FnOk P w K mg base CX0 1 (ma K (ga K x) "__init__") fd ["self", f] (spI K f)
  b : Binds K fd ["self", f] []
  kb : KB1 fd ["self", f] [f]
structure Ers (P : Program) (w : World) (K : PySem.W.Frag) (mg : Str → Option Value) (base : Heap) (fi : Str → FuncData) : Prop where
  q : mg "QuickError" = some (.ref (ga K "QuickError"))
  of : ∀ x f, (x, f) ∈ clsL → Ec P w K mg base x f (fi x)
theorem mk_of {K : PySem.W.Frag} {x f : Str} {Q : VK} (k : Qk K x f) {y : V} {H1 : Hp} (h : ∀ a H2, New K H1 H2 a x f y → Q (.ref a) H2) :
    ∀ a, H1 a = none → spI K f (.ref a :: [y]) (upd H1 a (exo a (ga K x) none)) (fun v H2 => v = .non ∧ Q (.ref a) H2) (fun _ _ _ => False) := fun a ha => by
  refine ⟨a, ga K x, ma K (ga K x) "__init__", y, rfl, k.c, upd_same, fun dx hd ne => ⟨rfl, h a _ ⟨fun b o e => ?_, ha, dx, ?_, ne, upd_same, ?_⟩⟩⟩
  · have n1 : b ≠ a := ne_of_none e ha
    rw [upd_ne ne] at hd
    rw [upd_ne n1, upd_ne (ne_of_none e hd), upd_ne n1]
    exact e
  · rw [upd_ne ne] at hd
    exact hd
  · rw [upd_ne ne, upd_same]
section
variable {X : Cx} {x f : Str} {fd : FuncData} {e : Expr} {te : TE} {p pos p2 : Pos}
theorem pe_new (E : Ec X.prog X.w X.K X.mg X.base x f fd) (hr : Room 2 X.A) (he : PE X e te) (hg : Gl X x) (hdb : (x == ("__debug__" : Str)) = false := by decide) (hse : starEach [e] X.env = (false, eval e X.env) :: starEach [] X.env := by rfl)
    (hpl : (backTo pos (starEach [] X.env)).any (·.1) = false := by rfl) : PE X (.Call (.Name x p) [e] [] pos) (tQmk (ga X.K x) (spI X.K f) (tCons te tNil)) :=
  pe_qmk E.k.c E.F hr E.b pass0 hg E.g (pa_cons he pa_nil hse) hdb hse hpl
theorem pe_newK {kws : List Keyword} {ta : TA} (E : Ec X.prog X.w X.K X.mg X.base x f fd) (hr : Room 2 X.A) (hkw : PK X kws ta) (hg : Gl X x)
    (hall : (backToKw pos (keywordEach kws X.env)).all (·.1.isSome) = true := by rfl) (hks : (backToKw pos (keywordEach kws X.env)).filterMap (·.1) = [f] := by rfl)
    (hdb : (x == ("__debug__" : Str)) = false := by decide) (hpl : ((backTo pos (starEach [] X.env)).any (·.1) || (backToKw pos (keywordEach kws X.env)).any (·.1.isNone)) = false := by rfl) :
    PE X (.Call (.Name x p) [] kws pos) (tQmk (ga X.K x) (spI X.K f) ta) :=
  pe_qmkK E.k.c E.F hr E.kb pass0 hg E.g hkw hall hks hdb hpl
end
/-! ### several, made one behind the other -/
def Made (K : PySem.W.Frag) (H : Hp) (y : V) : List Addr → List (Str × Str) → Prop
  | [], [] => True
  | a :: as, p :: ps => Xo H a (ga K p.1) p.2 y ∧ Made K H y as ps
  | _, _ => False
theorem Made.same {K : PySem.W.Frag} {H H' : Hp} {y : V} (s : Same H H') : ∀ {as : List Addr} {ps : List (Str × Str)}, Made K H y as ps → Made K H' y as ps
  | [], [], _ => trivial
  | _ :: _, _ :: _, h => ⟨h.1.same s, Made.same s h.2⟩
  | [], _ :: _, h => h
  | _ :: _, [], h => h
theorem Made.app {K : PySem.W.Frag} {H : Hp} {y : V} : ∀ {as bs : List Addr} {ps qs : List (Str × Str)}, Made K H y as ps → Made K H y bs qs → Made K H y (as ++ bs) (ps ++ qs)
  | [], _, [], _, _, k => k
  | _ :: _, _, _ :: _, _, h, k => ⟨h.1, Made.app h.2 k⟩
  | [], _, _ :: _, _, h, _ => h.elim
  | _ :: _, _, [], _, h, _ => h.elim
theorem Made.len {K : PySem.W.Frag} {H : Hp} {y : V} : ∀ {as : List Addr} {ps : List (Str × Str)}, Made K H y as ps → as.length = ps.length
  | [], [], _ => rfl
  | _ :: _, _ :: _, h => congrArg (· + 1) (Made.len h.2)
  | [], _ :: _, h => h.elim
  | _ :: _, [], h => h.elim
theorem Made.at {K : PySem.W.Frag} {H : Hp} {y : V} : ∀ {as : List Addr} {ps : List (Str × Str)} {i : Nat} {p : Str × Str}, Made K H y as ps → ps[i]? = some p → ∃ a, as[i]? = some a ∧ Xo H a (ga K p.1) p.2 y
  | a :: _, _ :: _, 0, _, h, e => by
    cases e
    exact ⟨a, rfl, h.1⟩
  | _ :: _, _ :: _, i + 1, _, h, e => Made.at (i := i) h.2 e
  | [], [], _, _, _, e => by simp at e
  | [], _ :: _, _, _, h, _ => h.elim
  | _ :: _, [], _, _, h, _ => h.elim
def tMks (K : PySem.W.Frag) (te : TA) : List (Str × Str) → TA
  | [] => tNil
  | p :: ps => tCons (tQmk (ga K p.1) (spI K p.2) te) (tMks K te ps)
theorem mks {K : PySem.W.Frag} {y : V} {te : TA} {σ : L2.St} (ht : ∀ H (R : List V → Hp → Prop), R [y] H → te σ H R) : ∀ (ps : List (Str × Str)) (H : Hp) (R : List V → Hp → Prop), (∀ p ∈ ps, Qk K p.1 p.2) →
    (∀ as H', Same H H' → Made K H' y as ps → R (as.map V.ref) H') → tMks K te ps σ H R
  | [], H, R, _, h => h [] H (fun _ _ e => e) trivial
  | p :: ps, H, R, k, h => by
    refine ht H _ ⟨by show 1 ≤ 1000; decide, mk_of (Q := fun x H1 => tMks K te ps σ H1 fun xs H2 => R (x :: xs) H2) (k p (List.mem_cons_self ..)) fun a H2 n => ?_⟩
    refine mks ht ps H2 _ (fun q hq => k q (List.mem_cons_of_mem _ hq)) fun as H3 s3 m => ?_
    exact h (a :: as) H3 (fun b o e => s3 _ _ (n.1 _ _ e)) ⟨n.xo.same s3, m⟩
theorem Xo.kept {H H' : Hp} {a C : Addr} {f : Str} {y : V} (k : ∀ b o, H b = some o → (∀ xs, o ≠ .lst xs) → H' b = some o) (h : Xo H a C f y) : Xo H' a C f y := by
  obtain ⟨dx, fs, h1, h2, h3⟩ := h
  exact ⟨dx, fs, h1.imp (fun e => k _ _ e fun _ z => nomatch z) (fun e => k _ _ e fun _ z => nomatch z), h2.imp (fun e => k _ _ e fun _ z => nomatch z) (fun e => k _ _ e fun _ z => nomatch z), h3⟩
theorem Made.kept {K : PySem.W.Frag} {H H' : Hp} {y : V} (k : ∀ b o, H b = some o → (∀ xs, o ≠ .lst xs) → H' b = some o) : ∀ {as : List Addr} {ps : List (Str × Str)}, Made K H y as ps → Made K H' y as ps
  | [], [], _ => trivial
  | _ :: _, _ :: _, h => ⟨Xo.kept k h.1, Made.kept k h.2⟩
  | [], _ :: _, h => h
  | _ :: _, [], h => h
/-- found.extend([C(y), ..]) -/
theorem ext_mks {K : PySem.W.Frag} {y : V} {te : TA} {σ : L2.St} {D : Ends} {H0 H : Hp} {L : Addr} {as : List Addr} {qs : List (Str × Str)} (ps : List (Str × Str)) (ht : ∀ H (R : List V → Hp → Prop), R [y] H → te σ H R) (hL : σ[1]? = some (some (.ref L)))
    (n0 : H0 L = none) (s0 : Same H0 H) (e : H L = some (.lst (as.map V.ref))) (m : Made K H y as qs) (k : ∀ p ∈ ps, Qk K p.1 p.2) (small : as.length + ps.length ≤ 100)
    (q : ∀ bs H', Same H0 H' → H' L = some (.lst ((as ++ bs).map V.ref)) → Made K H' y (as ++ bs) (qs ++ ps) → D.nx σ H') :
    tDrop (tBM K "list" rExtend (tVar 1) (tCons (tLst (tMks K te ps)) tNil)) D σ H := by
  refine ⟨_, hL, .inl ⟨rfl, _, SqL.of e⟩, ?_⟩
  refine mks ht ps H _ k fun bs H2 s2 m2 => ?_
  have lb := m2.len
  have ten : 100 ≤ sizeLine := by rw [sizeLine_eq]; decide
  refine ⟨by rw [List.length_map]; omega, fun p np => ?_⟩
  have s3 : Same H2 (upd H2 p (.lst (bs.map V.ref))) := fun b o eb => by
    rw [upd_ne (ne_of_none eb np)]
    exact eb
  have eL := s3 _ _ (s2 _ _ e)
  refine ⟨L, p, _, _, rfl, rfl, eL, upd_same, by rw [List.length_map, List.length_map]; omega, ?_⟩
  rw [← List.map_append]
  have nL : ∀ b o, H0 b = some o → b ≠ L := fun b o eb z => by
    rw [z, n0] at eb
    cases eb
  have kk : ∀ b o, (upd H2 p (.lst (bs.map V.ref))) b = some o → (∀ xs, o ≠ .lst xs) → (upd (upd H2 p (.lst (bs.map V.ref))) L (.lst ((as ++ bs).map V.ref))) b = some o := fun b o eb nl => by
    rw [upd_ne (fun z => by rw [z, eL] at eb; exact nl _ (Option.some.inj eb).symm)]
    exact eb
  refine q bs _ (fun b o eb => ?_) upd_same (Made.kept kk (Made.same s3 (Made.app (Made.same s2 m) m2)))
  rw [upd_ne (nL b o eb)]
  exact s3 _ _ (s2 _ _ (s0 _ _ eb))
/-! ### isinstance(e, C), many -/
def tIss (K : PySem.W.Frag) : List (Str × Str) → TA
  | [] => tNil
  | p :: ps => tCons (tCB (rIsQ K) (tCons (tVar 0) (tCons (tC (.ref (ga K p.1))) tNil))) (tIss K ps)
theorem iss {K : PySem.W.Frag} {a : Addr} {x f : Str} {v : V} {σ : L2.St} {H : Hp} (hσ : σ[0]? = some (some (.ref a))) (xo : Xo H a (ga K x) f v) (k : Qk K x f) : ∀ (ps : List (Str × Str)) (R : List V → Hp → Prop), (∀ p ∈ ps, p ∈ clsL) →
    R (ps.map fun q => .bl (decide (x = q.1))) H → tIss K ps σ H R
  | [], R, _, h => h
  | p :: ps, R, m, h => by
    refine ⟨_, hσ, a, ga K x, ma K (ga K x) "__init__", f, v, .ref (ga K p.1), .ref (ga K p.1), _, rfl, xo, k.c, k.i, .own _, (k.is p (m p (List.mem_cons_self ..))).1, ?_⟩
    exact iss hσ xo k ps _ (fun q hq => m q (List.mem_cons_of_mem _ hq)) h
theorem ext_iss {K : PySem.W.Frag} {a : Addr} {x f : Str} {v : V} {σ : L2.St} {D : Ends} {H0 H : Hp} {L : Addr} {qs : List (Str × Str)} (ps : List (Str × Str)) (hσ : σ[0]? = some (some (.ref a))) (xo : Xo H0 a (ga K x) f v) (k : Qk K x f) (hm : ∀ p ∈ ps, p ∈ clsL)
    (hL : σ[1]? = some (some (.ref L))) (n0 : H0 L = none) (s0 : Same H0 H) (e : H L = some (.lst (qs.map fun q => .bl (decide (x = q.1))))) (small : qs.length + ps.length ≤ 100)
    (q : ∀ H', Same H0 H' → H' L = some (.lst ((qs ++ ps).map fun q => .bl (decide (x = q.1)))) → D.nx σ H') :
    tDrop (tBM K "list" rExtend (tVar 1) (tCons (tLst (tIss K ps)) tNil)) D σ H := by
  refine ⟨_, hL, .inl ⟨rfl, _, SqL.of e⟩, ?_⟩
  refine iss hσ (xo.same s0) k ps _ hm ?_
  have ten : 100 ≤ sizeLine := by rw [sizeLine_eq]; decide
  refine ⟨by rw [List.length_map]; omega, fun p np => ?_⟩
  have eL : (upd H p (.lst (ps.map fun q => .bl (decide (x = q.1))))) L = some (.lst (qs.map fun q => .bl (decide (x = q.1)))) := by
    rw [upd_ne (ne_of_none e np)]
    exact e
  refine ⟨L, p, _, _, rfl, rfl, eL, upd_same, by rw [List.length_map, List.length_map]; omega, ?_⟩
  rw [← List.map_append]
  refine q _ (fun b o eb => ?_) upd_same
  have nL : b ≠ L := fun z => by
    rw [z, n0] at eb
    cases eb
  have e1 := s0 _ _ eb
  rw [upd_ne nL, upd_ne (ne_of_none e1 np)]
  exact e1
/-! ### made[i].f, many -/
def tCs (K : PySem.W.Frag) : Nat → List (Str × Str) → TA
  | _, [] => tNil
  | i, p :: ps => tCons (tQf K p.2 (tOp (rIxL K) (tVar 0) (tC (.int (i : Nat))))) (tCs K (i + 1) ps)
theorem cas {K : PySem.W.Frag} {M : Addr} {v : V} {σ : L2.St} {H : Hp} {as : List Addr} (hσ : σ[0]? = some (some (.ref M))) (hM : H M = some (.lst (as.map V.ref))) (m : Made K H v as clsL) (k : ∀ p ∈ clsL, Qk K p.1 p.2) : ∀ (ps : List (Str × Str)) (i : Nat) (R : List V → Hp → Prop),
    (∀ j p, ps[j]? = some p → clsL[i + j]? = some p) → R (List.replicate ps.length v) H → tCs K i ps σ H R
  | [], _, R, _, h => h
  | p :: ps, i, R, hp, h => by
    have hi := hp 0 p rfl
    rw [Nat.add_zero] at hi
    obtain ⟨a, ea, xo⟩ := m.at hi
    have e2 : (as.map V.ref)[i]? = some (.ref a) := by
      rw [List.getElem?_map, ea]
      rfl
    refine ⟨_, hσ, M, _, (i : Int), .ref a, rfl, rfl, SqL.of hM, atI_nat e2, a, ga K p.1, ma K (ga K p.1) "__init__", v, rfl, (k p (List.mem_of_getElem? hi)).c, xo, ?_⟩
    refine cas hσ hM m k ps (i + 1) _ (fun j q hq => ?_) h
    have z := hp (j + 1) q hq
    rw [show i + (j + 1) = i + 1 + j by omega] at z
    exact z
theorem ext_cas {K : PySem.W.Frag} {M : Addr} {v : V} {σ : L2.St} {D : Ends} {H0 H : Hp} {L : Addr} {as : List Addr} {n : Nat} (i : Nat) (ps : List (Str × Str)) (hσ : σ[0]? = some (some (.ref M))) (hM : H0 M = some (.lst (as.map V.ref))) (m : Made K H0 v as clsL)
    (k : ∀ p ∈ clsL, Qk K p.1 p.2) (hp : ∀ j p, ps[j]? = some p → clsL[i + j]? = some p) (hL : σ[1]? = some (some (.ref L))) (n0 : H0 L = none) (s0 : Same H0 H) (e : H L = some (.lst (List.replicate n v))) (small : n + ps.length ≤ 100)
    (q : ∀ H', Same H0 H' → H' L = some (.lst (List.replicate (n + ps.length) v)) → D.nx σ H') :
    tDrop (tBM K "list" rExtend (tVar 1) (tCons (tLst (tCs K i ps)) tNil)) D σ H := by
  refine ⟨_, hL, .inl ⟨rfl, _, SqL.of e⟩, ?_⟩
  refine cas hσ (s0 _ _ hM) (m.same s0) k ps i _ hp ?_
  have ten : 100 ≤ sizeLine := by rw [sizeLine_eq]; decide
  refine ⟨by rw [List.length_replicate]; omega, fun p np => ?_⟩
  have eL : (upd H p (.lst (List.replicate ps.length v))) L = some (.lst (List.replicate n v)) := by
    rw [upd_ne (ne_of_none e np)]
    exact e
  refine ⟨L, p, _, _, rfl, rfl, eL, upd_same, by rw [List.length_replicate, List.length_replicate]; omega, ?_⟩
  rw [List.replicate_append_replicate]
  refine q _ (fun b o eb => ?_) upd_same
  have nL : b ≠ L := fun z => by
    rw [z, n0] at eb
    cases eb
  have e1 := s0 _ _ eb
  rw [upd_ne nL, upd_ne (ne_of_none e1 np)]
  exact e1
end QE

set_option Elab.async false
set_option linter.all false
set_option maxRecDepth 100000
set_option maxHeartbeats 4000000
/-! Own errors raised out of a def, whatever other classes there are; a def that raises, its code object told. -/
namespace QF
open PySem PySem.Spec PyProof.Rows L2 KT QY QZ QB QE
open He (ga ma)
/-- what is known of one class -/
structure Eq1 (P : Program) (w : World) (K : PySem.W.Frag) (mg : Str → Option Value) (base : Heap) (x f : Str) (fd : FuncData) : Prop where
  c : Qc K (ga K x) (ma K (ga K x) "__init__") f
  i : Qi K (ga K x)
  g : mg x = some (.ref (ga K x))
  F : FnOk P w K mg base CX0 1 (ma K (ga K x) "__init__") fd ["self", f] (spI K f)
  b : Binds K fd ["self", f] []
section
variable {X : Cx} {x f : Str} {fd : FuncData} {e : Expr} {te : TE} {p pos : Pos}
theorem pe_new1 (E : Eq1 X.prog X.w X.K X.mg X.base x f fd) (hr : Room 2 X.A) (he : PE X e te) (hg : Gl X x) (hdb : (x == ("__debug__" : Str)) = false := by decide) (hse : starEach [e] X.env = (false, eval e X.env) :: starEach [] X.env := by rfl)
    (hpl : (backTo pos (starEach [] X.env)).any (·.1) = false := by rfl) : PE X (.Call (.Name x p) [e] [] pos) (tQmk (ga X.K x) (spI X.K f) (tCons te tNil)) :=
  pe_qmk E.c E.F hr E.b pass0 hg E.g (pa_cons he pa_nil hse) hdb hse hpl
end
/-- raise C(the value at slot j): the error is let out, its dict told -/
theorem raise1 {K : PySem.W.Frag} {H0 H : Hp} {σ : L2.St} {v : V} {x f : Str} {j : Nat} {E : XK} (c : Qc K (ga K x) (ma K (ga K x) "__init__") f) (hv : σ[j]? = some (some v)) (fr : ∀ a, H a = none → Fr0 H0 a)
    (q : ∀ d H', Same H H' → H' d = some (.xd [(f, v)]) → E (.ref (ga K x)) (some d) H') :
    tQmk (ga K x) (spI K f) (tCons (tVar j) tNil) σ H fun y H1 => ∃ (a C fI d : Addr) (f : Str) (fs : List (Str × V)), y = .ref a ∧ Qc K C fI f ∧ H1 a = some (exo a C (some d)) ∧ H1 d = some (exd d fs) ∧ Fr0 H0 a ∧ E (.ref C) (some d) (upd (delH H1 a) d (.xd fs)) := by
  refine ⟨_, hv, by show 1 ≤ 1000; decide, fun a ha => ?_⟩
  refine ⟨a, ga K x, ma K (ga K x) "__init__", v, rfl, c, upd_same, fun dx hd ne => ⟨rfl, a, ga K x, ma K (ga K x) "__init__", dx, f, _, rfl, c, upd_same, (by rw [upd_ne ne, upd_same]), fr a ha, q dx _ (fun b o e => ?_) upd_same⟩⟩
  have nd : H dx = none := by
    rw [upd_ne ne] at hd
    exact hd
  have na : b ≠ a := ne_of_none e ha
  have nb : b ≠ dx := ne_of_none e nd
  rw [upd_ne nb, delH_ne na, upd_ne na, upd_ne nb, upd_ne na]
  exact e
section
variable {P : Program} {w : World} {K : PySem.W.Frag} {mg : Str → Option Value} {base : Heap}
theorem okCX {x : Str} {st : Stmt} {fd : FuncData} {N ps : List Str} {k : Nat} {sp : Sp} (F : FnP K x st (He.fAd K (x, none)) fd) (S : FnScope N ps (defScope st)) (len : ∀ vs H Q E, sp vs H Q E → vs.length = ps.length)
    (body : ∀ (cdv : Value) (A : Around) (outer : List Env) (s : Shared) (H : Hp) (vs : List V) (Q : VK) (E : XK), cdv = .ref (He.codeOf K (x, none)) → Room k (A.deeper (envOfC x (defScope st) s.heap.objs.size (He.fAd K (x, none)) cdv)) → sp vs H Q E →
      ∃ t, PSs (cxOf (L2.CX P w) P w K mg base N x (defScope st) (He.fAd K (x, none)) cdv A outer s H E) (defBody st) t ∧ t { nx := fun _ H' => Q .non H', rt := Q } (start N vs) H) : FnOk P w K mg base (L2.CX P w) (k + 1) (He.fAd K (x, none)) fd ps sp := by
  obtain ⟨oc, od, kV, doc, pm, an, cdv, ct, osl, rfl, lk, hcd⟩ := (fun_of F).ex
  obtain ⟨c, ec⟩ := He.codeIn_ref hcd
  have told : cdv = .ref (He.codeOf K (x, none)) := by rw [He.codeOf_eq lk ec, ec]
  exact fn_of lk hcd S len fun A outer s H vs Q E hr hsp => body cdv A outer s H vs Q E told hr hsp
end
end QF

set_option Elab.async false
set_option linter.all false
set_option maxRecDepth 100000
set_option maxHeartbeats 4000000
/-! Data in place of heaps: the world that a def runs in, what its slots hold as data, blocks as statements about data alone. -/
namespace DL
open PySem PySem.Spec PyProof.Rows L2 KT KG KX KY KE0 LK GxR
/-- the content of an object that one slot alone knows -/
inductive OC where
  | lst (ds : List PyData)
  | dk (ds : List (Key × PyData))
/-- what a slot holds -/
inductive DV where
  | dat (d : PyData)
  | own (c : OC)
  | deck
  | gts (xs : List Str)
  | ob (v : V)
abbrev DEnv := List (Option DV)
def OC.pd : OC → PyData
  | .lst ds => .list ds
  | .dk ds => .dict (ds.map fun p => (keyD p.1, p.2))
def DV.pd : DV → Option PyData
  | .dat d => some d
  | .own c => some c.pd
  | _ => none
@[simp] theorem pd_dat (d : PyData) : (DV.dat d).pd = some d := rfl
@[simp] theorem pd_own (c : OC) : (DV.own c).pd = some c.pd := rfl
/-- what an invariant may speak of: what may change by calls alone, a table that no generator adds to, other things -/
def Fix (vol : Addr → Prop) (Tl : List Addr) (a : Addr) (o : HO) : Prop := vol a ∨ (∃ φ, o = .ext φ) ∨ (a ∉ Tl ∧ ∃ ps, o = .tbl ps)
/-- the world: what may change at any time (a deck), what is true of it, the tables -/
structure Wc where
  K : PySem.W.Frag
  vol : Addr → Prop
  inv : Hp → Prop
  deck : V → Prop
  Tl : List Addr
  keep : ∀ {H H' : Hp}, (∀ a o, Fix vol Tl a o → H a = some o → H' a = some o) → inv H → inv H'
  there : ∀ {H : Hp} {a : Addr}, inv H → vol a → ∃ o, H a = some o ∧ (∀ ps, o ≠ .tbl ps) ∧ ∀ xs, o ≠ .tup xs
/-- .. and where the def began: H0, and what might change then -/
structure Wd extends Wc where
  H0 : Hp
  M0 : Addr → Prop
instance : Coe Wd Wc := ⟨Wd.toWc⟩
section
variable (W : Wc)
def Wc.ok (H : Hp) : Prop := W.inv H ∧ Ts W.Tl H
/-- a step: all is as it was but what may change, and tables -/
structure Stp (H H' : Hp) : Prop where
  st : ∀ a o, ¬ W.vol a → (∀ ps, o ≠ .tbl ps) → H a = some o → H' a = some o
  tp : ∀ a xs, H a = some (.tup xs) → H' a = some (.tup xs)
  on : ∀ a, H' a = none → H a = none
  ok : W.ok H → W.ok H'
end
section
variable {W : Wc} {H H' H1 H2 : Hp} {M M' : Addr → Prop}
theorem Stp.refl : Stp W H H := ⟨fun _ _ _ _ e => e, fun _ _ e => e, fun _ e => e, id⟩
theorem Stp.trans (a : Stp W H H1) (b : Stp W H1 H2) : Stp W H H2 := ⟨fun c o n t e => b.st c o n t (a.st c o n t e), fun c xs e => b.tp c xs (a.tp c xs e), fun c e => a.on c (b.on c e), fun h => b.ok (a.ok h)⟩
theorem Stp.same (s : Same H H') : Stp W H H' := ⟨fun a o _ _ e => s a o e, fun a xs e => s a _ e, fun a e => s.free e, fun ⟨i, t⟩ => ⟨W.keep (fun a o _ e => s a o e) i, fun P hP => by
  obtain ⟨ps, e, ok⟩ := t P hP
  exact ⟨ps, s _ _ e, ok⟩⟩⟩
theorem Stp.new {p : Addr} {o : HO} (np : H p = none) : Stp W H (upd H p o) := .same (same_new np)
theorem Stp.tab {P : Addr} (hP : P ∈ W.Tl) (w : W.ok H) (g : TabG H P) (t : Tabbed P H H') : Stp W H H' := by
  have l : Lk (fun _ => False) W.Tl H H' := Lk.tab g t
  obtain ⟨ps, e, _⟩ := g
  have ne : ∀ a o, (∀ ps, o ≠ .tbl ps) → H a = some o → a ≠ P := fun a o n q z => by
    rw [z, e] at q
    exact n _ (Option.some.inj q).symm
  refine ⟨fun a o _ n q => by rw [t.2 a (ne a o n q)]; exact q, l.k.tp, l.on, fun ⟨i, ts⟩ => ⟨W.keep (fun a o v q => ?_) i, l.t ts⟩⟩
  rcases v with v | ⟨φ, rfl⟩ | ⟨nT, _⟩
  · obtain ⟨o', q', n, _⟩ := W.there i v
    rw [q] at q'
    cases q'
    rw [t.2 a (ne a o n q)]
    exact q
  · rw [t.2 a (ne a _ (fun _ z => by cases z) q)]
    exact q
  · rw [t.2 a (fun z => nT (by rw [z]; exact hP))]
    exact q
theorem Stp.kp (g : ∀ a, W.vol a → M a) (s : Stp W H H') : Kp M H H' := ⟨fun a o n t e => s.st a o (fun z => n (g a z)) t e, s.tp⟩
end
/-! ### data, other sets of what may change -/
mutual
theorem Dx.re {M M' : Addr → Prop} {H : Hp} (k : ∀ a o, H a = some o → M' a → M a) : ∀ (d : PyData) (v : V), Dx M H v d → Dx M' H v d
  | .none, _, h => by
    cases h
    exact .non
  | .bool b, _, h => by
    cases h
    exact .bl b
  | .int i, _, h => by
    cases h
    exact .int i
  | .str x, _, h => by
    cases h
    exact .str x
  | .list ds, _, h => by
    cases h with
    | lst n e r => exact .lst (fun z => n (k _ _ e z)) e (Dx.reAll k ds _ r)
  | .tuple ds, _, h => by
    cases h with
    | tup e r => exact .tup e (Dx.reAll k ds _ r)
  | .dict ds, _, h => by
    cases h with
    | dk n e r => exact .dk (fun z => n (k _ _ e z)) e (Dx.reKv k ds _ r)
theorem Dx.reAll {M M' : Addr → Prop} {H : Hp} (k : ∀ a o, H a = some o → M' a → M a) : ∀ (ds : List PyData) (vs : List V), DxAll M H vs ds → DxAll M' H vs ds
  | [], _, h => by
    cases h
    exact .nil
  | d :: ds, _, h => by
    cases h with
    | cons h1 h2 => exact .cons (Dx.re k d _ h1) (Dx.reAll k ds _ h2)
theorem Dx.reKv {M M' : Addr → Prop} {H : Hp} (k : ∀ a o, H a = some o → M' a → M a) : ∀ (ds : List (PyData × PyData)) (vs : List (Key × V)), DxKv M H vs ds → DxKv M' H vs ds
  | [], _, h => by
    cases h
    exact .nil
  | (_, d) :: ds, _, h => by
    cases h with
    | cons h1 h2 => exact .cons (Dx.re k d _ h1) (Dx.reKv k ds _ h2)
end
/-! ### what an object holds -/
inductive RelO (M : Addr → Prop) (H : Hp) : HO → OC → Prop
  | lst {xs : List V} {ds : List PyData} : DxAll M H xs ds → RelO M H (.lst xs) (.lst ds)
  | dk {kvs : List (Key × V)} {ds : List (Key × PyData)} : kvs.map (·.1) = ds.map (·.1) → DxAll M H (kvs.map (·.2)) (ds.map (·.2)) → RelO M H (.dK kvs) (.dk ds)
theorem kv_of {M : Addr → Prop} {H : Hp} : ∀ {kvs : List (Key × V)} {ds : List (Key × PyData)}, kvs.map (·.1) = ds.map (·.1) → DxAll M H (kvs.map (·.2)) (ds.map (·.2)) → DxKv M H kvs (ds.map fun p => (keyD p.1, p.2))
  | [], [], _, _ => .nil
  | (k1, v1) :: r, (k2, d2) :: ds, h, q => by
    simp only [List.map_cons, List.cons.injEq] at h
    obtain ⟨rfl, h⟩ := h
    cases q with
    | cons q1 q2 => exact .cons q1 (kv_of h q2)
  | [], _ :: _, h, _ => by cases h
  | _ :: _, [], h, _ => by cases h
def RelDV (W : Wc) (M : Addr → Prop) (H : Hp) (v : V) : DV → Prop
  | .dat d => Dx M H v d
  | .own c => ∃ a o, v = .ref a ∧ H a = some o ∧ RelO M H o c ∧ M a ∧ ¬ W.vol a
  | .deck => W.deck v
  | .gts xs => ∃ a, v = .ref a ∧ ∀ H, SqT W.K H a (xs.map V.str)
  | .ob u => v = u
def RelAll (W : Wc) (M : Addr → Prop) (H : Hp) : List V → List DV → Prop
  | [], [] => True
  | v :: vs, d :: ds => RelDV W M H v d ∧ RelAll W M H vs ds
  | _, _ => False
structure GoodH (W : Wd) (M : Addr → Prop) (H : Hp) : Prop where
  ok : W.ok H
  vol : ∀ a, W.vol a → M a
  all : ∀ a, M a → H a ≠ none
  stp : Stp W W.H0 H
  sub : ∀ a, W.M0 a → M a
  m0 : ∀ a, W.M0 a → W.H0 a ≠ none
structure GoodE (W : Wd) (M : Addr → Prop) (H : Hp) (σ : L2.St) (ρ : DEnv) : Prop where
  h : GoodH W M H
  len : σ.length = ρ.length
  at_ : ∀ (i : Nat) (dv : DV), ρ[i]? = some (some dv) → ∃ v, σ[i]? = some (some v) ∧ RelDV W M H v dv
section
variable {W : Wc} {H H' : Hp} {M M' : Addr → Prop}
theorem RelO.kp {o : HO} {c : OC} (k : Kp M H H') (h : RelO M H o c) : RelO M H' o c := by
  cases h with
  | lst h => exact .lst (Dx.kpAll k _ _ h)
  | dk h1 h2 => exact .dk h1 (Dx.kpAll k _ _ h2)
theorem RelO.re {o : HO} {c : OC} (k : ∀ a o, H a = some o → M' a → M a) (h : RelO M H o c) : RelO M' H o c := by
  cases h with
  | lst h => exact .lst (Dx.reAll k _ _ h)
  | dk h1 h2 => exact .dk h1 (Dx.reAll k _ _ h2)
theorem RelO.nt {o : HO} {c : OC} (h : RelO M H o c) : (∀ ps, o ≠ .tbl ps) ∧ ∀ xs, o ≠ .tup xs := by
  cases h with
  | lst h => exact ⟨(fun _ z => by cases z), (fun _ z => by cases z)⟩
  | dk h1 h2 => exact ⟨(fun _ z => by cases z), (fun _ z => by cases z)⟩
theorem RelDV.stp {v : V} {dv : DV} (g : ∀ a, W.vol a → M a) (s : Stp W H H') (h : RelDV W M H v dv) : RelDV W M H' v dv := by
  cases dv with
  | dat d => exact Dx.kp (s.kp g) d v h
  | own c =>
    obtain ⟨a, o, e, ho, r, m, n⟩ := h
    exact ⟨a, o, e, s.st a o n r.nt.1 ho, r.kp (s.kp g), m, n⟩
  | deck => exact h
  | gts xs => exact h
  | ob u => exact h
theorem RelAll.stp (g : ∀ a, W.vol a → M a) (s : Stp W H H') : ∀ {vs : List V} {ds : List DV}, RelAll W M H vs ds → RelAll W M H' vs ds
  | [], [], h => h
  | _ :: _, _ :: _, h => ⟨h.1.stp g s, RelAll.stp g s h.2⟩
theorem RelAll.length : ∀ {vs : List V} {ds : List DV}, RelAll W M H vs ds → vs.length = ds.length
  | [], [], _ => rfl
  | _ :: _, _ :: _, h => by simp [RelAll.length h.2]
end
section
variable {W : Wd} {H H' H0 : Hp} {M M' M0 : Addr → Prop} {σ : L2.St} {ρ : DEnv}
theorem GoodH.to (g : GoodH W M H) (s : Stp W H H') : GoodH W M H' := ⟨s.ok g.ok, g.vol, fun a m z => g.all a m (s.on a z), g.stp.trans s, g.sub, g.m0⟩
theorem GoodE.stp (g : GoodE W M H σ ρ) (s : Stp W H H') : GoodE W M H' σ ρ := ⟨g.h.to s, g.len, fun i dv e => by
  obtain ⟨v, e1, r⟩ := g.at_ i dv e
  exact ⟨v, e1, r.stp g.h.vol s⟩⟩
theorem setAt {α : Type} {l : List (Option α)} {i j : Nat} {x : Option α} {y : α} (h : (l.set i x)[j]? = some (some y)) : (i = j ∧ x = some y ∧ i < l.length) ∨ (i ≠ j ∧ l[j]? = some (some y)) := by
  by_cases e : i = j
  · subst e
    rw [List.getElem?_set_self'] at h
    cases q : l[i]? with
    | none => rw [q] at h; cases h
    | some z =>
      rw [q] at h
      have hl : i < l.length := by
        rcases Nat.lt_or_ge i l.length with z | z
        · exact z
        · rw [List.getElem?_eq_none z] at q
          cases q
      exact .inl ⟨rfl, by simpa using h, hl⟩
  · rw [List.getElem?_set_ne e] at h
    exact .inr ⟨e, h⟩
theorem GoodE.set {i : Nat} {v : V} {dv : DV} (g : GoodE W M H σ ρ) (r : RelDV W M H v dv) : GoodE W M H (σ.set i (some v)) (ρ.set i (some dv)) := by
  refine ⟨g.h, by simp [g.len], fun j d e => ?_⟩
  rcases setAt e with ⟨rfl, q, hl⟩ | ⟨ne, q⟩
  · cases q
    exact ⟨v, by rw [List.getElem?_set_self (by rw [g.len]; exact hl)], r⟩
  · obtain ⟨u, e1, r1⟩ := g.at_ j d q
    exact ⟨u, by rw [List.getElem?_set_ne ne]; exact e1, r1⟩
theorem GoodE.unset {i : Nat} {x : Option V} (g : GoodE W M H σ ρ) : GoodE W M H (σ.set i x) (ρ.set i none) := by
  refine ⟨g.h, by simp [g.len], fun j d e => ?_⟩
  rcases setAt e with ⟨rfl, q, hl⟩ | ⟨ne, q⟩
  · cases q
  · obtain ⟨u, e1, r1⟩ := g.at_ j d q
    exact ⟨u, by rw [List.getElem?_set_ne ne]; exact e1, r1⟩
def wipeD (ρ : DEnv) : List Nat → DEnv
  | [] => ρ
  | v :: vs => (wipeD ρ vs).set v none
theorem GoodE.wipe (g : GoodE W M H σ ρ) : ∀ vs : List Nat, GoodE W M H (L2.wipe σ vs) (wipeD ρ vs)
  | [] => g
  | v :: vs => (GoodE.wipe g vs).unset
end
/-! ### the frame of a def -/
/-- L: values that are alive beside the slots -/
structure Good (W : Wd) (L : List (V × PyData)) (M : Addr → Prop) (H : Hp) (σ : L2.St) (ρ : DEnv) : Prop where
  e : GoodE W M H σ ρ
  live : ∀ p ∈ L, Dx M H p.1 p.2
  fr : ∀ (i : Nat) (c : OC) (a : Addr), ρ[i]? = some (some (.own c)) → σ[i]? = some (some (.ref a)) → W.H0 a = none
  ne : ∀ (i j : Nat) (c c' : OC) (a : Addr), i ≠ j → ρ[i]? = some (some (.own c)) → ρ[j]? = some (some (.own c')) → σ[i]? = some (some (.ref a)) → σ[j]? ≠ some (some (.ref a))
section
variable {W : Wd} {H H' H0 : Hp} {M M' M0 : Addr → Prop} {σ : L2.St} {ρ : DEnv} {L : List (V × PyData)}
theorem Good.to (g : Good W L M H σ ρ) (s : Stp W H H') : Good W L M H' σ ρ := ⟨g.e.stp s, fun p hp => Dx.kp (s.kp g.e.h.vol) _ _ (g.live p hp), g.fr, g.ne⟩
def DV.isOwn : DV → Bool
  | .own _ => true
  | _ => false
theorem Good.set {i : Nat} {v : V} {dv : DV} (g : Good W L M H σ ρ) (r : RelDV W M H v dv) (n : dv.isOwn = false) : Good W L M H (σ.set i (some v)) (ρ.set i (some dv)) := by
  have no : ∀ {j : Nat} {c : OC}, (ρ.set i (some dv))[j]? = some (some (.own c)) → i ≠ j ∧ ρ[j]? = some (some (.own c)) := fun {j c} h => by
    rcases setAt h with ⟨rfl, q, _⟩ | q
    · cases q
      cases n
    · exact q
  refine ⟨g.e.set r, g.live, fun j c a h hs => ?_, fun j k c c' a hjk h h' hs => ?_⟩
  · obtain ⟨ne, q⟩ := no h
    rw [List.getElem?_set_ne ne] at hs
    exact g.fr j c a q hs
  · obtain ⟨n1, q1⟩ := no h
    obtain ⟨n2, q2⟩ := no h'
    rw [List.getElem?_set_ne n1] at hs
    rw [List.getElem?_set_ne n2]
    exact g.ne j k c c' a hjk q1 q2 hs
theorem Good.unset {i : Nat} {x : Option V} (g : Good W L M H σ ρ) : Good W L M H (σ.set i x) (ρ.set i none) := by
  have no : ∀ {j : Nat} {c : OC}, (ρ.set i none)[j]? = some (some (.own c)) → i ≠ j ∧ ρ[j]? = some (some (.own c)) := fun {j c} h => by
    rcases setAt h with ⟨rfl, q, _⟩ | q
    · cases q
    · exact q
  refine ⟨g.e.unset, g.live, fun j c a h hs => ?_, fun j k c c' a hjk h h' hs => ?_⟩
  · obtain ⟨ne, q⟩ := no h
    rw [List.getElem?_set_ne ne] at hs
    exact g.fr j c a q hs
  · obtain ⟨n1, q1⟩ := no h
    obtain ⟨n2, q2⟩ := no h'
    rw [List.getElem?_set_ne n1] at hs
    rw [List.getElem?_set_ne n2]
    exact g.ne j k c c' a hjk q1 q2 hs
/-- a new object that one slot alone knows -/
theorem Good.fresh {i : Nat} {p : Addr} {o : HO} {c : OC} (g : Good W L M H σ ρ) (np : H p = none) (r : RelO M H o c) : Good W L (fun a => M a ∨ a = p) (upd H p o) (σ.set i (some (.ref p))) (ρ.set i (some (.own c))) := by
  have nv : ¬ W.vol p := fun z => g.e.h.all p (g.e.h.vol p z) np
  have s : Stp W H (upd H p o) := .new np
  have k : ∀ a u, H a = some u → (M a ∨ a = p) → M a := fun a u e m => m.elim id fun z => by
    rw [z, np] at e
    cases e
  have vol : ∀ a, W.vol a → (M a ∨ a = p) := fun a z => .inl (g.e.h.vol a z)
  have kp : Kp (fun a => M a ∨ a = p) H (upd H p o) := s.kp vol
  have oldR : ∀ {v dv}, RelDV W M H v dv → RelDV W (fun a => M a ∨ a = p) (upd H p o) v dv := fun {v dv} h => by
    cases dv with
    | dat d => exact Dx.kp kp _ _ (Dx.re k _ _ h)
    | own c =>
      obtain ⟨a, u, e, ho, r, m, n⟩ := h
      exact ⟨a, u, e, s.st a u n r.nt.1 ho, (r.re k).kp kp, .inl m, n⟩
    | deck => exact h
    | gts xs => exact h
    | ob u => exact h
  have ownAt : ∀ {j : Nat} {c : OC} {a : Addr}, ρ[j]? = some (some (.own c)) → σ[j]? = some (some (.ref a)) → a ≠ p := fun {j c a} h hs => by
    obtain ⟨v, e, b, u, e2, ho, _⟩ := g.e.at_ j _ h
    rw [hs] at e
    cases e
    cases e2
    exact ne_of_none ho np
  refine ⟨⟨⟨s.ok g.e.h.ok, vol, fun a m z => ?_, g.e.h.stp.trans s, fun a m => .inl (g.e.h.sub a m), g.e.h.m0⟩, by simp [g.e.len], fun j d e => ?_⟩, fun q hq => Dx.kp kp _ _ (Dx.re k _ _ (g.live q hq)), fun j c' a h hs => ?_, fun j l c1 c2 a hjl h h' hs => ?_⟩
  · rcases m with m | rfl
    · exact g.e.h.all a m (s.on a z)
    · rw [upd_same] at z
      cases z
  · rcases setAt e with ⟨rfl, q, hl⟩ | ⟨ne, q⟩
    · cases q
      exact ⟨.ref p, by rw [List.getElem?_set_self (by rw [g.e.len]; exact hl)], p, o, rfl, upd_same, (r.re k).kp kp, .inr rfl, nv⟩
    · obtain ⟨u, e1, r1⟩ := g.e.at_ j d q
      exact ⟨u, by rw [List.getElem?_set_ne ne]; exact e1, oldR r1⟩
  · rcases setAt h with ⟨rfl, _, hl⟩ | ⟨ne, q⟩
    · rw [List.getElem?_set_self (by rw [g.e.len]; exact hl)] at hs
      cases hs
      exact g.e.h.stp.on _ np
    · rw [List.getElem?_set_ne ne] at hs
      exact g.fr j c' a q hs
  · rcases setAt h with ⟨rfl, _, hl⟩ | ⟨ne, q⟩
    · rw [List.getElem?_set_self (by rw [g.e.len]; exact hl)] at hs
      cases hs
      rcases setAt h' with ⟨z, _⟩ | ⟨ne2, q2⟩
      · exact absurd z hjl
      · rw [List.getElem?_set_ne ne2]
        exact fun z => ownAt q2 z rfl
    · rw [List.getElem?_set_ne ne] at hs
      rcases setAt h' with ⟨rfl, _, hl2⟩ | ⟨ne2, q2⟩
      · rw [List.getElem?_set_self (by rw [g.e.len]; exact hl2)]
        exact fun z => by
          cases z
          exact ownAt q hs rfl
      · rw [List.getElem?_set_ne ne2]
        exact g.ne j l c1 c2 a hjl q q2 hs
/-- such an object changes -/
theorem Good.mut {i : Nat} {a : Addr} {o o' : HO} {c c' : OC} (g : Good W L M H σ ρ) (hi : ρ[i]? = some (some (.own c))) (hs : σ[i]? = some (some (.ref a))) (ho : H a = some o) (hr : RelO M H o c) (ha : M a) (nv : ¬ W.vol a) (r : RelO M H o' c') :
    Good W L M (upd H a o') σ (ρ.set i (some (.own c'))) := by
  have h0 := g.fr i c a hi hs
  have kp : Kp M H (upd H a o') := ⟨fun b u n _ e => by
    rw [upd_ne (fun z => n (by rw [z]; exact ha))]
    exact e, fun b xs e => by
    rw [upd_ne (fun z => hr.nt.2 xs (by rw [z, ho] at e; exact Option.some.inj e))]
    exact e⟩
  have ok : W.ok (upd H a o') := by
    obtain ⟨i1, t1⟩ := g.e.h.ok
    refine ⟨W.keep (fun b u v e => ?_) i1, fun P hP => ?_⟩
    · rw [upd_ne (fun z => by
        rcases v with v | ⟨φ, rfl⟩ | ⟨_, ps, rfl⟩
        · exact nv (by rw [← z]; exact v)
        · rw [z, ho] at e
          cases e
          cases hr
        · rw [z, ho] at e
          cases e
          cases hr)]
      exact e
    · obtain ⟨ps, e, tr⟩ := t1 P hP
      refine ⟨ps, ?_, tr⟩
      rw [upd_ne (fun z => hr.nt.1 ps (by rw [z, ho] at e; exact Option.some.inj e))]
      exact e
  have stp : Stp W W.H0 (upd H a o') := ⟨fun b u n t e => by
    rw [upd_ne (fun z => by rw [z, h0] at e; cases e)]
    exact g.e.h.stp.st b u n t e, fun b xs e => by
    rw [upd_ne (fun z => by rw [z, h0] at e; cases e)]
    exact g.e.h.stp.tp b xs e, fun b e => by
    by_cases z : b = a
    · rw [z]
      exact h0
    · rw [upd_ne z] at e
      exact g.e.h.stp.on b e, fun _ => ok⟩
  have same : ∀ {j : Nat} {c1 : OC}, (ρ.set i (some (.own c')))[j]? = some (some (.own c1)) → ∃ c2, ρ[j]? = some (some (.own c2)) := fun {j c1} h => by
    rcases setAt h with ⟨rfl, _, _⟩ | ⟨_, q⟩
    · exact ⟨c, hi⟩
    · exact ⟨_, q⟩
  refine ⟨⟨⟨ok, g.e.h.vol, fun b m z => ?_, stp, g.e.h.sub, g.e.h.m0⟩, by simp [g.e.len], fun j d e => ?_⟩, fun q hq => Dx.kp kp _ _ (g.live q hq), fun j c1 b h hs1 => ?_, fun j l c1 c2 b hjl h h' hs1 => ?_⟩
  · by_cases y : b = a
    · rw [y, upd_same] at z
      cases z
    · rw [upd_ne y] at z
      exact g.e.h.all b m z
  · rcases setAt e with ⟨rfl, q, hl⟩ | ⟨ne, q⟩
    · cases q
      exact ⟨.ref a, hs, a, o', rfl, upd_same, r.kp kp, ha, nv⟩
    · obtain ⟨u, e1, r1⟩ := g.e.at_ j d q
      refine ⟨u, e1, ?_⟩
      cases d with
      | dat d => exact Dx.kp kp _ _ r1
      | own c2 =>
        obtain ⟨b, u', e2, hu, r2, m, n⟩ := r1
        subst e2
        have nb : b ≠ a := fun z => g.ne i j c c2 a ne hi q hs (by rw [e1, z])
        exact ⟨b, u', rfl, by rw [upd_ne nb]; exact hu, r2.kp kp, m, n⟩
      | deck => exact r1
      | gts xs => exact r1
      | ob u => exact r1
  · obtain ⟨c2, q⟩ := same h
    exact g.fr j c2 b q hs1
  · obtain ⟨c3, q⟩ := same h
    obtain ⟨c4, q'⟩ := same h'
    exact g.ne j l c3 c4 b hjl q q' hs1
/-- it is known to others from now on -/
theorem Good.release {i : Nat} {c : OC} (g : Good W L M H σ ρ) (hi : ρ[i]? = some (some (.own c))) : ∃ M', Good W L M' H σ (ρ.set i (some (.dat c.pd))) := by
  obtain ⟨v, hs, a, o, rfl, ho, r, m, nv⟩ := g.e.at_ i _ hi
  have h0 := g.fr i c a hi hs
  have k : ∀ b u, H b = some u → (M b ∧ b ≠ a) → M b := fun b u _ z => z.1
  have no : ∀ {j : Nat} {c1 : OC}, (ρ.set i (some (.dat c.pd)))[j]? = some (some (.own c1)) → i ≠ j ∧ ρ[j]? = some (some (.own c1)) := fun {j c1} h => by
    rcases setAt h with ⟨rfl, q, _⟩ | q
    · cases q
    · exact q
  refine ⟨fun b => M b ∧ b ≠ a, ⟨⟨g.e.h.ok, fun b z => ⟨g.e.h.vol b z, fun y => nv (by rw [← y]; exact z)⟩, fun b z => g.e.h.all b z.1, g.e.h.stp, fun b z => ⟨g.e.h.sub b z, fun y => g.e.h.m0 b z (by rw [y]; exact h0)⟩, g.e.h.m0⟩, by simp [g.e.len], fun j d e => ?_⟩, fun q hq => Dx.re k _ _ (g.live q hq), fun j c1 b h hs1 => ?_, fun j l c1 c2 b hjl h h' hs1 => ?_⟩
  · rcases setAt e with ⟨rfl, q, hl⟩ | ⟨ne, q⟩
    · cases q
      refine ⟨.ref a, hs, ?_⟩
      show Dx _ H (.ref a) c.pd
      cases r with
      | lst r => exact .lst (fun z => z.2 rfl) ho (Dx.reAll k _ _ r)
      | dk r1 r2 => exact .dk (fun z => z.2 rfl) ho (kv_of r1 (Dx.reAll k _ _ r2))
    · obtain ⟨u, e1, r1⟩ := g.e.at_ j d q
      refine ⟨u, e1, ?_⟩
      cases d with
      | dat d => exact Dx.re k _ _ r1
      | own c2 =>
        obtain ⟨b, u', e2, hu, r2, m2, n2⟩ := r1
        subst e2
        exact ⟨b, u', rfl, hu, r2.re k, ⟨m2, fun z => g.ne i j c c2 a ne hi q hs (by rw [e1, z])⟩, n2⟩
      | deck => exact r1
      | gts xs => exact r1
      | ob u => exact r1
  · obtain ⟨ne, q⟩ := no h
    exact g.fr j c1 b q hs1
  · obtain ⟨_, q⟩ := no h
    obtain ⟨_, q'⟩ := no h'
    exact g.ne j l c1 c2 b hjl q q' hs1
end
end DL

set_option Elab.async false
set_option linter.all false
set_option maxRecDepth 100000
set_option maxHeartbeats 1000000
/-! Rules whose readings speak of data alone: expressions, tests, arguments, statements. -/
namespace DL
open PySem PySem.Spec PyProof.Rows L2 KT KG KX KY KE0 LK GxR
abbrev FE := DEnv → (DV → Prop) → Prop
abbrev FT := DEnv → (Bool → Prop) → Prop
abbrev FA := DEnv → (List DV → Prop) → Prop
section
variable (W : Wd)
/-- what follows for each such value is what follows -/
def Cont (M : Addr → Prop) (H : Hp) (K : DV → Prop) (Q : VK) : Prop := ∀ dv, K dv → ∀ v H', Stp W H H' → RelDV W M H' v dv → Q v H'
def tD (f : FE) : TE := fun σ H Q => ∃ M ρ K, GoodE W M H σ ρ ∧ f ρ K ∧ Cont W M H K Q
def tDT (f : FT) : TT := fun σ H Q => ∃ M ρ K, GoodE W M H σ ρ ∧ f ρ K ∧ ∀ b, K b → ∀ H', Stp W H H' → Q b H'
def tDA (f : FA) : TA := fun σ H Q => ∃ M ρ K, GoodE W M H σ ρ ∧ f ρ K ∧ ∀ ds, K ds → ∀ vs H', Stp W H H' → RelAll W M H' vs ds → Q vs H'
/-- a new object -/
def tFr (f : DEnv → (OC → Prop) → Prop) : TE := fun σ H Q => ∃ M ρ K, GoodE W M H σ ρ ∧ f ρ K ∧ ∀ c, K c → ∀ p o H1, Stp W H H1 → H1 p = none → RelO M H1 o c → Q (.ref p) (upd H1 p o)
end
theorem Cont.stp {W : Wd} {M : Addr → Prop} {H H' : Hp} {K : DV → Prop} {Q : VK} (c : Cont W M H K Q) (s : Stp W H H') : Cont W M H' K Q := fun dv k v H2 s2 r => c dv k v H2 (s.trans s2) r
section
variable {X : Cx} {W : Wd} {e a b : Expr} {es : List Expr} {pos : Pos}
theorem _root_.L2.PE.imp {t t' : TE} (h : PE X e t) (k : ∀ σ H Q, t' σ H Q → t σ H Q) : PE X e t' := ⟨fun pins s σ H Q I q => h.run pins s σ H Q I (k σ H Q q)⟩
theorem _root_.L2.PT.imp {t t' : TT} (h : PT X e t) (k : ∀ σ H Q, t' σ H Q → t σ H Q) : PT X e t' := ⟨fun pins s σ H Q I q => h.run pins s σ H Q I (k σ H Q q)⟩
theorem _root_.L2.PW.imp {t t' : TT} (h : PW X e t) (k : ∀ σ H Q, t' σ H Q → t σ H Q) : PW X e t' := ⟨fun wh pins s σ H Q I q => h.run wh pins s σ H Q I (k σ H Q q)⟩
theorem _root_.L2.PA.imp {t t' : TA} (h : PA X es t) (k : ∀ σ H Q, t' σ H Q → t σ H Q) : PA X es t' := ⟨fun pos pins s σ H Q I q => h.run pos pins s σ H Q I (k σ H Q q)⟩
theorem _root_.L2.PS.imp {st : Stmt} {t t' : TS} (h : PS X st t) (k : ∀ D σ H, t' D σ H → t D σ H) : PS X st t' := ⟨fun pins s σ H D I q => h.run pins s σ H D I (k D σ H q)⟩
theorem _root_.L2.PSs.imp {st : List Stmt} {t t' : TS} (h : PSs X st t) (k : ∀ D σ H, t' D σ H → t D σ H) : PSs X st t' := ⟨fun pins s σ H D I q => h.run pins s σ H D I (k D σ H q)⟩
/-! ### names, constants -/
def fVar (i : Nat) : FE := fun ρ K => ∃ dv, ρ[i]? = some (some dv) ∧ K dv
def fC (d : PyData) : FE := fun _ K => K (.dat d)
theorem dv (i : Nat) {x : Str} {pos : Pos} (hN : X.N[i]? = some x := by rfl) (hv : Vis X.env.scope x := by first | exact Or.inl rfl | exact Or.inr (Or.inl rfl) | exact Or.inr (Or.inr rfl)) (hd : (x == ("__debug__" : Str)) = false := by decide)
    (hcd : (x == ("__classdict__" : Str)) = false := by decide) : PE X (.Name x pos) (tD W (fVar i)) := (pe_var hN hv hd hcd).imp fun σ H Q ⟨M, ρ, K, g, ⟨d, e, k⟩, c⟩ => by
  obtain ⟨v, e1, r⟩ := g.at_ i d e
  exact ⟨v, e1, c d k v H .refl r⟩
theorem de_int {i j pos} : PE X (.Constant (.int i) j pos) (tD W (fC (.int i))) := pe_int.imp fun σ H Q ⟨M, ρ, K, g, k, c⟩ => c _ k _ H .refl (Dx.int i)
theorem de_bl {b j pos} : PE X (.Constant (.bool b) j pos) (tD W (fC (.bool b))) := pe_bl.imp fun σ H Q ⟨M, ρ, K, g, k, c⟩ => c _ k _ H .refl (Dx.bl b)
theorem de_non {j pos} : PE X (.Constant .none j pos) (tD W (fC .none)) := pe_non.imp fun σ H Q ⟨M, ρ, K, g, k, c⟩ => c _ k _ H .refl Dx.non
theorem de_str {x j pos} : PE X (.Constant (.str x) j pos) (tD W (fC (.str x))) := pe_str.imp fun σ H Q ⟨M, ρ, K, g, k, c⟩ => c _ k _ H .refl (Dx.str x)
/-- a value of any kind, told -/
def fOb (v : V) : FE := fun _ K => K (.ob v)
theorem de_ob {v : V} (h : PE X e (tC v)) : PE X e (tD W (fOb v)) := h.imp fun σ H Q ⟨M, ρ, K, g, k, c⟩ => c _ k v H .refl rfl
/-- a tuple of texts of the top -/
def fGts (xs : List Str) : FE := fun _ K => K (.gts xs)
theorem de_gts {a : Addr} {xs : List Str} (h : PE X e (tC (.ref a))) (hK : W.K = X.K) (ha : ∀ H, SqT X.K H a (xs.map V.str)) : PE X e (tD W (fGts xs)) := h.imp fun σ H Q ⟨M, ρ, K, g, k, c⟩ => c _ k (.ref a) H .refl ⟨a, rfl, by rw [hK]; exact ha⟩
/-- a text, an int of the top -/
theorem de_gstr {x : Str} (h : PE X e (tC (.str x))) : PE X e (tD W (fC (.str x))) := h.imp fun σ H Q ⟨M, ρ, K, g, k, c⟩ => c _ k _ H .refl (Dx.str x)
theorem de_gint {i : Int} (h : PE X e (tC (.int i))) : PE X e (tD W (fC (.int i))) := h.imp fun σ H Q ⟨M, ρ, K, g, k, c⟩ => c _ k _ H .refl (Dx.int i)
/-! ### operators by values -/
def Snd2 (W : Wd) (r : R2) (o : DV → DV → (DV → Prop) → Prop) : Prop := ∀ {M H x y dx dy K Q}, GoodH W M H → RelDV W M H x dx → RelDV W M H y dy → o dx dy K → Cont W M H K Q → r x y H Q
def Snd1 (W : Wd) (r : V → Hp → VK → Prop) (o : DV → (DV → Prop) → Prop) : Prop := ∀ {M H x dx K Q}, GoodH W M H → RelDV W M H x dx → o dx K → Cont W M H K Q → r x H Q
def SndC (W : Wd) (r : List V → Hp → VK → Prop) (o : List DV → (DV → Prop) → Prop) : Prop := ∀ {M H xs ds K Q}, GoodH W M H → RelAll W M H xs ds → o ds K → Cont W M H K Q → r xs H Q
def f2 (o : DV → DV → (DV → Prop) → Prop) (f g : FE) : FE := fun ρ K => f ρ fun x => g ρ fun y => o x y K
def f1 (o : DV → (DV → Prop) → Prop) (f : FE) : FE := fun ρ K => f ρ fun x => o x K
def fCall (o : List DV → (DV → Prop) → Prop) (f : FA) : FE := fun ρ K => f ρ fun xs => o xs K
variable {f g : FE}
theorem imp2 {r : R2} {o : DV → DV → (DV → Prop) → Prop} (s : Snd2 W r o) (σ : L2.St) (H : Hp) (Q : VK) (h : tD W (f2 o f g) σ H Q) : tOp r (tD W f) (tD W g) σ H Q := by
  obtain ⟨M, ρ, K, ge, k, c⟩ := h
  refine ⟨M, ρ, _, ge, k, fun dx hx v H1 s1 r1 => ⟨M, ρ, _, ge.stp s1, hx, fun dy hy u H2 s2 r2 => ?_⟩⟩
  exact s ((ge.stp s1).stp s2).h (r1.stp ge.h.vol s2) r2 hy (c.stp (s1.trans s2))
theorem imp1 {r : V → Hp → VK → Prop} {o : DV → (DV → Prop) → Prop} (s : Snd1 W r o) (σ : L2.St) (H : Hp) (Q : VK) (h : tD W (f1 o f) σ H Q) : tUn r (tD W f) σ H Q := by
  obtain ⟨M, ρ, K, ge, k, c⟩ := h
  exact ⟨M, ρ, _, ge, k, fun dx hx v H1 s1 r1 => s (ge.stp s1).h r1 hx (c.stp s1)⟩
theorem de_op {op : Operator} {r : R2} {o : DV → DV → (DV → Prop) → Prop} (h : OpR X (binaryOp op) r) (s : Snd2 W r o) (ha : PE X a (tD W f)) (hb : PE X b (tD W g)) : PE X (.BinOp a op b pos) (tD W (f2 o f g)) := (pe_op h ha hb).imp (imp2 s)
theorem de_un {op : UnaryOp} {r : V → Hp → VK → Prop} {o : DV → (DV → Prop) → Prop} (h : UnR X (unaryOp op) r) (s : Snd1 W r o) (ha : PE X a (tD W f)) : PE X (.UnaryOp op a pos) (tD W (f1 o f)) := (pe_un h ha).imp (imp1 s)
theorem de_cmp {op : CmpOp} {r : R2} {o : DV → DV → (DV → Prop) → Prop} (h : OpR X (compareOp op) r) (s : Snd2 W r o) (ha : PE X a (tD W f)) (hb : PE X b (tD W g)) (hm : behindInMarks op b = false := by first | exact nobehind _ (by decide) (by decide) | rfl) : PE X (.Compare a [op] [b] pos) (tD W (f2 o f g)) := (pe_cmpR h ha hb hm).imp (imp2 s)
theorem de_ix {r : R2} {o : DV → DV → (DV → Prop) → Prop} (h : IxR X r) (s : Snd2 W r o) (ha : PE X a (tD W f)) (hb : PE X b (tD W g)) (hs : PlainIx b := by intro _ _; rfl) : PE X (.Subscript a b pos) (tD W (f2 o f g)) := (pe_ix h ha hb hs).imp (imp2 s)
/-- a bool's value -/
def fB (f : FE) : FT := fun ρ K => f ρ fun x => ∃ c, x = .dat (.bool c) ∧ K c
theorem impB (σ : L2.St) (H : Hp) (Q : Bool → Hp → Prop) (h : tDT W (fB f) σ H Q) : tB (tD W f) σ H Q := by
  obtain ⟨M, ρ, K, ge, k, c⟩ := h
  refine ⟨M, ρ, _, ge, k, fun dx hx v H1 s1 r1 => ?_⟩
  obtain ⟨b, rfl, hb⟩ := hx
  cases r1
  exact ⟨b, rfl, c b hb H1 s1⟩
theorem dt_val (h : PE X e (tD W f)) (he : ∀ whole, isTrue e X.env whole = (do let v ← whole; standAt e.pos; holding [v] (truthy v)) := by intro _; rfl) : PT X e (tDT W (fB f)) := (pt_val h he).imp impB
theorem dt_cmp {op : CmpOp} {r : R2} {o : DV → DV → (DV → Prop) → Prop} (h : OpR X (compareOp op) r) (s : Snd2 W r o) (ha : PE X a (tD W f)) (hb : PE X b (tD W g)) (hm : behindInMarks op b = false := by first | exact nobehind _ (by decide) (by decide) | rfl) : PT X (.Compare a [op] [b] pos) (tDT W (fB (f2 o f g))) :=
  (pt_cmpR h ha hb hm).imp fun σ H Q z => by
    obtain ⟨M, ρ, K, ge, k, c⟩ := impB σ H Q z
    exact imp2 s σ H _ ⟨M, ρ, K, ge, k, c⟩
/-- any data by its truth -/
def truD : PyData → Bool
  | .none => false
  | .bool b => b
  | .int i => i != 0
  | .str x => (x.length : Int) != 0
  | .list xs => !xs.isEmpty
  | .tuple xs => !xs.isEmpty
  | .dict xs => !xs.isEmpty
def fTru (f : FE) : FT := fun ρ K => f ρ fun x => ∃ d, x = .dat d ∧ (∀ z, d = .str z → z.length ≤ sizeLine) ∧ K (truD d)
theorem kv_length {M : Addr → Prop} {H : Hp} : ∀ {kvs : List (Key × V)} {ds : List (PyData × PyData)}, DxKv M H kvs ds → kvs.length = ds.length
  | [], [], _ => rfl
  | _ :: _, _ :: _, h => by
    cases h with
    | cons _ h2 => simp [kv_length h2]
  | [], _ :: _, h => by cases h
  | _ :: _, [], h => by cases h
theorem emp_of {α β : Type} {xs : List α} {ys : List β} (h : xs.length = ys.length) : xs.isEmpty = ys.isEmpty := by
  cases xs <;> cases ys <;> first | rfl | (simp at h)
theorem dt_tru (h : PE X e (tD W f)) (he : ∀ whole, isTrue e X.env whole = (do let v ← whole; standAt e.pos; holding [v] (truthy v)) := by intro _; rfl) : PT X e (tDT W (fTru f)) := (pt_truth h he).imp fun σ H Q ⟨M, ρ, K, ge, k, c⟩ => by
  refine ⟨M, ρ, _, ge, k, fun dx hx v H1 s1 r1 => ?_⟩
  obtain ⟨d, rfl, hz, hb⟩ := hx
  have fin := c _ hb H1 s1
  cases r1 with
  | non => exact ⟨_, rfl, fin⟩
  | bl b => exact ⟨_, rfl, fin⟩
  | int i => exact ⟨_, rfl, fin⟩
  | str x => exact ⟨_, ⟨hz x rfl, rfl⟩, fin⟩
  | lst n e r => exact ⟨_, .inl ⟨_, SqL.of e, by rw [emp_of (DxAll.length r)]; rfl⟩, fin⟩
  | tup e r => exact ⟨_, .inr (.inl ⟨_, SqT.of e, by rw [emp_of (DxAll.length r)]; rfl⟩), fin⟩
  | dk n e r => exact ⟨_, .inr (.inr ⟨_, e, by rw [emp_of (kv_length r)]; rfl⟩), fin⟩
/-- a branch -/
def iteB (c : Bool) (A B : Prop) : Prop := match c with
  | true => A
  | false => B
@[simp] theorem iteB_true {A B : Prop} : iteB true A B = A := rfl
@[simp] theorem iteB_false {A B : Prop} : iteB false A B = B := rfl
/-! ### and, or, not, if -/
def fAnd (f g : FE) : FE := fun ρ K => f ρ fun x => ∃ c, x = .dat (.bool c) ∧ iteB c (g ρ K) (K (.dat (.bool false)))
def fOr (f g : FE) : FE := fun ρ K => f ρ fun x => ∃ c, x = .dat (.bool c) ∧ iteB c (K (.dat (.bool true))) (g ρ K)
def fNot (f : FE) : FE := fun ρ K => f ρ fun x => ∃ c, x = .dat (.bool c) ∧ K (.dat (.bool (!c)))
def fIf (t : FT) (f g : FE) : FE := fun ρ K => t ρ fun c => iteB c (f ρ K) (g ρ K)
def tAndD (t u : FT) : FT := fun ρ K => t ρ fun c => iteB c (u ρ K) (K false)
def tOrD (t u : FT) : FT := fun ρ K => t ρ fun c => iteB c (K true) (u ρ K)
def tNotD (t : FT) : FT := fun ρ K => t ρ fun c => K (!c)
variable {rest : List Expr} {t u : FT}
theorem de_and (ha : PE X a (tD W f)) (hb : PE X (.BoolOp .And (b :: rest) pos) (tD W g)) : PE X (.BoolOp .And (a :: b :: rest) pos) (tD W (fAnd f g)) := (pe_and ha hb).imp fun σ H Q ⟨M, ρ, K, ge, k, c⟩ => by
  refine ⟨M, ρ, _, ge, k, fun dx hx v H1 s1 r1 => ?_⟩
  obtain ⟨b, rfl, hb⟩ := hx
  cases r1
  refine ⟨b, rfl, ?_⟩
  cases b with
  | true => exact iteT ⟨M, ρ, _, ge.stp s1, by simpa using hb, c.stp s1⟩
  | false => exact iteF (c (.dat (.bool false)) (by simpa using hb) _ H1 s1 (Dx.bl false))
theorem de_or (ha : PE X a (tD W f)) (hb : PE X (.BoolOp .Or (b :: rest) pos) (tD W g)) : PE X (.BoolOp .Or (a :: b :: rest) pos) (tD W (fOr f g)) := (pe_or ha hb).imp fun σ H Q ⟨M, ρ, K, ge, k, c⟩ => by
  refine ⟨M, ρ, _, ge, k, fun dx hx v H1 s1 r1 => ?_⟩
  obtain ⟨b, rfl, hb⟩ := hx
  cases r1
  refine ⟨b, rfl, ?_⟩
  cases b with
  | false => exact iteF ⟨M, ρ, _, ge.stp s1, by simpa using hb, c.stp s1⟩
  | true => exact iteT (c (.dat (.bool true)) (by simpa using hb) _ H1 s1 (Dx.bl true))
theorem de_not (ha : PE X a (tD W f)) : PE X (.UnaryOp .Not a pos) (tD W (fNot f)) := (pe_not ha).imp fun σ H Q ⟨M, ρ, K, ge, k, c⟩ => by
  refine ⟨M, ρ, _, ge, k, fun dx hx v H1 s1 r1 => ?_⟩
  obtain ⟨b, rfl, hb⟩ := hx
  cases r1
  exact ⟨b, rfl, c _ hb _ H1 s1 (Dx.bl _)⟩
theorem de_if {c : Expr} (hc : PT X c (tDT W t)) (ha : PE X a (tD W f)) (hb : PE X b (tD W g)) : PE X (.IfExp c a b pos) (tD W (fIf t f g)) := (pe_ifExp hc ha hb).imp fun σ H Q ⟨M, ρ, K, ge, k, q⟩ => by
  refine ⟨M, ρ, _, ge, k, fun d hd H1 s1 => ?_⟩
  cases d with
  | true => exact iteT ⟨M, ρ, _, ge.stp s1, by simpa using hd, q.stp s1⟩
  | false => exact iteF ⟨M, ρ, _, ge.stp s1, by simpa using hd, q.stp s1⟩
theorem dw_and1 (ha : PT X a (tDT W t)) : PW X (.BoolOp .And [a] pos) (tDT W t) := pw_and1 ha
theorem dw_or1 (ha : PT X a (tDT W t)) : PW X (.BoolOp .Or [a] pos) (tDT W t) := pw_or1 ha
theorem dw_and (ha : PT X a (tDT W t)) (hb : PW X (.BoolOp .And (b :: rest) pos) (tDT W u)) : PW X (.BoolOp .And (a :: b :: rest) pos) (tDT W (tAndD t u)) := (pw_and ha hb).imp fun σ H Q ⟨M, ρ, K, ge, k, q⟩ => by
  refine ⟨M, ρ, _, ge, k, fun d hd H1 s1 => ?_⟩
  cases d with
  | true => exact iteT ⟨M, ρ, _, ge.stp s1, by simpa using hd, fun b hb H2 s2 => q b hb H2 (s1.trans s2)⟩
  | false => exact iteF (q _ (by simpa using hd) H1 s1)
theorem dw_or (ha : PT X a (tDT W t)) (hb : PW X (.BoolOp .Or (b :: rest) pos) (tDT W u)) : PW X (.BoolOp .Or (a :: b :: rest) pos) (tDT W (tOrD t u)) := (pw_or ha hb).imp fun σ H Q ⟨M, ρ, K, ge, k, q⟩ => by
  refine ⟨M, ρ, _, ge, k, fun d hd H1 s1 => ?_⟩
  cases d with
  | false => exact iteF ⟨M, ρ, _, ge.stp s1, by simpa using hd, fun b hb H2 s2 => q b hb H2 (s1.trans s2)⟩
  | true => exact iteT (q _ (by simpa using hd) H1 s1)
theorem dt_not (ha : PT X a (tDT W t)) : PT X (.UnaryOp .Not a pos) (tDT W (tNotD t)) := (pt_not ha).imp fun σ H Q ⟨M, ρ, K, ge, k, q⟩ => ⟨M, ρ, _, ge, k, fun b hb H1 s1 => q (!b) hb H1 s1⟩
/-! ### arguments -/
def fNil : FA := fun _ K => K []
def fCons (f : FE) (g : FA) : FA := fun ρ K => f ρ fun x => g ρ fun xs => K (x :: xs)
theorem da_nil : PA X [] (tDA W fNil) := pa_nil.imp fun σ H Q ⟨M, ρ, K, ge, k, q⟩ => q [] k [] H .refl trivial
theorem da_cons {fa : FA} (h1 : PE X e (tD W f)) (h2 : PA X es (tDA W fa)) (he : starEach (e :: es) X.env = (false, eval e X.env) :: starEach es X.env := by rfl) : PA X (e :: es) (tDA W (fCons f fa)) := (pa_cons h1 h2 he).imp fun σ H Q ⟨M, ρ, K, ge, k, q⟩ => by
  refine ⟨M, ρ, _, ge, k, fun dx hx v H1 s1 r1 => ⟨M, ρ, _, ge.stp s1, hx, fun ds hd vs H2 s2 r2 => ?_⟩⟩
  exact q _ hd _ H2 (s1.trans s2) ⟨r1.stp ge.h.vol s2, r2⟩
/-- a built-in, called -/
theorem impC {r : List V → Hp → VK → Prop} {o : List DV → (DV → Prop) → Prop} {fa : FA} (s : SndC W r o) (σ : L2.St) (H : Hp) (Q : VK) (h : tD W (fCall o fa) σ H Q) : tCB r (tDA W fa) σ H Q := by
  obtain ⟨M, ρ, K, ge, k, c⟩ := h
  exact ⟨M, ρ, _, ge, k, fun ds hd vs H1 s1 r1 => s (ge.stp s1).h r1 hd (c.stp s1)⟩
/-! ### new tuples and lists -/
def asDat : List DV → Option (List PyData)
  | [] => some []
  | .dat d :: r => (asDat r).map (d :: ·)
  | _ :: _ => none
theorem asDat_all {M : Addr → Prop} {H : Hp} : ∀ {vs : List V} {ds : List DV} {es : List PyData}, asDat ds = some es → RelAll W M H vs ds → DxAll M H vs es
  | [], [], es, h, _ => by
    cases h
    exact .nil
  | v :: vs, .dat d :: ds, es, h, r => by
    simp only [asDat, Option.map_eq_some_iff] at h
    obtain ⟨z, h, rfl⟩ := h
    exact .cons r.1 (asDat_all h r.2)
theorem asDat_len : ∀ {ds : List DV} {es : List PyData}, asDat ds = some es → ds.length = es.length
  | [], es, h => by
    cases h
    rfl
  | .dat d :: ds, es, h => by
    simp only [asDat, Option.map_eq_some_iff] at h
    obtain ⟨z, h, rfl⟩ := h
    simp [asDat_len h]
def fTup (fa : FA) : FE := fun ρ K => fa ρ fun xs => ∃ ds, asDat xs = some ds ∧ ds.length ≤ sizeLine ∧ K (.dat (.tuple ds))
def fLst (fa : FA) : DEnv → (OC → Prop) → Prop := fun ρ K => fa ρ fun xs => ∃ ds, asDat xs = some ds ∧ ds.length ≤ sizeLine ∧ K (.lst ds)
theorem de_tup {fa : FA} {x1} (h : PA X es (tDA W fa)) : PE X (.Tuple es x1 pos) (tD W (fTup fa)) := (pe_tup h).imp fun σ H Q ⟨M, ρ, K, ge, k, c⟩ => by
  refine ⟨M, ρ, _, ge, k, fun ds hd vs H1 s1 r1 => ?_⟩
  obtain ⟨es, he, hl, hk⟩ := hd
  refine ⟨by rw [r1.length, asDat_len he]; exact hl, fun p np => c _ hk _ _ (s1.trans (.new np)) ?_⟩
  exact Dx.tup upd_same (Dx.kpAll (Stp.kp ge.h.vol (.new np)) _ _ (asDat_all he r1))
theorem df_lst {fa : FA} (h : PA X es (tDA W fa)) : PE X (.List es pos) (tFr W (fLst fa)) := (pe_lst h).imp fun σ H Q ⟨M, ρ, K, ge, k, c⟩ => by
  refine ⟨M, ρ, _, ge, k, fun ds hd vs H1 s1 r1 => ?_⟩
  obtain ⟨es, he, hl, hk⟩ := hd
  exact ⟨by rw [r1.length, asDat_len he]; exact hl, fun p np => c _ hk p _ H1 s1 np (.lst (asDat_all he r1))⟩
def fDnew : DEnv → (OC → Prop) → Prop := fun _ K => K (.dk [])
theorem df_dnew : PE X (.Dict [] [] pos) (tFr W fDnew) := pe_dnewK.imp fun σ H Q ⟨M, ρ, K, ge, k, c⟩ => fun p np => c _ k p _ H .refl np (.dk rfl .nil)
/-- a new object as any data -/
def fNew (f : DEnv → (OC → Prop) → Prop) : FE := fun ρ K => f ρ fun c => K (.dat c.pd)
theorem RelO.dx {M : Addr → Prop} {H : Hp} {a : Addr} {o : HO} {c : OC} (n : ¬ M a) (e : H a = some o) (r : RelO M H o c) : Dx M H (.ref a) c.pd := by
  cases r with
  | lst r => exact .lst n e r
  | dk r1 r2 => exact .dk n e (kv_of r1 r2)
theorem de_new {f : DEnv → (OC → Prop) → Prop} (h : PE X e (tFr W f)) : PE X e (tD W (fNew f)) := h.imp fun σ H Q ⟨M, ρ, K, ge, k, c⟩ => by
  refine ⟨M, ρ, _, ge, k, fun oc hc p o H1 s1 np r => c _ hc _ _ (s1.trans (.new np)) ?_⟩
  have nM : ¬ M p := fun z => (ge.stp s1).h.all p z np
  exact RelO.dx nM upd_same (r.kp (Stp.kp ge.h.vol (.new np)))
end
/-! ### statements -/
structure DEnds where
  nx : DEnv → Prop
  rt : PyData → Prop
  bk : DEnv → Prop := fun _ => False
  ct : DEnv → Prop := fun _ => False
abbrev FS := DEnds → DEnv → Prop
structure Le (W : Wd) (L : List (V × PyData)) (E : DEnds) (D : Ends) : Prop where
  nx : ∀ {M σ H ρ}, Good W L M H σ ρ → E.nx ρ → D.nx σ H
  bk : ∀ {M σ H ρ}, Good W L M H σ ρ → E.bk ρ → D.bk σ H
  ct : ∀ {M σ H ρ}, Good W L M H σ ρ → E.ct ρ → D.ct σ H
  rt : ∀ {v H d}, Stp W W.H0 H → Dx W.M0 H v d → E.rt d → D.rt v H
def tDS (W : Wd) (g : FS) : TS := fun D σ H => ∃ L M ρ E, Good W L M H σ ρ ∧ g E ρ ∧ Le W L E D
section
variable {X : Cx} {W : Wd} {st : Stmt} {sts : List Stmt} {e : Expr} {pos : Pos} {g g2 : FS} {f : FE}
def sNext : FS := fun E ρ => E.nx ρ
def sSeq (g g2 : FS) : FS := fun E ρ => g { E with nx := g2 E } ρ
theorem dss_nil : PSs X [] (tDS W sNext) := pss_nil.imp fun D σ H ⟨L, M, ρ, E, gd, k, le⟩ => le.nx gd k
theorem dss_cons (h1 : PS X st (tDS W g)) (h2 : PSs X sts (tDS W g2)) : PSs X (st :: sts) (tDS W (sSeq g g2)) := (pss_cons h1 h2).imp fun D σ H ⟨L, M, ρ, E, gd, k, le⟩ =>
  ⟨L, M, ρ, { E with nx := g2 E }, gd, k, fun gd' k' => ⟨L, _, _, E, gd', k', le⟩, le.bk, le.ct, le.rt⟩
theorem dss_one (h1 : PS X st (tDS W g)) : PSs X [st] (tDS W g) := pss_one h1
def sBreak : FS := fun E ρ => E.bk ρ
def sCont : FS := fun E ρ => E.ct ρ
theorem ds_pass : PS X (.Pass pos) (tDS W sNext) := ps_pass.imp fun D σ H ⟨L, M, ρ, E, gd, k, le⟩ => le.nx gd k
theorem ds_break : PS X (.Break pos) (tDS W sBreak) := ps_break.imp fun D σ H ⟨L, M, ρ, E, gd, k, le⟩ => le.bk gd k
theorem ds_continue : PS X (.Continue pos) (tDS W sCont) := ps_continue.imp fun D σ H ⟨L, M, ρ, E, gd, k, le⟩ => le.ct gd k
def sDrop (f : FE) : FS := fun E ρ => f ρ fun _ => E.nx ρ
theorem ds_expr (he : PE X e (tD W f)) (hs : swapsWith e none pos.line X.env = pure false := by rfl) : PS X (.Expr e pos) (tDS W (sDrop f)) := (ps_expr he hs).imp fun D σ H ⟨L, M, ρ, E, gd, k, le⟩ =>
  ⟨M, ρ, _, gd.e, k, fun dv hd v H1 s1 r1 => le.nx (gd.to s1) hd⟩
def sRet (f : FE) : FS := fun E ρ => f ρ fun x => ∃ d, x = .dat d ∧ E.rt d
theorem ds_ret (he : PE X e (tD W f)) : PS X (.Return (some e) pos) (tDS W (sRet f)) := (ps_ret he).imp fun D σ H ⟨L, M, ρ, E, gd, k, le⟩ => ⟨M, ρ, _, gd.e, k, fun dv hd v H1 s1 r1 => by
  obtain ⟨d, rfl, hd⟩ := hd
  exact le.rt (gd.e.h.stp.trans s1) (Dx.re (fun a _ _ m => gd.e.h.sub a m) _ _ r1) hd⟩
def sRetN : FS := fun E _ => E.rt .none
theorem ds_retN : PS X (.Return none pos) (tDS W sRetN) := ps_retN.imp fun D σ H ⟨L, M, ρ, E, gd, k, le⟩ => le.rt gd.e.h.stp Dx.non k
def sIf (t : FT) (g g2 : FS) : FS := fun E ρ => t ρ fun c => iteB c (g E ρ) (g2 E ρ)
theorem ds_if {c : Expr} {a b : List Stmt} {t : FT} (hc : PT X c (tDT W t)) (ha : PSs X a (tDS W g)) (hb : PSs X b (tDS W g2)) : PS X (.If c a b pos) (tDS W (sIf t g g2)) := (ps_if hc ha hb).imp fun D σ H ⟨L, M, ρ, E, gd, k, le⟩ => by
  refine ⟨M, ρ, _, gd.e, k, fun d hd H1 s1 => ?_⟩
  cases d with
  | true => exact iteT ⟨L, M, ρ, E, gd.to s1, by simpa using hd, le⟩
  | false => exact iteF ⟨L, M, ρ, E, gd.to s1, by simpa using hd, le⟩
/-! ### names stored -/
def sAsg (i : Nat) (f : FE) : FS := fun E ρ => f ρ fun x => x.isOwn = false ∧ E.nx (ρ.set i (some x))
theorem ds_set {i : Nat} {x : Str} {pos' : Pos} (hN : X.N.Nodup) (hi : X.N[i]? = some x) (hx : Loc X.env.scope x) (he : PE X e (tD W f)) (hs : swapsWith e (some (.Name x pos')) pos.line X.env = pure false := by rfl) (hf : X.fn x = true ∨ X.env.scope.names.lookup x = some .local := by first | exact .inl rfl | exact .inr rfl | assumption) :
    PS X (.Assign [.Name x pos'] e pos) (tDS W (sAsg i f)) := (ps_set hN hi hx he hs hf).imp fun D σ H ⟨L, M, ρ, E, gd, k, le⟩ =>
  ⟨M, ρ, _, gd.e, k, fun dv hd v H1 s1 r1 => le.nx ((gd.to s1).set r1 hd.1) hd.2⟩
def sNew (i : Nat) (f : DEnv → (OC → Prop) → Prop) : FS := fun E ρ => f ρ fun c => E.nx (ρ.set i (some (.own c)))
theorem ds_new {i : Nat} {x : Str} {pos' : Pos} {f : DEnv → (OC → Prop) → Prop} (hN : X.N.Nodup) (hi : X.N[i]? = some x) (hx : Loc X.env.scope x) (he : PE X e (tFr W f)) (hs : swapsWith e (some (.Name x pos')) pos.line X.env = pure false := by rfl) (hf : X.fn x = true ∨ X.env.scope.names.lookup x = some .local := by first | exact .inl rfl | exact .inr rfl | assumption) :
    PS X (.Assign [.Name x pos'] e pos) (tDS W (sNew i f)) := (ps_set hN hi hx he hs hf).imp fun D σ H ⟨L, M, ρ, E, gd, k, le⟩ =>
  ⟨M, ρ, _, gd.e, k, fun c hc p o H1 s1 np r => le.nx ((gd.to s1).fresh np r) hc⟩
/-- from here on others may know it -/
def rel (ρ : DEnv) (i : Nat) : DEnv := match ρ[i]? with
  | some (some (.own c)) => ρ.set i (some (.dat c.pd))
  | _ => ρ
def sRel (i : Nat) (g : FS) : FS := fun E ρ => g E (rel ρ i)
theorem Good.rel {L : List (V × PyData)} {M : Addr → Prop} {H : Hp} {σ : L2.St} {ρ : DEnv} (gd : Good W L M H σ ρ) (i : Nat) : ∃ M', Good W L M' H σ (DL.rel ρ i) := by
  unfold DL.rel
  split
  · rename_i c h
    exact gd.release h
  · exact ⟨M, gd⟩
theorem dss_rel (i : Nat) (h : PSs X sts (tDS W g)) : PSs X sts (tDS W (sRel i g)) := h.imp fun D σ H ⟨L, M, ρ, E, gd, k, le⟩ => by
  obtain ⟨M', gd'⟩ := gd.rel i
  exact ⟨L, M', _, E, gd', k, le⟩
theorem ds_rel (i : Nat) (h : PS X st (tDS W g)) : PS X st (tDS W (sRel i g)) := h.imp fun D σ H ⟨L, M, ρ, E, gd, k, le⟩ => by
  obtain ⟨M', gd'⟩ := gd.rel i
  exact ⟨L, M', _, E, gd', k, le⟩
/-! ### stores to what one slot alone knows -/
def sApp (i : Nat) (f : FE) : FS := fun E ρ => ∃ ds, ρ[i]? = some (some (.own (.lst ds))) ∧ f ρ fun x => ∃ d, x = .dat d ∧ ds.length < sizeLine ∧ E.nx (ρ.set i (some (.own (.lst (ds ++ [d])))))
theorem own_lst {M : Addr → Prop} {H : Hp} {v : V} {ds : List PyData} (r : RelDV W M H v (.own (.lst ds))) : ∃ a xs, v = .ref a ∧ H a = some (.lst xs) ∧ DxAll M H xs ds ∧ M a ∧ ¬ W.vol a := by
  obtain ⟨a, o, e, ho, r, m, n⟩ := r
  cases r with
  | lst r => exact ⟨a, _, e, ho, r, m, n⟩
theorem ds_append {i : Nat} {e : Expr} (h : PE X e (tBM X.K "list" rAppend (tVar i) (tCons (tD W f) tNil))) (hs : swapsWith e none pos.line X.env = pure false := by rfl) : PS X (.Expr e pos) (tDS W (sApp i f)) :=
  (ps_expr h hs).imp fun D σ H ⟨L, M, ρ, E, gd, ⟨ds, hi, k⟩, le⟩ => by
  obtain ⟨v, hσ, r⟩ := gd.e.at_ i _ hi
  obtain ⟨a, xs, rfl, ha, _⟩ := own_lst r
  refine ⟨_, hσ, .inl ⟨rfl, _, SqL.of ha⟩, M, ρ, _, gd.e, k, fun dv hd y H1 s1 r1 => ?_⟩
  obtain ⟨d, rfl, hl, hk⟩ := hd
  have gd1 := gd.to s1
  obtain ⟨v, hσ1, r2⟩ := gd1.e.at_ i _ hi
  rw [hσ] at hσ1
  cases hσ1
  obtain ⟨a', xs', e', ha', ra, ma, na⟩ := own_lst r2
  cases e'
  refine ⟨_, _, y, rfl, rfl, ha', by rw [DxAll.length ra]; exact hl, ?_⟩
  exact le.nx (gd1.mut hi hσ ha' (.lst ra) ma na (.lst (ra.app (.cons r1 .nil)))) hk
end
end DL

set_option Elab.async false
set_option linter.all false
set_option maxRecDepth 100000
set_option maxHeartbeats 1000000
/-! Targets, walks, loops, comprehensions, all and any, over data. -/
namespace DL
open PySem PySem.Spec PyProof.Rows L2 KT KG KX KY KE0 LK GxR
/-! ### targets -/
inductive Sets (W : Wd) (M : Addr → Prop) (H : Hp) (T : Nat → Prop) : L2.St → DEnv → L2.St → DEnv → Prop
  | refl {σ : L2.St} {ρ : DEnv} : Sets W M H T σ ρ σ ρ
  | set {σ σ' : L2.St} {ρ ρ' : DEnv} {i : Nat} {v : V} {dv : DV} : Sets W M H T σ ρ σ' ρ' → RelDV W M H v dv → dv.isOwn = false → T i → Sets W M H T σ ρ (σ'.set i (some v)) (ρ'.set i (some dv))
abbrev GD := PyData → DEnv → (DEnv → Prop) → Prop
abbrev GDs := List PyData → DEnv → (DEnv → Prop) → Prop
def SndG (W : Wd) (T : Nat → Prop) (g : TG) (gd : GD) : Prop := ∀ {M H v d σ0 ρ0 σ ρ K} {Q : L2.St → Hp → Prop}, Dx M H v d → Sets W M H T σ0 ρ0 σ ρ → gd d ρ K → (∀ σ' ρ', Sets W M H T σ0 ρ0 σ' ρ' → K ρ' → Q σ' H) → g v σ H Q
def SndGs (W : Wd) (T : Nat → Prop) (g : TGs) (gd : GDs) : Prop := ∀ {M H vs ds σ0 ρ0 σ ρ K} {Q : L2.St → Hp → Prop}, DxAll M H vs ds → Sets W M H T σ0 ρ0 σ ρ → gd ds ρ K → (∀ σ' ρ', Sets W M H T σ0 ρ0 σ' ρ' → K ρ' → Q σ' H) → g vs σ H Q
def gdN (i : Nat) : GD := fun d ρ K => K (ρ.set i (some (.dat d)))
def gdT (n : Nat) (gs : GDs) : GD := fun d ρ K => match d with
  | .tuple ds => ds.length = n ∧ gs ds ρ K
  | _ => False
def gdNil : GDs := fun ds ρ K => match ds with
  | [] => K ρ
  | _ :: _ => False
def gdCons (g : GD) (gs : GDs) : GDs := fun ds ρ K => match ds with
  | d :: r => g d ρ fun ρ' => gs r ρ' K
  | [] => False
theorem gdT_t (n : Nat) (gs : GDs) (ds : List PyData) (ρ : DEnv) (K : DEnv → Prop) : gdT n gs (.tuple ds) ρ K = (ds.length = n ∧ gs ds ρ K) := rfl
theorem gdNil_n (ρ : DEnv) (K : DEnv → Prop) : gdNil [] ρ K = K ρ := rfl
theorem gdCons_c (g : GD) (gs : GDs) (d : PyData) (r : List PyData) (ρ : DEnv) (K : DEnv → Prop) : gdCons g gs (d :: r) ρ K = g d ρ fun ρ' => gs r ρ' K := rfl
section
variable {W : Wd} {M M0 : Addr → Prop} {H H0 : Hp} {T : Nat → Prop} {σ σ' : L2.St} {ρ ρ' : DEnv}
theorem Sets.good {L : List (V × PyData)} (s : Sets W M H T σ ρ σ' ρ') (g : Good W L M H σ ρ) : Good W L M H σ' ρ' := by
  induction s with
  | refl => exact g
  | set _ r n _ ih => exact (ih g).set r n
theorem Sets.goodE (s : Sets W M H T σ ρ σ' ρ') (g : GoodE W M H σ ρ) : GoodE W M H σ' ρ' := by
  induction s with
  | refl => exact g
  | set _ r n _ ih => exact (ih g).set r
theorem wipe_set : ∀ {vs : List Nat} {i : Nat} {x : Option V}, i ∈ vs → L2.wipe (σ.set i x) vs = L2.wipe σ vs
  | v :: vs, i, x, h => by
    unfold L2.wipe
    by_cases e : i ∈ vs
    · rw [wipe_set e]
    · have ev : i = v := (List.mem_cons.mp h).resolve_right e
      subst ev
      have out : ∀ us : List Nat, i ∉ us → L2.wipe (σ.set i x) us = (L2.wipe σ us).set i x := fun us => by
        induction us with
        | nil => intro _; rfl
        | cons u us ih =>
          intro hu
          unfold L2.wipe
          rw [ih (fun z => hu (List.mem_cons_of_mem _ z)), List.set_comm _ _ (fun z => hu (by rw [z]; exact List.mem_cons_self))]
      rw [out vs e, List.set_set]
theorem Sets.wipe {vs : List Nat} (s : Sets W M H (· ∈ vs) σ ρ σ' ρ') : L2.wipe σ' vs = L2.wipe σ vs := by
  induction s with
  | refl => rfl
  | set _ _ _ h ih => rw [wipe_set h, ih]
theorem sg_name {i : Nat} (h : T i) : SndG W T (gName i) (gdN i) := fun hx s k q => q _ _ (s.set (dv := .dat _) hx rfl h) k
theorem sg_tup {K : PySem.W.Frag} {n : Nat} {t : TGs} {gs : GDs} (h : SndGs W T t gs) : SndG W T (gTup K n t) (gdT n gs) := fun {M H v d σ0 ρ0 σ ρ K' Q} hx s k q => by
  cases d with
  | tuple ds =>
    obtain ⟨hl, k⟩ := k
    obtain ⟨a, xs, rfl, e, r⟩ := Dx.tupOf hx
    exact ⟨a, xs, rfl, SqT.of e, by rw [DxAll.length r]; exact hl, h r s k q⟩
  | _ => exact k.elim
theorem sgs_nil : SndGs W T gNil gdNil := fun {M H vs ds σ0 ρ0 σ ρ K' Q} hx s k q => by
  cases hx with
  | nil => exact ⟨rfl, q _ _ s k⟩
  | cons _ _ => exact k.elim
theorem sgs_cons {g : TG} {t : TGs} {gd : GD} {gs : GDs} (h1 : SndG W T g gd) (h2 : SndGs W T t gs) : SndGs W T (gCons g t) (gdCons gd gs) := fun {M H vs ds σ0 ρ0 σ ρ K' Q} hx s k q => by
  cases hx with
  | nil => exact k.elim
  | cons x1 x2 => exact ⟨_, _, rfl, h1 x1 s k fun σ' ρ' s' k' => h2 x2 s' k' q⟩
end
section
variable {X : Cx} {W : Wd} {e tg iter : Expr} {pos : Pos} {f : FE}
def sAsgT (f : FE) (gd : GD) : FS := fun E ρ => f ρ fun x => ∃ d, x = .dat d ∧ gd d ρ E.nx
theorem ds_asg {g : TG} {gd : GD} (he : PE X e (tD W f)) (hg : PG X tg g) (sg : SndG W (fun _ => True) g gd) (hs : swapsWithSole [tg] e pos.line X.env = pure false := by rfl) (hw : swappedStores [tg] e X.env = pure none := by rfl)
    (h1 : (assignEach [tg] X.env).map (·.2) = [assign tg X.env] := by rfl) : PS X (.Assign [tg] e pos) (tDS W (sAsgT f gd)) := (ps_asg he hg hs hw h1).imp fun D σ H ⟨L, M, ρ, E, gd', k, le⟩ =>
  ⟨M, ρ, _, gd'.e, k, fun dv hd v H1 s1 r1 => by
    obtain ⟨d, rfl, hd⟩ := hd
    exact sg r1 .refl hd fun σ' ρ' s k' => le.nx (s.good (gd'.to s1)) k'⟩
/-! ### what is walked -/
structure WalkD (W : Wd) (J : It) (items : List PyData) (live : List (V × DV)) : Prop where
  go : ∀ {i H M}, (∀ p ∈ live, RelDV W M H p.1 p.2) → i < items.length → J.go i H
  stop : ∀ {H M}, (∀ p ∈ live, RelDV W M H p.1 p.2) → J.stop items.length H
  yld : ∀ {i H M x H'}, GoodH W M H → (∀ p ∈ live, RelDV W M H p.1 p.2) → i < items.length → J.yld i H x H' → Stp W H H' ∧ ∃ d, items[i]? = some d ∧ Dx M H' x d
def tDI (W : Wd) (st : Bool) (fi : DEnv → (List PyData → Prop) → Prop) : TI := fun σ H R => ∃ M ρ K, GoodE W M H σ ρ ∧ fi ρ K ∧ ∀ items, K items → ∀ J live H', Stp W H H' → (∀ p ∈ live, RelDV W M H' p.1 p.2) → (st = true → ∀ p ∈ live, ∃ d, p.2 = DV.dat d) → WalkD W J items live → R J H'
theorem _root_.L2.PI.imp {w w' : TI} (h : PI X tg iter w) (k : ∀ σ H R, w' σ H R → w σ H R) : PI X tg iter w' := ⟨fun pins s σ H R I q => h.run pins s σ H R I (k σ H R q)⟩
theorem pi_seqA {te : TE} (he : PE X e te) : PI X tg e (fun σ H R => te σ H fun x H1 => (∃ a, x = .ref a ∧ (∃ xs, SqT X.K H1 a xs) ∧ R (Itt X.K a) H1) ∨ (∃ a, x = .ref a ∧ (∃ xs, SqL X.K H1 a xs) ∧ R (Itl X.K a) H1) ∨ ∃ z, x = .str z ∧ R (Its z) H1) := by
  refine ⟨fun pins s σ H R I h => ?_⟩
  refine thn (he.run pins s σ H _ I h) fun v s1 ⟨x, H1, I1, r1, q1⟩ => ?_
  rcases q1 with ⟨a, rfl, ⟨xs, hq⟩, q⟩ | ⟨a, rfl, ⟨xs, hq⟩, q⟩ | ⟨z, rfl, q⟩
  · cases r1
    obtain ⟨its, rv, p, hz⟩ := I1.tuple hq
    refine wpAny_pyIter_tuple (show s1.heap.IsTuple a its.toArray from p) ?_
    refine ⟨s1.heap.objs.size, [s1.heap.objs.size], _, _, H1, rfl, I1.kept (t' := s1.toks) fun b o e => Heap.get?_push_of_some _ e, turn_tuple a _, ⟨_, Heap.get?_push_size _ rfl, rfl, rfl⟩, fun b hb => ?_, q⟩
    have e : b = s1.heap.objs.size := by simpa using hb
    subst e
    exact I1.fpOk (Nat.le_refl _) (I1.hok.fresh (Nat.le_refl _))
  · cases r1
    obtain ⟨its, rv, p, hz⟩ := I1.list hq
    refine wpAny_pyIter_list p.isList ?_
    refine ⟨s1.heap.objs.size, [s1.heap.objs.size], _, _, H1, rfl, I1.kept (t' := s1.toks) fun b o e => Heap.get?_push_of_some _ e, turn_list a _, ⟨_, Heap.get?_push_size _ rfl, rfl, rfl⟩, fun b hb => ?_, q⟩
    have e : b = s1.heap.objs.size := by simpa using hb
    subst e
    exact I1.fpOk (Nat.le_refl _) (I1.hok.fresh (Nat.le_refl _))
  · obtain ⟨t, rfl⟩ := r1
    cases ha : z.cps.all (· < 128)
    · exact wpAny_pyIter_wide ha (pi_one (tk := s1.toks) I1 _ (turn_str _ z t "str_iterator" (.inr rfl)) ⟨_, Heap.get?_push_size _ rfl, rfl, rfl⟩ q)
    · exact wpAny_pyIter_ascii ha (pi_one (tk := s1.toks) I1 _ (turn_str _ z t "str_ascii_iterator" (.inl rfl)) ⟨_, Heap.get?_push_size _ rfl, rfl, rfl⟩ q)
def signs (z : Str) : List PyData := z.cps.toList.map fun c => .str ⟨#[c]⟩
def itemsOf (st : Bool) : DV → Option (List PyData)
  | .dat (.tuple ds) => some ds
  | .dat (.list ds) => some ds
  | .dat (.str z) => some (signs z)
  | .own (.lst ds) => if st = true then none else some ds
  | .gts xs => if st = true then none else some (xs.map PyData.str)
  | _ => none
def fIt (st : Bool) (f : FE) : DEnv → (List PyData → Prop) → Prop := fun ρ K => f ρ fun x => ∃ ds, itemsOf st x = some ds ∧ K ds
theorem walkD_tup {K : PySem.W.Frag} {a : Addr} {ds : List PyData} : WalkD W (Itt K a) ds [(.ref a, .dat (.tuple ds))] := by
  have get : ∀ {M H}, (∀ p ∈ [((V.ref a), DV.dat (.tuple ds))], RelDV W M H p.1 p.2) → ∃ xs, SqT K H a xs ∧ DxAll M H xs ds := fun {M H} h => by
    obtain ⟨b, xs, e, e1, r⟩ := Dx.tupOf (h _ List.mem_cons_self)
    cases e
    exact ⟨xs, SqT.of e1, r⟩
  refine ⟨fun {i H M} h hi => ?_, fun h => ?_, fun g h hi y => ?_⟩
  · obtain ⟨xs, e, r⟩ := get h
    have h2 : i < xs.length := by
      rw [DxAll.length r]
      exact hi
    exact ⟨xs, xs[i], e, by simp [h2]⟩
  · obtain ⟨xs, e, r⟩ := get h
    exact ⟨xs, e, Nat.le_of_eq (DxAll.length r)⟩
  · obtain ⟨xs, e, r⟩ := get h
    obtain ⟨rfl, y⟩ := y
    obtain ⟨d, h1, h2⟩ := DxAll.at r (y xs e)
    exact ⟨.refl, d, h1, h2⟩
theorem walkD_lst {K : PySem.W.Frag} {a : Addr} {ds : List PyData} {dv : DV} (hd : dv = .dat (.list ds) ∨ dv = .own (.lst ds)) : WalkD W (Itl K a) ds [(.ref a, dv)] := by
  have get : ∀ {M H}, (∀ p ∈ [((V.ref a), dv)], RelDV W M H p.1 p.2) → ∃ xs, SqL K H a xs ∧ DxAll M H xs ds := fun {M H} h => by
    have h := h _ List.mem_cons_self
    rcases hd with rfl | rfl
    · cases (show Dx M H (.ref a) (.list ds) from h) with
      | lst n e r => exact ⟨_, SqL.of e, r⟩
    · obtain ⟨b, xs, e, e1, r, _⟩ := own_lst h
      cases e
      exact ⟨xs, SqL.of e1, r⟩
  refine ⟨fun {i H M} h hi => ?_, fun h => ?_, fun g h hi y => ?_⟩
  · obtain ⟨xs, e, r⟩ := get h
    have h2 : i < xs.length := by
      rw [DxAll.length r]
      exact hi
    exact ⟨xs, xs[i], e, by simp [h2]⟩
  · obtain ⟨xs, e, r⟩ := get h
    exact ⟨xs, e, Nat.le_of_eq (DxAll.length r)⟩
  · obtain ⟨xs, e, r⟩ := get h
    obtain ⟨rfl, y⟩ := y
    obtain ⟨d, h1, h2⟩ := DxAll.at r (y xs e)
    exact ⟨.refl, d, h1, h2⟩
theorem walkD_str {z : Str} : WalkD W (Its z) (signs z) [] := by
  have hl : (signs z).length = z.cps.size := by simp [signs]
  refine ⟨fun _ hi => ?_, fun _ => ?_, fun g _ hi y => ?_⟩
  · exact walk_str.goes _ _ (by rw [← hl]; exact hi) trivial
  · rw [hl]
    exact walk_str.stops _ trivial
  · obtain ⟨rfl, c, h1, rfl⟩ := walk_str.yields _ _ _ _ (by rw [← hl]; exact hi) trivial y
    refine ⟨.refl, _, ?_, Dx.str _⟩
    simp [signs, h1]
theorem walkD_gts {a : Addr} {xs : List Str} (h : ∀ H, SqT W.K H a (xs.map V.str)) : WalkD W (Itt W.K a) (xs.map PyData.str) [] := by
  refine ⟨fun {i H _} _ hi => ?_, fun {H _} _ => ?_, fun {i H M x H'} g _ hi y => ?_⟩
  · have hi : i < xs.length := by simpa using hi
    exact ⟨_, .str xs[i], h H, by simp [hi]⟩
  · exact ⟨_, h H, by simp⟩
  · have hi : i < xs.length := by simpa using hi
    obtain ⟨rfl, y⟩ := y
    have y := y _ (h _)
    simp only [List.getElem?_map, List.getElem?_eq_getElem hi, Option.map_some] at y
    cases y
    exact ⟨.refl, .str xs[i], by simp [hi], Dx.str _⟩
theorem di_seq {st : Bool} (he : PE X e (tD W f)) (hK : W.K = X.K) : PI X tg e (tDI W st (fIt st f)) := (pi_seqA he).imp fun σ H R ⟨M, ρ, K, g, k, c⟩ => by
  refine ⟨M, ρ, _, g, k, fun dv hd v H1 s1 r1 => ?_⟩
  obtain ⟨ds, hi, hk⟩ := hd
  match dv, hi, r1 with
  | .dat (.tuple ds'), hi, r1 =>
    cases hi
    obtain ⟨a, xs, rfl, e, r⟩ := Dx.tupOf r1
    exact .inl ⟨a, rfl, ⟨_, SqT.of e⟩, c _ hk _ _ H1 s1 (fun p hp => by rw [List.mem_singleton.mp hp]; exact r1) (fun _ p hp => by rw [List.mem_singleton.mp hp]; exact ⟨_, rfl⟩) walkD_tup⟩
  | .dat (.list ds'), hi, r1 =>
    cases hi
    have r1' := r1
    cases (show Dx M H1 v (.list ds) from r1) with
    | lst n e r => exact .inr (.inl ⟨_, rfl, ⟨_, SqL.of e⟩, c _ hk _ _ H1 s1 (fun p hp => by rw [List.mem_singleton.mp hp]; exact r1') (fun _ p hp => by rw [List.mem_singleton.mp hp]; exact ⟨_, rfl⟩) (walkD_lst (.inl rfl))⟩)
  | .dat (.str z), hi, r1 =>
    cases hi
    cases (show Dx M H1 v (.str z) from r1) with
    | str _ => exact .inr (.inr ⟨z, rfl, c _ hk _ [] H1 s1 (fun p hp => by cases hp) (fun _ p hp => by cases hp) walkD_str⟩)
  | .own (.lst ds'), hi, r1 =>
    have hi : (if st = true then none else some ds') = some ds := hi
    by_cases hs : st = true
    · rw [if_pos hs] at hi
      cases hi
    · rw [if_neg hs] at hi
      cases hi
      have r1' := r1
      obtain ⟨a, xs, rfl, e, r, m, n⟩ := own_lst r1
      exact .inr (.inl ⟨a, rfl, ⟨_, SqL.of e⟩, c _ hk _ _ H1 s1 (fun p hp => by rw [List.mem_singleton.mp hp]; exact r1') (fun z => absurd z hs) (walkD_lst (.inr rfl))⟩)
  | .gts xs, hi, r1 =>
    have hi : (if st = true then none else some (xs.map PyData.str)) = some ds := hi
    by_cases hs : st = true
    · rw [if_pos hs] at hi
      cases hi
    · rw [if_neg hs] at hi
      cases hi
      obtain ⟨a, rfl, h⟩ := r1
      refine .inl ⟨a, rfl, ⟨_, by rw [← hK]; exact h H1⟩, ?_⟩
      rw [← hK]
      exact c _ hk _ [] H1 s1 (fun p hp => by cases hp) (fun _ p hp => by cases hp) (walkD_gts h)
theorem di_gts {a : Addr} {xs : List Str} (h : PE X e (tC (.ref a))) (hK : W.K = X.K) (ha : ∀ H, SqT X.K H a (xs.map V.str)) : PI X tg e (tDI W true fun _ K => K (xs.map PyData.str)) := (pi_tup h).imp fun σ H R ⟨M, ρ, K, g, k, c⟩ => by
  refine ⟨a, rfl, ⟨_, ha H⟩, ?_⟩
  rw [← hK] at ha ⊢
  exact c _ k _ [] H .refl (fun p hp => by cases hp) (fun _ p hp => by cases hp) (walkD_gts ha)
def rngD (lo : Int) (n : Nat) : List PyData := (List.range n).map fun (i : Nat) => PyData.int (lo + (i : Int))
theorem walkD_rng {lo : Int} {n : Nat} : WalkD W (Itr lo n) (rngD lo n) [] := by
  have hl : (rngD lo n).length = n := by simp [rngD]
  refine ⟨fun _ hi => by rw [hl] at hi; exact hi, fun _ => by rw [hl]; exact Nat.le_refl _, fun g _ hi y => ?_⟩
  obtain ⟨rfl, rfl⟩ := y
  rw [hl] at hi
  exact ⟨.refl, _, by simp [rngD, hi], Dx.int _⟩
def fRng1 (fa : FA) : DEnv → (List PyData → Prop) → Prop := fun ρ K => fa ρ fun xs => ∃ n : Int, xs = [.dat (.int n)] ∧ -(2 ^ 62) ≤ n ∧ n < 2 ^ 62 ∧ K (rngD 0 n.toNat)
def fRng2 (fa : FA) : DEnv → (List PyData → Prop) → Prop := fun ρ K => fa ρ fun xs => ∃ i j : Int, xs = [.dat (.int i), .dat (.int j)] ∧ (-(2 ^ 62) ≤ i ∧ i < 2 ^ 62 ∧ -(2 ^ 62) ≤ j ∧ j < 2 ^ 62) ∧ K (rngD i (j - i).toNat)
theorem rel1 {M : Addr → Prop} {H : Hp} {vs : List V} {d : DV} (r : RelAll W M H vs [d]) : ∃ v, vs = [v] ∧ RelDV W M H v d := by
  match vs, r with
  | [v], r => exact ⟨v, rfl, r.1⟩
theorem rel2 {M : Addr → Prop} {H : Hp} {vs : List V} {d e : DV} (r : RelAll W M H vs [d, e]) : ∃ v u, vs = [v, u] ∧ RelDV W M H v d ∧ RelDV W M H u e := by
  match vs, r with
  | [v, u], r => exact ⟨v, u, rfl, r.1, r.2.1⟩
theorem rel3 {M : Addr → Prop} {H : Hp} {vs : List V} {d e f : DV} (r : RelAll W M H vs [d, e, f]) : ∃ v u z, vs = [v, u, z] ∧ RelDV W M H v d ∧ RelDV W M H u e ∧ RelDV W M H z f := by
  match vs, r with
  | [v, u, z], r => exact ⟨v, u, z, rfl, r.1, r.2.1, r.2.2.1⟩
theorem relI {M : Addr → Prop} {H : Hp} {v : V} {n : Int} (r : RelDV W M H v (.dat (.int n))) : v = .int n := by
  cases (show Dx M H v (.int n) from r)
  rfl
theorem di_range1 {st : Bool} {fa : FA} {a : Expr} {p : Pos} (hg : Gl X "range") (hm : X.mg "range" = none) (ha : PA X [a] (tDA W fa)) (hs : starEach [a] X.env = [(false, eval a X.env)] := by rfl) : PI X tg (.Call (.Name "range" p) [a] [] pos) (tDI W st (fRng1 fa)) := (pi_range1 hg hm ha hs).imp fun σ H R ⟨M, ρ, K, g, k, c⟩ => by
  refine ⟨M, ρ, _, g, k, fun ds hd vs H1 s1 r1 => ?_⟩
  obtain ⟨n, rfl, h1, h2, hk⟩ := hd
  obtain ⟨v, rfl, r⟩ := rel1 r1
  cases relI r
  exact ⟨n, rfl, h1, h2, c _ hk _ [] H1 s1 (fun p hp => by cases hp) (fun _ p hp => by cases hp) walkD_rng⟩
theorem di_range2 {st : Bool} {fa : FA} {a b : Expr} {p : Pos} (hg : Gl X "range") (hm : X.mg "range" = none) (ha : PA X [a, b] (tDA W fa)) (hs : starEach [a, b] X.env = [(false, eval a X.env), (false, eval b X.env)] := by rfl) (hs2 : starEach [b] X.env = [(false, eval b X.env)] := by rfl) : PI X tg (.Call (.Name "range" p) [a, b] [] pos) (tDI W st (fRng2 fa)) := (pi_range2 hg hm ha hs hs2).imp fun σ H R ⟨M, ρ, K, g, k, c⟩ => by
  refine ⟨M, ρ, _, g, k, fun ds hd vs H1 s1 r1 => ?_⟩
  obtain ⟨i, j, rfl, h1, hk⟩ := hd
  obtain ⟨v, u, rfl, r, r2⟩ := rel2 r1
  cases relI r
  cases relI r2
  exact ⟨i, j, rfl, h1, c _ hk _ [] H1 s1 (fun p hp => by cases hp) (fun _ p hp => by cases hp) walkD_rng⟩
/-! ### for -/
def forL (gd : GD) (body : FS) (E : DEnds) : List PyData → DEnv → Prop
  | [], ρ => E.nx ρ
  | d :: ds, ρ => gd d ρ fun ρ' => body { E with nx := forL gd body E ds, ct := forL gd body E ds, bk := E.nx } ρ'
def sFor (fi : DEnv → (List PyData → Prop) → Prop) (gd : GD) (body : FS) : FS := fun E ρ => fi ρ fun items => forL gd body E items ρ
theorem ds_for {fi : DEnv → (List PyData → Prop) → Prop} {g : TG} {gd : GD} {body : List Stmt} {fb : FS} (hp : PassesOwn (model X.prog X.w) X.A X.env X.xe) (hc : X.calm = true) (hi : PI X tg iter (tDI W true fi)) (hg : PG X tg g) (sg : SndG W (fun _ => True) g gd) (hb : PSs X body (tDS W fb))
    (hs : ∀ x, foldedSetIterable iter X.env x = pure x := by intro _; rfl) : PS X (.For tg iter body [] pos) (tDS W (sFor fi gd fb)) := (ps_for hp hc hi hg hb hs).imp fun D σ H ⟨L, M, ρ, E, gd', k, le⟩ => by
  refine ⟨M, ρ, _, gd'.e, k, fun items hk J live H1 s1 hl hst w => ?_⟩
  have hst := hst rfl
  have g1 := gd'.to s1
  -- the source stays alive
  let L' : List (V × PyData) := L ++ live.filterMap fun p => p.2.pd.map fun d => (p.1, d)
  have liveOf : ∀ {M2 H2 σ2 ρ2}, Good W L' M2 H2 σ2 ρ2 → ∀ p ∈ live, RelDV W M2 H2 p.1 p.2 := fun {M2 H2 σ2 ρ2} g2 p hp => by
    obtain ⟨d, e⟩ := hst p hp
    have z := g2.live (p.1, d) (List.mem_append_right _ (List.mem_filterMap.mpr ⟨p, hp, by rw [e]; rfl⟩))
    rw [e]
    exact z
  have gL : Good W L' M H1 σ ρ := ⟨g1.e, fun p hp => (List.mem_append.mp hp).elim (g1.live p) fun hp => by
    obtain ⟨q, hq, e⟩ := List.mem_filterMap.mp hp
    obtain ⟨d, e2⟩ := hst q hq
    rw [e2] at e
    cases e
    have z := hl q hq
    rw [e2] at z
    exact z, g1.fr, g1.ne⟩
  have unL : ∀ {M2 H2 σ2 ρ2}, Good W L' M2 H2 σ2 ρ2 → Good W L M2 H2 σ2 ρ2 := fun g2 => ⟨g2.e, fun p hp => g2.live p (List.mem_append_left _ hp), g2.fr, g2.ne⟩
  refine ⟨fun i m σ2 H2 => m = items.length - i ∧ i ≤ items.length ∧ ∃ M2 ρ2, Good W L' M2 H2 σ2 ρ2 ∧ forL gd fb E (items.drop i) ρ2, ⟨items.length, by simp, Nat.zero_le _, M, ρ, gL, by simpa using hk⟩, ?_⟩
  rintro i m σ2 H2 ⟨rfl, hi2, M2, ρ2, g2, k2⟩
  by_cases hlt : i < items.length
  · refine .inr ⟨w.go (liveOf g2) hlt, fun σ3 H3 => ∃ M3 ρ3, Good W L' M3 H3 σ3 ρ3 ∧ forL gd fb E (items.drop (i + 1)) ρ3, fun σ3 H3 h3 => ⟨items.length - (i + 1), by omega, rfl, hlt, h3⟩, fun x H3 y => ?_⟩
    obtain ⟨s3, d, hd, xd⟩ := w.yld g2.e.h (liveOf g2) hlt y
    have g3 := g2.to s3
    have ed : items.drop i = d :: items.drop (i + 1) := by
      have : items[i] = d := by simpa [List.getElem?_eq_getElem hlt] using hd
      rw [← this]
      exact List.drop_eq_getElem_cons hlt
    rw [ed] at k2
    refine sg xd .refl k2 fun σ4 ρ4 s4 k4 => ?_
    exact ⟨L', M2, ρ4, _, s4.good g3, k4, fun g5 k5 => ⟨_, _, g5, k5⟩, fun g5 k5 => le.nx (unL g5) k5, fun g5 k5 => ⟨_, _, g5, k5⟩, le.rt⟩
  · have e : i = items.length := by omega
    subst e
    rw [List.drop_length] at k2
    exact .inl ⟨w.stop (liveOf g2), le.nx (unL g2) k2⟩
/-! ### while -/
def whN (t : FT) (fb : FS) (E : DEnds) : Nat → DEnv → Prop
  | 0, _ => False
  | n + 1, ρ => t ρ fun c => iteB c (fb { E with nx := whN t fb E n, ct := whN t fb E n, bk := E.nx } ρ) (E.nx ρ)
def sWhile (t : FT) (fb : FS) : FS := fun E ρ => ∃ n, whN t fb E n ρ
theorem ds_while {c : Expr} {body : List Stmt} {t : FT} {fb : FS} (hp : PassesOwn (model X.prog X.w) X.A X.env X.xe) (hc : PT X c (tDT W t)) (hb : PSs X body (tDS W fb)) : PS X (.While c body [] pos) (tDS W (sWhile t fb)) := (ps_while hp hc hb).imp fun D σ H ⟨L, M, ρ, E, gd, ⟨n, k⟩, le⟩ => by
  refine ⟨fun m σ2 H2 => ∃ M2 ρ2, Good W L M2 H2 σ2 ρ2 ∧ whN t fb E m ρ2, ⟨n, M, ρ, gd, k⟩, ?_⟩
  rintro m σ2 H2 ⟨M2, ρ2, g2, k2⟩
  cases m with
  | zero => exact k2.elim
  | succ m =>
    refine ⟨M2, ρ2, _, g2.e, k2, fun b hb H3 s3 => ?_⟩
    cases b with
    | true => exact iteT ⟨fun σ4 H4 => ∃ M4 ρ4, Good W L M4 H4 σ4 ρ4 ∧ whN t fb E m ρ4, fun σ4 H4 h4 => ⟨m, Nat.lt_succ_self m, h4⟩, L, M2, ρ2, { E with nx := whN t fb E m, ct := whN t fb E m, bk := E.nx }, g2.to s3, by simpa using hb, fun g5 k5 => ⟨_, _, g5, k5⟩, fun g5 k5 => le.nx g5 k5, fun g5 k5 => ⟨_, _, g5, k5⟩, le.rt⟩
    | false => exact iteF (le.nx (g2.to s3) (by simpa using hb))
end
end DL

set_option Elab.async false
set_option linter.all false
set_option maxRecDepth 100000
set_option maxHeartbeats 1000000
/-! Comprehensions, all and any, calls and promises, errors raised, over data. -/
namespace DL
open PySem PySem.Spec PyProof.Rows L2 KT KG KX KY KE0 LK GxR QY QZ QB QE QF
open He (ga ma)
section
variable {W : Wd} {M : Addr → Prop} {H : Hp} {σ : L2.St} {ρ : DEnv}
/-- beside a new object p, which may change -/
theorem GoodE.beside {p : Addr} {o : HO} (g : GoodE W M H σ ρ) (np : H p = none) : GoodE W (fun a => M a ∨ a = p) (upd H p o) σ ρ := by
  have s : Stp W H (upd H p o) := .new np
  have k : ∀ a u, H a = some u → (M a ∨ a = p) → M a := fun a u e m => m.elim id fun z => by
    rw [z, np] at e
    cases e
  have vol : ∀ a, W.vol a → (M a ∨ a = p) := fun a z => .inl (g.h.vol a z)
  have kp : Kp (fun a => M a ∨ a = p) H (upd H p o) := s.kp vol
  refine ⟨⟨s.ok g.h.ok, vol, fun a m z => ?_, g.h.stp.trans s, fun a m => .inl (g.h.sub a m), g.h.m0⟩, g.len, fun i dv e => ?_⟩
  · rcases m with m | rfl
    · exact g.h.all a m (s.on a z)
    · rw [upd_same] at z
      cases z
  · obtain ⟨v, e1, r⟩ := g.at_ i dv e
    refine ⟨v, e1, ?_⟩
    cases dv with
    | dat d => exact Dx.kp kp _ _ (Dx.re k _ _ r)
    | own c =>
      obtain ⟨a, u, e, ho, r, m, n⟩ := r
      exact ⟨a, u, e, s.st a u n r.nt.1 ho, (r.re k).kp kp, .inl m, n⟩
    | deck => exact r
    | gts xs => exact r
    | ob u => exact r
theorem RelDV.beside {v : V} {dv : DV} {p : Addr} {o : HO} (g : GoodH W M H) (np : H p = none) (r : RelDV W M H v dv) : RelDV W (fun a => M a ∨ a = p) (upd H p o) v dv := by
  have s : Stp W H (upd H p o) := .new np
  have k : ∀ a u, H a = some u → (M a ∨ a = p) → M a := fun a u e m => m.elim id fun z => by
    rw [z, np] at e
    cases e
  have kp : Kp (fun a => M a ∨ a = p) H (upd H p o) := s.kp fun a z => .inl (g.vol a z)
  cases dv with
  | dat d => exact Dx.kp kp _ _ (Dx.re k _ _ r)
  | own c =>
    obtain ⟨a, u, e, ho, r, m, n⟩ := r
    exact ⟨a, u, e, s.st a u n r.nt.1 ho, (r.re k).kp kp, .inl m, n⟩
  | deck => exact r
  | gts xs => exact r
  | ob u => exact r
/-- the object at D changes, D may change -/
theorem GoodE.poke {D : Addr} {xs ys : List V} (g : GoodE W M H σ ρ) (hD : H D = some (.lst xs)) (mD : M D) (nv : ¬ W.vol D) (h0 : W.H0 D = none) : Kp M H (upd H D (.lst ys)) ∧ (GoodH W M H → GoodH W M (upd H D (.lst ys))) := by
  have kp : Kp M H (upd H D (.lst ys)) := ⟨fun b u n _ e => by
    rw [upd_ne (fun z => n (by rw [z]; exact mD))]
    exact e, fun b zs e => by
    rw [upd_ne (fun z => by rw [z, hD] at e; cases e)]
    exact e⟩
  refine ⟨kp, fun gh => ?_⟩
  have ok : W.ok (upd H D (.lst ys)) := by
    obtain ⟨i1, t1⟩ := gh.ok
    refine ⟨W.keep (fun b u v e => ?_) i1, fun P hP => ?_⟩
    · rw [upd_ne (fun z => by
        rcases v with v | ⟨φ, rfl⟩ | ⟨_, ps, rfl⟩
        · exact nv (by rw [← z]; exact v)
        · rw [z, hD] at e
          cases e
        · rw [z, hD] at e
          cases e)]
      exact e
    · obtain ⟨ps, e, tr⟩ := t1 P hP
      refine ⟨ps, ?_, tr⟩
      rw [upd_ne (fun z => by rw [z, hD] at e; cases e)]
      exact e
  refine ⟨ok, gh.vol, fun b m z => ?_, ⟨fun b u n t e => ?_, fun b zs e => ?_, fun b e => ?_, fun _ => ok⟩, gh.sub, gh.m0⟩
  · by_cases y : b = D
    · rw [y, upd_same] at z
      cases z
    · rw [upd_ne y] at z
      exact gh.all b m z
  · rw [upd_ne (fun z => by rw [z, h0] at e; cases e)]
    exact gh.stp.st b u n t e
  · rw [upd_ne (fun z => by rw [z, h0] at e; cases e)]
    exact gh.stp.tp b zs e
  · by_cases y : b = D
    · rw [y]
      exact h0
    · rw [upd_ne y] at e
      exact gh.stp.on b e
theorem GoodE.kpTo {H' : Hp} (g : GoodE W M H σ ρ) (k : Kp M H H') (gh : GoodH W M H') (no : ∀ (i : Nat) (c : OC), ρ[i]? = some (some (.own c)) → ∀ a : Addr, σ[i]? = some (some (.ref a)) → H' a = H a) : GoodE W M H' σ ρ := ⟨gh, g.len, fun i dv e => by
  obtain ⟨v, e1, r⟩ := g.at_ i dv e
  refine ⟨v, e1, ?_⟩
  cases dv with
  | dat d => exact Dx.kp k _ _ r
  | own c =>
    obtain ⟨a, u, rfl, ho, r, m, n⟩ := r
    exact ⟨a, u, rfl, by rw [no i c e a e1]; exact ho, r.kp k, m, n⟩
  | deck => exact r
  | gts xs => exact r
  | ob u => exact r⟩
end
theorem wipe_none {σ : L2.St} {i : Nat} : ∀ {vs : List Nat}, i ∈ vs → i < σ.length → (L2.wipe σ vs)[i]? = some none
  | v :: vs, h, hl => by
    unfold L2.wipe
    by_cases e : i = v
    · subst e
      rw [List.getElem?_set_self (by rw [wipe_length]; exact hl)]
    · rw [List.getElem?_set_ne (fun z => e z.symm)]
      exact wipe_none ((List.mem_cons.mp h).resolve_left e) hl
theorem wipe_wipe (σ : L2.St) (vs : List Nat) : L2.wipe (L2.wipe σ vs) vs = L2.wipe σ vs := by
  apply List.ext_getElem?
  intro i
  by_cases h : i ∈ vs
  · by_cases hl : i < σ.length
    · rw [wipe_none h (by rw [wipe_length]; exact hl), wipe_none h hl]
    · rw [List.getElem?_eq_none (by rw [wipe_length, wipe_length]; omega), List.getElem?_eq_none (by rw [wipe_length]; omega)]
  · rw [wipe_out h]
/-! ### comprehensions -/
def lcL (gd : GD) (t : FT) (f : FE) (ρ : DEnv) : List PyData → List PyData → (List PyData → Prop) → Prop
  | [], acc, K => K acc
  | d :: ds, acc, K => gd d ρ fun ρ' => t ρ' fun b => iteB b (f ρ' fun x => ∃ e, x = .dat e ∧ acc.length < sizeLine ∧ lcL gd t f ρ ds (acc ++ [e]) K) (lcL gd t f ρ ds acc K)
def fLc (fi : DEnv → (List PyData → Prop) → Prop) (vs : List Nat) (gd : GD) (t : FT) (f : FE) : DEnv → (OC → Prop) → Prop := fun ρ K => fi ρ fun items => lcL gd t f (wipeD ρ vs) items [] fun ds => K (.lst ds)
def tYesD : FT := fun _ K => K true
section
variable {X : Cx} {W : Wd} {e elt tg iter : Expr} {ifs : List Expr} {pos : Pos} {f : FE}
theorem dts_nil : PTs X [] (tDT W tYesD) := ⟨fun pins s σ H Q I ⟨M, ρ, K, g, k, c⟩ => pts_nil.run pins s σ H Q I (c true k H .refl)⟩
/-- the turns of a comprehension -/
theorem lc_turns {fi : DEnv → (List PyData → Prop) → Prop} {vs : List Nat} {g : TG} {gd : GD} {t : FT} {σ : L2.St} {H : Hp} {Q : VK} (sg : SndG W (· ∈ vs) g gd) (h : tFr W (fLc fi vs gd t f) σ H Q) : tLc (tDI W false fi) g (tDT W t) (tD W f) vs σ H Q := by
  obtain ⟨M, ρ, K, ge, k, c⟩ := h
  refine ⟨M, ρ, _, ge, k, fun items hk J live H1 s1 hl _ w D nD => ?_⟩
  have g1 := ge.stp s1
  have nv : ¬ W.vol D := fun z => g1.h.all D (g1.h.vol D z) nD
  have h0 : W.H0 D = none := g1.h.stp.on D nD
  let M' : Addr → Prop := fun a => M a ∨ a = D
  have nown : ∀ (i : Nat) (c : OC), ρ[i]? = some (some (.own c)) → ∀ a : Addr, σ[i]? = some (some (.ref a)) → a ≠ D := fun i c hi a ha => by
    obtain ⟨v, e1, b, u, rfl, ho, _⟩ := g1.at_ i _ hi
    rw [ha] at e1
    cases e1
    exact ne_of_none ho nD
  refine ⟨fun i m H2 => m = items.length - i ∧ i ≤ items.length ∧ GoodE W M' H2 σ ρ ∧ (∀ p ∈ live, RelDV W M' H2 p.1 p.2) ∧
    (∃ acc ds, H2 D = some (.lst acc) ∧ DxAll M' H2 acc ds ∧ lcL gd t f (wipeD ρ vs) (items.drop i) ds fun ds => K (.lst ds)) ∧ (∀ a o, ¬ W.vol a → a ≠ D → (∀ ps, o ≠ .tbl ps) → H1 a = some o → H2 a = some o) ∧ (∀ a xs, H1 a = some (.tup xs) → H2 a = some (.tup xs)) ∧ (∀ a, H2 a = none → H1 a = none),
    ⟨items.length, by simp, Nat.zero_le _, g1.beside nD, fun p hp => (hl p hp).beside g1.h nD, ⟨[], [], upd_same, .nil, by simpa using hk⟩, fun a o _ n _ e => by rw [upd_ne n]; exact e, fun a xs e => by rw [upd_ne (ne_of_none e nD)]; exact e, fun a e => ?_⟩, ?_⟩
  · by_cases z : a = D
    · rw [z]
      exact nD
    · rw [upd_ne z] at e
      exact e
  rintro i m H2 ⟨rfl, hi, g2, hl2, ⟨acc, ds, eD, da, hk2⟩, f1, f2, f3⟩
  by_cases hlt : i < items.length
  · refine .inr ⟨w.go hl2 hlt, fun H3 => i + 1 ≤ items.length ∧ GoodE W M' H3 σ ρ ∧ (∀ p ∈ live, RelDV W M' H3 p.1 p.2) ∧
      (∃ acc ds, H3 D = some (.lst acc) ∧ DxAll M' H3 acc ds ∧ lcL gd t f (wipeD ρ vs) (items.drop (i + 1)) ds fun ds => K (.lst ds)) ∧ (∀ a o, ¬ W.vol a → a ≠ D → (∀ ps, o ≠ .tbl ps) → H1 a = some o → H3 a = some o) ∧ (∀ a xs, H1 a = some (.tup xs) → H3 a = some (.tup xs)) ∧ (∀ a, H3 a = none → H1 a = none),
      fun H3 h3 => ⟨items.length - (i + 1), by omega, rfl, h3⟩, fun x H3 y => ?_⟩
    obtain ⟨s3, d, hd, xd⟩ := w.yld g2.h hl2 hlt y
    have ed : items.drop i = d :: items.drop (i + 1) := by
      have : items[i] = d := by simpa [List.getElem?_eq_getElem hlt] using hd
      rw [← this]
      exact List.drop_eq_getElem_cons hlt
    rw [ed] at hk2
    refine sg xd .refl hk2 fun σ' ρ' s4 k4 => ⟨by rw [s4.wipe, wipe_wipe], M', ρ', _, s4.goodE ((g2.stp s3).wipe vs), k4, fun b hb H4 s5 => ?_⟩
    have s35 := s3.trans s5
    cases b with
    | true =>
      refine iteT ⟨M', ρ', _, (s4.goodE ((g2.stp s3).wipe vs)).stp s5, by simpa using hb, fun dv hdv y H5 s6 r6 => ?_⟩
      obtain ⟨d2, rfl, hl6, hk6⟩ := hdv
      have s7 := s35.trans s6
      have eD5 := s7.st D _ nv (fun _ z => by cases z) eD
      have g5 := g2.stp s7
      obtain ⟨kp, gh⟩ := GoodE.poke (ys := acc ++ [y]) g5 eD5 (.inr rfl) nv h0
      have da5 := Dx.kpAll (s7.kp g2.h.vol) _ _ da
      refine ⟨acc, eD5, by rw [DxAll.length da]; exact hl6, hlt, g5.kpTo kp (gh g5.h) (fun i c hi a ha => by rw [upd_ne (nown i c hi a ha)]), fun p hp => ?_, ⟨_, _, upd_same, Dx.kpAll kp _ _ (da5.app (.cons r6 .nil)), hk6⟩, fun a o n1 n2 n3 e => ?_, fun a xs e => ?_, fun a e => ?_⟩
      · have r := (hl2 p hp).stp g2.h.vol s7
        have r0 := hl p hp
        generalize p.2 = dv at r r0
        generalize p.1 = v at r r0
        cases dv with
        | dat d => exact Dx.kp kp _ _ r
        | own c =>
          obtain ⟨a, u, rfl, ho, r, m, n⟩ := r
          obtain ⟨a', u', e', ho', _⟩ := r0
          cases e'
          exact ⟨a, u, rfl, by rw [upd_ne (ne_of_none ho' nD)]; exact ho, r.kp kp, m, n⟩
        | deck => exact r
        | gts xs => exact r
        | ob u => exact r
      · rw [upd_ne n2]
        exact s7.st a o n1 n3 (f1 a o n1 n2 n3 e)
      · rw [upd_ne (ne_of_none e nD)]
        exact s7.tp a xs (f2 a xs e)
      · by_cases z : a = D
        · rw [z]
          exact nD
        · rw [upd_ne z] at e
          exact f3 a (s7.on a e)
    | false =>
      refine iteF ⟨hlt, g2.stp s35, fun p hp => (hl2 p hp).stp g2.h.vol s35, ⟨acc, ds, s35.st D _ nv (fun _ z => by cases z) eD, Dx.kpAll (s35.kp g2.h.vol) _ _ da, by simpa using hb⟩, fun a o n1 n2 n3 e => s35.st a o n1 n3 (f1 a o n1 n2 n3 e), fun a xs e => s35.tp a xs (f2 a xs e), fun a e => f3 a (s35.on a e)⟩
  · have e : i = items.length := by omega
    subst e
    rw [List.drop_length] at hk2
    refine .inl ⟨w.stop hl2, ?_⟩
    have e2 : upd (delH H2 D) D (.lst acc) = H2 := by
      funext b
      by_cases z : b = D
      · rw [z, upd_same, eD]
      · rw [upd_ne z, delH_ne z]
    have s2 : Stp W H1 (delH H2 D) := ⟨fun a o n t e => by
      have na := ne_of_none e nD
      rw [delH_ne na]
      exact f1 a o n na t e, fun a xs e => by
      rw [delH_ne (ne_of_none e nD)]
      exact f2 a xs e, fun a e => by
      by_cases z : a = D
      · rw [z]
        exact nD
      · rw [delH_ne z] at e
        exact f3 a e, fun _ => by
      obtain ⟨i1, t1⟩ := g2.h.ok
      refine ⟨W.keep (fun b u v e => ?_) i1, fun P hP => ?_⟩
      · rw [delH_ne (fun z => by
          rcases v with v | ⟨φ, rfl⟩ | ⟨_, ps, rfl⟩
          · exact nv (by rw [← z]; exact v)
          · rw [z, eD] at e
            cases e
          · rw [z, eD] at e
            cases e)]
        exact e
      · obtain ⟨ps, e, tr⟩ := t1 P hP
        refine ⟨ps, ?_, tr⟩
        rw [delH_ne (fun z => by rw [z, eD] at e; cases e)]
        exact e⟩
    have kp : Kp M' H2 (delH H2 D) := ⟨fun b u n _ e => by
      rw [delH_ne (fun z => n (.inr z))]
      exact e, fun b zs e => by
      rw [delH_ne (fun z => by rw [z, eD] at e; cases e)]
      exact e⟩
    have fin := c _ hk2 D (.lst acc) _ (s1.trans s2) delH_same (.lst (Dx.reAll (fun a _ _ m => .inl m) _ _ (Dx.kpAll kp _ _ da)))
    rw [e2] at fin
    exact fin
theorem df_lc {scope : Scope} {own : List (Str × Nat)} {fi : DEnv → (List PyData → Prop) → Prop} {g : TG} {gd : GD} {t : FT} (hc : X.calm = true) (hN : X.N.Nodup) (hi : PI X tg iter (tDI W false fi)) (ok : BlkOk X.N X.env.scope scope own)
    (hg : ∀ (s : Shared) (H : Hp) (C : Addr) (cl : List (Str × Addr)) (fp : List Addr), PG (X.blk s H scope (compEnvC scope cl C X.env) fp) tg g) (sg : SndG W (· ∈ own.map (·.2)) g gd) (ht : ∀ (s : Shared) (H : Hp) (C : Addr) (cl : List (Str × Addr)) (fp : List Addr), PTs (X.blk s H scope (compEnvC scope cl C X.env) fp) ifs (tDT W t))
    (he : ∀ (s : Shared) (H : Hp) (C : Addr) (cl : List (Str × Addr)) (fp : List Addr), PE (X.blk s H scope (compEnvC scope cl C X.env) fp) elt (tD W f)) (hs : ∀ x, foldedSetIterable iter X.env x = pure x := by intro _; rfl) : PE X (.ListComp elt [⟨tg, iter, ifs, 0⟩] scope pos) (tFr W (fLc fi (own.map (·.2)) gd t f)) :=
  (pe_lc hc hN hi ok hg ht he hs).imp fun σ H Q h => lc_turns sg h
/-- y = [.. for ..] -/
theorem ds_newLc {i : Nat} {y : Str} {py : Pos} {scope : Scope} {own : List (Str × Nat)} {spos : Pos} {fi : DEnv → (List PyData → Prop) → Prop} {g : TG} {gd : GD} {t : FT} (hc : X.calm = true) (hN : X.N.Nodup) (hy : X.N[i]? = some y) (hyl : X.env.scope.names.lookup y = some .local)
    (hsw : swapsWith (.ListComp elt [⟨tg, iter, ifs, 0⟩] scope pos) (some (.Name y py)) spos.line X.env = pure true) (hi : PI X tg iter (tDI W false fi)) (ok : BlkOk X.N X.env.scope scope own)
    (hg : ∀ (s : Shared) (H : Hp) (C : Addr) (cl : List (Str × Addr)) (fp : List Addr), PG (X.blk s H scope (compEnvC scope cl C X.env) fp) tg g) (sg : SndG W (· ∈ own.map (·.2)) g gd) (ht : ∀ (s : Shared) (H : Hp) (C : Addr) (cl : List (Str × Addr)) (fp : List Addr), PTs (X.blk s H scope (compEnvC scope cl C X.env) fp) ifs (tDT W t))
    (he : ∀ (s : Shared) (H : Hp) (C : Addr) (cl : List (Str × Addr)) (fp : List Addr), PE (X.blk s H scope (compEnvC scope cl C X.env) fp) elt (tD W f)) (hs : ∀ x, foldedSetIterable iter X.env x = pure x := by intro _; rfl) : PS X (.Assign [.Name y py] (.ListComp elt [⟨tg, iter, ifs, 0⟩] scope pos) spos) (tDS W (sNew i (fLc fi (own.map (·.2)) gd t f))) :=
  (ps_setLc hc hN hy hyl hsw hi ok hg ht he hs).imp fun D σ H ⟨L, M, ρ, E, gd', k, le⟩ => by
    show tLc _ _ _ _ _ σ H _
    exact lc_turns sg ⟨M, ρ, _, gd'.e, k, fun c hc p o H1 s1 np r => le.nx ((gd'.to s1).fresh np r) hc⟩
/-! ### all, any -/
def agL (b0 : Bool) (gd : GD) (f : FE) (ρ : DEnv) : List PyData → (Bool → Prop) → Prop
  | [], K => K b0
  | d :: ds, K => gd d ρ fun ρ' => f ρ' fun x => ∃ b, x = .dat (.bool b) ∧ iteB (b == b0) (agL b0 gd f ρ ds K) (K (!b0))
def fAG (b0 : Bool) (fi : DEnv → (List PyData → Prop) → Prop) (vs : List Nat) (gd : GD) (f : FE) : FE := fun ρ K => fi ρ fun items => agL b0 gd f (wipeD ρ vs) items fun b => K (.dat (.bool b))
theorem ag_turns {b0 : Bool} {fi : DEnv → (List PyData → Prop) → Prop} {vs : List Nat} {g : TG} {gd : GD} {P : Addr} {σ : L2.St} {H : Hp} {Q : VK} (sg : SndG W (· ∈ vs) g gd) (hP : P ∈ W.Tl) (h : tD W (fAG b0 fi vs gd f) σ H Q) : tAG b0 (tDI W false fi) g (tD W f) vs P σ H Q := by
  obtain ⟨M, ρ, K, ge, k, c⟩ := h
  refine ⟨M, ρ, _, ge, k, fun items hk J live H1 s1 hl _ w => ⟨(ge.stp s1).h.ok.2 P hP, fun H2 tb => ?_⟩⟩
  have s2 : Stp W H1 H2 := .tab hP (ge.stp s1).h.ok ((ge.stp s1).h.ok.2 P hP) tb
  have s12 := s1.trans s2
  have g2 := ge.stp s12
  refine ⟨fun i m H3 => m = items.length - i ∧ i ≤ items.length ∧ Stp W H2 H3 ∧ agL b0 gd f (wipeD ρ vs) (items.drop i) fun b => K (.dat (.bool b)), ⟨items.length, by simp, Nat.zero_le _, .refl, by simpa using hk⟩, ?_⟩
  rintro i m H3 ⟨rfl, hi, s3, hk3⟩
  have g3 := g2.stp s3
  have hl3 : ∀ p ∈ live, RelDV W M H3 p.1 p.2 := fun p hp => (hl p hp).stp g2.h.vol (s2.trans s3)
  by_cases hlt : i < items.length
  · refine .inr ⟨w.go hl3 hlt, fun H4 => i + 1 ≤ items.length ∧ Stp W H2 H4 ∧ agL b0 gd f (wipeD ρ vs) (items.drop (i + 1)) fun b => K (.dat (.bool b)), fun H4 h4 => ⟨items.length - (i + 1), by omega, rfl, h4⟩, fun x H4 y => ?_⟩
    obtain ⟨s4, d, hd, xd⟩ := w.yld g3.h hl3 hlt y
    have ed : items.drop i = d :: items.drop (i + 1) := by
      have : items[i] = d := by simpa [List.getElem?_eq_getElem hlt] using hd
      rw [← this]
      exact List.drop_eq_getElem_cons hlt
    rw [ed] at hk3
    refine sg xd .refl hk3 fun σ' ρ' s5 k5 => ⟨by rw [s5.wipe, wipe_wipe], M, ρ', _, s5.goodE ((g3.stp s4).wipe vs), k5, fun dv hdv y H5 s6 r6 => ?_⟩
    obtain ⟨b, rfl, hb⟩ := hdv
    cases r6
    refine ⟨b, rfl, ?_⟩
    have s46 := (s3.trans s4).trans s6
    by_cases e : b = b0
    · rw [if_pos e]
      rw [show (b == b0) = true from by rw [e]; exact beq_self_eq_true _] at hb
      exact ⟨hlt, s46, hb⟩
    · rw [if_neg e]
      rw [show (b == b0) = false from by cases b <;> cases b0 <;> first | rfl | exact absurd rfl e] at hb
      exact c _ hb _ H5 (s12.trans s46) (Dx.bl _)
  · have e : i = items.length := by omega
    subst e
    rw [List.drop_length] at hk3
    exact .inl ⟨w.stop hl3, c _ hk3 _ H3 (s12.trans s3) (Dx.bl _)⟩
theorem de_all {c P : Addr} {scope : Scope} {p gpos : Pos} {own : List (Str × Nat)} {fi : DEnv → (List PyData → Prop) → Prop} {g : TG} {gd : GD} {k : Nat} (hc : X.calm = true) (hN : X.N.Nodup)
    (hr : Room k X.A) (hgl : Gl X "all") (hm : X.mg "all" = none) (TB : TabB X.base X.mg c P) (hcode : X.env.code = .ref c) (hP : P ∈ W.Tl) (ok : GnOk X.N X.env.scope scope own) (hi : PI X tg iter (tDI W false fi))
    (hg : ∀ (s : Shared) (H : Hp) (cl : List (Str × Addr)) (C : Addr) (code : Value) (fp : List Addr), PG (gX X s H (genEnv scope cl C code builtinsNs X.env) fp) tg g) (sg : SndG W (· ∈ own.map (·.2)) g gd)
    (he : ∀ (s : Shared) (H : Hp) (cl : List (Str × Addr)) (C : Addr) (code : Value) (fp : List Addr), PE (gX X s H (genEnv scope cl C code builtinsNs X.env) fp) elt (tD W f))
    (hs : ∀ v, genFold iter X.env v = pure v := by intro _; rfl)
    (hst : starEach [.GeneratorExp elt [⟨tg, iter, [], 0⟩] scope gpos] X.env = (false, eval (.GeneratorExp elt [⟨tg, iter, [], 0⟩] scope gpos) X.env) :: starEach [] X.env := by rfl) :
    PE X (.Call (.Name "all" p) [.GeneratorExp elt [⟨tg, iter, [], 0⟩] scope gpos] [] pos) (tD W (fAG true fi (own.map (·.2)) gd f)) := (pe_all hc hN hr hgl hm TB hcode ok hi hg he hs hst).imp fun σ H Q h => ag_turns sg hP h
theorem de_any {c P : Addr} {scope : Scope} {p gpos : Pos} {own : List (Str × Nat)} {fi : DEnv → (List PyData → Prop) → Prop} {g : TG} {gd : GD} {k : Nat} (hc : X.calm = true) (hN : X.N.Nodup)
    (hr : Room k X.A) (hgl : Gl X "any") (hm : X.mg "any" = none) (TB : TabB X.base X.mg c P) (hcode : X.env.code = .ref c) (hP : P ∈ W.Tl) (ok : GnOk X.N X.env.scope scope own) (hi : PI X tg iter (tDI W false fi))
    (hg : ∀ (s : Shared) (H : Hp) (cl : List (Str × Addr)) (C : Addr) (code : Value) (fp : List Addr), PG (gX X s H (genEnv scope cl C code builtinsNs X.env) fp) tg g) (sg : SndG W (· ∈ own.map (·.2)) g gd)
    (he : ∀ (s : Shared) (H : Hp) (cl : List (Str × Addr)) (C : Addr) (code : Value) (fp : List Addr), PE (gX X s H (genEnv scope cl C code builtinsNs X.env) fp) elt (tD W f))
    (hs : ∀ v, genFold iter X.env v = pure v := by intro _; rfl)
    (hst : starEach [.GeneratorExp elt [⟨tg, iter, [], 0⟩] scope gpos] X.env = (false, eval (.GeneratorExp elt [⟨tg, iter, [], 0⟩] scope gpos) X.env) :: starEach [] X.env := by rfl) :
    PE X (.Call (.Name "any" p) [.GeneratorExp elt [⟨tg, iter, [], 0⟩] scope gpos] [] pos) (tD W (fAG false fi (own.map (·.2)) gd f)) := (pe_any hc hN hr hgl hm TB hcode ok hi hg he hs hst).imp fun σ H Q h => ag_turns sg hP h
end
/-! ### promises -/
abbrev FnD := List DV → (PyData → Prop) → (Str → PyData → Prop) → Prop
def fld (c : Str) : Str := if c = "BadText" ∨ c = "BadBytes" then "at" else "thing"
/-- what is wanted of an error -/
def Lnk (W : Wd) (KE : Str → PyData → Prop) (E : XK) : Prop := ∀ c d, KE c d → ∀ v dd H', Stp W W.H0 H' → Dx W.M0 H' v d → H' dd = some (.xd [(fld c, v)]) → E (.ref (ga W.K c)) (some dd) H'
def noOwn : List DV → Bool
  | [] => true
  | d :: r => !d.isOwn && noOwn r
def spD (WP : Wc → Prop) (F : FnD) : Sp := fun vs H Q E => ∃ (W : Wd) (ds : List DV) (Kk : PyData → Prop) (KE : Str → PyData → Prop), WP W.toWc ∧ W.H0 = H ∧ GoodH W W.M0 H ∧ RelAll W W.M0 H vs ds ∧ noOwn ds = true ∧ F ds Kk KE ∧ (∀ d, Kk d → ∀ v H', Stp W H H' → Dx W.M0 H' v d → Q v H') ∧ Lnk W KE E
/-- the slots at the start -/
def start0 (n : Nat) (ds : List DV) : DEnv := ds.map some ++ List.replicate (n - ds.length) none
theorem good_start {W : Wd} {N : List Str} {vs : List V} {ds : List DV} (g : GoodH W W.M0 W.H0) (r : RelAll W W.M0 W.H0 vs ds) (no : noOwn ds = true) : Good W [] W.M0 W.H0 (start N vs) (start0 N.length ds) := by
  have hl := r.length
  have at_ : ∀ {vs : List V} {ds : List DV}, RelAll W W.M0 W.H0 vs ds → noOwn ds = true → ∀ (i : Nat) (dv : DV), (ds.map some)[i]? = some (some dv) → (∃ v, (vs.map some)[i]? = some (some v) ∧ RelDV W W.M0 W.H0 v dv) ∧ dv.isOwn = false := by
    intro vs
    induction vs with
    | nil =>
      intro ds r no i dv e
      cases ds with
      | nil => simp at e
      | cons _ _ => cases r
    | cons v vs ih =>
      intro ds r no i dv e
      cases ds with
      | nil => cases r
      | cons d ds =>
        simp only [noOwn, Bool.and_eq_true, Bool.not_eq_true'] at no
        cases i with
        | zero =>
          simp only [List.map_cons, List.getElem?_cons_zero, Option.some.injEq] at e
          subst e
          exact ⟨⟨v, rfl, r.1⟩, no.1⟩
        | succ i => exact ih r.2 no.2 i dv (by simpa using e)
  have pre : ∀ (i : Nat) (dv : DV), (start0 N.length ds)[i]? = some (some dv) → (∃ v, (start N vs)[i]? = some (some v) ∧ RelDV W W.M0 W.H0 v dv) ∧ dv.isOwn = false := fun i dv e => by
    unfold start0 at e
    unfold L2.start
    rw [List.getElem?_append] at e
    split at e
    · rename_i h
      obtain ⟨⟨v, h1, h2⟩, h3⟩ := at_ r no i dv e
      refine ⟨⟨v, ?_, h2⟩, h3⟩
      rw [List.getElem?_append_left (by simpa [hl] using h)]
      exact h1
    · rename_i h
      rw [List.getElem?_replicate] at e
      split at e <;> cases e
  refine ⟨⟨g, by simp [L2.start, start0, hl], fun i dv e => (pre i dv e).1⟩, (fun p hp => by cases hp), fun i c a e => ?_, fun i j c c' a _ e => ?_⟩
  · have := (pre i _ e).2
    cases this
  · have := (pre i _ e).2
    cases this
section
variable {P : Program} {w : World} {K : PySem.W.Frag} {mg : Str → Option Value} {base : Heap}
theorem okD {x : Str} {st : Stmt} {fd : FuncData} {N ps : List Str} {k : Nat} {WP : Wc → Prop} {F : FnD} (D : FnP K x st (He.fAd K (x, none)) fd) (S : FnScope N ps (defScope st)) (len : ∀ ds Kk KE, F ds Kk KE → ds.length = ps.length)
    (body : ∀ (W : Wd) (cdv : Value) (A : Around) (outer : List Env) (s : Shared) (E : XK), WP W.toWc → cdv = .ref (He.codeOf K (x, none)) → Room k (A.deeper (envOfC x (defScope st) s.heap.objs.size (He.fAd K (x, none)) cdv)) →
      ∃ g, PSs (cxOf CX0 P w K mg base N x (defScope st) (He.fAd K (x, none)) cdv A outer s W.H0 E).nox (defBody st) (tDS W g) ∧ ∀ ds Kk KE, F ds Kk KE → g { nx := fun _ => Kk .none, rt := Kk } (start0 N.length ds)) : FnOk P w K mg base CX0 (k + 1) (He.fAd K (x, none)) fd ps (spD WP F) := by
  refine KT.okC D S (fun vs H Q E h => ?_) (fun cdv A outer s H vs Q E hcd hr h => ?_)
  · obtain ⟨W, ds, Kk, KE, _, _, _, r, _, f, _⟩ := h
    rw [r.length]
    exact len ds Kk KE f
  · obtain ⟨W, ds, Kk, KE, hW, rfl, gh, r, no, f, hQ, hE⟩ := h
    obtain ⟨g, hp, hg⟩ := body W cdv A outer s E hW hcd hr
    refine ⟨_, hp, [], W.M0, _, _, good_start gh r no, hg ds Kk KE f, ⟨fun {M σ H ρ} gd k => ?_, fun _ k => k.elim, fun _ k => k.elim, fun s1 r1 k => hQ _ k _ _ s1 r1⟩⟩
    exact hQ _ k _ _ gd.e.h.stp Dx.non
theorem okDX {x : Str} {st : Stmt} {fd : FuncData} {N ps : List Str} {k : Nat} {WP : Wc → Prop} {F : FnD} (D : FnP K x st (He.fAd K (x, none)) fd) (S : FnScope N ps (defScope st)) (len : ∀ ds Kk KE, F ds Kk KE → ds.length = ps.length)
    (body : ∀ (W : Wd) (cdv : Value) (A : Around) (outer : List Env) (s : Shared) (E : XK) (KE : Str → PyData → Prop), WP W.toWc → Lnk W KE E → cdv = .ref (He.codeOf K (x, none)) → Room k (A.deeper (envOfC x (defScope st) s.heap.objs.size (He.fAd K (x, none)) cdv)) →
      ∃ g, PSs (cxOf (L2.CX P w) P w K mg base N x (defScope st) (He.fAd K (x, none)) cdv A outer s W.H0 E) (defBody st) (tDS W g) ∧ ∀ ds Kk, F ds Kk KE → g { nx := fun _ => Kk .none, rt := Kk } (start0 N.length ds)) : FnOk P w K mg base (L2.CX P w) (k + 1) (He.fAd K (x, none)) fd ps (spD WP F) := by
  refine QF.okCX D S (fun vs H Q E h => ?_) (fun cdv A outer s H vs Q E hcd hr h => ?_)
  · obtain ⟨W, ds, Kk, KE, _, _, _, r, _, f, _⟩ := h
    rw [r.length]
    exact len ds Kk KE f
  · obtain ⟨W, ds, Kk, KE, hW, rfl, gh, r, no, f, hQ, hE⟩ := h
    obtain ⟨g, hp, hg⟩ := body W cdv A outer s E KE hW hE hcd hr
    refine ⟨_, hp, [], W.M0, _, _, good_start gh r no, hg ds Kk f, ⟨fun {M σ H ρ} gd k => ?_, fun _ k => k.elim, fun _ k => k.elim, fun s1 r1 k => hQ _ k _ _ s1 r1⟩⟩
    exact hQ _ k _ _ gd.e.h.stp Dx.non
end
/-! ### calls -/
def lend : DV → DV
  | .own c => .dat c.pd
  | x => x
def scalarD : PyData → Bool
  | .none => true
  | .bool _ => true
  | .int _ => true
  | .str _ => true
  | _ => false
def ownAd : List V → List DV → List Addr
  | .ref a :: vs, .own _ :: ds => a :: ownAd vs ds
  | _ :: vs, _ :: ds => ownAd vs ds
  | _, _ => []
section
variable {W : Wd} {M M' : Addr → Prop} {H : Hp}
theorem lend_rel (le : ∀ a, M' a → M a) : ∀ {vs : List V} {ds : List DV}, RelAll W M H vs ds → (∀ a ∈ ownAd vs ds, ¬ M' a) → RelAll W M' H vs (ds.map lend)
  | [], [], _, _ => trivial
  | v :: vs, d :: ds, r, n => by
    obtain ⟨r1, r2⟩ := r
    cases d with
    | own c =>
      obtain ⟨a, o, rfl, ho, r, m, nv⟩ := r1
      exact ⟨RelO.dx (n a List.mem_cons_self) ho (r.re fun b _ _ z => le b z), lend_rel le r2 fun a h => n a (List.mem_cons_of_mem _ h)⟩
    | dat d => exact ⟨Dx.re (fun b _ _ z => le b z) _ _ r1, lend_rel le r2 fun a h => n a (by cases v <;> exact h)⟩
    | deck => exact ⟨r1, lend_rel le r2 fun a h => n a (by cases v <;> exact h)⟩
    | gts xs => exact ⟨r1, lend_rel le r2 fun a h => n a (by cases v <;> exact h)⟩
    | ob u => exact ⟨r1, lend_rel le r2 fun a h => n a (by cases v <;> exact h)⟩
theorem lend_vol : ∀ {vs : List V} {ds : List DV}, RelAll W M H vs ds → ∀ a ∈ ownAd vs ds, ¬ W.vol a
  | [], [], _, a, h => by cases h
  | v :: vs, d :: ds, r, a, h => by
    obtain ⟨r1, r2⟩ := r
    cases d with
    | own c =>
      obtain ⟨b, o, rfl, ho, r, m, nv⟩ := r1
      rcases List.mem_cons.mp h with rfl | h
      · exact nv
      · exact lend_vol r2 a h
    | dat d => exact lend_vol r2 a (by cases v <;> exact h)
    | deck => exact lend_vol r2 a (by cases v <;> exact h)
    | gts xs => exact lend_vol r2 a (by cases v <;> exact h)
    | ob u => exact lend_vol r2 a (by cases v <;> exact h)
theorem lend_no : ∀ {vs : List V} {ds : List DV}, noOwn ds = true → ownAd vs ds = []
  | [], _, _ => rfl
  | _ :: _, [], _ => by simp [ownAd]
  | v :: vs, d :: ds, h => by
    simp only [noOwn, Bool.and_eq_true, Bool.not_eq_true'] at h
    have ih : ownAd vs ds = [] := lend_no h.2
    cases d with
    | own c => cases h.1
    | dat d => cases v <;> exact ih
    | deck => cases v <;> exact ih
    | gts xs => cases v <;> exact ih
    | ob u => cases v <;> exact ih
theorem noOwn_lend : ∀ ds : List DV, noOwn (ds.map lend) = true
  | [] => rfl
  | d :: ds => by
    cases d <;> exact noOwn_lend ds
theorem dx_scalar {v : V} {d : PyData} (h : scalarD d = true) (r : Dx M' H v d) : Dx M H v d := by
  cases r with
  | non => exact .non
  | bl b => exact .bl b
  | int i => exact .int i
  | str x => exact .str x
  | lst _ _ _ => cases h
  | tup _ _ => cases h
  | dk _ _ _ => cases h
end
def noKE : Str → PyData → Prop := fun _ _ => False
def fFn (F : FnD) (fa : FA) : FE := fun ρ K => fa ρ fun ds => F (ds.map lend) (fun d => (noOwn ds = true ∨ scalarD d = true) ∧ K (.dat d)) noKE
/-- .. that may raise, in a def that may raise it -/
def fFnX (F : FnD) (KE : Str → PyData → Prop) (fa : FA) : FE := fun ρ K => fa ρ fun ds => noOwn ds = true ∧ F ds (fun d => K (.dat d)) KE
theorem lnk0 {W : Wd} {E : XK} : Lnk W noKE E := fun _ _ h => h.elim
theorem passX0 {X : Cx} : Passes (L2.CX X.prog X.w) X E0 := fun _ _ _ _ _ _ _ h => by
  obtain ⟨_, _, _, _, _, _, _, _, _, _, _, _, z⟩ := h
  exact z.elim
theorem Lnk.callee {W : Wd} {KE : Str → PyData → Prop} {E : XK} (h : Lnk W KE E) {M : Addr → Prop} {H1 : Hp} (g : GoodH W M H1) : Lnk { W with H0 := H1, M0 := M } KE E := fun c d k v dd H' s r e => h c d k v dd H' (g.stp.trans s) (Dx.re (fun a _ _ m => g.sub a m) _ _ r) e
section
variable {X : Cx} {W : Wd} {WP : Wc → Prop} {F : FnD} {KE : Str → PyData → Prop} {E : XK} {fa : FA}
/-- a promise, used -/
theorem sp_of {M : Addr → Prop} {H1 : Hp} {vs : List V} {ds : List DV} {Kk : DV → Prop} {Q : VK} (hW : WP W.toWc) (g1 : GoodH W M H1) (r1 : RelAll W M H1 vs ds) (hd : F (ds.map lend) (fun d => (noOwn ds = true ∨ scalarD d = true) ∧ Kk (.dat d)) noKE) (c : Cont W M H1 Kk Q) : spD WP F vs H1 Q E := by
  let M' : Addr → Prop := fun a => M a ∧ a ∉ ownAd vs ds
  have vol : ∀ a, W.vol a → M' a := fun a z => ⟨g1.vol a z, fun y => lend_vol r1 a y z⟩
  refine ⟨{ W with H0 := H1, M0 := M' }, ds.map lend, _, _, hW, rfl, ⟨g1.ok, vol, fun a z => g1.all a z.1, .refl, fun _ z => z, fun a z => g1.all a z.1⟩, lend_rel (fun a z => z.1) r1 (fun a h z => z.2 h), noOwn_lend ds, hd, fun d hk v H' s2 r2 => ?_, lnk0⟩
  refine c _ hk.2 v H' s2 ?_
  rcases hk.1 with no | sc
  · refine Dx.re (fun a _ _ m => ⟨m, ?_⟩) _ _ r2
    rw [lend_no no]
    exact List.not_mem_nil
  · exact dx_scalar sc r2
theorem imp_call {σ : L2.St} {H : Hp} {Q : VK} (hW : WP W.toWc) (h : tD W (fFn F fa) σ H Q) : tDA W fa σ H fun vs H1 => spD WP F (vs ++ []) H1 Q E := by
  obtain ⟨M, ρ, Kk, ge, kk, c⟩ := h
  refine ⟨M, ρ, _, ge, kk, fun ds hd vs H1 s1 r1 => ?_⟩
  show spD WP F (vs ++ []) H1 Q E
  rw [List.append_nil]
  exact sp_of hW (ge.stp s1).h r1 hd (c.stp s1)
/-- .. its arguments in another order -/
def fFnK (F : FnD) (g : List DV → List DV) (fa : FA) : FE := fun ρ K => fa ρ fun ds => F ((g ds).map lend) (fun d => (noOwn (g ds) = true ∨ scalarD d = true) ∧ K (.dat d)) noKE
theorem imp_callK {g : {α : Type} → List α → List α} {σ : L2.St} {H : Hp} {Q : VK} (hg : ∀ {M : Addr → Prop} {H : Hp} {vs : List V} {ds : List DV}, RelAll W M H vs ds → RelAll W M H (g vs) (g ds)) (hW : WP W.toWc) (h : tD W (fFnK F g fa) σ H Q) : tDA W fa σ H fun vs H1 => spD WP F (g vs) H1 Q E := by
  obtain ⟨M, ρ, Kk, ge, kk, c⟩ := h
  refine ⟨M, ρ, _, ge, kk, fun ds hd vs H1 s1 r1 => ?_⟩
  exact sp_of hW (ge.stp s1).h (hg r1) hd (c.stp s1)
theorem imp_callX {σ : L2.St} {H : Hp} {Q : VK} (hW : WP W.toWc) (hl : Lnk W KE E) (h : tD W (fFnX F KE fa) σ H Q) : tDA W fa σ H fun vs H1 => spD WP F (vs ++ []) H1 Q E := by
  obtain ⟨M, ρ, Kk, ge, kk, c⟩ := h
  refine ⟨M, ρ, _, ge, kk, fun ds hd vs H1 s1 r1 => ?_⟩
  show spD WP F (vs ++ []) H1 Q E
  rw [List.append_nil]
  have g1 := (ge.stp s1).h
  exact ⟨{ W with H0 := H1, M0 := M }, ds, _, _, hW, rfl, ⟨g1.ok, g1.vol, g1.all, .refl, fun _ z => z, g1.all⟩, r1, hd.1, hd.2, fun d hk v H' s2 r2 => c _ hk v H' (s1.trans s2) r2, hl.callee g1⟩
theorem de_call0 {e : Expr} (h : PE X e (tCall (spD WP F) [] E tNil)) (hW : WP W.toWc) : PE X e (tD W (fFn F fNil)) := h.imp fun σ H Q ⟨M, ρ, K, g, k, c⟩ => by
  show spD WP F ([] ++ []) H Q E
  exact sp_of (ds := []) hW g.h trivial k c
theorem de_call {e : Expr} (h : PE X e (tCall (spD WP F) [] E (tDA W fa))) (hW : WP W.toWc) : PE X e (tD W (fFn F fa)) := h.imp fun σ H Q z => imp_call hW z
theorem de_callK {e : Expr} {g : {α : Type} → List α → List α} (h : PE X e (tCallK0 (spD WP F) g E (tDA W fa))) (hg : ∀ {M : Addr → Prop} {H : Hp} {vs : List V} {ds : List DV}, RelAll W M H vs ds → RelAll W M H (g vs) (g ds)) (hW : WP W.toWc) : PE X e (tD W (fFnK F g fa)) := h.imp fun σ H Q z => imp_callK hg hW z
theorem de_callX {e : Expr} (h : PE X e (tCall (spD WP F) [] E (tDA W fa))) (hW : WP W.toWc) (hl : Lnk W KE E) : PE X e (tD W (fFnX F KE fa)) := h.imp fun σ H Q z => imp_callX hW hl z
end
/-! ### errors raised -/
def sRaise (c : Str) (KE : Str → PyData → Prop) (f : FE) : FS := fun _ ρ => f ρ fun x => ∃ d, x = .dat d ∧ KE c d
section
variable {X : Cx} {W : Wd} {x : Str} {fd : FuncData} {e : Expr} {f : FE} {p pos pos' : Pos} {KE : Str → PyData → Prop} {E : XK}
theorem ds_raise (Ex : Eq1 X.prog X.w X.K X.mg X.base x (fld x) fd) (hr : Room 2 X.A) (hK : W.K = X.K) (hH : X.H_0 = W.H0) (hl : Lnk W KE E) (hc : X.calm = true) (hex : X.ex = []) (tk : Takes X fun cls d _ H => E cls d H) (he : PE X e (tD W f)) (hg : Gl X x)
    (hdb : (x == ("__debug__" : Str)) = false := by decide) (hse : starEach [e] X.env = (false, eval e X.env) :: starEach [] X.env := by rfl) (hpl : (backTo pos' (starEach [] X.env)).any (·.1) = false := by rfl) :
    PS X (.Raise (some (.Call (.Name x p) [e] [] pos')) none pos) (tDS W (sRaise x KE f)) := (ps_raise hc tk (pmk_q hex (pe_new1 Ex hr he hg hdb hse hpl))).imp fun D σ H ⟨L, M, ρ, E', gd, k, le⟩ => by
  refine ⟨M, ρ, _, gd.e, k, fun dv hd v H1 s1 r1 => ⟨by show 1 ≤ 1000; decide, fun a ha => ?_⟩⟩
  obtain ⟨d, rfl, hk⟩ := hd
  have g1 := (gd.to s1).e.h
  refine ⟨a, ga X.K x, ma X.K (ga X.K x) "__init__", v, rfl, Ex.c, upd_same, fun dx hd ne => ⟨rfl, a, ga X.K x, ma X.K (ga X.K x) "__init__", dx, fld x, _, rfl, Ex.c, upd_same, (by rw [upd_ne ne, upd_same]), ?_, ?_⟩⟩
  · rw [hH]
    exact fr0_none (g1.stp.on a ha)
  · have nd : H1 dx = none := by
      rw [upd_ne ne] at hd
      exact hd
    have sm : Same H1 (upd (delH (upd (upd (upd H1 a (exo a (ga X.K x) none)) dx (exd dx [(fld x, v)])) a (exo a (ga X.K x) (some dx))) a) dx (.xd [(fld x, v)])) := fun b o e => by
      have na : b ≠ a := ne_of_none e ha
      have nb : b ≠ dx := ne_of_none e nd
      rw [upd_ne nb, delH_ne na, upd_ne na, upd_ne nb, upd_ne na]
      exact e
    have := hl x d hk v dx _ (g1.stp.trans (.same sm)) (Dx.kp (Kp.same sm) _ _ (Dx.re (fun a _ _ m => g1.sub a m) _ _ r1)) upd_same
    rw [hK] at this
    exact this
end
end DL

set_option Elab.async false
set_option linter.all false
set_option maxRecDepth 100000
set_option maxHeartbeats 1000000
/-! Operators, built-ins and methods over data. -/
namespace DL
open PySem PySem.Spec PyProof.Rows L2 KT KG KX KY KE0 KQ LK GxR
section
variable {W : Wd} {M : Addr → Prop} {H : Hp} {v : V} {dv : DV}
theorem pd_lst {ds : List PyData} (e : dv.pd = some (.list ds)) (r : RelDV W M H v dv) : ∃ a xs, v = .ref a ∧ H a = some (.lst xs) ∧ DxAll M H xs ds := by
  cases dv with
  | dat d =>
    cases e
    cases (show Dx M H v (.list ds) from r) with
    | lst n e r => exact ⟨_, _, rfl, e, r⟩
  | own c =>
    obtain ⟨a, o, rfl, ho, r, _⟩ := r
    cases r with
    | lst r =>
      cases e
      exact ⟨a, _, rfl, ho, r⟩
    | dk _ _ => cases e
  | deck => cases e
  | gts _ => cases e
  | ob _ => cases e
theorem pd_only {d : PyData} (e : dv.pd = some d) (n : ∀ ds, d ≠ .list ds) (n2 : ∀ ds, d ≠ .dict ds) : dv = .dat d := by
  cases dv with
  | dat d =>
    cases e
    rfl
  | own c =>
    cases e
    cases c with
    | lst ds => exact absurd rfl (n ds)
    | dk ds => exact absurd rfl (n2 _)
  | deck => cases e
  | gts _ => cases e
  | ob _ => cases e
theorem pd_tup {ds : List PyData} (e : dv.pd = some (.tuple ds)) (r : RelDV W M H v dv) : ∃ a xs, v = .ref a ∧ H a = some (.tup xs) ∧ DxAll M H xs ds := by
  cases pd_only e (fun _ z => by cases z) (fun _ z => by cases z)
  exact Dx.tupOf r
theorem pd_int {i : Int} (e : dv.pd = some (.int i)) (r : RelDV W M H v dv) : v = .int i := by
  cases pd_only e (fun _ z => by cases z) (fun _ z => by cases z)
  cases (show Dx M H v (.int i) from r)
  rfl
theorem pd_bool {b : Bool} (e : dv.pd = some (.bool b)) (r : RelDV W M H v dv) : v = .bl b := by
  cases pd_only e (fun _ z => by cases z) (fun _ z => by cases z)
  cases (show Dx M H v (.bool b) from r)
  rfl
theorem pd_str {z : Str} (e : dv.pd = some (.str z)) (r : RelDV W M H v dv) : v = .str z := by
  cases pd_only e (fun _ z => by cases z) (fun _ z => by cases z)
  cases (show Dx M H v (.str z) from r)
  rfl
/-- any data, seen with less that may change -/
theorem pd_dx {d : PyData} (g : GoodH W M H) (e : dv.pd = some d) (r : RelDV W M H v dv) : Dx W.vol H v d := by
  cases dv with
  | dat d =>
    cases e
    exact Dx.re (fun a _ _ m => g.vol a m) _ _ r
  | own c =>
    cases e
    obtain ⟨a, o, rfl, ho, r, m, n⟩ := r
    exact RelO.dx n ho (r.re fun a _ _ m => g.vol a m)
  | deck => cases e
  | gts _ => cases e
  | ob _ => cases e
end
/-! ### lifting -/
def op2 (p : PyData → PyData → (PyData → Prop) → Prop) : DV → DV → (DV → Prop) → Prop := fun x y K => ∃ d e, x.pd = some d ∧ y.pd = some e ∧ p d e fun r => K (.dat r)
def op1 (p : PyData → (PyData → Prop) → Prop) : DV → (DV → Prop) → Prop := fun x K => ∃ d, x.pd = some d ∧ p d fun r => K (.dat r)
def opC (p : List PyData → (PyData → Prop) → Prop) : List DV → (DV → Prop) → Prop := fun xs K => ∃ ds, xs.mapM (·.pd) = some ds ∧ p ds fun r => K (.dat r)
/-! ### + -/
def addP : PyData → PyData → (PyData → Prop) → Prop
  | .int a, .int b, K => K (.int (a + b))
  | .int a, .bool b, K => K (.int (a + b2i b))
  | .str a, .str b, K => a.length + b.length ≤ sizeLine ∧ K (.str (a ++ b))
  | .tuple a, .tuple b, K => a.length + b.length ≤ sizeLine ∧ K (.tuple (a ++ b))
  | .list a, .list b, K => a.length + b.length ≤ sizeLine ∧ K (.list (a ++ b))
  | _, _, _ => False
section
variable {X : Cx} {W : Wd}
theorem op_addD : OpR X (binaryOp .Add) (fun x y H Q => rI0 (fun i j => .int (i + j)) x y H Q ∨ (fun x y H Q => ∃ i k, x = .int i ∧ y = .bl k ∧ Q (.int (i + b2i k)) H) x y H Q ∨ (fun x y H Q => ∃ i j, x = .str i ∧ y = .str j ∧ i.length + j.length ≤ sizeLine ∧ Q (.str (i ++ j)) H) x y H Q ∨ rCatA X.K x y H Q ∨ rCat x y H Q) :=
  OpR.or op_add (OpR.or op_add_ib (OpR.or op_add_str (OpR.or op_catA op_cat)))
theorem sn_add : Snd2 W (fun x y H Q => rI0 (fun i j => .int (i + j)) x y H Q ∨ (fun x y H Q => ∃ i k, x = .int i ∧ y = .bl k ∧ Q (.int (i + b2i k)) H) x y H Q ∨ (fun x y H Q => ∃ i j, x = .str i ∧ y = .str j ∧ i.length + j.length ≤ sizeLine ∧ Q (.str (i ++ j)) H) x y H Q ∨ rCatA X.K x y H Q ∨ rCat x y H Q) (op2 addP) := by
  intro M H x y dx dy K Q g rx ry h c
  obtain ⟨d, e, hd, he, h⟩ := h
  cases d with
  | int a =>
    cases e with
    | int b =>
      cases pd_int hd rx
      cases pd_int he ry
      exact .inl ⟨a, b, rfl, rfl, c _ h _ H .refl (Dx.int _)⟩
    | bool b =>
      cases pd_int hd rx
      cases pd_bool he ry
      exact .inr (.inl ⟨a, b, rfl, rfl, c _ h _ H .refl (Dx.int _)⟩)
    | _ => exact h.elim
  | str a =>
    cases e with
    | str b =>
      cases pd_str hd rx
      cases pd_str he ry
      exact .inr (.inr (.inl ⟨a, b, rfl, rfl, h.1, c _ h.2 _ H .refl (Dx.str _)⟩))
    | _ => exact h.elim
  | tuple a =>
    cases e with
    | tuple b =>
      obtain ⟨p, xs, rfl, hp, ra⟩ := pd_tup hd rx
      obtain ⟨q, ys, rfl, hq, rb⟩ := pd_tup he ry
      have rr := ra.app rb
      refine .inr (.inr (.inr (.inl ⟨p, q, xs, ys, rfl, rfl, SqT.of hp, SqT.of hq, by rw [DxAll.length ra, DxAll.length rb]; exact h.1, fun z => ?_, fun _ z => ?_, fun _ _ r nr => ?_⟩)))
      · subst z
        refine c _ h.2 _ H .refl ?_
        exact Dx.tup hq rr
      · subst z
        refine c _ h.2 _ H .refl ?_
        rw [List.append_nil] at rr
        exact Dx.tup hp rr
      · exact c _ h.2 _ _ (.new nr) (Dx.tup upd_same (Dx.kpAll (Stp.kp g.vol (.new nr)) _ _ rr))
    | _ => exact h.elim
  | list a =>
    cases e with
    | list b =>
      obtain ⟨p, xs, rfl, hp, ra⟩ := pd_lst hd rx
      obtain ⟨q, ys, rfl, hq, rb⟩ := pd_lst he ry
      refine .inr (.inr (.inr (.inr ⟨p, q, xs, ys, rfl, rfl, hp, hq, by rw [DxAll.length ra, DxAll.length rb]; exact h.1, fun r nr => ?_⟩)))
      exact c _ h.2 _ _ (.new nr) (Dx.lst (fun z => g.all r z nr) upd_same (Dx.kpAll (Stp.kp g.vol (.new nr)) _ _ (ra.app rb)))
    | _ => exact h.elim
  | _ => exact h.elim
/-! ### ints -/
def intP (C : Int → Int → Prop) (f : Int → Int → PyData) : PyData → PyData → (PyData → Prop) → Prop
  | .int a, .int b, K => C a b ∧ K (f a b)
  | _, _, _ => False
theorem sn_int {C : Int → Int → Prop} {f : Int → Int → Int} : Snd2 W (rI C fun i j => .int (f i j)) (op2 (intP C fun a b => .int (f a b))) := by
  intro M H x y dx dy K Q g rx ry h c
  obtain ⟨d, e, hd, he, h⟩ := h
  cases d with
  | int a =>
    cases e with
    | int b =>
      cases pd_int hd rx
      cases pd_int he ry
      exact ⟨a, b, rfl, rfl, h.1, c _ h.2 _ H .refl (Dx.int _)⟩
    | _ => exact h.elim
  | _ => exact h.elim
def int0P (f : Int → Int → PyData) : PyData → PyData → (PyData → Prop) → Prop
  | .int a, .int b, K => K (f a b)
  | _, _, _ => False
theorem sn_int0 {f : Int → Int → Int} : Snd2 W (rI0 fun i j => .int (f i j)) (op2 (int0P fun a b => .int (f a b))) := by
  intro M H x y dx dy K Q g rx ry h c
  obtain ⟨d, e, hd, he, h⟩ := h
  cases d with
  | int a =>
    cases e with
    | int b =>
      cases pd_int hd rx
      cases pd_int he ry
      exact ⟨a, b, rfl, rfl, c _ h _ H .refl (Dx.int _)⟩
    | _ => exact h.elim
  | _ => exact h.elim
theorem sn_cmp {f : Int → Int → Bool} : Snd2 W (rI0 fun i j => .bl (f i j)) (op2 (int0P fun a b => .bool (f a b))) := by
  intro M H x y dx dy K Q g rx ry h c
  obtain ⟨d, e, hd, he, h⟩ := h
  cases d with
  | int a =>
    cases e with
    | int b =>
      cases pd_int hd rx
      cases pd_int he ry
      exact ⟨a, b, rfl, rfl, c _ h _ H .refl (Dx.bl _)⟩
    | _ => exact h.elim
  | _ => exact h.elim
def negP : PyData → (PyData → Prop) → Prop
  | .int a, K => K (.int (-a))
  | _, _ => False
theorem sn_neg : Snd1 W (rU fun i => .int (-i)) (op1 negP) := by
  intro M H x dx K Q g rx h c
  obtain ⟨d, hd, h⟩ := h
  cases d with
  | int a =>
    cases pd_int hd rx
    exact ⟨a, rfl, c _ h _ H .refl (Dx.int _)⟩
  | _ => exact h.elim
/-! ### is None -/
def isND (neg : Bool) : DV → DV → (DV → Prop) → Prop := fun x y K => y = .dat .none ∧ ∃ d, x.pd = some d ∧ K (.dat (.bool (match d with | .none => !neg | _ => neg)))
theorem sn_isN : Snd2 W (fun x y H Q => y = .non ∧ Q (.bl (decide (x = .non))) H) (isND false) := by
  intro M H x y dx dy K Q g rx ry h c
  obtain ⟨rfl, d, hd, h⟩ := h
  cases ry
  refine ⟨rfl, c _ h _ H .refl ?_⟩
  have r := pd_dx g hd rx
  cases r <;> exact Dx.bl _
theorem sn_notN : Snd2 W (fun x y H Q => y = .non ∧ Q (.bl (!decide (x = .non))) H) (isND true) := by
  intro M H x y dx dy K Q g rx ry h c
  obtain ⟨rfl, d, hd, h⟩ := h
  cases ry
  refine ⟨rfl, c _ h _ H .refl ?_⟩
  have r := pd_dx g hd rx
  cases r <;> exact Dx.bl _
/-! ### ==, != -/
def isEmp : PyData → Bool
  | .list [] => true
  | .tuple [] => true
  | _ => false
def isStrD : PyData → Bool
  | .str _ => true
  | _ => false
def isLT : PyData → PyData → Bool
  | .list _, .list _ => true
  | .tuple _, .tuple _ => true
  | _, _ => false
/-- what == is told of: data without dicts; anything and a text; a list or tuple and an empty one -/
def eqOk (d e : PyData) : Bool := (SeqAt.shaped d && SeqAt.shaped e) || isStrD e || (isLT d e && isEmp e)
def eqP (neg : Bool) : PyData → PyData → (PyData → Prop) → Prop := fun d e K => eqOk d e = true ∧ K (.bool (if neg = true then !PyData.eqv d e else PyData.eqv d e))
mutual
theorem Dx.dp {M : Addr → Prop} {H : Hp} {K : PySem.W.Frag} : ∀ (d : PyData) (v : V), d.canLay0 = true → Dx M H v d → Dp K H v d
  | .none, _, _, h => by
    cases h
    exact .non
  | .bool b, _, _, h => by
    cases h
    exact .bl b
  | .int i, _, _, h => by
    cases h
    exact .int i
  | .str x, _, _, h => by
    cases h
    exact .str x
  | .list ds, _, c, h => by
    cases h with
    | lst n e r => exact .lst (SqL.of e) (Dx.dpAll ds _ c r)
  | .tuple ds, _, c, h => by
    cases h with
    | tup e r => exact .tup (SqT.of e) (Dx.dpAll ds _ c r)
  | .dict ds, _, c, h => by cases c
theorem Dx.dpAll {M : Addr → Prop} {H : Hp} {K : PySem.W.Frag} : ∀ (ds : List PyData) (vs : List V), PyData.canLayAll0 ds = true → DxAll M H vs ds → DpAll K H vs ds
  | [], _, _, h => by
    cases h
    exact .nil
  | d :: ds, _, c, h => by
    have c2 : (d.canLay0 && PyData.canLayAll0 ds) = true := c
    rw [Bool.and_eq_true] at c2
    cases h with
    | cons h1 h2 => exact .cons (Dx.dp d _ c2.1 h1) (Dx.dpAll ds _ c2.2 h2)
end
theorem isT_eqv {M : Addr → Prop} {H : Hp} {v : V} {d : PyData} {z : Str} (h : Dx M H v d) : isT v z = PyData.eqv d (.str z) := by
  cases h with
  | str x => exact isT_str x z
  | _ => simp [isT, PyData.eqv]
theorem eqv_emp {d e : PyData} (h1 : isLT d e = true) (h2 : isEmp e = true) : (∃ ds, d = .list ds ∧ e = .list [] ∧ PyData.eqv d e = ds.isEmpty) ∨ ∃ ds, d = .tuple ds ∧ e = .tuple [] ∧ PyData.eqv d e = ds.isEmpty := by
  cases d with
  | list ds =>
    cases e with
    | list es =>
      cases es with
      | nil => exact .inl ⟨ds, rfl, rfl, by cases ds <;> rfl⟩
      | cons _ _ => cases h2
    | _ => cases h1
  | tuple ds =>
    cases e with
    | tuple es =>
      cases es with
      | nil => exact .inr ⟨ds, rfl, rfl, by cases ds <;> rfl⟩
      | cons _ _ => cases h2
    | _ => cases h1
  | _ => cases h1
theorem op_eqX {k : Nat} (hr : Room k X.A) (M : Addr → Prop) : OpR X (compareOp .Eq) (fun x y H Q => rEqD X.K x y H Q ∨ rEqT M x y H Q ∨ rEqE X.K x y H Q) := OpR.or (op_eqD hr.units) (OpR.or (op_eqT hr M) (op_eqE hr))
theorem op_neX {k : Nat} (hr : Room k X.A) (M : Addr → Prop) : OpR X (compareOp .NotEq) (fun x y H Q => rNeD X.K x y H Q ∨ rNeT M x y H Q ∨ rNeE X.K x y H Q) := OpR.or (op_neD hr.units) (OpR.or (op_neT hr M) (op_neE hr))
theorem sn_eq : Snd2 W (fun x y H Q => rEqD X.K x y H Q ∨ rEqT W.vol x y H Q ∨ rEqE X.K x y H Q) (op2 (eqP false)) := by
  intro M H x y dx dy K Q g rx ry h c
  obtain ⟨d, e, hd, he, hok, h⟩ := h
  have fin : ∀ b, b = PyData.eqv d e → Q (.bl b) H := fun b hb => by
    subst hb
    exact c _ h _ H .refl (Dx.bl _)
  have r1 := pd_dx g hd rx
  have r2 := pd_dx g he ry
  unfold eqOk at hok
  rw [Bool.or_eq_true, Bool.or_eq_true, Bool.and_eq_true, Bool.and_eq_true] at hok
  rcases hok with (⟨s1, s2⟩ | hs) | ⟨h1, h2⟩
  · exact .inl ⟨d, e, Dx.dp _ _ (SeqAt.canLay_of_shaped s1) r1, Dx.dp _ _ (SeqAt.canLay_of_shaped s2) r2, s1, s2, fin _ rfl⟩
  · cases e with
    | str z =>
      cases r2
      exact .inr (.inl ⟨d, z, r1, rfl, fin _ (isT_eqv r1)⟩)
    | _ => cases hs
  · rcases eqv_emp h1 h2 with ⟨ds, rfl, rfl, e3⟩ | ⟨ds, rfl, rfl, e3⟩
    · cases r1 with
      | lst n e1 q1 =>
        cases r2 with
        | lst n2 e2 q2 =>
          cases q2
          exact .inr (.inr ⟨_, _, _, rfl, rfl, .inl ⟨SqL.of e1, SqL.of e2⟩, fin _ (by rw [e3]; exact emp_of (DxAll.length q1))⟩)
    · cases r1 with
      | tup e1 q1 =>
        cases r2 with
        | tup e2 q2 =>
          cases q2
          exact .inr (.inr ⟨_, _, _, rfl, rfl, .inr ⟨SqT.of e1, SqT.of e2⟩, fin _ (by rw [e3]; exact emp_of (DxAll.length q1))⟩)
theorem sn_ne : Snd2 W (fun x y H Q => rNeD X.K x y H Q ∨ rNeT W.vol x y H Q ∨ rNeE X.K x y H Q) (op2 (eqP true)) := by
  intro M H x y dx dy K Q g rx ry h c
  obtain ⟨d, e, hd, he, hok, h⟩ := h
  have fin : ∀ b, b = PyData.eqv d e → Q (.bl (!b)) H := fun b hb => by
    subst hb
    exact c _ h _ H .refl (Dx.bl _)
  have r1 := pd_dx g hd rx
  have r2 := pd_dx g he ry
  unfold eqOk at hok
  rw [Bool.or_eq_true, Bool.or_eq_true, Bool.and_eq_true, Bool.and_eq_true] at hok
  rcases hok with (⟨s1, s2⟩ | hs) | ⟨h1, h2⟩
  · exact .inl ⟨d, e, Dx.dp _ _ (SeqAt.canLay_of_shaped s1) r1, Dx.dp _ _ (SeqAt.canLay_of_shaped s2) r2, s1, s2, fin _ rfl⟩
  · cases e with
    | str z =>
      cases r2
      exact .inr (.inl ⟨d, z, r1, rfl, fin _ (isT_eqv r1)⟩)
    | _ => cases hs
  · rcases eqv_emp h1 h2 with ⟨ds, rfl, rfl, e3⟩ | ⟨ds, rfl, rfl, e3⟩
    · cases r1 with
      | lst n e1 q1 =>
        cases r2 with
        | lst n2 e2 q2 =>
          cases q2
          exact .inr (.inr ⟨_, _, _, rfl, rfl, .inl ⟨SqL.of e1, SqL.of e2⟩, fin _ (by rw [e3]; exact emp_of (DxAll.length q1))⟩)
    · cases r1 with
      | tup e1 q1 =>
        cases r2 with
        | tup e2 q2 =>
          cases q2
          exact .inr (.inr ⟨_, _, _, rfl, rfl, .inr ⟨SqT.of e1, SqT.of e2⟩, fin _ (by rw [e3]; exact emp_of (DxAll.length q1))⟩)
/-! ### a part -/
def ixP : PyData → PyData → (PyData → Prop) → Prop
  | .list xs, .int i, K => ∃ d, atI xs i = some d ∧ K d
  | .tuple xs, .int i, K => ∃ d, atI xs i = some d ∧ K d
  | .str z, .int i, K => z.length ≤ sizeLine ∧ ∃ c, atI z.cps.toList i = some c ∧ K (.str ⟨#[c]⟩)
  | _, _, _ => False
theorem atI_len {α β : Type} {xs : List α} {ys : List β} (h : xs.length = ys.length) {i : Int} {y : β} (e : atI ys i = some y) : ∃ (j : Nat) (x : α), atI xs i = some x ∧ xs[j]? = some x ∧ ys[j]? = some y := by
  unfold atI at e ⊢
  rw [h]
  cases q : ixN ys.length i with
  | none => rw [q] at e; cases e
  | some j =>
    rw [q] at e
    have e : ys[j]? = some y := e
    have hj : j < ys.length := by
      rcases Nat.lt_or_ge j ys.length with z | z
      · exact z
      · rw [List.getElem?_eq_none z] at e
        cases e
    exact ⟨j, xs[j], by simp [h ▸ hj], by simp [h ▸ hj], e⟩
theorem sn_ix : Snd2 W (fun x y H Q => rIxL X.K x y H Q ∨ rIxT X.K x y H Q ∨ rIxS x y H Q) (op2 ixP) := by
  intro M H x y dx dy K Q g rx ry h c
  obtain ⟨d, e, hd, he, h⟩ := h
  cases d with
  | list ds =>
    cases e with
    | int i =>
      cases pd_int he ry
      obtain ⟨p, xs, rfl, hp, ra⟩ := pd_lst hd rx
      obtain ⟨d, e, k⟩ := h
      obtain ⟨j, x, e1, e2, e3⟩ := atI_len (DxAll.length ra) e
      obtain ⟨d', e4, rd⟩ := DxAll.at ra e2
      rw [e3] at e4
      cases e4
      exact .inl ⟨p, xs, i, x, rfl, rfl, SqL.of hp, e1, c _ k _ H .refl rd⟩
    | _ => exact h.elim
  | tuple ds =>
    cases e with
    | int i =>
      cases pd_int he ry
      obtain ⟨p, xs, rfl, hp, ra⟩ := pd_tup hd rx
      obtain ⟨d, e, k⟩ := h
      obtain ⟨j, x, e1, e2, e3⟩ := atI_len (DxAll.length ra) e
      obtain ⟨d', e4, rd⟩ := DxAll.at ra e2
      rw [e3] at e4
      cases e4
      exact .inr (.inl ⟨p, xs, i, x, rfl, rfl, SqT.of hp, e1, c _ k _ H .refl rd⟩)
    | _ => exact h.elim
  | str z =>
    cases e with
    | int i =>
      cases pd_int he ry
      cases pd_str hd rx
      obtain ⟨hz, ch, e, k⟩ := h
      exact .inr (.inr ⟨z, i, ch, rfl, rfl, hz, e, c _ k _ H .refl (Dx.str _)⟩)
    | _ => exact h.elim
  | _ => exact h.elim
theorem ix_all : IxR X (fun x y H Q => rIxL X.K x y H Q ∨ rIxT X.K x y H Q ∨ rIxS x y H Q) := IxR.or ix_list (IxR.or ix_tup ix_str)
/-! ### slices -/
def cutD (xs : List PyData) (lo hi : Option Int) : List PyData := (xs.drop (HT.sIx xs.length 0 lo)).take (HT.sIx xs.length xs.length hi - HT.sIx xs.length 0 lo)
def slP : PyData → Option Int → Option Int → (PyData → Prop) → Prop
  | .list xs, lo, hi, K => K (.list (cutD xs lo hi))
  | .tuple xs, lo, hi, K => K (.tuple (cutD xs lo hi))
  | .str z, lo, hi, K => z.length ≤ sizeLine ∧ K (.str (cutS z lo hi))
  | _, _, _, _ => False
theorem cut_rel {M : Addr → Prop} {H : Hp} {xs : List V} {ds : List PyData} (r : DxAll M H xs ds) (lo hi : Option Int) : DxAll M H (cutV xs lo hi) (cutD ds lo hi) := by
  unfold cutV cutD
  rw [DxAll.length r]
  exact DxAll.take _ (DxAll.drop _ r)
theorem cut_whole {ds : List PyData} {lo hi : Option Int} (h : HT.sIx ds.length 0 lo = 0 ∧ HT.sIx ds.length ds.length hi = ds.length) : cutD ds lo hi = ds := by
  unfold cutD
  rw [h.1, h.2]
  simp
def rSlAll (K : PySem.W.Frag) : V → Option Int → Option Int → Hp → VK → Prop := fun x lo hi H Q => rSlL K x lo hi H Q ∨ rSlA K x lo hi H Q ∨ rSlS x lo hi H Q
theorem sl_all : SlR X (rSlAll X.K) := SlR.or sl_list (SlR.or sl_tupA sl_str)
theorem sn_sl {M : Addr → Prop} {H : Hp} {x : V} {dx : DV} {d : PyData} {lo hi : Option Int} {K : DV → Prop} {Q : VK} (g : GoodH W M H) (rx : RelDV W M H x dx) (hd : dx.pd = some d) (h : slP d lo hi fun r => K (.dat r)) (c : Cont W M H K Q) : rSlAll X.K x lo hi H Q := by
  cases d with
  | list ds =>
    obtain ⟨p, xs, rfl, hp, ra⟩ := pd_lst hd rx
    exact .inl ⟨p, xs, rfl, SqL.of hp, fun q nq => c _ h _ _ (.new nq) (Dx.lst (fun z => g.all q z nq) upd_same (Dx.kpAll (Stp.kp g.vol (.new nq)) _ _ (cut_rel ra lo hi)))⟩
  | tuple ds =>
    obtain ⟨p, xs, rfl, hp, ra⟩ := pd_tup hd rx
    have hl := DxAll.length ra
    refine .inr (.inl ⟨p, xs, rfl, SqT.of hp, fun hw => ?_, fun _ q nq => c _ h _ _ (.new nq) (Dx.tup upd_same (Dx.kpAll (Stp.kp g.vol (.new nq)) _ _ (cut_rel ra lo hi)))⟩)
    rw [hl] at hw
    have h : K (.dat (.tuple (cutD ds lo hi))) := h
    rw [cut_whole hw] at h
    exact c _ h _ H .refl (Dx.tup hp ra)
  | str z =>
    cases pd_str hd rx
    exact .inr (.inr ⟨z, rfl, h.1, c _ h.2 _ H .refl (Dx.str _)⟩)
  | _ => exact h.elim
abbrev FO := DEnv → (Option Int → Prop) → Prop
def tDO (W : Wd) (f : FO) : TO := fun σ H Q => ∃ M ρ K, GoodE W M H σ ρ ∧ f ρ K ∧ ∀ o, K o → ∀ H', Stp W H H' → Q o H'
def fNone : FO := fun _ K => K none
def fPart (f : FE) : FO := fun ρ K => f ρ fun x => ∃ i, x = .dat (.int i) ∧ K (some i)
theorem _root_.L2.PO.imp {e : Option Expr} {t t' : TO} (h : PO X e t) (k : ∀ σ H Q, t' σ H Q → t σ H Q) : PO X e t' := ⟨fun pins s σ H Q I q => h.run pins s σ H Q I (k σ H Q q)⟩
theorem do_none : PO X none (tDO W fNone) := po_none.imp fun σ H Q ⟨M, ρ, K, g, k, c⟩ => c _ k H .refl
theorem do_some {e : Expr} {f : FE} (h : PE X e (tD W f)) : PO X (some e) (tDO W (fPart f)) := (po_some h).imp fun σ H Q ⟨M, ρ, K, g, k, c⟩ => ⟨M, ρ, _, g, k, fun dv hd v H1 s1 r1 => by
  obtain ⟨i, rfl, hk⟩ := hd
  cases r1
  exact ⟨i, rfl, c _ hk H1 s1⟩⟩
def fSl (f : FE) (l h : FO) : FE := fun ρ K => f ρ fun x => l ρ fun lo => h ρ fun hi => ∃ d, x.pd = some d ∧ slP d lo hi fun r => K (.dat r)
theorem de_slice {e : Expr} {lo hi : Option Expr} {f : FE} {l h : FO} {p2 pos : Pos} (he : PE X e (tD W f)) (hl : PO X lo (tDO W l)) (hu : PO X hi (tDO W h)) : PE X (.Subscript e (.Slice lo hi none p2) pos) (tD W (fSl f l h)) := (pe_slice sl_all he hl hu).imp fun σ H Q ⟨M, ρ, K, g, k, c⟩ => by
  refine ⟨M, ρ, _, g, k, fun dv hd v H1 s1 r1 => ⟨M, ρ, _, g.stp s1, hd, fun lo hlo H2 s2 => ⟨M, ρ, _, (g.stp s1).stp s2, hlo, fun hi hhi H3 s3 => ?_⟩⟩⟩
  obtain ⟨d, hp, hk⟩ := hhi
  exact sn_sl (((g.stp s1).stp s2).stp s3).h ((r1.stp g.h.vol s2).stp g.h.vol s3) hp hk (c.stp ((s1.trans s2).trans s3))
/-! ### built-ins -/
def lenP : PyData → (PyData → Prop) → Prop
  | .list xs, K => K (.int xs.length)
  | .tuple xs, K => K (.int xs.length)
  | .str z, K => z.length ≤ sizeLine ∧ K (.int z.length)
  | _, _ => False
def c1 (p : PyData → (PyData → Prop) → Prop) : List DV → (DV → Prop) → Prop := fun xs K => ∃ x d, xs = [x] ∧ x.pd = some d ∧ p d fun r => K (.dat r)
theorem sn_len : SndC W (fun xs H Q => ∃ x n, xs = [x] ∧ LenV X.K x H n ∧ Q (.int n) H) (c1 lenP) := by
  intro M H xs ds K Q g rs h c
  obtain ⟨x, d, rfl, hd, h⟩ := h
  obtain ⟨v, rfl, rx⟩ := rel1 rs
  cases d with
  | list es =>
    obtain ⟨p, xs, rfl, hp, ra⟩ := pd_lst hd rx
    exact ⟨_, es.length, rfl, .inl ⟨xs, SqL.of hp, (DxAll.length ra).symm⟩, c _ h _ H .refl (Dx.int _)⟩
  | tuple es =>
    obtain ⟨p, xs, rfl, hp, ra⟩ := pd_tup hd rx
    exact ⟨_, es.length, rfl, .inr ⟨xs, SqT.of hp, (DxAll.length ra).symm⟩, c _ h _ H .refl (Dx.int _)⟩
  | str z =>
    cases pd_str hd rx
    exact ⟨_, z.length, rfl, ⟨h.1, rfl⟩, c _ h.2 _ H .refl (Dx.int _)⟩
  | _ => exact h.elim
def intcP : PyData → (PyData → Prop) → Prop
  | .int i, K => K (.int i)
  | .bool b, K => K (.int (if b then 1 else 0))
  | .str z, K => z.length ≤ 640 ∧ ∃ n, PySem.intText? z = some n ∧ K (.int n)
  | _, _ => False
theorem call_intD : CallR X (.type "int") (fun xs H Q => ((∃ i, xs = [.int i] ∧ Q (.int i) H) ∨ ∃ k, xs = [.bl k] ∧ Q (.int (if k then 1 else 0)) H) ∨ (∃ a n, xs = [.str a] ∧ PySem.intText? a = some n ∧ a.length ≤ 640 ∧ Q (.int n) H)) := CallR.or call_int1 call_int_str
theorem sn_intc : SndC W (fun xs H Q => ((∃ i, xs = [.int i] ∧ Q (.int i) H) ∨ ∃ k, xs = [.bl k] ∧ Q (.int (if k then 1 else 0)) H) ∨ (∃ a n, xs = [.str a] ∧ PySem.intText? a = some n ∧ a.length ≤ 640 ∧ Q (.int n) H)) (c1 intcP) := by
  intro M H xs ds K Q g rs h c
  obtain ⟨x, d, rfl, hd, h⟩ := h
  obtain ⟨v, rfl, rx⟩ := rel1 rs
  cases d with
  | int i =>
    cases pd_int hd rx
    exact .inl (.inl ⟨i, rfl, c _ h _ H .refl (Dx.int _)⟩)
  | bool b =>
    cases pd_bool hd rx
    exact .inl (.inr ⟨b, rfl, c _ h _ H .refl (Dx.int _)⟩)
  | str z =>
    cases pd_str hd rx
    obtain ⟨hz, n, e, k⟩ := h
    exact .inr ⟨z, n, rfl, e, hz, c _ k _ H .refl (Dx.int _)⟩
  | _ => exact h.elim
def strcP : PyData → (PyData → Prop) → Prop
  | .int i, K => i.natAbs.log2 < 1920 ∧ K (.str (toString i))
  | _, _ => False
theorem sn_strc : SndC W (fun xs H Q => ∃ i : Int, xs = [.int i] ∧ i.natAbs.log2 < 1920 ∧ Q (.str (toString i)) H) (c1 strcP) := by
  intro M H xs ds K Q g rs h c
  obtain ⟨x, d, rfl, hd, h⟩ := h
  obtain ⟨v, rfl, rx⟩ := rel1 rs
  cases d with
  | int i =>
    cases pd_int hd rx
    exact ⟨i, rfl, h.1, c _ h.2 _ H .refl (Dx.str _)⟩
  | _ => exact h.elim
/-- repr of any data -/
def reprP : PyData → (PyData → Prop) → Prop := fun d K => (d.showable = true ∧ d.depth ≤ 150 ∧ d.shown.length ≤ sizeLine) ∧ K (.str d.shown)
theorem sn_repr : SndC W (rReprX W.vol) (c1 reprP) := by
  intro M H xs ds K Q g rs h c
  obtain ⟨x, d, rfl, hd, ⟨h1, h2, h3⟩, h⟩ := h
  obtain ⟨v, rfl, rx⟩ := rel1 rs
  exact ⟨v, d, rfl, pd_dx g hd rx, h1, h2, h3, c _ h _ H .refl (Dx.str _)⟩
/-- list(xs), a new object -/
def fList (fa : FA) : DEnv → (OC → Prop) → Prop := fun ρ K => fa ρ fun xs => ∃ x d es, xs = [x] ∧ x.pd = some d ∧ (d = .list es ∨ d = .tuple es) ∧ K (.lst es)
theorem imp_list {fa : FA} (σ : L2.St) (H : Hp) (Q : VK) (h : tFr W (fList fa) σ H Q) : tCB (fun xs H Q => ∃ p ys, xs = [V.ref p] ∧ (SqL X.K H p ys ∨ SqT X.K H p ys) ∧ ∀ l, H l = none → Q (.ref l) (upd H l (.lst ys))) (tDA W fa) σ H Q := by
  obtain ⟨M, ρ, K, ge, k, c⟩ := h
  refine ⟨M, ρ, _, ge, k, fun ds hd vs H1 s1 r1 => ?_⟩
  obtain ⟨x, d, es, rfl, hp, hde, hk⟩ := hd
  obtain ⟨v, rfl, rx⟩ := rel1 r1
  rcases hde with rfl | rfl
  · obtain ⟨p, xs, rfl, hp, ra⟩ := pd_lst hp rx
    exact ⟨p, xs, rfl, .inl (SqL.of hp), fun l nl => c _ hk l _ H1 s1 nl (.lst ra)⟩
  · obtain ⟨p, xs, rfl, hp, ra⟩ := pd_tup hp rx
    exact ⟨p, xs, rfl, .inr (SqT.of hp), fun l nl => c _ hk l _ H1 s1 nl (.lst ra)⟩
def tupcP : PyData → (PyData → Prop) → Prop
  | .list xs, K => K (.tuple xs)
  | .tuple xs, K => K (.tuple xs)
  | _, _ => False
theorem sn_tupc : SndC W (fun xs H Q => ∃ p ys, xs = [V.ref p] ∧ ((SqL X.K H p ys ∧ ∀ l, H l = none → Q (.ref l) (upd H l (.tup ys))) ∨ (SqT X.K H p ys ∧ Q (.ref p) H))) (c1 tupcP) := by
  intro M H xs ds K Q g rs h c
  obtain ⟨x, d, rfl, hd, h⟩ := h
  obtain ⟨v, rfl, rx⟩ := rel1 rs
  cases d with
  | list es =>
    obtain ⟨p, xs, rfl, hp, ra⟩ := pd_lst hd rx
    exact ⟨p, xs, rfl, .inl ⟨SqL.of hp, fun l nl => c _ h _ _ (.new nl) (Dx.tup upd_same (Dx.kpAll (Stp.kp g.vol (.new nl)) _ _ ra))⟩⟩
  | tuple es =>
    obtain ⟨p, xs, rfl, hp, ra⟩ := pd_tup hd rx
    exact ⟨p, xs, rfl, .inr ⟨SqT.of hp, c _ h _ H .refl (Dx.tup hp ra)⟩⟩
  | _ => exact h.elim
/-- isinstance of a built-in class -/
def isiP (T : String) (b : PyData → Bool) : List DV → (DV → Prop) → Prop := fun xs K => ∃ x d, xs = [x, .ob (.ty T)] ∧ x.pd = some d ∧ K (.dat (.bool (b d)))
theorem ty_ofDx {K : PySem.W.Frag} {M : Addr → Prop} {H : Hp} {v : V} {D : PyData} (h : Dx M H v D) : TyX K H v (.type (tyN D)) := by
  cases h with
  | non => exact .base .non
  | bl b => exact .base (.bl b)
  | int i => exact .base (.int i)
  | str h => exact .base (.str _)
  | lst n e _ => exact .base (.lst e)
  | tup e _ => exact .base (.tup e)
  | dk n e _ => exact .base (.dK e)
theorem sn_isi {T : String} {b : PyData → Bool} (hb : ∀ d, kitB (tyN d) T = some (b d)) : SndC W (rIsi X.K) (isiP T b) := by
  intro M H xs ds K Q g rs h c
  obtain ⟨x, d, rfl, hd, h⟩ := h
  obtain ⟨v, u, rfl, rx, ru⟩ := rel2 rs
  cases ru
  exact ⟨v, .ty T, .type (tyN d), .type T, b d, rfl, .ty T, ty_ofDx (pd_dx g hd rx), kit_ty (hb d), c _ h _ H .refl (Dx.bl _)⟩
def isIntB : PyData → Bool
  | .int _ => true
  | .bool _ => true
  | _ => false
def isBoolD : PyData → Bool
  | .bool _ => true
  | _ => false
def isListD : PyData → Bool
  | .list _ => true
  | _ => false
def isDictD : PyData → Bool
  | .dict _ => true
  | _ => false
theorem kb_tup : ∀ d : PyData, kitB (tyN d) "tuple" = some (isTup d)
  | .none => by decide +kernel
  | .bool _ => (by decide +kernel : kitB "bool" "tuple" = some false)
  | .int _ => (by decide +kernel : kitB "int" "tuple" = some false)
  | .str _ => (by decide +kernel : kitB "str" "tuple" = some false)
  | .list _ => (by decide +kernel : kitB "list" "tuple" = some false)
  | .tuple _ => (by decide +kernel : kitB "tuple" "tuple" = some true)
  | .dict _ => (by decide +kernel : kitB "dict" "tuple" = some false)
theorem kb_str : ∀ d : PyData, kitB (tyN d) "str" = some (isStrD d)
  | .none => by decide +kernel
  | .bool _ => (by decide +kernel : kitB "bool" "str" = some false)
  | .int _ => (by decide +kernel : kitB "int" "str" = some false)
  | .str _ => (by decide +kernel : kitB "str" "str" = some true)
  | .list _ => (by decide +kernel : kitB "list" "str" = some false)
  | .tuple _ => (by decide +kernel : kitB "tuple" "str" = some false)
  | .dict _ => (by decide +kernel : kitB "dict" "str" = some false)
theorem kb_int : ∀ d : PyData, kitB (tyN d) "int" = some (isIntB d)
  | .none => by decide +kernel
  | .bool _ => (by decide +kernel : kitB "bool" "int" = some true)
  | .int _ => (by decide +kernel : kitB "int" "int" = some true)
  | .str _ => (by decide +kernel : kitB "str" "int" = some false)
  | .list _ => (by decide +kernel : kitB "list" "int" = some false)
  | .tuple _ => (by decide +kernel : kitB "tuple" "int" = some false)
  | .dict _ => (by decide +kernel : kitB "dict" "int" = some false)
theorem kb_bool : ∀ d : PyData, kitB (tyN d) "bool" = some (isBoolD d)
  | .none => by decide +kernel
  | .bool _ => (by decide +kernel : kitB "bool" "bool" = some true)
  | .int _ => (by decide +kernel : kitB "int" "bool" = some false)
  | .str _ => (by decide +kernel : kitB "str" "bool" = some false)
  | .list _ => (by decide +kernel : kitB "list" "bool" = some false)
  | .tuple _ => (by decide +kernel : kitB "tuple" "bool" = some false)
  | .dict _ => (by decide +kernel : kitB "dict" "bool" = some false)
theorem kb_list : ∀ d : PyData, kitB (tyN d) "list" = some (isListD d)
  | .none => by decide +kernel
  | .bool _ => (by decide +kernel : kitB "bool" "list" = some false)
  | .int _ => (by decide +kernel : kitB "int" "list" = some false)
  | .str _ => (by decide +kernel : kitB "str" "list" = some false)
  | .list _ => (by decide +kernel : kitB "list" "list" = some true)
  | .tuple _ => (by decide +kernel : kitB "tuple" "list" = some false)
  | .dict _ => (by decide +kernel : kitB "dict" "list" = some false)
theorem kb_dict : ∀ d : PyData, kitB (tyN d) "dict" = some (isDictD d)
  | .none => by decide +kernel
  | .bool _ => (by decide +kernel : kitB "bool" "dict" = some false)
  | .int _ => (by decide +kernel : kitB "int" "dict" = some false)
  | .str _ => (by decide +kernel : kitB "str" "dict" = some false)
  | .list _ => (by decide +kernel : kitB "list" "dict" = some false)
  | .tuple _ => (by decide +kernel : kitB "tuple" "dict" = some false)
  | .dict _ => (by decide +kernel : kitB "dict" "dict" = some true)
/-- type(x) is T -/
def typeO : List DV → (DV → Prop) → Prop := fun xs K => ∃ x d, xs = [x] ∧ x.pd = some d ∧ K (.ob (.ty (tyN d)))
theorem sn_type : SndC W (rTyX W.vol) typeO := by
  intro M H xs ds K Q g rs h c
  obtain ⟨x, d, rfl, hd, h⟩ := h
  obtain ⟨v, rfl, rx⟩ := rel1 rs
  exact ⟨v, d, rfl, pd_dx g hd rx, c _ h _ H .refl rfl⟩
end
end DL

set_option Elab.async false
set_option linter.all false
set_option maxRecDepth 100000
set_option maxHeartbeats 1000000
/-! Membership, joins, promises under no repr, calls by keywords, over data. -/
namespace DL
open PySem PySem.Spec PyProof.Rows L2 KT KG KX KY KE0 KQ LK GxR PySem.SeqAt
/-! ### an int against any data -/
theorem sub_id : isSubtype (.type "int") (.type "dict") = pure false := by rw [isSubtype_type]; kernel_rfl
theorem sub_di : isSubtype (.type "dict") (.type "int") = pure false := by rw [isSubtype_type]; kernel_rfl
theorem dict_eq_noI (l : Addr) (es : Array DictEntry) (ep : Nat) (dd : Option Addr) (sl : Array (Option Value)) (b : Int) (u : Tok) :
    Meets (Builtin.«dict.__eq__» ⟨[.ref l, .int b u], []⟩) (fun _ R s => s.heap.get? l = some { cls := .type "dict", dict := dd, data := .dict es ep, slots := sl } ∧ R (.ok (.ret .notImplemented)) s) :=
  .of_wp fun prog w A R s h => by obtain ⟨hp, g, d, tk, os⟩ := s; obtain ⟨hl, h⟩ := h; have f1 := sub_id; wp_walk using wpAny_loadPart' hl, wpAny_load hl; exact ⟨_, rfl, h⟩
theorem int_eq_no (b : Int) (u : Tok) (l : Addr) (c : Value) (es : Array DictEntry) (ep : Nat) (dd : Option Addr) (sl : Array (Option Value)) :
    Meets (Builtin.«int.__eq__» ⟨[.int b u, .ref l], []⟩) (fun _ R s => s.heap.get? l = some { cls := c, dict := dd, data := .dict es ep, slots := sl } ∧ R (.ok (.ret .notImplemented)) s) :=
  .of_wp fun prog w A R s h => by obtain ⟨hp, g, d, tk, os⟩ := s; obtain ⟨hl, h⟩ := h; wp_walk using wpAny_loadPart' hl, wpAny_load hl; exact ⟨_, rfl, h⟩
section
variable {A : Around} {s : Shared} {l : Addr}
theorem rc_id (b : Int) (u : Tok) (hl : IsDct s.heap l) (hu : A.units < cLine) : RcAt A s (.int b u) (.ref l) false := fun prog w E Q h => by
  obtain ⟨dd, es, ep, sl, ho⟩ := hl
  exact rc_eq_decline_or (k := false) (typeIs_int s b u) ⟨_, ho, rfl⟩ (by decide) sub_di F.slot_int_eq F.slot_dict_eq_refl
    (fun _ hq => call_meets F.slot_int_eq (typeIs_int s b u) F.entry_int_eq (F.args_int_eq_2 _ _) (int_eq_no b u l (.type "dict") es ep dd sl) ⟨ho, hq⟩)
    (fun _ hq => call_meets F.slot_dict_eq_refl ⟨_, ho, rfl⟩ F.entry_dict_eq (F.args_dict_eq_2 _ _) (dict_eq_noI l es ep dd sl b u) ⟨ho, hq⟩)
    (fun _ hq => wpAny_of_eq (rfl : isSame (.int b u) (.ref l) = pure false) hq) (.inr hu) h
theorem eq_id (b : Int) (u : Tok) (hl : IsDct s.heap l) (hu : A.units < cLine) : EqAt A s (.int b u) (.ref l) false := fun prog w E Q h => by
  unfold eqBool
  refine wpAny_holding ?_
  refine wpAny_ite_split (fun hab => absurd (eq_of_beq hab) nofun) (fun _ => ?_)
  exact wpAny_bind (rc_id b u hl hu prog w E _ (wpAny_truthy_bool h))
end
section
variable {X : Cx} {pins : List (Addr × Obj)} {σ : L2.St} {H : Hp} {s : Shared} {M : Addr → Prop} {A : Around}
theorem eq_anyI (I : Inv X pins σ H s) {v : V} {d : PyData} {u : Value} {z : Int} {t : Tok} (h : Dx M H v d) (r : RelV v u) (hu : A.units < cLine) : EqAt A s (.int z t) u (PyData.eqv (.int z) d) := by
  cases h with
  | non => cases r; exact EqAt.int_none z t
  | bl b => cases r; exact EqAt.int_bool z t b
  | int i => obtain ⟨t', rfl⟩ := r; exact EqAt.int_int z t i t'
  | str x => obtain ⟨t', rfl⟩ := r; exact EqAt.int_str z t x t'
  | lst n e ha =>
    cases r
    obtain ⟨_, its, k, _, _, ho⟩ := I.lstM e
    exact EqAt.int_list (items := its.toArray) z t ⟨_, ho, rfl, k, rfl⟩ hu
  | tup e ha =>
    cases r
    obtain ⟨its, _, p, _⟩ := I.tuple (SqT.of e)
    exact EqAt.int_tuple z t p hu
  | dk n e ha => cases r; exact eq_id z t (dct_of I.hok e) hu
end
section
variable {X : Cx} {k : Nat}
/-- any value in a tuple of ints -/
def rInI (M : Addr → Prop) (K : PySem.W.Frag) : R2 := fun x y H Q => ∃ d p, ∃ zs : List Int, Dx M H x d ∧ y = .ref p ∧ SqT K H p (zs.map V.int) ∧ Q (.bl (zs.any fun z => PyData.eqv (.int z) d)) H
theorem op_inI (hr : Room (k + 1) X.A) (M : Addr → Prop) : OpR X (compareOp .In) (rInI M X.K) := by
  intro pins s σ H x y v u Q I rx ry h
  obtain ⟨d, p, zs, hd, rfl, hp, q⟩ := h
  cases ry
  obtain ⟨its, r, pl, hz⟩ := I.tuple hp
  have hu : X.A.in1.units < cLine := by have := hr.in1.un; omega
  have key : ∀ {zs : List Int} {its : List Value}, Vals (zs.map V.int) its → (∀ y ∈ its, ∃ z t, y = .int z t) ∧ ∀ e : Value → Bool, (∀ z t, e (.int z t) = PyData.eqv (.int z) d) → its.any e = zs.any fun z => PyData.eqv (.int z) d := by
    intro zs
    induction zs with
    | nil =>
      intro its r
      cases r
      exact ⟨(fun y hy => by cases hy), fun e _ => rfl⟩
    | cons a zs ih =>
      intro its r
      cases r with
      | cons r1 r2 =>
        obtain ⟨t, rfl⟩ := r1
        obtain ⟨h1, h2⟩ := ih r2
        exact ⟨fun y hy => (List.mem_cons.mp hy).elim (fun e => ⟨a, t, e⟩) (h1 y), fun e he => by rw [List.any_cons, List.any_cons, he, h2 e he]⟩
  obtain ⟨k1, k2⟩ := key r
  let e : Value → Bool := fun y => match y with
    | .int z _ => PyData.eqv (.int z) d
    | _ => false
  refine SeqAt.in_tupleAt e pl (fun y hy => ?_) ⟨.bl _, H, I, rfl, ?_⟩
  · obtain ⟨z, t, rfl⟩ := k1 y (by simpa using hy)
    exact eq_anyI I hd rx hu
  · rw [show its.toArray.any e = its.any e by simp, k2 e fun _ _ => rfl]
    exact q
end
/-! ### in -/
def flatD : PyData → Bool
  | .none => true
  | .bool _ => true
  | .int _ => true
  | .str _ => true
  | _ => false
def isIntD : PyData → Bool
  | .int _ => true
  | _ => false
/-- x in a list or tuple: what can be told -/
def inOk (d : PyData) : PyData → Bool
  | .tuple es => es.all isStrD || es.all isIntD || (flatD d && es.all flatD)
  | .list es => flatD d && es.all flatD
  | _ => false
def inD (d : PyData) : PyData → Bool
  | .tuple es => es.any fun y => PyData.eqv y d
  | .list es => es.any fun y => PyData.eqv y d
  | _ => false
def inP : PyData → PyData → (PyData → Prop) → Prop := fun d e K => inOk d e = true ∧ K (.bool (inD d e))
/-- .. not in, of flat things -/
def ninP : PyData → PyData → (PyData → Prop) → Prop := fun d e K => (flatD d = true ∧ ∃ es, (e = .tuple es ∨ e = .list es) ∧ es.all flatD = true) ∧ K (.bool (!inD d e))
section
variable {X : Cx} {W : Wd}
theorem strs_of {M : Addr → Prop} {H : Hp} : ∀ {xs : List V} {es : List PyData}, DxAll M H xs es → es.all isStrD = true → ∃ zs : List Str, xs = zs.map V.str ∧ es = zs.map PyData.str
  | [], [], _, _ => ⟨[], rfl, rfl⟩
  | _ :: _, e :: _, h, a => by
    rw [List.all_cons, Bool.and_eq_true] at a
    cases h with
    | cons h1 h2 =>
      obtain ⟨zs, rfl, rfl⟩ := strs_of h2 a.2
      cases e with
      | str z =>
        cases h1
        exact ⟨z :: zs, rfl, rfl⟩
      | _ => cases a.1
  | [], _ :: _, h, _ => by cases h
  | _ :: _, [], h, _ => by cases h
theorem intl_of {M : Addr → Prop} {H : Hp} : ∀ {xs : List V} {es : List PyData}, DxAll M H xs es → es.all isIntD = true → ∃ zs : List Int, xs = zs.map V.int ∧ es = zs.map PyData.int
  | [], [], _, _ => ⟨[], rfl, rfl⟩
  | _ :: _, e :: _, h, a => by
    rw [List.all_cons, Bool.and_eq_true] at a
    cases h with
    | cons h1 h2 =>
      obtain ⟨zs, rfl, rfl⟩ := intl_of h2 a.2
      cases e with
      | int z =>
        cases h1
        exact ⟨z :: zs, rfl, rfl⟩
      | _ => cases a.1
  | [], _ :: _, h, _ => by cases h
  | _ :: _, [], h, _ => by cases h
theorem flat_of {M : Addr → Prop} {H : Hp} {v : V} {d : PyData} (h : Dx M H v d) (f : flatD d = true) : flatV v = true ∧ ∀ {v2 d2}, Dx M H v2 d2 → flatD d2 = true → eqV v2 v = PyData.eqv d2 d := by
  cases h with
  | lst _ _ _ => cases f
  | tup _ _ => cases f
  | dk _ _ _ => cases f
  | non =>
    refine ⟨rfl, fun h2 f2 => ?_⟩
    cases h2 <;> first | rfl | (cases f2)
  | bl b =>
    refine ⟨rfl, fun h2 f2 => ?_⟩
    cases h2 <;> first | rfl | (cases f2)
  | int i =>
    refine ⟨rfl, fun h2 f2 => ?_⟩
    cases h2 <;> first | rfl | (cases f2)
  | str z =>
    refine ⟨rfl, fun h2 f2 => ?_⟩
    cases h2 <;> first | rfl | (cases f2)
theorem flats_of {M : Addr → Prop} {H : Hp} {v : V} {d : PyData} (h : Dx M H v d) (f : flatD d = true) : ∀ {xs : List V} {es : List PyData}, DxAll M H xs es → es.all flatD = true → xs.all flatV = true ∧ inV v xs = es.any fun y => PyData.eqv y d
  | [], [], _, _ => ⟨rfl, rfl⟩
  | _ :: _, e :: _, q, a => by
    rw [List.all_cons, Bool.and_eq_true] at a
    cases q with
    | cons h1 h2 =>
      obtain ⟨r1, r2⟩ := flats_of h f h2 a.2
      obtain ⟨f1, _⟩ := flat_of h1 a.1
      refine ⟨by rw [List.all_cons, f1, r1]; rfl, ?_⟩
      show (eqV _ v || inV v _) = _
      rw [r2, (flat_of h f).2 h1 a.1, List.any_cons]
  | [], _ :: _, q, _ => by cases q
  | _ :: _, [], q, _ => by cases q
theorem op_inX {k : Nat} (hr : Room (k + 1) X.A) (M : Addr → Prop) : OpR X (compareOp .In) (fun x y H Q => rInT M X.K x y H Q ∨ rInI M X.K x y H Q ∨ rIn X.K false x y H Q) := OpR.or (op_inT hr M) (OpR.or (op_inI hr M) op_in_seq)
theorem sn_in : Snd2 W (fun x y H Q => rInT W.vol X.K x y H Q ∨ rInI W.vol X.K x y H Q ∨ rIn X.K false x y H Q) (op2 inP) := by
  intro M H x y dx dy K Q g rx ry h c
  obtain ⟨d, e, hd, he, hok, h⟩ := h
  have r1 := pd_dx g hd rx
  have r2 := pd_dx g he ry
  have fin : ∀ b, b = inD d e → Q (.bl b) H := fun b hb => by
    subst hb
    exact c _ h _ H .refl (Dx.bl _)
  cases e with
  | tuple es =>
    obtain ⟨p, xs, rfl, hp, ra⟩ := Dx.tupOf r2
    have hok : (es.all isStrD || es.all isIntD || (flatD d && es.all flatD)) = true := hok
    rw [Bool.or_eq_true, Bool.or_eq_true, Bool.and_eq_true] at hok
    rcases hok with (hs | hi) | ⟨f1, f2⟩
    · obtain ⟨zs, rfl, rfl⟩ := strs_of ra hs
      refine .inl ⟨d, p, zs, r1, rfl, SqT.of hp, fin _ ?_⟩
      show _ = (zs.map PyData.str).any _
      rw [List.any_map]
      congr 1
      funext z
      show isT x z = PyData.eqv (.str z) d
      rw [isT_eqv r1]
      exact PySem.W.eqv_comm _ _
    · obtain ⟨zs, rfl, rfl⟩ := intl_of ra hi
      refine .inr (.inl ⟨d, p, zs, r1, rfl, SqT.of hp, fin _ ?_⟩)
      show _ = (zs.map PyData.int).any _
      rw [List.any_map]
      rfl
    · obtain ⟨q1, q2⟩ := flats_of r1 f1 ra f2
      exact .inr (.inr ⟨p, xs, rfl, .inr (SqT.of hp), (flat_of r1 f1).1, q1, fin _ q2⟩)
  | list es =>
    have hok : (flatD d && es.all flatD) = true := hok
    rw [Bool.and_eq_true] at hok
    cases r2 with
    | lst n e ra =>
      obtain ⟨q1, q2⟩ := flats_of r1 hok.1 ra hok.2
      exact .inr (.inr ⟨_, _, rfl, .inl (SqL.of e), (flat_of r1 hok.1).1, q1, fin _ q2⟩)
  | _ => cases hok
theorem sn_notIn : Snd2 W (rIn X.K true) (op2 ninP) := by
  intro M H x y dx dy K Q g rx ry h c
  obtain ⟨d, e, hd, he, ⟨f1, es, hes, f2⟩, h⟩ := h
  have r1 := pd_dx g hd rx
  have r2 := pd_dx g he ry
  rcases hes with rfl | rfl
  · obtain ⟨p, xs, rfl, hp, ra⟩ := Dx.tupOf r2
    obtain ⟨q1, q2⟩ := flats_of r1 f1 ra f2
    refine ⟨p, xs, rfl, .inr (SqT.of hp), (flat_of r1 f1).1, q1, c _ h _ H .refl ?_⟩
    show Dx M H (.bl (!inV x xs)) _
    rw [q2]
    exact Dx.bl _
  · cases r2 with
    | lst n e ra =>
      obtain ⟨q1, q2⟩ := flats_of r1 f1 ra f2
      refine ⟨_, _, rfl, .inl (SqL.of e), (flat_of r1 f1).1, q1, c _ h _ H .refl ?_⟩
      show Dx M H (.bl (!inV x _)) _
      rw [q2]
      exact Dx.bl _
/-- in a tuple of texts of the top -/
def inG : DV → DV → (DV → Prop) → Prop := fun x y K => ∃ d zs, x.pd = some d ∧ y = .gts zs ∧ K (.dat (.bool (zs.any fun z => PyData.eqv d (.str z))))
theorem sn_inG (hK : W.K = X.K) : Snd2 W (rInT W.vol X.K) inG := by
  intro M H x y dx dy K Q g rx ry h c
  obtain ⟨d, zs, hd, rfl, h⟩ := h
  have r1 := pd_dx g hd rx
  obtain ⟨p, rfl, hp⟩ := ry
  rw [hK] at hp
  refine ⟨d, p, zs, r1, rfl, hp H, c _ h _ H .refl ?_⟩
  rw [show (fun z => isT x z) = fun z => PyData.eqv d (.str z) from funext fun z => isT_eqv r1]
  exact Dx.bl _
/-! ### type(x) is T -/
def tyIs : DV → DV → (DV → Prop) → Prop := fun x y K => ∃ a b, x = .ob (.ty a) ∧ y = .ob (.ty b) ∧ K (.dat (.bool (decide (a = b))))
theorem sn_tyIs : Snd2 W (fun x y H Q => ∃ a b, x = .ty a ∧ y = .ty b ∧ Q (.bl (decide (a = b))) H) tyIs := by
  intro M H x y dx dy K Q g rx ry h c
  obtain ⟨a, b, rfl, rfl, h⟩ := h
  cases rx
  cases ry
  exact ⟨a, b, rfl, rfl, c _ h _ H .refl (Dx.bl _)⟩
theorem ty_intD : ∀ d : PyData, decide (tyN d = "int") = isIntD d
  | .none => by decide +kernel
  | .bool _ => (by decide +kernel : decide ("bool" = "int") = false)
  | .int _ => (by decide +kernel : decide ("int" = "int") = true)
  | .str _ => (by decide +kernel : decide ("str" = "int") = false)
  | .list _ => (by decide +kernel : decide ("list" = "int") = false)
  | .tuple _ => (by decide +kernel : decide ("tuple" = "int") = false)
  | .dict _ => (by decide +kernel : decide ("dict" = "int") = false)
/-! ### built-ins and methods called -/
theorem de_cb {e : Expr} {r : List V → Hp → VK → Prop} {o : List DV → (DV → Prop) → Prop} {fa : FA} (h : PE X e (tCB r (tDA W fa))) (s : SndC W r o) : PE X e (tD W (fCall o fa)) := h.imp (impC s)
theorem df_list {e : Expr} {fa : FA} (h : PE X e (tCB (fun xs H Q => ∃ p ys, xs = [V.ref p] ∧ (SqL X.K H p ys ∨ SqT X.K H p ys) ∧ ∀ l, H l = none → Q (.ref l) (upd H l (.lst ys))) (tDA W fa))) : PE X e (tFr W (fList fa)) := h.imp imp_list
theorem all_strs {M : Addr → Prop} {H : Hp} : ∀ {xs : List V} {zs : List Str}, DxAll M H xs (zs.map PyData.str) → xs = zs.map V.str
  | [], [], _ => rfl
  | _ :: _, _ :: _, h => by
    cases h with
    | cons h1 h2 =>
      cases h1
      rw [all_strs h2]
      rfl
  | [], _ :: _, h => by cases h
  | _ :: _, [], h => by cases h
/-- a text's method of no or one argument -/
def fM0 (p : Str → (PyData → Prop) → Prop) (f : FE) : FE := fun ρ K => f ρ fun x => ∃ a, x = .dat (.str a) ∧ p a fun r => K (.dat r)
def fM1 (p : Str → PyData → (PyData → Prop) → Prop) (f g : FE) : FE := fun ρ K => f ρ fun x => ∃ a, x = .dat (.str a) ∧ g ρ fun y => ∃ d, y.pd = some d ∧ p a d fun r => K (.dat r)
def SndM0 (W : Wd) (r : V → List V → Hp → VK → Prop) (p : Str → (PyData → Prop) → Prop) : Prop := ∀ {M H a K Q}, GoodH W M H → (p a fun r => K (.dat r)) → Cont W M H K Q → r (.str a) [] H Q
def SndM1 (W : Wd) (r : V → List V → Hp → VK → Prop) (p : Str → PyData → (PyData → Prop) → Prop) : Prop := ∀ {M H a y dy d K Q}, GoodH W M H → RelDV W M H y dy → dy.pd = some d → (p a d fun r => K (.dat r)) → Cont W M H K Q → r (.str a) [y] H Q
theorem de_m0 {e : Expr} {r : V → List V → Hp → VK → Prop} {p : Str → (PyData → Prop) → Prop} {f : FE} (h : PE X e (tM0 r (tD W f))) (s : SndM0 W r p) : PE X e (tD W (fM0 p f)) := h.imp fun σ H Q ⟨M, ρ, K, ge, k, c⟩ => by
  refine ⟨M, ρ, _, ge, k, fun dx hx v H1 s1 r1 => ?_⟩
  obtain ⟨a, rfl, hk⟩ := hx
  cases r1
  exact ⟨⟨a, rfl⟩, s (ge.stp s1).h hk (c.stp s1)⟩
theorem de_m1 {e : Expr} {r : V → List V → Hp → VK → Prop} {p : Str → PyData → (PyData → Prop) → Prop} {f g : FE} (h : PE X e (tM1 r (tD W f) (tD W g))) (s : SndM1 W r p) : PE X e (tD W (fM1 p f g)) := h.imp fun σ H Q ⟨M, ρ, K, ge, k, c⟩ => by
  refine ⟨M, ρ, _, ge, k, fun dx hx v H1 s1 r1 => ?_⟩
  obtain ⟨a, rfl, hk⟩ := hx
  cases r1
  refine ⟨⟨a, rfl⟩, M, ρ, _, ge.stp s1, hk, fun dy hy u H2 s2 r2 => ?_⟩
  obtain ⟨d, hd, hp⟩ := hy
  exact s ((ge.stp s1).stp s2).h r2 hd hp (c.stp (s1.trans s2))
/-- sep.join(xs) -/
def joinP (a : Str) (d : PyData) (K : PyData → Prop) : Prop := ∃ zs : List Str, (d = .list (zs.map PyData.str) ∨ d = .tuple (zs.map PyData.str)) ∧ (zs.map (·.length)).sum + zs.length * a.length ≤ 16777216 ∧ K (.str (Txt.join a zs))
theorem sn_join : SndM1 W (fun x xs H Q => ∃ a p, ∃ ys : List Str, x = V.str a ∧ xs = [V.ref p] ∧ (SqL X.K H p (ys.map V.str) ∨ SqT X.K H p (ys.map V.str)) ∧ (ys.map (·.length)).sum + ys.length * a.length ≤ 16777216 ∧ Q (V.str (Txt.join a ys)) H) joinP := by
  intro M H a y dy d K Q g ry hd h c
  obtain ⟨zs, hz, hl, k⟩ := h
  rcases hz with rfl | rfl
  · obtain ⟨p, xs, rfl, hp, ra⟩ := pd_lst hd ry
    rw [all_strs ra] at hp
    exact ⟨a, p, zs, rfl, rfl, .inl (SqL.of hp), hl, c _ k _ H .refl (Dx.str _)⟩
  · obtain ⟨p, xs, rfl, hp, ra⟩ := pd_tup hd ry
    rw [all_strs ra] at hp
    exact ⟨a, p, zs, rfl, rfl, .inr (SqT.of hp), hl, c _ k _ H .refl (Dx.str _)⟩
end
/-! ### promises under no repr -/
section
variable {P : Program} {w : World} {K : PySem.W.Frag} {mg : Str → Option Value} {base : Heap}
theorem okDG {x : Str} {st : Stmt} {fd : FuncData} {N ps : List Str} {k : Nat} {WP : Wc → Prop} {F : FnD} (D : FnP K x st (He.fAd K (x, none)) fd) (S : FnScope N ps (defScope st)) (len : ∀ ds Kk KE, F ds Kk KE → ds.length = ps.length)
    (body : ∀ (W : Wd) (cdv : Value) (A : Around) (outer : List Env) (s : Shared) (E : XK), WP W.toWc → A.guards = some [] → Room k (A.deeper (envOfC x (defScope st) s.heap.objs.size (He.fAd K (x, none)) cdv)) →
      ∃ g, PSs (cxOf CX0 P w K mg base N x (defScope st) (He.fAd K (x, none)) cdv A outer s W.H0 E).nox (defBody st) (tDS W g) ∧ ∀ ds Kk KE, F ds Kk KE → g { nx := fun _ => Kk .none, rt := Kk } (start0 N.length ds)) : FnG P w K mg base (k + 1) (He.fAd K (x, none)) fd ps (spD WP F) := by
  refine KT.okG (fun_of D) S (fun vs H Q E h => ?_) (fun cdv A outer s H vs Q E hA hr h => ?_)
  · obtain ⟨W, ds, Kk, KE, _, _, _, r, _, f, _⟩ := h
    rw [r.length]
    exact len ds Kk KE f
  · obtain ⟨W, ds, Kk, KE, hW, rfl, gh, r, no, f, hQ, hE⟩ := h
    obtain ⟨g, hp, hg⟩ := body W cdv A outer s E hW hA hr
    refine ⟨_, hp, [], W.M0, _, _, good_start gh r no, hg ds Kk KE f, ⟨fun {M σ H ρ} gd k => ?_, fun _ k => k.elim, fun _ k => k.elim, fun s1 r1 k => hQ _ k _ _ s1 r1⟩⟩
    exact hQ _ k _ _ gd.e.h.stp Dx.non
end
/-! ### calls by keywords -/
section
variable {X : Cx} {W : Wd} {e : Expr} {kws : List Keyword} {nm : Option Str} {kpos : Pos} {f : FE} {g : FA}
theorem _root_.L2.PK.imp {t t' : TA} (h : PK X kws t) (k : ∀ σ H Q, t' σ H Q → t σ H Q) : PK X kws t' := ⟨fun pos pins s σ H Q I q => h.run pos pins s σ H Q I (k σ H Q q)⟩
theorem dk_nil : PK X [] (tDA W fNil) := pk_nil.imp fun σ H Q ⟨M, ρ, K, ge, k, q⟩ => q [] k [] H .refl trivial
theorem dk_cons (h1 : PE X e (tD W f)) (h2 : PK X kws (tDA W g)) : PK X (⟨nm, e, kpos⟩ :: kws) (tDA W (fCons f g)) := (pk_cons h1 h2).imp fun σ H Q ⟨M, ρ, K, ge, k, q⟩ => by
  refine ⟨M, ρ, _, ge, k, fun dx hx v H1 s1 r1 => ⟨M, ρ, _, ge.stp s1, hx, fun ds hd vs H2 s2 r2 => ?_⟩⟩
  exact q _ hd _ H2 (s1.trans s2) ⟨r1.stp ge.h.vol s2, r2⟩
end
end DL

set_option Elab.async false
set_option linter.all false
set_option maxRecDepth 100000
set_option maxHeartbeats 1000000
/-! More statements over data: several names at once, stores into lists, the joining of ways. -/
namespace DL
open PySem PySem.Spec PyProof.Rows L2 KT KG KX KY KE0 KQ LK GxR
section
variable {X : Cx} {W : Wd} {st : Stmt} {sts : List Stmt} {e : Expr} {pos : Pos} {g g2 : FS} {f : FE}
/-- the ways behind a statement, joined -/
def sCut (g g2 : FS) : FS := fun E ρ => ∃ Mid : DEnv → Prop, g { E with nx := Mid } ρ ∧ ∀ ρ', Mid ρ' → g2 E ρ'
theorem dss_cut (h1 : PS X st (tDS W g)) (h2 : PSs X sts (tDS W g2)) : PSs X (st :: sts) (tDS W (sCut g g2)) := (pss_cons h1 h2).imp fun D σ H ⟨L, M, ρ, E, gd, ⟨Mid, k, kk⟩, le⟩ =>
  ⟨L, M, ρ, { E with nx := Mid }, gd, k, fun gd' k' => ⟨L, _, _, E, gd', kk _ k', le⟩, le.bk, le.ct, le.rt⟩
/-- a, b = x, y -/
def sPar (i j : Nat) (fa : FA) : FS := fun E ρ => fa ρ fun xs => ∃ x y, xs = [x, y] ∧ x.isOwn = false ∧ y.isOwn = false ∧ E.nx ((ρ.set i (some x)).set j (some y))
theorem ds_par {i j : Nat} {fa : FA} (h : PS X st (tPar i j (tDA W fa))) : PS X st (tDS W (sPar i j fa)) := h.imp fun D σ H ⟨L, M, ρ, E, gd, k, le⟩ =>
  ⟨M, ρ, _, gd.e, k, fun ds hd vs H1 s1 r1 => by
    obtain ⟨x, y, rfl, n1, n2, hk⟩ := hd
    obtain ⟨v, u, rfl, r, r2⟩ := rel2 r1
    exact ⟨v, u, rfl, le.nx (((gd.to s1).set r n1).set r2 n2) hk⟩⟩
def sPar3 (i j l : Nat) (fa : FA) : FS := fun E ρ => fa ρ fun xs => ∃ x y z, xs = [x, y, z] ∧ x.isOwn = false ∧ y.isOwn = false ∧ z.isOwn = false ∧ E.nx (((ρ.set i (some x)).set j (some y)).set l (some z))
theorem ds_par3 {i j l : Nat} {fa : FA} (h : PS X st (tPar3 i j l (tDA W fa))) : PS X st (tDS W (sPar3 i j l fa)) := h.imp fun D σ H ⟨L, M, ρ, E, gd, k, le⟩ =>
  ⟨M, ρ, _, gd.e, k, fun ds hd vs H1 s1 r1 => by
    obtain ⟨x, y, z, rfl, n1, n2, n3, hk⟩ := hd
    obtain ⟨v, u, t, rfl, r, r2, r3⟩ := rel3 r1
    exact ⟨v, u, t, rfl, le.nx ((((gd.to s1).set r n1).set r2 n2).set r3 n3) hk⟩⟩
/-- a, b, c = x, [..], z: b's list is new -/
def sPar3DFD (i j l : Nat) (f : FE) (g : DEnv → (OC → Prop) → Prop) (h : FE) : FS := fun E ρ => f ρ fun x => g ρ fun c => h ρ fun z => x.isOwn = false ∧ z.isOwn = false ∧ E.nx (((ρ.set j (some (.own c))).set i (some x)).set l (some z))
theorem GoodE.own_ne {M : Addr → Prop} {H : Hp} {σ : L2.St} {ρ : DEnv} {p : Addr} (ge : GoodE W M H σ ρ) (np : H p = none) {j : Nat} {c : OC} {a : Addr} (h : ρ[j]? = some (some (.own c))) (hs : σ[j]? = some (some (.ref a))) : a ≠ p := by
  obtain ⟨v, e, b, u, e2, ho, _⟩ := ge.at_ j _ h
  rw [hs] at e
  cases e
  cases e2
  exact ne_of_none ho np
theorem RelDV.besideOld {M : Addr → Prop} {H H1 : Hp} {v : V} {dv : DV} {p : Addr} {o : HO} (g : GoodH W M H) (np : H p = none) (r : RelDV W M H v dv) : RelDV W (fun a => M a ∨ a = p) (upd H p o) v dv := r.beside g np
theorem ds_par3DFD {i j l : Nat} {f h : FE} {gf : DEnv → (OC → Prop) → Prop} (hij : i ≠ j) (hjl : j ≠ l) (hs : PS X st (tPar3 i j l (tCons (tD W f) (tCons (tFr W gf) (tCons (tD W h) tNil))))) : PS X st (tDS W (sPar3DFD i j l f gf h)) := hs.imp fun D σ H ⟨L, M, ρ, E, gd, k, le⟩ => by
  refine ⟨M, ρ, _, gd.e, k, fun dx hx v H1 s1 r1 => ⟨M, ρ, _, gd.e.stp s1, hx, fun c hc p o H2 s2 np ro => ?_⟩⟩
  have g2 := (gd.to s1).to s2
  have rx := (r1.stp gd.e.h.vol s2)
  have fr := g2.fresh (i := j) np ro
  have ge := g2.e.beside (o := o) np
  refine ⟨_, ρ, _, ge, hc, fun dz hz u H3 s3 r3 => ?_⟩
  obtain ⟨n1, n2, hk⟩ := hz
  refine ⟨v, .ref p, u, rfl, ?_⟩
  have gA := fr.to s3
  have gB := gA.set (i := i) ((rx.beside g2.e.h np).stp fr.e.h.vol s3) n1
  have gC := gB.set (i := l) r3 n2
  have e1 : ((σ.set j (some (V.ref p))).set i (some v)).set l (some u) = ((σ.set i (some v)).set j (some (V.ref p))).set l (some u) := by rw [List.set_comm _ _ hij]
  rw [e1] at gC
  exact le.nx gC hk
/-- a, b = [..], y -/
def sParFD (i j : Nat) (g : DEnv → (OC → Prop) → Prop) (h : FE) : FS := fun E ρ => g ρ fun c => h ρ fun z => z.isOwn = false ∧ E.nx ((ρ.set i (some (.own c))).set j (some z))
theorem ds_parFD {i j : Nat} {h : FE} {gf : DEnv → (OC → Prop) → Prop} (hs : PS X st (tPar i j (tCons (tFr W gf) (tCons (tD W h) tNil)))) : PS X st (tDS W (sParFD i j gf h)) := hs.imp fun D σ H ⟨L, M, ρ, E, gd, k, le⟩ => by
  refine ⟨M, ρ, _, gd.e, k, fun c hc p o H2 s2 np ro => ?_⟩
  have g2 := gd.to s2
  have fr := g2.fresh (i := i) np ro
  have ge := g2.e.beside (o := o) np
  refine ⟨_, ρ, _, ge, hc, fun dz hz u H3 s3 r3 => ?_⟩
  exact ⟨.ref p, u, rfl, le.nx ((fr.to s3).set (i := j) r3 hz.1) hz.2⟩
/-- a, b = x, [..] -/
def sParDF (i j : Nat) (f : FE) (g : DEnv → (OC → Prop) → Prop) : FS := fun E ρ => f ρ fun x => g ρ fun c => x.isOwn = false ∧ E.nx ((ρ.set i (some x)).set j (some (.own c)))
theorem ds_parDF {i j : Nat} {f : FE} {gf : DEnv → (OC → Prop) → Prop} (hs : PS X st (tPar i j (tCons (tD W f) (tCons (tFr W gf) tNil)))) : PS X st (tDS W (sParDF i j f gf)) := hs.imp fun D σ H ⟨L, M, ρ, E, gd, k, le⟩ => by
  refine ⟨M, ρ, _, gd.e, k, fun dx hx v H1 s1 r1 => ⟨M, ρ, _, gd.e.stp s1, hx, fun c hc p o H2 s2 np ro => ?_⟩⟩
  refine ⟨v, .ref p, rfl, ?_⟩
  have g2 := ((gd.to s1).to s2).set (i := i) (r1.stp gd.e.h.vol s2) hc.1
  exact le.nx (g2.fresh (i := j) np ro) hc.2
/-- xs.extend(ys) -/
def sExt (i : Nat) (f : FE) : FS := fun E ρ => ∃ ds, ρ[i]? = some (some (.own (.lst ds))) ∧ f ρ fun x => ∃ es, x = .dat (.list es) ∧ ds.length + es.length ≤ sizeLine ∧ E.nx (ρ.set i (some (.own (.lst (ds ++ es)))))
theorem ds_extend {i : Nat} {e : Expr} (h : PE X e (tBM X.K "list" rExtend (tVar i) (tCons (tD W f) tNil))) (hs : swapsWith e none pos.line X.env = pure false := by rfl) : PS X (.Expr e pos) (tDS W (sExt i f)) :=
  (ps_expr h hs).imp fun D σ H ⟨L, M, ρ, E, gd, ⟨ds, hi, k⟩, le⟩ => by
  obtain ⟨v, hσ, r⟩ := gd.e.at_ i _ hi
  obtain ⟨a, xs, rfl, ha, _⟩ := own_lst r
  refine ⟨_, hσ, .inl ⟨rfl, _, SqL.of ha⟩, M, ρ, _, gd.e, k, fun dv hd y H1 s1 r1 => ?_⟩
  obtain ⟨es, rfl, hl, hk⟩ := hd
  have gd1 := gd.to s1
  obtain ⟨v, hσ1, r2⟩ := gd1.e.at_ i _ hi
  rw [hσ] at hσ1
  cases hσ1
  obtain ⟨a', xs', e', ha', ra, ma, na⟩ := own_lst r2
  cases e'
  cases (show Dx M H1 y (.list es) from r1) with
  | lst n eb rb =>
    refine ⟨_, _, _, _, rfl, rfl, ha', eb, by rw [DxAll.length ra, DxAll.length rb]; exact hl, ?_⟩
    exact le.nx (gd1.mut hi hσ ha' (.lst ra) ma na (.lst (ra.app rb))) hk
/-- xs[i] = e, of an own list -/
def sPut (i : Nat) (f fi : FE) : FS := fun E ρ => ∃ ds, ρ[i]? = some (some (.own (.lst ds))) ∧ f ρ fun x => fi ρ fun k => ∃ d n j, x = .dat d ∧ k = .dat (.int n) ∧ ixN ds.length n = some j ∧ E.nx (ρ.set i (some (.own (.lst (ds.set j d)))))
theorem DxAll.set {M : Addr → Prop} {H : Hp} : ∀ {vs : List V} {ds : List PyData} {j : Nat} {v : V} {d : PyData}, DxAll M H vs ds → Dx M H v d → DxAll M H (vs.set j v) (ds.set j d)
  | [], [], _, _, _, h, _ => h
  | _ :: _, _ :: _, 0, _, _, h, x => by
    cases h with
    | cons h1 h2 => exact .cons x h2
  | _ :: _, _ :: _, j + 1, _, _, h, x => by
    cases h with
    | cons h1 h2 => exact .cons h1 (DxAll.set h2 x)
  | [], _ :: _, _, _, _, h, _ => by cases h
  | _ :: _, [], _, _, _, h, _ => by cases h
theorem ds_put {i : Nat} {fi : FE} (h : PS X st (tAsg (tD W f) (gSub (tVar i) (tD W fi) rSetL))) : PS X st (tDS W (sPut i f fi)) := h.imp fun D σ H ⟨L, M, ρ, E, gd, ⟨ds, hi, k⟩, le⟩ => by
  obtain ⟨v, hσ, _⟩ := gd.e.at_ i _ hi
  refine ⟨M, ρ, _, gd.e, k, fun dx hx y H1 s1 r1 => ⟨v, hσ, M, ρ, _, gd.e.stp s1, hx, fun dk hk u H2 s2 r2 => ?_⟩⟩
  obtain ⟨d, n, j, rfl, rfl, hj, hk⟩ := hk
  cases relI r2
  have gd2 := (gd.to s1).to s2
  obtain ⟨v', hσ1, r3⟩ := gd2.e.at_ i _ hi
  rw [hσ] at hσ1
  cases hσ1
  obtain ⟨a, xs, rfl, ha, ra, ma, na⟩ := own_lst r3
  refine ⟨a, xs, n, j, rfl, rfl, ha, by rw [DxAll.length ra]; exact hj, ?_⟩
  exact le.nx (gd2.mut hi hσ ha (.lst ra) ma na (.lst (DxAll.set ra (r1.stp gd.e.h.vol s2)))) hk
/-- name op= e -/
def sAug (i : Nat) (o : DV → DV → (DV → Prop) → Prop) (f : FE) : FS := fun E ρ => ∃ x, ρ[i]? = some (some x) ∧ f ρ fun y => o x y fun z => z.isOwn = false ∧ E.nx (ρ.set i (some z))
theorem ds_aug {i : Nat} {ti : TIp} {o : DV → DV → (DV → Prop) → Prop} (s : Snd2 W ti o) (h : PS X st (tAug i (tD W f) ti)) : PS X st (tDS W (sAug i o f)) := h.imp fun D σ H ⟨L, M, ρ, E, gd, ⟨x, hi, k⟩, le⟩ => by
  obtain ⟨v, hσ, r⟩ := gd.e.at_ i _ hi
  refine ⟨v, hσ, M, ρ, _, gd.e, k, fun dy hy u H1 s1 r1 => ?_⟩
  exact s (gd.to s1).e.h (r.stp gd.e.h.vol s1) r1 hy fun dz hz t H2 s2 r2 => le.nx (((gd.to s1).to s2).set r2 hz.1) hz.2
theorem sn_ipadd : Snd2 W (ipI fun i j => i + j) (op2 (int0P fun a b => .int (a + b))) := sn_int0
theorem sn_ipsub : Snd2 W (ipI fun i j => i - j) (op2 (int0P fun a b => .int (a - b))) := sn_int0
theorem ip_addD : PIp X .Add (ipI fun i j => i + j) := ip_add
end
end DL

set_option Elab.async false
set_option linter.all false
set_option maxRecDepth 100000
set_option maxHeartbeats 1000000
/-! Short words for goals over data. -/
namespace DL
open PySem PySem.Spec PyProof.Rows L2 KT KG KX KY KE0 KQ LK GxR
theorem le_s0 : (0 ≤ sizeLine) = True := eq_true (by rw [sizeLine_eq]; omega)
theorem le_s1 : (1 ≤ sizeLine) = True := eq_true (by rw [sizeLine_eq]; omega)
theorem le_s2 : (2 ≤ sizeLine) = True := eq_true (by rw [sizeLine_eq]; omega)
theorem le_s3 : (3 ≤ sizeLine) = True := eq_true (by rw [sizeLine_eq]; omega)
theorem le_s4 : (4 ≤ sizeLine) = True := eq_true (by rw [sizeLine_eq]; omega)
theorem le_s5 : (5 ≤ sizeLine) = True := eq_true (by rw [sizeLine_eq]; omega)
theorem le_s6 : (6 ≤ sizeLine) = True := eq_true (by rw [sizeLine_eq]; omega)
theorem le_s7 : (7 ≤ sizeLine) = True := eq_true (by rw [sizeLine_eq]; omega)
theorem le_s8 : (8 ≤ sizeLine) = True := eq_true (by rw [sizeLine_eq]; omega)
theorem le_s9 : (9 ≤ sizeLine) = True := eq_true (by rw [sizeLine_eq]; omega)
theorem le_s10 : (10 ≤ sizeLine) = True := eq_true (by rw [sizeLine_eq]; omega)
theorem le_s11 : (11 ≤ sizeLine) = True := eq_true (by rw [sizeLine_eq]; omega)
theorem le_s12 : (12 ≤ sizeLine) = True := eq_true (by rw [sizeLine_eq]; omega)
theorem le_s13 : (13 ≤ sizeLine) = True := eq_true (by rw [sizeLine_eq]; omega)
theorem le_s14 : (14 ≤ sizeLine) = True := eq_true (by rw [sizeLine_eq]; omega)
theorem le_s15 : (15 ≤ sizeLine) = True := eq_true (by rw [sizeLine_eq]; omega)
theorem le_s16 : (16 ≤ sizeLine) = True := eq_true (by rw [sizeLine_eq]; omega)
theorem le_s17 : (17 ≤ sizeLine) = True := eq_true (by rw [sizeLine_eq]; omega)
theorem le_s18 : (18 ≤ sizeLine) = True := eq_true (by rw [sizeLine_eq]; omega)
theorem le_s19 : (19 ≤ sizeLine) = True := eq_true (by rw [sizeLine_eq]; omega)
theorem le_s20 : (20 ≤ sizeLine) = True := eq_true (by rw [sizeLine_eq]; omega)
theorem le_s21 : (21 ≤ sizeLine) = True := eq_true (by rw [sizeLine_eq]; omega)
theorem le_s22 : (22 ≤ sizeLine) = True := eq_true (by rw [sizeLine_eq]; omega)
theorem le_s23 : (23 ≤ sizeLine) = True := eq_true (by rw [sizeLine_eq]; omega)
theorem le_s24 : (24 ≤ sizeLine) = True := eq_true (by rw [sizeLine_eq]; omega)
theorem le_s25 : (25 ≤ sizeLine) = True := eq_true (by rw [sizeLine_eq]; omega)
theorem le_s26 : (26 ≤ sizeLine) = True := eq_true (by rw [sizeLine_eq]; omega)
theorem le_s27 : (27 ≤ sizeLine) = True := eq_true (by rw [sizeLine_eq]; omega)
theorem le_s28 : (28 ≤ sizeLine) = True := eq_true (by rw [sizeLine_eq]; omega)
theorem le_s29 : (29 ≤ sizeLine) = True := eq_true (by rw [sizeLine_eq]; omega)
theorem le_s30 : (30 ≤ sizeLine) = True := eq_true (by rw [sizeLine_eq]; omega)
theorem le_s31 : (31 ≤ sizeLine) = True := eq_true (by rw [sizeLine_eq]; omega)
theorem le_s32 : (32 ≤ sizeLine) = True := eq_true (by rw [sizeLine_eq]; omega)
theorem le_s33 : (33 ≤ sizeLine) = True := eq_true (by rw [sizeLine_eq]; omega)
theorem le_s34 : (34 ≤ sizeLine) = True := eq_true (by rw [sizeLine_eq]; omega)
theorem le_s35 : (35 ≤ sizeLine) = True := eq_true (by rw [sizeLine_eq]; omega)
theorem le_s36 : (36 ≤ sizeLine) = True := eq_true (by rw [sizeLine_eq]; omega)
theorem le_s37 : (37 ≤ sizeLine) = True := eq_true (by rw [sizeLine_eq]; omega)
theorem le_s38 : (38 ≤ sizeLine) = True := eq_true (by rw [sizeLine_eq]; omega)
theorem le_s39 : (39 ≤ sizeLine) = True := eq_true (by rw [sizeLine_eq]; omega)
theorem le_s40 : (40 ≤ sizeLine) = True := eq_true (by rw [sizeLine_eq]; omega)
theorem le_s41 : (41 ≤ sizeLine) = True := eq_true (by rw [sizeLine_eq]; omega)
theorem le_s42 : (42 ≤ sizeLine) = True := eq_true (by rw [sizeLine_eq]; omega)
theorem le_s43 : (43 ≤ sizeLine) = True := eq_true (by rw [sizeLine_eq]; omega)
theorem le_s44 : (44 ≤ sizeLine) = True := eq_true (by rw [sizeLine_eq]; omega)
theorem le_s45 : (45 ≤ sizeLine) = True := eq_true (by rw [sizeLine_eq]; omega)
theorem le_s46 : (46 ≤ sizeLine) = True := eq_true (by rw [sizeLine_eq]; omega)
theorem le_s47 : (47 ≤ sizeLine) = True := eq_true (by rw [sizeLine_eq]; omega)
theorem le_s48 : (48 ≤ sizeLine) = True := eq_true (by rw [sizeLine_eq]; omega)
theorem le_s49 : (49 ≤ sizeLine) = True := eq_true (by rw [sizeLine_eq]; omega)
theorem le_s50 : (50 ≤ sizeLine) = True := eq_true (by rw [sizeLine_eq]; omega)
theorem le_s51 : (51 ≤ sizeLine) = True := eq_true (by rw [sizeLine_eq]; omega)
theorem le_s52 : (52 ≤ sizeLine) = True := eq_true (by rw [sizeLine_eq]; omega)
theorem le_s53 : (53 ≤ sizeLine) = True := eq_true (by rw [sizeLine_eq]; omega)
theorem le_s54 : (54 ≤ sizeLine) = True := eq_true (by rw [sizeLine_eq]; omega)
theorem le_s55 : (55 ≤ sizeLine) = True := eq_true (by rw [sizeLine_eq]; omega)
theorem le_s56 : (56 ≤ sizeLine) = True := eq_true (by rw [sizeLine_eq]; omega)
theorem le_s57 : (57 ≤ sizeLine) = True := eq_true (by rw [sizeLine_eq]; omega)
theorem le_s58 : (58 ≤ sizeLine) = True := eq_true (by rw [sizeLine_eq]; omega)
theorem le_s59 : (59 ≤ sizeLine) = True := eq_true (by rw [sizeLine_eq]; omega)
theorem le_s60 : (60 ≤ sizeLine) = True := eq_true (by rw [sizeLine_eq]; omega)
theorem le_s61 : (61 ≤ sizeLine) = True := eq_true (by rw [sizeLine_eq]; omega)
theorem le_s62 : (62 ≤ sizeLine) = True := eq_true (by rw [sizeLine_eq]; omega)
theorem le_s63 : (63 ≤ sizeLine) = True := eq_true (by rw [sizeLine_eq]; omega)
theorem le_s64 : (64 ≤ sizeLine) = True := eq_true (by rw [sizeLine_eq]; omega)
theorem ocpd_lst (ds : List PyData) : (OC.lst ds).pd = .list ds := rfl
theorem ocpd_dk (ds : List (Key × PyData)) : (OC.dk ds).pd = .dict (ds.map fun p => (keyD p.1, p.2)) := rfl
theorem eqOk_int (a b : Int) : eqOk (.int a) (.int b) = true := rfl
theorem eqOk_str (d : PyData) (z : Str) : eqOk d (.str z) = true := by
  unfold eqOk
  simp [isStrD]
theorem eqOk_emp (xs : List PyData) : eqOk (.tuple xs) (.tuple []) = true := by
  unfold eqOk
  simp [isLT, isEmp]
theorem eqOk_empL (xs : List PyData) : eqOk (.list xs) (.list []) = true := by
  unfold eqOk
  simp [isLT, isEmp]
theorem eqv_emp1 (xs : List PyData) : PyData.eqv (.tuple xs) (.tuple []) = xs.isEmpty := by cases xs <;> rfl
theorem eqv_empL1 (xs : List PyData) : PyData.eqv (.list xs) (.list []) = xs.isEmpty := by cases xs <;> rfl
theorem atI_z {α : Type} (x : α) (xs : List α) : atI (x :: xs) 0 = some x := L2.atI_nat (j := 0) rfl
theorem atI_o {α : Type} (x y : α) (xs : List α) : atI (x :: y :: xs) 1 = some y := L2.atI_nat (j := 1) rfl
theorem atI_t {α : Type} (x y z : α) (xs : List α) : atI (x :: y :: z :: xs) 2 = some z := L2.atI_nat (j := 2) rfl
theorem atI_nat' {α : Type} {xs : List α} {i : Nat} {x : α} (h : xs[i]? = some x) : atI xs (i : Int) = some x := L2.atI_nat h
theorem eqv_ii (a b : Int) : PyData.eqv (.int a) (.int b) = (a == b) := rfl
theorem eqv_ss (a b : Str) : PyData.eqv (.str a) (.str b) = (a == b) := rfl
theorem natcast_beq (a b : Nat) : ((a : Int) == (b : Int)) = (a == b) := by
  rw [Bool.eq_iff_iff]
  simp [Int.ofNat_inj]
section
variable (K : PyData → Prop)
theorem lenP_t (xs : List PyData) : lenP (.tuple xs) K = K (.int xs.length) := rfl
theorem lenP_l (xs : List PyData) : lenP (.list xs) K = K (.int xs.length) := rfl
theorem lenP_s (z : Str) : lenP (.str z) K = (z.length ≤ sizeLine ∧ K (.int z.length)) := rfl
theorem int0P_ii (f : Int → Int → PyData) (a b : Int) : int0P f (.int a) (.int b) K = K (f a b) := rfl
theorem intP_ii (C : Int → Int → Prop) (f : Int → Int → PyData) (a b : Int) : intP C f (.int a) (.int b) K = (C a b ∧ K (f a b)) := rfl
theorem addP_ii (a b : Int) : addP (.int a) (.int b) K = K (.int (a + b)) := rfl
theorem addP_ss (a b : Str) : addP (.str a) (.str b) K = (a.length + b.length ≤ sizeLine ∧ K (.str (a ++ b))) := rfl
theorem addP_tt (a b : List PyData) : addP (.tuple a) (.tuple b) K = (a.length + b.length ≤ sizeLine ∧ K (.tuple (a ++ b))) := rfl
theorem addP_ll (a b : List PyData) : addP (.list a) (.list b) K = (a.length + b.length ≤ sizeLine ∧ K (.list (a ++ b))) := rfl
theorem ixP_t (xs : List PyData) (i : Int) : ixP (.tuple xs) (.int i) K = ∃ d, atI xs i = some d ∧ K d := rfl
theorem ixP_l (xs : List PyData) (i : Int) : ixP (.list xs) (.int i) K = ∃ d, atI xs i = some d ∧ K d := rfl
theorem ixP_s (z : Str) (i : Int) : ixP (.str z) (.int i) K = (z.length ≤ sizeLine ∧ ∃ c, atI z.cps.toList i = some c ∧ K (.str ⟨#[c]⟩)) := rfl
theorem slP_t (xs : List PyData) (lo hi : Option Int) : slP (.tuple xs) lo hi K = K (.tuple (cutD xs lo hi)) := rfl
theorem slP_l (xs : List PyData) (lo hi : Option Int) : slP (.list xs) lo hi K = K (.list (cutD xs lo hi)) := rfl
theorem slP_s (z : Str) (lo hi : Option Int) : slP (.str z) lo hi K = (z.length ≤ sizeLine ∧ K (.str (cutS z lo hi))) := rfl
theorem intcP_i (i : Int) : intcP (.int i) K = K (.int i) := rfl
theorem intcP_b (b : Bool) : intcP (.bool b) K = K (.int (if b then 1 else 0)) := rfl
theorem intcP_s (z : Str) : intcP (.str z) K = (z.length ≤ 640 ∧ ∃ n, PySem.intText? z = some n ∧ K (.int n)) := rfl
theorem tupcP_l (xs : List PyData) : tupcP (.list xs) K = K (.tuple xs) := rfl
theorem tupcP_t (xs : List PyData) : tupcP (.tuple xs) K = K (.tuple xs) := rfl
end
theorem isTup_t (xs : List PyData) : isTup (.tuple xs) = true := rfl
theorem isTup_no {d : PyData} (h : ∀ xs, d ≠ .tuple xs) : isTup d = false := by
  cases d with
  | tuple xs => exact absurd rfl (h xs)
  | _ => rfl
theorem negP_i (K : PyData → Prop) (a : Int) : negP (.int a) K = K (.int (-a)) := rfl
/-! ### turns by a plain function -/
theorem ag_fun {b0 : Bool} {gd : GD} {f : FE} {ρ : DEnv} {p : PyData → Bool} : ∀ {items : List PyData} {K : Bool → Prop}, (∀ d ∈ items, ∀ Q : DV → Prop, Q (.dat (.bool (p d))) → gd d ρ fun ρ' => f ρ' Q) → K (if b0 = true then items.all p else items.any p) → agL b0 gd f ρ items K
  | [], K, _, k => by cases b0 <;> exact k
  | d :: ds, K, h, k => by
    refine h d List.mem_cons_self _ ⟨p d, rfl, ?_⟩
    cases b0 with
    | true =>
      simp only [List.all_cons, if_true] at k
      cases hp : p d with
      | true =>
        rw [hp, Bool.true_and] at k
        exact ag_fun (fun d hd => h d (List.mem_cons_of_mem _ hd)) (by simpa using k)
      | false =>
        rw [hp, Bool.false_and] at k
        exact k
    | false =>
      simp only [List.any_cons, Bool.false_eq_true, if_false] at k
      cases hp : p d with
      | false =>
        rw [hp, Bool.false_or] at k
        exact ag_fun (fun d hd => h d (List.mem_cons_of_mem _ hd)) (by simpa using k)
      | true =>
        rw [hp, Bool.true_or] at k
        exact k
/-- [f(x) for x in items] -/
theorem lc_fun {gd : GD} {f : FE} {ρ : DEnv} {q : PyData → PyData} : ∀ {items acc : List PyData} {K : List PyData → Prop}, (∀ d ∈ items, ∀ Q : DV → Prop, Q (.dat (q d)) → gd d ρ fun ρ' => f ρ' Q) → acc.length + items.length ≤ sizeLine → K (acc ++ items.map q) → lcL gd tYesD f ρ items acc K
  | [], acc, K, _, _, k => by simpa [lcL] using k
  | d :: ds, acc, K, h, hl, k => by
    simp only [List.length_cons] at hl
    exact h d List.mem_cons_self (fun x => ∃ e, x = .dat e ∧ acc.length < sizeLine ∧ lcL gd tYesD f ρ ds (acc ++ [e]) K) ⟨_, rfl, by omega, lc_fun (fun d hd => h d (List.mem_cons_of_mem _ hd)) (by simp; omega) (by simpa using k)⟩
/-- [f(x) for x in items if p(x)] -/
theorem lc_fil {gd : GD} {t : FT} {f : FE} {ρ : DEnv} {p : PyData → Bool} {q : PyData → PyData} : ∀ {items acc : List PyData} {K : List PyData → Prop}, (∀ d ∈ items, ∀ Q : DEnv → Bool → Prop, (∀ ρ', (∀ Q2 : DV → Prop, p d = true → Q2 (.dat (q d)) → f ρ' Q2) → Q ρ' (p d)) → gd d ρ fun ρ' => t ρ' (Q ρ')) → acc.length + items.length ≤ sizeLine → K (acc ++ (items.filter p).map q) → lcL gd t f ρ items acc K
  | [], acc, K, _, _, k => by simpa [lcL] using k
  | d :: ds, acc, K, h, hl, k => by
    simp only [List.length_cons] at hl
    refine h d List.mem_cons_self (fun ρ' b => iteB b (f ρ' fun x => ∃ e, x = .dat e ∧ acc.length < sizeLine ∧ lcL gd t f ρ ds (acc ++ [e]) K) (lcL gd t f ρ ds acc K)) fun ρ' hf => ?_
    cases hp : p d with
    | true => exact hf _ hp ⟨_, rfl, by omega, lc_fil (fun d hd => h d (List.mem_cons_of_mem _ hd)) (by simp; omega) (by simpa [List.filter_cons, hp] using k)⟩
    | false => exact lc_fil (fun d hd => h d (List.mem_cons_of_mem _ hd)) (by omega) (by simpa [List.filter_cons, hp] using k)
inductive All2 (R : PyData → PyData → Prop) : List PyData → List PyData → Prop
  | nil : All2 R [] []
  | cons {a b : PyData} {as bs : List PyData} : R a b → All2 R as bs → All2 R (a :: as) (b :: bs)
theorem All2.length {R : PyData → PyData → Prop} {as bs : List PyData} (h : All2 R as bs) : as.length = bs.length := by
  induction h with
  | nil => rfl
  | cons _ _ ih => simp [ih]
theorem All2.right {R : PyData → PyData → Prop} {as bs : List PyData} (h : All2 R as bs) : ∀ b ∈ bs, ∃ a ∈ as, R a b := by
  induction h with
  | nil => intro b hb; cases hb
  | cons r _ ih =>
    intro b hb
    rcases List.mem_cons.mp hb with rfl | hb
    · exact ⟨_, List.mem_cons_self, r⟩
    · obtain ⟨a, ha, hr⟩ := ih b hb
      exact ⟨a, List.mem_cons_of_mem _ ha, hr⟩
/-- any turns of a comprehension: what each may tell -/
theorem lc_any {gd : GD} {f : FE} {ρ : DEnv} {R : PyData → PyData → Prop} : ∀ {items acc : List PyData} {K : List PyData → Prop}, (∀ d ∈ items, ∀ Q : DV → Prop, (∀ e, R d e → Q (.dat e)) → gd d ρ fun ρ' => f ρ' Q) → acc.length + items.length ≤ sizeLine → (∀ es, All2 R items es → K (acc ++ es)) → lcL gd tYesD f ρ items acc K
  | [], acc, K, _, _, k => by simpa [lcL] using k [] .nil
  | d :: ds, acc, K, h, hl, k => by
    simp only [List.length_cons] at hl
    exact h d List.mem_cons_self (fun x => ∃ e, x = .dat e ∧ acc.length < sizeLine ∧ lcL gd tYesD f ρ ds (acc ++ [e]) K) fun e he => ⟨e, rfl, by omega, lc_any (fun d hd => h d (List.mem_cons_of_mem _ hd)) (by simp; omega) fun es hes => by simpa using k (e :: es) (.cons he hes)⟩
/-- a for, by an invariant of the turn -/
theorem for_inv {gd : GD} {body : FS} {E : DEnds} {items : List PyData} (Inv : Nat → DEnv → Prop) (step : ∀ i d ρ (N : DEnv → Prop), items[i]? = some d → Inv i ρ → (∀ ρ', Inv (i + 1) ρ' → N ρ') → gd d ρ fun ρ' => body { E with nx := N, ct := N, bk := E.nx } ρ')
    {ρ : DEnv} (h0 : Inv 0 ρ) (hd : ∀ ρ, Inv items.length ρ → E.nx ρ) : forL gd body E items ρ := by
  have go : ∀ (k : Nat) (ds : List PyData) (ρ : DEnv), k + ds.length = items.length → items.drop k = ds → Inv k ρ → forL gd body E ds ρ := by
    intro k ds
    induction ds generalizing k with
    | nil =>
      intro ρ hl _ h
      have : k = items.length := by simpa using hl
      subst this
      exact hd ρ h
    | cons d ds ih =>
      intro ρ hl hdr h
      have hk : k < items.length := by simp at hl; omega
      have e : items[k]? = some d := by
        have := congrArg List.head? hdr
        simpa using this
      exact step k d ρ _ e h fun ρ' h' => ih (k + 1) ρ' (by simp at hl; omega) (by rw [← List.drop_drop, hdr]; rfl) h'
  exact go 0 items ρ (by simp) (by simp) h0
/-- a for that looks: it ends early at an item that does not pass -/
theorem for_chk {gd : GD} {body : FS} {E : DEnds} {p : PyData → Bool} {R : Prop} (Inv : DEnv → Prop) : ∀ {items : List PyData} {ρ : DEnv}, (∀ d ∈ items, ∀ ρ (N : DEnv → Prop), Inv ρ → (p d = true → ∀ ρ', Inv ρ' → N ρ') → (p d = false → R) → gd d ρ fun ρ' => body { E with nx := N, ct := N, bk := E.nx } ρ') → Inv ρ → (items.all p = true → ∀ ρ', Inv ρ' → E.nx ρ') → (items.all p = false → R) → forL gd body E items ρ
  | [], ρ, _, h0, h1, _ => h1 rfl ρ h0
  | d :: ds, ρ, h, h0, h1, h2 => by
    refine h d List.mem_cons_self ρ _ h0 (fun hp ρ' h' => ?_) (fun hp => h2 (by rw [List.all_cons, hp]; rfl))
    refine for_chk Inv (fun d hd => h d (List.mem_cons_of_mem _ hd)) h' (fun ha => h1 (by rw [List.all_cons, hp, ha]; rfl)) (fun ha => h2 (by rw [List.all_cons, hp, ha]; rfl))
end DL

set_option Elab.async false
set_option linter.all false
set_option maxRecDepth 100000
set_option maxHeartbeats 1000000
/-! How much a datum shows: its weight, its depth, put together and cut. -/
namespace WT
open PySem PySem.Spec PyProof.Rows L2
mutual
def wt : PyData → Nat
  | .none => 5
  | .bool _ => 5
  | .int i => (PyData.shown (.int i)).length
  | .str z => (PyData.shown (.str z)).length + z.length
  | .list xs => wtL xs + 3
  | .tuple xs => wtL xs + 3
  | .dict kvs => wtK kvs + 3
def wtL : List PyData → Nat
  | [] => 0
  | x :: r => wt x + 2 + wtL r
def wtK : List (PyData × PyData) → Nat
  | [] => 0
  | (k, v) :: r => wt k + wt v + 4 + wtK r
end
def sumL (ts : List Str) : Nat := (ts.map (·.length)).sum
theorem from_len : ∀ (ts : List Str) (k : Nat) (acc : Str), (textFrom k acc ts).length ≤ acc.length + sumL ts + 2 * ts.length
  | [], k, acc => by
    show acc.length ≤ _
    simp [sumL]
  | t :: r, k, acc => by
    have ih := from_len r (k + 1) (acc ++ (if k > 0 then ", " else "" : String) ++ t)
    have e : (acc ++ Str.ofString (if k > 0 then ", " else "" : String) ++ t).length ≤ acc.length + 2 + t.length := by
      rw [Str.length_append, Str.length_append]
      by_cases h : k > 0
      · rw [if_pos h]
        show acc.length + 2 + t.length ≤ _
        omega
      · rw [if_neg h]
        show acc.length + 0 + t.length ≤ _
        omega
    show (textFrom (k + 1) (acc ++ Str.ofString (if k > 0 then ", " else "" : String) ++ t) r).length ≤ _
    refine Nat.le_trans ih ?_
    simp only [sumL, List.map_cons, List.sum_cons, List.length_cons]
    omega
theorem list_len (ts : List Str) : (listText ts).length ≤ sumL ts + 2 * ts.length + 2 := by
  unfold listText
  rw [Str.length_append]
  have := from_len ts 0 "["
  have e : ("[" : Str).length = 1 := rfl
  have e2 : ("]" : Str).length = 1 := rfl
  omega
theorem join_len (ts : List Str) : (Str.join ", " ts).length ≤ sumL ts + 2 * ts.length := by
  have := StrLaws.join_length_le ", " ts
  have e : (", " : Str).length = 2 := rfl
  rw [e] at this
  unfold sumL
  omega
theorem tuple_len (ts : List Str) : (tupleText ts).length ≤ sumL ts + 2 * ts.length + 3 := by
  unfold tupleText
  rw [Str.length_append, Str.length_append]
  have := join_len ts
  have e : ("(" : Str).length = 1 := rfl
  by_cases h : (ts.length == 1) = true
  · rw [if_pos h]
    have e2 : (Str.ofString ",)").length = 2 := rfl
    omega
  · rw [if_neg h]
    have e2 : (Str.ofString ")").length = 1 := rfl
    omega
theorem dict_len (ts : List Str) : (dictText ts).length ≤ sumL ts + 2 * ts.length + 2 := by
  unfold dictText
  rw [Str.length_append, Str.length_append]
  have := join_len ts
  have e : ("{" : Str).length = 1 := rfl
  have e2 : ("}" : Str).length = 1 := rfl
  omega
mutual
theorem shown_le : ∀ d : PyData, d.shown.length ≤ wt d
  | .none => by
    simp only [PyData.shown, wt]
    decide +kernel
  | .bool c => by
    simp only [PyData.shown, wt]
    cases c <;> decide +kernel
  | .int i => by
    unfold wt
    exact Nat.le_refl _
  | .str z => by
    unfold wt
    exact Nat.le_add_right _ _
  | .list xs => by
    simp only [PyData.shown, wt]
    obtain ⟨h1, h2⟩ := shown_leL xs
    have := list_len (PyData.shownAll xs)
    omega
  | .tuple xs => by
    simp only [PyData.shown, wt]
    obtain ⟨h1, h2⟩ := shown_leL xs
    have := tuple_len (PyData.shownAll xs)
    omega
  | .dict kvs => by
    simp only [PyData.shown, wt]
    have h1 := shown_leK kvs
    have := dict_len (PyData.shownKv kvs)
    omega
theorem shown_leL : ∀ xs : List PyData, sumL (PyData.shownAll xs) + 2 * (PyData.shownAll xs).length ≤ wtL xs ∧ (PyData.shownAll xs).length = xs.length
  | [] => ⟨by simp [PyData.shownAll, sumL, wtL], rfl⟩
  | x :: r => by
    have h1 := shown_le x
    obtain ⟨h2, h3⟩ := shown_leL r
    simp only [PyData.shownAll, wtL, sumL, List.map_cons, List.sum_cons, List.length_cons]
    unfold sumL at h2
    exact ⟨by omega, by omega⟩
theorem shown_leK : ∀ xs : List (PyData × PyData), sumL (PyData.shownKv xs) + 2 * (PyData.shownKv xs).length ≤ wtK xs
  | [] => by simp [PyData.shownKv, sumL, wtK]
  | (k, v) :: r => by
    have h1 := shown_le k
    have h2 := shown_le v
    have h3 := shown_leK r
    simp only [PyData.shownKv, wtK, sumL, List.map_cons, List.sum_cons, List.length_cons]
    unfold sumL at h3
    have e : (Str.ofString ": ").length = 2 := rfl
    simp only [Str.length_append]
    omega
end
theorem wtL_app (a b : List PyData) : wtL (a ++ b) = wtL a + wtL b := by
  induction a with
  | nil => simp [wtL]
  | cons x r ih => simp only [List.cons_append, wtL, ih]; omega
theorem wtL_take : ∀ (n : Nat) (a : List PyData), wtL (a.take n) ≤ wtL a
  | 0, a => by simp [wtL]
  | n + 1, [] => by simp [wtL]
  | n + 1, x :: r => by
    have := wtL_take n r
    simp only [List.take_succ_cons, wtL]
    omega
theorem wtL_drop : ∀ (n : Nat) (a : List PyData), wtL (a.drop n) ≤ wtL a
  | 0, a => by simp
  | n + 1, [] => by simp [wtL]
  | n + 1, x :: r => by
    have := wtL_drop n r
    simp only [List.drop_succ_cons, wtL]
    omega
theorem wtL_mem : ∀ {a : List PyData} {x : PyData}, x ∈ a → wt x + 2 ≤ wtL a
  | y :: r, x, h => by
    rcases List.mem_cons.mp h with rfl | h
    · simp only [wtL]; omega
    · have := wtL_mem h
      simp only [wtL]; omega
theorem wtL_len : ∀ a : List PyData, 2 * a.length ≤ wtL a
  | [] => by simp [wtL]
  | x :: r => by
    have := wtL_len r
    simp only [wtL, List.length_cons]; omega
/-- it can be shown, it is no deeper than s, weighs no more than w -/
structure Nb (s w : Nat) (d : PyData) : Prop where
  sh : d.showable = true
  dp : d.depth ≤ s
  w : wt d ≤ w
structure NbL (s w : Nat) (xs : List PyData) : Prop where
  sh : PyData.showableAll xs = true
  dp : PyData.depthAll xs ≤ s
  w : wtL xs ≤ w
theorem Nb.mono {s w s' w' : Nat} {d : PyData} (h : Nb s w d) (h1 : s ≤ s') (h2 : w ≤ w') : Nb s' w' d := ⟨h.sh, Nat.le_trans h.dp h1, Nat.le_trans h.w h2⟩
theorem NbL.mono {s w s' w' : Nat} {d : List PyData} (h : NbL s w d) (h1 : s ≤ s') (h2 : w ≤ w') : NbL s' w' d := ⟨h.sh, Nat.le_trans h.dp h1, Nat.le_trans h.w h2⟩
theorem NbL.nil (s w : Nat) : NbL s w [] := ⟨rfl, by simp [PyData.depthAll], by simp [wtL]⟩
theorem NbL.cons {s w w' : Nat} {x : PyData} {xs : List PyData} (h : Nb s w x) (k : NbL s w' xs) : NbL s (w + 2 + w') (x :: xs) := ⟨by
  show (x.showable && PyData.showableAll xs) = true
  rw [h.sh, k.sh]
  rfl, by
  have := h.dp
  have := k.dp
  simp only [PyData.depthAll]
  omega, by
  have := h.w
  have := k.w
  simp only [wtL]
  omega⟩
theorem NbL.tup {s w : Nat} {xs : List PyData} (h : NbL s w xs) : Nb (s + 1) (w + 3) (.tuple xs) := ⟨h.sh, by
  have := h.dp
  simp only [PyData.depth]
  omega, by
  have := h.w
  simp only [wt]
  omega⟩
theorem NbL.lst {s w : Nat} {xs : List PyData} (h : NbL s w xs) : Nb (s + 1) (w + 3) (.list xs) := ⟨h.sh, by
  have := h.dp
  simp only [PyData.depth]
  omega, by
  have := h.w
  simp only [wt]
  omega⟩
theorem Nb.ofTup {s w : Nat} {xs : List PyData} (h : Nb (s + 1) (w + 3) (.tuple xs)) : NbL s w xs := ⟨h.sh, by
  have := h.dp
  simp only [PyData.depth] at this
  omega, by
  have := h.w
  simp only [wt] at this
  omega⟩
theorem Nb.parts {s w : Nat} {xs : List PyData} (h : Nb s w (.tuple xs)) : NbL (s - 1) (w - 3) xs ∧ 1 ≤ s ∧ 3 ≤ w := by
  have h1 := h.dp
  have h2 := h.w
  simp only [PyData.depth] at h1
  simp only [wt] at h2
  exact ⟨⟨h.sh, by omega, by omega⟩, by omega, by omega⟩
theorem showAll_app : ∀ (a b : List PyData), PyData.showableAll (a ++ b) = (PyData.showableAll a && PyData.showableAll b)
  | [], b => rfl
  | x :: r, b => by
    show (x.showable && PyData.showableAll (r ++ b)) = ((x.showable && PyData.showableAll r) && PyData.showableAll b)
    rw [showAll_app r b, Bool.and_assoc]
theorem depthAll_app : ∀ (a b : List PyData), PyData.depthAll (a ++ b) = max (PyData.depthAll a) (PyData.depthAll b)
  | [], b => by simp [PyData.depthAll]
  | x :: r, b => by
    simp only [List.cons_append, PyData.depthAll, depthAll_app r b]
    omega
theorem NbL.app {s w w' : Nat} {a b : List PyData} (h : NbL s w a) (k : NbL s w' b) : NbL s (w + w') (a ++ b) := ⟨by rw [showAll_app, h.sh, k.sh]; rfl, by
  rw [depthAll_app]
  have := h.dp
  have := k.dp
  omega, by
  rw [wtL_app]
  have := h.w
  have := k.w
  omega⟩
theorem NbL.take {s w : Nat} {a : List PyData} (n : Nat) (h : NbL s w a) : NbL s w (a.take n) := by
  have e := List.take_append_drop n a
  have h1 := h.sh
  have h2 := h.dp
  rw [← e, showAll_app, Bool.and_eq_true] at h1
  rw [← e, depthAll_app] at h2
  exact ⟨h1.1, by omega, Nat.le_trans (wtL_take n a) h.w⟩
theorem NbL.drop {s w : Nat} {a : List PyData} (n : Nat) (h : NbL s w a) : NbL s w (a.drop n) := by
  have e := List.take_append_drop n a
  have h1 := h.sh
  have h2 := h.dp
  rw [← e, showAll_app, Bool.and_eq_true] at h1
  rw [← e, depthAll_app] at h2
  exact ⟨h1.2, by omega, Nat.le_trans (wtL_drop n a) h.w⟩
theorem NbL.mem {s w : Nat} {x : PyData} : ∀ {a : List PyData}, NbL s w a → x ∈ a → Nb s w x
  | y :: r, h, m => by
    have h1 : (y.showable && PyData.showableAll r) = true := h.sh
    have h2 := h.dp
    have h3 := h.w
    rw [Bool.and_eq_true] at h1
    simp only [PyData.depthAll] at h2
    simp only [wtL] at h3
    rcases List.mem_cons.mp m with rfl | m
    · exact ⟨h1.1, by omega, by omega⟩
    · exact NbL.mem (a := r) ⟨h1.2, by omega, by omega⟩ m
theorem NbL.len {s w : Nat} {a : List PyData} (h : NbL s w a) : 2 * a.length ≤ w := Nat.le_trans (wtL_len a) h.w
theorem Nb.str {s w : Nat} {z : Str} (h : Nb s w (.str z)) : z.length ≤ w := by
  have := h.w
  simp only [wt] at this
  omega
theorem Nb.say {s w : Nat} {d : PyData} (h : Nb s w d) (h1 : s ≤ 150) (h2 : w ≤ sizeLine) : d.showable = true ∧ d.depth ≤ 150 ∧ d.shown.length ≤ sizeLine := ⟨h.sh, Nat.le_trans h.dp h1, Nat.le_trans (shown_le d) (Nat.le_trans h.w h2)⟩
end WT

set_option Elab.async false
set_option linter.all false
set_option maxRecDepth 100000
set_option maxHeartbeats 4000000
/-! The numbers that a script gives, drawn one by one. -/
namespace KA
open PySem PySem.Spec PyProof.Rows L2 KT
def topS (i : Nat) : Stmt := PySem.Challenge.pw_quicktongue_k90_clocks_and_outcomes.main.body.getD i (.Pass ⟨0, 0, 0, 0⟩)
abbrev s_is_whole : Stmt := topS 7
abbrev s_is_word : Stmt := topS 9
abbrev s_is_machine : Stmt := topS 12
abbrev s_outcome : Stmt := topS 13
abbrev s_require_machine : Stmt := topS 14
abbrev s_require_clock : Stmt := topS 15
abbrev s_fits_state : Stmt := topS 16
abbrev s_fits_rule : Stmt := topS 17
abbrev s_clock_steps : Stmt := topS 18
abbrev s_later_standing : Stmt := topS 19
abbrev s_next_standing : Stmt := topS 20
abbrev s_piles_after : Stmt := topS 21
abbrev s__law_deck : Stmt := topS 23
abbrev s__law_draw : Stmt := topS 24
abbrev s__law_pick : Stmt := topS 25
abbrev s__law_word : Stmt := topS 26
abbrev s__law_same : Stmt := topS 27
abbrev s__law_is_integer : Stmt := topS 28
abbrev s__law_is_number : Stmt := topS 29
abbrev s__law_is_word : Stmt := topS 30
abbrev s__law_machine : Stmt := topS 31
abbrev s__law_is_machine : Stmt := topS 32
abbrev s__law_pile_step : Stmt := topS 33
abbrev s__law_after : Stmt := topS 34
abbrev s__law_clock : Stmt := topS 35
abbrev s__law_outcome : Stmt := topS 36
abbrev s__law_tried : Stmt := topS 37
abbrev s__law_told_machine : Stmt := topS 38
abbrev s_law : Stmt := topS 39
abbrev m_BadWord___init__ : Stmt := (C8.clsBody (topS 2)).getD 0 (.Pass ⟨0, 0, 0, 0⟩)
abbrev m_BadNumber___init__ : Stmt := (C8.clsBody (topS 3)).getD 0 (.Pass ⟨0, 0, 0, 0⟩)
abbrev m_BadStanding___init__ : Stmt := (C8.clsBody (topS 4)).getD 0 (.Pass ⟨0, 0, 0, 0⟩)
abbrev m_BadMachine___init__ : Stmt := (C8.clsBody (topS 5)).getD 0 (.Pass ⟨0, 0, 0, 0⟩)
/-! ### the deck: a dict with a list -/
def kL : Key := .inr "left"
def kM : Key := .inr "mixed"
def kD : Key := .inr "draws"
def kvD (L : Addr) (m k : Int) : List (Key × V) := [(kL, .ref L), (kM, .int m), (kD, .int k)]
theorem i12 : ¬ (kL = kM) := by decide +kernel
theorem i13 : ¬ (kL = kD) := by decide +kernel
theorem i23 : ¬ (kM = kD) := by decide +kernel
theorem kv_l (L : Addr) (m k : Int) : valV (kvD L m k) kL = some (.ref L) := valV_pos rfl
theorem kv_m (L : Addr) (m k : Int) : valV (kvD L m k) kM = some (.int m) := (valV_neg i12).trans (valV_pos rfl)
theorem kv_d (L : Addr) (m k : Int) : valV (kvD L m k) kD = some (.int k) := (valV_neg i13).trans ((valV_neg i23).trans (valV_pos rfl))
theorem kput_m (L : Addr) (m k m' : Int) : putK (kvD L m k) kM (.int m') = kvD L m' k := by
  simp [putK, kvD, i12, i13, i23, Ne.symm i12, Ne.symm i13, Ne.symm i23]
theorem kput_d (L : Addr) (m k k' : Int) : putK (kvD L m k) kD (.int k') = kvD L m k' := by
  simp [putK, kvD, i12, i13, i23, Ne.symm i12, Ne.symm i13, Ne.symm i23]
theorem merge_deck (L : Addr) (m k : Int) : mergeK [] (kvD L m k) = kvD L m k := by
  simp [mergeK, putK, kvD, i12, i13, i23, Ne.symm i12, Ne.symm i13, Ne.symm i23]
/-- a deck stands at d, its list at L -/
def DK (d L : Addr) (H : Hp) : Prop := ∃ (ns : List Int) (m k : Int), H d = some (.dK (kvD L m k)) ∧ H L = some (.lst (ns.map V.int)) ∧ 0 ≤ m ∧ m < 2147483648 ∧ ns.length ≤ 64
/-- a draw has been: the deck again, all else as it was -/
structure Fr (d L : Addr) (H H' : Hp) : Prop where
  dk : DK d L H'
  st : ∀ b o, b ≠ d → b ≠ L → H b = some o → H' b = some o
theorem Fr.trans {d L : Addr} {H H1 H2 : Hp} (a : Fr d L H H1) (b : Fr d L H1 H2) : Fr d L H H2 := ⟨b.dk, fun c o h1 h2 h => b.st c o h1 h2 (a.st c o h1 h2 h)⟩
theorem DK.ne {d L : Addr} {H : Hp} (h : DK d L H) : d ≠ L := by
  obtain ⟨ns, m, k, h1, h2, _⟩ := h
  exact ne_of h1 h2 (by intro z; cases z)
theorem DK.upd {d L p : Addr} {H : Hp} {o : HO} (h : DK d L H) (hp : H p = none) : DK d L (upd H p o) := by
  obtain ⟨ns, m, k, h1, h2, h3⟩ := h
  exact ⟨ns, m, k, by rw [upd_ne (ne_of_none h1 hp)]; exact h1, by rw [upd_ne (ne_of_none h2 hp)]; exact h2, h3⟩
theorem Fr.new {d L p : Addr} {H : Hp} {o : HO} (h : DK d L H) (hp : H p = none) : Fr d L H (L2.upd H p o) := ⟨h.upd hp, fun b x _ _ e => by
  rw [upd_ne (ne_of_none e hp)]
  exact e⟩
theorem Fr.refl {d L : Addr} {H : Hp} (h : DK d L H) : Fr d L H H := ⟨h, fun _ _ _ _ e => e⟩
theorem Fr.fresh {d L D : Addr} {H H2 : Hp} (f : Fr d L H H2) (n : H2 D = none) : H D = none ∧ D ≠ d ∧ D ≠ L := by
  obtain ⟨ns, m, k, h1, h2, _⟩ := f.dk
  have nd : D ≠ d := (ne_of_none h1 n).symm
  have nL : D ≠ L := (ne_of_none h2 n).symm
  refine ⟨?_, nd, nL⟩
  cases e : H D with
  | none => rfl
  | some o =>
    rw [f.st D o nd nL e] at n
    cases n
theorem DK.mut {d L D : Addr} {H : Hp} {o : HO} (h : DK d L H) (nd : D ≠ d) (nL : D ≠ L) : DK d L (L2.upd H D o) := by
  obtain ⟨ns, m, k, h1, h2, h3⟩ := h
  exact ⟨ns, m, k, by rw [upd_ne nd.symm]; exact h1, by rw [upd_ne nL.symm]; exact h2, h3⟩
/-- an object that was not there at H changes -/
theorem Fr.mut {d L D : Addr} {H H' : Hp} {o : HO} (f : Fr d L H H') (n : H D = none) (nd : D ≠ d) (nL : D ≠ L) : Fr d L H (L2.upd H' D o) := ⟨f.dk.mut nd nL, fun b x h1 h2 e => by
  rw [upd_ne (ne_of_none e n)]
  exact f.st b x h1 h2 e⟩
theorem dp_ints {K : PySem.W.Frag} {H : Hp} : ∀ ns : List Int, DpAll K H (ns.map V.int) (ns.map PyData.int)
  | [] => .nil
  | n :: r => .cons (.int n) (dp_ints r)
theorem lay_ints : ∀ ns : List Int, PyData.canLayAll0 (ns.map PyData.int) = true
  | [] => rfl
  | n :: r => by
    show (PyData.canLay0 (.int n) && PyData.canLayAll0 (r.map PyData.int)) = true
    rw [lay_ints r]
    rfl
theorem dep_ints : ∀ ns : List Int, PyData.depthAll (ns.map PyData.int) ≤ 1
  | [] => by simp [PyData.depthAll]
  | n :: r => by
    have h := dep_ints r
    simp only [List.map_cons, PyData.depthAll, PyData.depth]
    omega
theorem shaped_ints (ns : List Int) : SeqAt.shaped (.list (ns.map PyData.int)) = true := by
  unfold SeqAt.shaped
  rw [Bool.and_eq_true]
  refine ⟨lay_ints ns, decide_eq_true ?_⟩
  have h := dep_ints ns
  simp only [PyData.depth]
  omega
theorem cut63 (ns : List Int) : cutV (ns.map V.int) none (some 63) = (ns.take 63).map V.int := by
  unfold cutV
  rw [HT.sIx_none, show HT.sIx (ns.map V.int).length (ns.map V.int).length (some (63 : Int)) = min 63 (ns.map V.int).length from HT.sIx_nat _ _ 63]
  rw [List.drop_zero, Nat.sub_zero, List.map_take]
  rw [List.length_map]
  by_cases h : 63 ≤ ns.length
  · rw [Nat.min_eq_left h]
  · rw [Nat.min_eq_right (by omega), List.take_of_length_le (by simp), List.take_of_length_le (by rw [List.length_map]; omega)]
/-! ### what stands at the top -/
structure Tb (mg : Str → Option Value) : Prop where
  int : mg "int" = none
  list : mg "list" = none
  max : mg "max" = none
  len : mg "len" = none
  range : mg "range" = none
  tuple : mg "tuple" = none
  isinstance : mg "isinstance" = none
  repr : mg "repr" = none
abbrev N__law_deck : List Str := ["_law_script", "_law_mixed", "_law_cell"]
abbrev P__law_deck : List Str := ["_law_script"]
theorem sc__law_deck : FnScope N__law_deck P__law_deck (defScope s__law_deck) := ⟨rfl, rfl, rfl, by decide +kernel, rfl, by decide +kernel, by decide +kernel⟩
abbrev N__law_draw : List Str := ["_law_deck_here", "_law_many", "_law_cell", "_law_figure"]
abbrev P__law_draw : List Str := ["_law_deck_here", "_law_many"]
theorem sc__law_draw : FnScope N__law_draw P__law_draw (defScope s__law_draw) := ⟨rfl, rfl, rfl, by decide +kernel, rfl, by decide +kernel, by decide +kernel⟩
abbrev N__law_pick : List Str := ["_law_deck_here", "_law_some"]
abbrev P__law_pick : List Str := ["_law_deck_here", "_law_some"]
theorem sc__law_pick : FnScope N__law_pick P__law_pick (defScope s__law_pick) := ⟨rfl, rfl, rfl, by decide +kernel, rfl, by decide +kernel, by decide +kernel⟩
section
variable {P : Program} {w : World} {K : PySem.W.Frag} {mg : Str → Option Value} {base : Heap}
def spDeck (K : PySem.W.Frag) : Sp := fun vs H Q _ => ∃ (a : Addr) (ns : List Int), vs = [.ref a] ∧ SqL K H a (ns.map V.int) ∧
  ∀ d L H', (∀ b o, H b = some o → H' b = some o) → H d = none → H L = none → DK d L H' → Q (.ref d) H'
theorem ok_deck {fd : FuncData} (D : Df K mg "_law_deck" s__law_deck P__law_deck fd) (T : Tb mg) : FnOk P w K mg base CX0 1 (He.fAd K ("_law_deck", none)) fd P__law_deck (spDeck K) := by
  refine (fun_of D.F).ok sc__law_deck (fun vs H Q E h => ?_) (fun cdv A outer s H vs Q E hr h => ?_)
  · obtain ⟨a, ns, rfl, _⟩ := h
    rfl
  · obtain ⟨a, ns, rfl, hS, q⟩ := h
    refine ⟨_, (pss_cons (ps_set (i := 1) sc__law_deck.nd rfl (.inl rfl) pe_int)
      (pss_cons (ps_for PassesOwn.never rfl (pi_list (pe_slice sl_list (pv 0) po_none (po_some pe_int))) (pg_name (i := 2) sc__law_deck.nd rfl (.inl rfl)) (pss_one (ps_set (i := 1) sc__law_deck.nd rfl (.inl rfl) (pe_op op_mod (pe_callTy call_int1 (by rfl) T.int (by decide +kernel) (pa_cons (pe_op op_add (pe_op op_add (pe_op op_mul (pv 1) pe_int) (pe_op op_mod (pe_callTy call_int1 (by rfl) T.int (by decide +kernel) (pa_cons (pv 2) pa_nil)) pe_int)) pe_int) pa_nil)) pe_int))))
      (pss_one (ps_ret (pe_disp (pps_cons pe_str (pe_revL (pe_callTy call_list_of (by rfl) T.list (by decide +kernel) (pa_cons (pe_slice sl_list (pv 0) po_none (po_some pe_int)) pa_nil))) (pps_cons pe_str (pv 1) (pps_cons pe_str pe_int pps_nil))) (by rfl) (by rfl) (fun z => by cases z) (by decide)))))), ?_⟩
    refine ⟨_, rfl, 63, rfl, a, _, rfl, hS, fun p np => ?_⟩
    have st : ∀ b o, H b = some o → (upd H p (.lst (cutV (ns.map V.int) none (some 63)))) b = some o := fun b o e => by
      rw [upd_ne (ne_of_none e np)]
      exact e
    have st2 : Same H (upd H p (.lst (cutV (ns.map V.int) none (some 63)))) := st
    have hp : SqL K (upd H p (.lst (cutV (ns.map V.int) none (some 63)))) p (cutV (ns.map V.int) none (some 63)) := SqL.of upd_same
    generalize upd H p (.lst (cutV (ns.map V.int) none (some 63))) = H1 at st st2 hp
    have hA := st2.seq hS
    rw [cut63] at hp
    refine ⟨p, rfl, ⟨_, hp⟩, for_list (K := K) (a := p) (xs := (ns.take 63).map V.int) (fun i σ H' => H' = H1 ∧ ∃ m c, σ = [some (.ref a), some (.int m), c] ∧ 0 ≤ m ∧ m < 2147483648) ⟨rfl, 13745090, none, rfl, by decide, by decide⟩ (fun i σ H' _ h => by rw [h.1]; exact hp) (fun i x σ H' hx h => ?_) (fun σ H' h => ?_)⟩
    · obtain ⟨rfl, m, c, rfl, m0, m1⟩ := h
      obtain ⟨y, rfl⟩ : ∃ y, x = V.int y := by
        rw [List.getElem?_map] at hx
        obtain ⟨y, _, e⟩ := Option.map_eq_some_iff.mp hx
        exact ⟨y, e.symm⟩
      refine ⟨_, rfl, _, _, rfl, rfl, .inl ⟨by omega, by omega⟩, _, rfl, .inl ⟨_, rfl, _, _, rfl, rfl, (by show (0 : Int) < _; decide), _, _, rfl, rfl, _, _, rfl, rfl, .inl ⟨_, rfl, _, _, rfl, rfl, (by show (0 : Int) < _; decide), ?_⟩⟩⟩
      refine ⟨rfl, _, _, rfl, Int.emod_nonneg _ (by decide), ?_⟩
      exact Int.lt_trans (Int.emod_lt_of_pos _ (by decide)) (by decide)
    · obtain ⟨rfl, m, c, rfl, m0, m1⟩ := h
      intro d nd
      have ndH : H d = none := Same.free st2 nd
      have s3 : Same H' (upd H' d (.dK [])) := fun b o e => by
        rw [upd_ne (ne_of_none e nd)]
        exact e
      refine ⟨_, rfl, 63, rfl, a, _, rfl, s3.seq hA, fun p1 n1 => ⟨p1, _, rfl, .inl (SqL.of upd_same), fun p2 n2 => ⟨p2, _, rfl, SqL.of upd_same, fun p3 n3 => ?_⟩⟩⟩
      have e1 : d ≠ p1 := ne_of_none upd_same n1
      have e2 : d ≠ p2 := fun e => by
        rw [← e, upd_ne e1, upd_same] at n2
        cases n2
      have e3 : d ≠ p3 := fun e => by
        rw [← e, upd_ne e2, upd_ne e1, upd_same] at n3
        cases n3
      have g : ∀ b o, H' b = some o → (upd (upd (upd (upd H' d (.dK [])) p1 (.lst (cutV (ns.map V.int) none (some 63)))) p2 (.lst (cutV (ns.map V.int) none (some 63)))) p3 (.lst (cutV (ns.map V.int) none (some 63)).reverse)) b = some o := fun b o e => by
        have f1 : (upd H' d (.dK [])) b = some o := s3 b o e
        have f2 : (upd (upd H' d (.dK [])) p1 (.lst (cutV (ns.map V.int) none (some 63)))) b = some o := by
          rw [upd_ne (ne_of_none f1 n1)]
          exact f1
        have f3 : (upd (upd (upd H' d (.dK [])) p1 (.lst (cutV (ns.map V.int) none (some 63)))) p2 (.lst (cutV (ns.map V.int) none (some 63)))) b = some o := by
          rw [upd_ne (ne_of_none f2 n2)]
          exact f2
        rw [upd_ne (ne_of_none f3 n3)]
        exact f3
      have n3' : H' p3 = none := by
        cases e : H' p3 with
        | none => rfl
        | some o =>
          have f1 : (upd H' d (.dK [])) p3 = some o := s3 p3 o e
          have f2 : (upd (upd H' d (.dK [])) p1 (.lst (cutV (ns.map V.int) none (some 63)))) p3 = some o := by
            rw [upd_ne (ne_of_none f1 n1)]
            exact f1
          have f3 : (upd (upd (upd H' d (.dK [])) p1 (.lst (cutV (ns.map V.int) none (some 63)))) p2 (.lst (cutV (ns.map V.int) none (some 63)))) p3 = some o := by
            rw [upd_ne (ne_of_none f2 n2)]
            exact f2
          rw [f3] at n3
          cases n3
      refine ⟨_, rfl, by rw [upd_ne e3, upd_ne e2, upd_ne e1, upd_same], kvD p3 m 0, rfl, (by show 3 ≤ 15; decide), ?_⟩
      rw [merge_deck]
      refine q d p3 _ (fun b o e => ?_) ndH (Same.free st2 n3') ⟨(ns.take 63).reverse, m, 0, upd_same, ?_, m0, m1, ?_⟩
      · have e' := st b o e
        rw [upd_ne (ne_of_none e' nd)]
        exact g b o e'
      · rw [upd_ne e3.symm, upd_same, cut63, List.map_reverse]
      · rw [List.length_reverse, List.length_take]
        omega
/-! ### a draw -/
theorem dg_l {H : Hp} {d L : Addr} {m k : Int} (h : H d = some (.dK (kvD L m k))) : DGet H d (.str "left") (some (.ref L)) := by
  have e : DGet H d (kV kL) (valV (kvD L m k) kL) := DGet.k h
  rw [kv_l] at e
  exact e
theorem dg_m {H : Hp} {d L : Addr} {m k : Int} (h : H d = some (.dK (kvD L m k))) : DGet H d (.str "mixed") (some (.int m)) := by
  have e : DGet H d (kV kM) (valV (kvD L m k) kM) := DGet.k h
  rw [kv_m] at e
  exact e
theorem dg_d {H : Hp} {d L : Addr} {m k : Int} (h : H d = some (.dK (kvD L m k))) : DGet H d (.str "draws") (some (.int k)) := by
  have e : DGet H d (kV kD) (valV (kvD L m k) kD) := DGet.k h
  rw [kv_d] at e
  exact e
theorem dp_m {H : Hp} {d L : Addr} {m k m' : Int} (h : H d = some (.dK (kvD L m k))) : DPut H d (.str "mixed") (.int m') (upd H d (.dK (kvD L m' k))) := by
  have e : DPut H d (kV kM) (.int m') (upd H d (.dK (putK (kvD L m k) kM (.int m')))) := DPut.k h (by show 3 < sizeLine; decide)
  rw [kput_m] at e
  exact e
theorem dp_d {H : Hp} {d L : Addr} {m k k' : Int} (h : H d = some (.dK (kvD L m k))) : DPut H d (.str "draws") (.int k') (upd H d (.dK (kvD L m k'))) := by
  have e : DPut H d (kV kD) (.int k') (upd H d (.dK (putK (kvD L m k) kD (.int k')))) := DPut.k h (by show 3 < sizeLine; decide)
  rw [kput_d] at e
  exact e
theorem eqv_nil (ns : List Int) : PyData.eqv (.list (ns.map PyData.int)) (.list []) = ns.isEmpty := by
  cases ns <;> simp [PyData.eqv, PyData.eqvAll]
def spDraw : Sp := fun vs H Q _ => ∃ (d L : Addr) (n : Int), vs = [.ref d, .int n] ∧ DK d L H ∧ 0 < n ∧ n ≤ 1000000000 ∧ ∀ (r : Int) H', 0 ≤ r → r < n → Fr d L H H' → Q (.int r) H'
theorem ok_draw {fd : FuncData} (D : Df K mg "_law_draw" s__law_draw P__law_draw fd) (T : Tb mg) : FnOk P w K mg base CX0 1 (He.fAd K ("_law_draw", none)) fd P__law_draw spDraw := by
  refine (fun_of D.F).ok sc__law_draw (fun vs H Q E h => ?_) (fun cdv A outer s H vs Q E hr h => ?_)
  · obtain ⟨d, L, n, rfl, _⟩ := h
    rfl
  · obtain ⟨d, L, n, rfl, ⟨ns, m, k, hd, hL, m0, m1, hl⟩, n0, n1, q⟩ := h
    have hu := hu_of hr
    have ndL : d ≠ L := ne_of hd hL (by intro z; cases z)
    refine ⟨_, (pss_cons (ps_dput hu (pv 0) pe_str (pe_op op_add (pe_dget hu (pv 0) pe_str (fun _ _ => rfl)) pe_int) rfl)
      (C8.pss_cut (ps_if (pt_cmpR (op_neD hr.units) (pe_dget hu (pv 0) pe_str (fun _ _ => rfl)) (pe_lst pa_nil) (nomark _)) (pss_cons (ps_set (i := 2) sc__law_draw.nd rfl (.inl rfl) (pe_bm0 PySem.F.plainAttrs_list PySem.F.slot_list_pop PySem.F.type_list_pop mt_pop (pe_dget hu (pv 0) pe_str (fun _ _ => rfl))))
          (pss_cons (ps_if (pt_cmpR op_ge (pv 2) (pe_op op_pow pe_int pe_int) (nomark _)) (pss_cons (ps_expr (pe_bm PySem.F.plainAttrs_list PySem.F.slot_list_append PySem.F.type_list_append mt_append (pe_dget hu (pv 0) pe_str (fun _ _ => rfl)) (pa_cons (pe_op op_fdiv (pv 2) (pe_callB (call_max2 rfl) (by rfl) T.max (by decide +kernel) (pa_cons pe_int (pa_cons (pv 1) pa_nil)))) pa_nil)))
              (pss_one (ps_ret (pe_op op_mod (pe_callTy call_int1 (by rfl) T.int (by decide +kernel) (pa_cons (pv 2) pa_nil)) (pv 1))))) pss_nil)
          (pss_one (ps_dput hu (pv 0) pe_str (pe_op op_mod (pe_callTy call_int1 (by rfl) T.int (by decide +kernel) (pa_cons (pe_op op_add (pe_op op_add (pe_op op_mul (pe_dget hu (pv 0) pe_str (fun _ _ => rfl)) pe_int) (pe_op op_mod (pe_callTy call_int1 (by rfl) T.int (by decide +kernel) (pa_cons (pv 2) pa_nil)) pe_int)) pe_int) pa_nil)) pe_int) rfl)))) pss_nil)
      (pss_cons (ps_set (i := 3) sc__law_draw.nd rfl (.inl rfl) (pe_op op_mod (pe_callTy call_int1 (by rfl) T.int (by decide +kernel) (pa_cons (pe_op op_add (pe_dget hu (pv 0) pe_str (fun _ _ => rfl)) (pe_op op_mul pe_int (pe_dget hu (pv 0) pe_str (fun _ _ => rfl)))) pa_nil)) pe_int))
      (pss_cons (ps_set (i := 3) sc__law_draw.nd rfl (.inl rfl) (pe_op op_mod (pe_callTy call_int1 (by rfl) T.int (by decide +kernel) (pa_cons (pe_op op_add (pe_op op_add (pe_op op_mul (pv 3) (pv 3)) (pe_op op_mul pe_int (pe_dget hu (pv 0) pe_str (fun _ _ => rfl)))) pe_int) pa_nil)) pe_int))
      (pss_cons (ps_set (i := 3) sc__law_draw.nd rfl (.inl rfl) (pe_op op_mod (pe_callTy call_int1 (by rfl) T.int (by decide +kernel) (pa_cons (pe_op op_add (pe_op op_mul (pv 3) pe_int) pe_int) pa_nil)) pe_int))
      (pss_one (ps_ret (pe_op op_mod (pe_callTy call_int1 (by rfl) T.int (by decide +kernel) (pa_cons (pe_op op_fdiv (pv 3) pe_int) pa_nil)) (pv 1))))))))), ?_⟩
    -- draws
    refine ⟨_, rfl, _, _, rfl, dg_d hd, _, _, rfl, rfl, _, rfl, d, _, rfl, dp_d hd, ?_⟩
    have st1 : ∀ b o, b ≠ d → b ≠ L → H b = some o → (upd H d (.dK (kvD L m (k + 1)))) b = some o := fun b o h1 _ e => by
      rw [upd_ne h1]
      exact e
    have hd1 : (upd H d (.dK (kvD L m (k + 1)))) d = some (.dK (kvD L m (k + 1))) := upd_same
    have hL1 : (upd H d (.dK (kvD L m (k + 1)))) L = some (.lst (ns.map V.int)) := by
      rw [upd_ne ndL.symm]
      exact hL
    generalize upd H d (.dK (kvD L m (k + 1))) = H1 at st1 hd1 hL1
    generalize k + 1 = k1 at hd1
    refine ⟨fun σ' H' => ∃ (ns' : List Int) (m' : Int) (c : Option V), σ' = [some (.ref d), some (.int n), c, none] ∧ H' d = some (.dK (kvD L m' k1)) ∧ H' L = some (.lst (ns'.map V.int)) ∧ 0 ≤ m' ∧ m' < 2147483648 ∧ ns'.length ≤ 64 ∧ ∀ b o, b ≠ d → b ≠ L → H b = some o → H' b = some o, ?_, fun σ' H' hM => ?_⟩
    · -- left != []
      refine ⟨_, rfl, _, _, rfl, dg_l hd1, Nat.zero_le _, fun p np => ?_⟩
      have pL : p ≠ L := (ne_of_none hL1 np).symm
      have pd : p ≠ d := (ne_of_none hd1 np).symm
      have st2 : ∀ b o, b ≠ d → b ≠ L → H b = some o → (upd H1 p (.lst [])) b = some o := fun b o h1 h2 e => by
        have e' := st1 b o h1 h2 e
        rw [upd_ne (ne_of_none e' np)]
        exact e'
      have hL2 : (upd H1 p (.lst [])) L = some (.lst (ns.map V.int)) := by
        rw [upd_ne pL.symm]
        exact hL1
      have hd2 : (upd H1 p (.lst [])) d = some (.dK (kvD L m k1)) := by
        rw [upd_ne pd.symm]
        exact hd1
      have hp2 : (upd H1 p (.lst [])) p = some (.lst []) := upd_same
      generalize upd H1 p (.lst []) = H2 at st2 hL2 hd2 hp2
      refine ⟨_, _, .lst (SqL.of hL2) (dp_ints ns), .lst (SqL.of hp2) .nil, shaped_ints ns, by decide +kernel, _, rfl, ?_⟩
      rw [eqv_nil]
      cases ns with
      | nil => exact ⟨[], m, none, rfl, hd2, hL2, m0, m1, hl, st2⟩
      | cons y r =>
        obtain ⟨r', y', er⟩ : ∃ r' y', y :: r = r' ++ [y'] := ⟨(y :: r).dropLast, (y :: r).getLast (List.cons_ne_nil _ _), (List.dropLast_concat_getLast _).symm⟩
        rw [er] at hL2 hl
        have hl' : r'.length + 1 ≤ 64 := by simpa using hl
        refine iteT ?_
        refine ⟨_, rfl, _, _, rfl, dg_l hd2, .inl ⟨rfl, _, SqL.of hL2⟩, L, _, .int y', rfl, rfl, hL2, by simp, ?_⟩
        have el : ((r' ++ [y']).map V.int).dropLast = r'.map V.int := by
          rw [List.map_append, List.map_singleton, List.dropLast_concat]
        rw [el]
        have hL3 : (upd H2 L (.lst (r'.map V.int))) L = some (.lst (r'.map V.int)) := upd_same
        have hd3 : (upd H2 L (.lst (r'.map V.int))) d = some (.dK (kvD L m k1)) := by
          rw [upd_ne ndL]
          exact hd2
        have st3 : ∀ b o, b ≠ d → b ≠ L → H b = some o → (upd H2 L (.lst (r'.map V.int))) b = some o := fun b o h1 h2 e => by
          rw [upd_ne h2]
          exact st2 b o h1 h2 e
        generalize upd H2 L (.lst (r'.map V.int)) = H3 at hL3 hd3 st3
        refine ⟨_, rfl, 10, 18, rfl, rfl, ⟨by decide, by decide, by decide⟩, _, _, rfl, rfl, _, rfl, ite2 (fun hy => ?_) (fun hy => ?_)⟩
        · -- the cell goes back, less a figure
          have hmx : (0 : Int) < (if n > 2 then n else 2) ∧ (if n > 2 then n else 2) < 1073741824 := by
            split <;> omega
          refine ⟨_, rfl, _, _, rfl, dg_l hd3, .inl ⟨rfl, _, SqL.of hL3⟩, _, rfl, _, rfl, _, _, rfl, _, _, rfl, rfl, hmx, L, _, _, rfl, rfl, hL3, ?_, ?_⟩
          · rw [List.length_map]
            exact small1000 (by omega)
          · refine ⟨_, rfl, .inl ⟨_, rfl, _, rfl, _, _, rfl, rfl, n0, ?_⟩⟩
            refine q _ _ (Int.emod_nonneg _ (by omega)) (Int.emod_lt_of_pos _ n0) ⟨⟨r' ++ [y' / (if n > 2 then n else 2)], m, k1, ?_, ?_, m0, m1, ?_⟩, fun b o h1 h2 e => ?_⟩
            · rw [upd_ne ndL]
              exact hd3
            · rw [upd_same, List.map_append]
              rfl
            · rw [List.length_append]
              exact hl'
            · rw [upd_ne h2]
              exact st3 b o h1 h2 e
        · -- a lesser cell is mixed in
          refine ⟨_, rfl, _, _, rfl, dg_m hd3, _, _, rfl, rfl, .inl ⟨by omega, by omega⟩, _, rfl, .inl ⟨_, rfl, _, _, rfl, rfl, (by show (0 : Int) < _; decide), _, _, rfl, rfl, _, _, rfl, rfl, .inl ⟨_, rfl, _, _, rfl, rfl, (by show (0 : Int) < _; decide), ?_⟩⟩⟩
          refine ⟨_, rfl, d, _, rfl, dp_m hd3, ?_⟩
          refine ⟨r', _, some (.int y'), rfl, upd_same, ?_, Int.emod_nonneg _ (by decide), ?_, by omega, fun b o h1 h2 e => ?_⟩
          · rw [upd_ne ndL.symm]
            exact hL3
          · exact Int.lt_trans (Int.emod_lt_of_pos _ (by decide)) (by decide)
          · rw [upd_ne h1]
            exact st3 b o h1 h2 e
    · obtain ⟨ns', m', c, rfl, hd', hL', m0', m1', hl', st'⟩ := hM
      refine ⟨_, rfl, _, _, rfl, dg_m hd', _, rfl, _, _, rfl, dg_d hd', _, _, rfl, rfl, .inl ⟨by decide, by decide⟩, _, _, rfl, rfl, .inl ⟨_, rfl, _, _, rfl, rfl, (by show (0 : Int) < _; decide), ?_⟩⟩
      refine ⟨_, rfl, _, rfl, _, _, rfl, rfl, .inl ⟨?_, ?_⟩, _, rfl, _, _, rfl, dg_d hd', _, _, rfl, rfl, .inl ⟨by decide, by decide⟩, _, _, rfl, rfl, _, _, rfl, rfl, .inl ⟨_, rfl, _, _, rfl, rfl, (by show (0 : Int) < _; decide), ?_⟩⟩
      · exact Int.lt_of_lt_of_le (by decide) (Int.emod_nonneg _ (by decide))
      · exact Int.lt_trans (Int.emod_lt_of_pos _ (by decide)) (by decide)
      refine ⟨_, rfl, _, _, rfl, rfl, .inl ⟨?_, ?_⟩, _, _, rfl, rfl, .inl ⟨_, rfl, _, _, rfl, rfl, (by show (0 : Int) < _; decide), ?_⟩⟩
      · exact Int.lt_of_lt_of_le (by decide) (Int.emod_nonneg _ (by decide))
      · exact Int.lt_trans (Int.emod_lt_of_pos _ (by decide)) (by decide)
      refine ⟨_, rfl, _, _, rfl, rfl, ⟨by decide, by decide⟩, .inl ⟨_, rfl, _, rfl, _, _, rfl, rfl, n0, ?_⟩⟩
      exact q _ _ (Int.emod_nonneg _ (by omega)) (Int.emod_lt_of_pos _ n0) ⟨⟨ns', m', k1, hd', hL', m0', m1', hl'⟩, st'⟩
/-! ### one of some -/
theorem Fr.seq {K : PySem.W.Frag} {d L a : Addr} {xs : List V} {H H' : Hp} (f : Fr d L H H') (h : DK d L H) (hS : SqL K H a xs) (hL : a ≠ L) : SqL K H' a xs := by
  obtain ⟨ns, m, k, h1, h2, _⟩ := h
  rcases hS with (e | ⟨o, e⟩) | e
  · exact .inl (.inl (f.st a _ (ne_of e h1 (by intro z; cases z)) hL e))
  · exact .inl (.inr ⟨o, f.st a _ (ne_of e h1 (by intro z; cases z)) hL e⟩)
  · exact .inr e
theorem Fr.tup {K : PySem.W.Frag} {d L a : Addr} {xs : List V} {H H' : Hp} (f : Fr d L H H') (h : DK d L H) (hS : SqT K H a xs) : SqT K H' a xs := by
  obtain ⟨ns, m, k, h1, h2, _⟩ := h
  rcases hS with (e | ⟨o, e⟩) | e
  · exact .inl (.inl (f.st a _ (ne_of e h1 (by intro z; cases z)) (ne_of e h2 (by intro z; cases z)) e))
  · exact .inl (.inr ⟨o, f.st a _ (ne_of e h1 (by intro z; cases z)) (ne_of e h2 (by intro z; cases z)) e⟩)
  · exact .inr e
def spPick (K : PySem.W.Frag) : Sp := fun vs H Q _ => ∃ (d L a : Addr) (xs : List V), vs = [.ref d, .ref a] ∧ DK d L H ∧ a ≠ L ∧ (SqL K H a xs ∨ SqT K H a xs) ∧ 0 < xs.length ∧ xs.length ≤ 1000000000 ∧
  ∀ (i : Nat) (x : V) H', xs[i]? = some x → Fr d L H H' → Q x H'
theorem ok_pick {fd fdD : FuncData} (D : Df K mg "_law_pick" s__law_pick P__law_pick fd) (T : Tb mg) (D__law_draw : Df K mg "_law_draw" s__law_draw P__law_draw fdD) : FnOk P w K mg base CX0 2 (He.fAd K ("_law_pick", none)) fd P__law_pick (spPick K) := by
  have G__law_draw : FnOk P w K mg base CX0 1 (He.fAd K ("_law_draw", none)) fdD P__law_draw spDraw := ok_draw D__law_draw T
  refine (fun_of D.F).ok sc__law_pick (fun vs H Q E h => ?_) (fun cdv A outer s H vs Q E hr h => ?_)
  · obtain ⟨d, L, a, xs, rfl, _⟩ := h
    rfl
  · obtain ⟨d, L, a, xs, rfl, hD, haL, hS, n0, n1, q⟩ := h
    refine ⟨_, (pss_one (ps_ret (pe_ix (ix_list.or ix_tup) (pv 1) (pe_call G__law_draw (hr.mono (by first | decide | omega)) (by rfl) D__law_draw.g D__law_draw.F.kp D__law_draw.b .nil pass0 (pa_cons (pv 0) (pa_cons (pe_callB call_len (by rfl) T.len (by decide +kernel) (pa_cons (pv 1) pa_nil)) pa_nil))) (fun _ _ => rfl)))), ?_⟩
    refine ⟨_, rfl, _, rfl, _, rfl, _, xs.length, rfl, (hS.elim (fun h => .inl ⟨_, h, rfl⟩) fun h => .inr ⟨_, h, rfl⟩), d, L, _, rfl, hD, by omega, by omega, fun r H' r0 r1 fr => ?_⟩
    obtain ⟨i, rfl⟩ := Int.eq_ofNat_of_zero_le r0
    have hi : i < xs.length := by omega
    rcases hS with h | h
    · exact .inl ⟨a, xs, _, xs[i], rfl, rfl, fr.seq hD h haL, atI_nat (List.getElem?_eq_getElem hi), q i _ _ (List.getElem?_eq_getElem hi) fr⟩
    · exact .inr ⟨a, xs, _, xs[i], rfl, rfl, fr.tup hD h, atI_nat (List.getElem?_eq_getElem hi), q i _ _ (List.getElem?_eq_getElem hi) fr⟩
end
end KA


set_option Elab.async false
set_option linter.all false
set_option maxRecDepth 100000
set_option maxHeartbeats 1000000
/-! The deck as a world: draws and picks over data. -/
namespace DW
open PySem PySem.Spec PyProof.Rows L2 KT KG KX KY KE0 KQ LK GxR DL KA
/-- a world whose deck, if it has one, is a deck -/
structure WP (K : PySem.W.Frag) (Tl : List Addr) (W : Wc) : Prop where
  k : W.K = K
  tl : W.Tl = Tl
  dk : ∀ v, W.deck v → ∃ d L, v = .ref d ∧ (∀ H, W.inv H → DK d L H) ∧ (∀ H H', W.inv H → DK d L H' → (∀ a o, a ≠ d → a ≠ L → H a = some o → H' a = some o) → W.inv H') ∧ ∀ a, W.vol a ↔ a = d ∨ a = L
def deckW (K : PySem.W.Frag) (Tl : List Addr) (d L : Addr) : Wc where
  K := K
  vol := fun a => a = d ∨ a = L
  inv := DK d L
  deck := fun v => v = .ref d
  Tl := Tl
  keep := fun {H H'} k h => by
    obtain ⟨ns, m, z, h1, h2, h3⟩ := h
    exact ⟨ns, m, z, k _ _ (.inl (.inl rfl)) h1, k _ _ (.inl (.inr rfl)) h2, h3⟩
  there := fun {H a} h v => by
    obtain ⟨ns, m, z, h1, h2, h3⟩ := h
    rcases v with rfl | rfl
    · exact ⟨_, h1, (fun _ z => by cases z), fun _ z => by cases z⟩
    · exact ⟨_, h2, (fun _ z => by cases z), fun _ z => by cases z⟩
theorem deckW_ok (K : PySem.W.Frag) (Tl : List Addr) (d L : Addr) : WP K Tl (deckW K Tl d L) := ⟨rfl, rfl, fun v h => ⟨d, L, h, fun H h => h, fun H H' _ h _ => h, fun a => Iff.rfl⟩⟩
theorem dk_here {d L a : Addr} {H : Hp} (h : DK d L H) (e : a = d ∨ a = L) : ∃ o, H a = some o ∧ (∀ ps, o ≠ .tbl ps) ∧ ∀ xs, o ≠ .tup xs := by
  obtain ⟨ns, m, z, h1, h2, h3⟩ := h
  rcases e with rfl | rfl
  · exact ⟨_, h1, (fun _ z => by cases z), fun _ z => by cases z⟩
  · exact ⟨_, h2, (fun _ z => by cases z), fun _ z => by cases z⟩
theorem stp_fr {W : Wc} {d L : Addr} {H H' : Hp} (hi : ∀ H H', W.inv H → DK d L H' → (∀ a o, a ≠ d → a ≠ L → H a = some o → H' a = some o) → W.inv H') (hv : ∀ a, W.vol a ↔ a = d ∨ a = L) (h0 : DK d L H) (f : Fr d L H H') : Stp W H H' := by
  refine ⟨fun a o n t e => ?_, fun a xs e => ?_, fun a e => ?_, fun w => ⟨hi H H' w.1 f.dk f.st, fun P hP => ?_⟩⟩
  · have n2 : ¬ (a = d ∨ a = L) := fun z => n ((hv a).mpr z)
    exact f.st a o (fun z => n2 (.inl z)) (fun z => n2 (.inr z)) e
  · have n2 : ¬ (a = d ∨ a = L) := fun z => by
      obtain ⟨o, e2, _, e3⟩ := dk_here h0 z
      rw [e] at e2
      cases e2
      exact e3 _ rfl
    exact f.st a _ (fun z => n2 (.inl z)) (fun z => n2 (.inr z)) e
  · by_cases z : a = d ∨ a = L
    · obtain ⟨o, e2, _⟩ := dk_here f.dk z
      rw [e] at e2
      cases e2
    · cases q : H a with
      | none => rfl
      | some o =>
        rw [f.st a o (fun y => z (.inl y)) (fun y => z (.inr y)) q] at e
        cases e
  · obtain ⟨ps, e, tr⟩ := w.2 P hP
    have n2 : ¬ (P = d ∨ P = L) := fun z => by
      obtain ⟨o, e2, e3, _⟩ := dk_here h0 z
      rw [e] at e2
      cases e2
      exact e3 _ rfl
    exact ⟨ps, f.st P _ (fun z => n2 (.inl z)) (fun z => n2 (.inr z)) e, tr⟩
abbrev N__law_pick : List Str := ["_law_deck_here", "_law_some"]
abbrev P__law_pick : List Str := ["_law_deck_here", "_law_some"]
theorem sc__law_pick : FnScope N__law_pick P__law_pick (defScope s__law_pick) := ⟨rfl, rfl, rfl, by decide +kernel, rfl, by decide +kernel, by decide +kernel⟩
section
variable {P : Program} {w : World} {K : PySem.W.Frag} {mg : Str → Option Value} {base : Heap} {Tl : List Addr}
/-- a draw -/
def F_draw : FnD := fun ds K _ => ∃ n : Int, ds = [.deck, .dat (.int n)] ∧ 0 < n ∧ n ≤ 1000000000 ∧ ∀ r : Int, 0 ≤ r → r < n → K (.int r)
theorem ok_draw {fd : FuncData} (D : Df K mg "_law_draw" s__law_draw P__law_draw fd) (T : Tb mg) : FnOk P w K mg base CX0 1 (He.fAd K ("_law_draw", none)) fd P__law_draw (spD (WP K Tl) F_draw) := (KA.ok_draw D T).imp fun vs H Q E h => by
  obtain ⟨W, ds, Kk, KE, hW, rfl, gh, r, no, ⟨n, rfl, n0, n1, hk⟩, hQ, hE⟩ := h
  obtain ⟨v, u, rfl, r1, r2⟩ := rel2 r
  cases relI r2
  obtain ⟨d, L, rfl, h0, hi, hv⟩ := hW.dk v r1
  have h0 := h0 _ gh.ok.1
  exact ⟨d, L, n, rfl, h0, n0, n1, fun r H' r0 r1 f => hQ _ (hk r r0 r1) _ _ (stp_fr hi hv h0 f) (Dx.int r)⟩
/-- one of some -/
def F_pick : FnD := fun ds K _ => ∃ d es, ds = [.deck, .dat d] ∧ (d = .list es ∨ d = .tuple es) ∧ 0 < es.length ∧ es.length ≤ 1000000000 ∧ ∀ e ∈ es, K e
theorem ok_pick {fd fdD : FuncData} (D : Df K mg "_law_pick" s__law_pick P__law_pick fd) (T : Tb mg) (D__law_draw : Df K mg "_law_draw" s__law_draw P__law_draw fdD) (G__law_draw : FnOk P w K mg base CX0 1 (He.fAd K ("_law_draw", none)) fdD P__law_draw (spD (WP K Tl) F_draw)) : FnOk P w K mg base CX0 2 (He.fAd K ("_law_pick", none)) fd P__law_pick (spD (WP K Tl) F_pick) := by
  refine okD D.F sc__law_pick (fun ds Kk KE h => by obtain ⟨d, es, rfl, _⟩ := h; rfl) (fun W cdv A outer s E hW hcd hr => ⟨_, (dss_one (ds_ret (de_ix ix_all sn_ix (dv 1) (de_call (pe_call G__law_draw (hr.mono (by first | decide | omega)) (by rfl) D__law_draw.g D__law_draw.F.kp D__law_draw.b .nil pass0 (da_cons (dv 0) (da_cons (de_cb (pe_callB call_len (by rfl) T.len (by decide +kernel) (da_cons (dv 1) da_nil)) sn_len) da_nil))) hW) (fun _ _ => rfl)))), fun ds Kk KE h => ?_⟩)
  obtain ⟨d, es, rfl, hd, n0, n1, hk⟩ := h
  (try simp only [DL.iteB_true, DL.iteB_false, DL.sSeq, DL.sNext, DL.sRet, DL.sRetN, DL.sIf, DL.sAsg, DL.sNew, DL.sDrop, DL.sRel, DL.sApp, DL.sFor, DL.sBreak, DL.sCont, DL.sAsgT, DL.sPar, DL.sPar3, DL.sPar3DFD, DL.sParFD, DL.sParDF, DL.sExt, DL.sPut, DL.sAug, DL.sCut, DL.sRaise, DL.sWhile, DL.fVar, DL.fC, DL.fOb, DL.fGts, DL.f2, DL.f1, DL.fCall, DL.fB, DL.fTru, DL.fAnd, DL.fOr, DL.fNot, DL.fIf, DL.tAndD, DL.tOrD, DL.tNotD, DL.fNil, DL.fCons, DL.fTup, DL.fLst, DL.fDnew, DL.fNew, DL.fIt, DL.fRng1, DL.fRng2, DL.fLc, DL.fAG, DL.fFn, DL.fFnX, DL.fFnK, DL.fSl, DL.fNone, DL.fPart, DL.fList, DL.fM0, DL.fM1, DL.tYesD, DL.gdN, DL.gdT_t, DL.gdNil_n, DL.gdCons_c, DL.op2, DL.op1, DL.opC, DL.c1, DL.isiP, DL.typeO, DL.tyIs, DL.inG, DL.isND, DL.rel, DL.wipeD, DL.le_s0, DL.le_s1, DL.le_s2, DL.le_s3, DL.le_s4, DL.le_s5, DL.le_s6, DL.le_s7, DL.le_s8, DL.le_s9, DL.le_s10, DL.le_s11, DL.le_s12, DL.le_s13, DL.le_s14, DL.le_s15, DL.le_s16, DL.le_s17, DL.le_s18, DL.le_s19, DL.le_s20, DL.le_s21, DL.le_s22, DL.le_s23, DL.le_s24, DL.le_s25, DL.le_s26, DL.le_s27, DL.le_s28, DL.le_s29, DL.le_s30, DL.le_s31, DL.le_s32, DL.le_s33, DL.le_s34, DL.le_s35, DL.le_s36, DL.le_s37, DL.le_s38, DL.le_s39, DL.le_s40, DL.le_s41, DL.le_s42, DL.le_s43, DL.le_s44, DL.le_s45, DL.le_s46, DL.le_s47, DL.le_s48, DL.le_s49, DL.le_s50, DL.le_s51, DL.le_s52, DL.le_s53, DL.le_s54, DL.le_s55, DL.le_s56, DL.le_s57, DL.le_s58, DL.le_s59, DL.le_s60, DL.le_s61, DL.le_s62, DL.le_s63, DL.le_s64, DL.start0, DL.asDat, DL.lend, DL.noOwn, DL.DV.isOwn, DL.pd_dat, DL.pd_own, DL.ocpd_lst, DL.ocpd_dk, DL.itemsOf, List.map_cons, List.map_nil, List.append_nil, List.cons_append, List.nil_append, List.length_cons, List.length_nil, List.replicate_succ, List.replicate_zero, List.getElem?_cons_zero, List.getElem?_cons_succ, List.set_cons_zero, List.set_cons_succ, Nat.reduceSub, Nat.reduceAdd, Nat.sub_self, Nat.zero_add, Option.some.injEq, DL.DV.dat.injEq, PyData.bool.injEq, PyData.int.injEq, PyData.str.injEq, PyData.tuple.injEq, PyData.list.injEq, DL.DV.ob.injEq, V.ty.injEq, DL.DV.own.injEq, DL.OC.lst.injEq, List.cons.injEq, Option.map_some, exists_eq_left', exists_eq_left, exists_eq_right, exists_eq_right', exists_and_left, and_true, true_and, Bool.not_true, Bool.not_false, Bool.and_true, Bool.true_and, true_or, Bool.not_eq_true', Bool.false_eq_true, if_true, if_false, reduceIte, reduceCtorEq])
  rcases hd with rfl | rfl

  all_goals
    (try simp only [DL.negP_i, DL.le_s0, DL.le_s1, DL.le_s2, DL.le_s3, DL.le_s4, DL.le_s5, DL.le_s6, DL.le_s7, DL.le_s8, DL.le_s9, DL.le_s10, DL.le_s11, DL.le_s12, DL.le_s13, DL.le_s14, DL.le_s15, DL.le_s16, DL.le_s17, DL.le_s18, DL.le_s19, DL.le_s20, DL.le_s21, DL.le_s22, DL.le_s23, DL.le_s24, DL.le_s25, DL.le_s26, DL.le_s27, DL.le_s28, DL.le_s29, DL.le_s30, DL.le_s31, DL.le_s32, DL.le_s33, DL.le_s34, DL.le_s35, DL.le_s36, DL.le_s37, DL.le_s38, DL.le_s39, DL.le_s40, DL.le_s41, DL.le_s42, DL.le_s43, DL.le_s44, DL.le_s45, DL.le_s46, DL.le_s47, DL.le_s48, DL.le_s49, DL.le_s50, DL.le_s51, DL.le_s52, DL.le_s53, DL.le_s54, DL.le_s55, DL.le_s56, DL.le_s57, DL.le_s58, DL.le_s59, DL.le_s60, DL.le_s61, DL.le_s62, DL.le_s63, DL.le_s64, DL.iteB_true, DL.iteB_false, DL.lenP_t, DL.lenP_l, DL.lenP_s, DL.eqP, DL.eqOk_int, DL.eqOk_str, DL.eqOk_emp, DL.eqOk_empL, DL.eqv_emp1, DL.eqv_empL1, DL.eqv_ii, DL.eqv_ss, DL.ixP_t, DL.ixP_l, DL.ixP_s, DL.slP_t, DL.slP_l, DL.slP_s, DL.intcP_i, DL.intcP_b, DL.intcP_s, DL.tupcP_l, DL.tupcP_t, DL.atI_z, DL.atI_o, DL.atI_t, DL.int0P_ii, DL.intP_ii, DL.addP_ii, DL.addP_ss, DL.addP_tt, DL.addP_ll, DL.isTup_t, DL.reprP, Bool.false_eq_true, if_true, if_false, reduceIte, Option.some.injEq, PyData.bool.injEq, exists_eq_left', exists_eq_left, exists_eq_right, exists_eq_right', true_and, and_true, Bool.true_eq_false, Bool.not_true, Bool.not_false, false_and, and_false, exists_and_left, reduceCtorEq, DL.DV.gts.injEq, exists_const])
    refine ⟨_, rfl, by omega, by omega, fun r r0 r1 => ?_⟩
    obtain ⟨i, rfl⟩ := Int.eq_ofNat_of_zero_le r0
    have hi : i < es.length := by omega
    (try simp only [DL.iteB_true, DL.iteB_false, DL.sSeq, DL.sNext, DL.sRet, DL.sRetN, DL.sIf, DL.sAsg, DL.sNew, DL.sDrop, DL.sRel, DL.sApp, DL.sFor, DL.sBreak, DL.sCont, DL.sAsgT, DL.sPar, DL.sPar3, DL.sPar3DFD, DL.sParFD, DL.sParDF, DL.sExt, DL.sPut, DL.sAug, DL.sCut, DL.sRaise, DL.sWhile, DL.fVar, DL.fC, DL.fOb, DL.fGts, DL.f2, DL.f1, DL.fCall, DL.fB, DL.fTru, DL.fAnd, DL.fOr, DL.fNot, DL.fIf, DL.tAndD, DL.tOrD, DL.tNotD, DL.fNil, DL.fCons, DL.fTup, DL.fLst, DL.fDnew, DL.fNew, DL.fIt, DL.fRng1, DL.fRng2, DL.fLc, DL.fAG, DL.fFn, DL.fFnX, DL.fFnK, DL.fSl, DL.fNone, DL.fPart, DL.fList, DL.fM0, DL.fM1, DL.tYesD, DL.gdN, DL.gdT_t, DL.gdNil_n, DL.gdCons_c, DL.op2, DL.op1, DL.opC, DL.c1, DL.isiP, DL.typeO, DL.tyIs, DL.inG, DL.isND, DL.rel, DL.wipeD, DL.le_s0, DL.le_s1, DL.le_s2, DL.le_s3, DL.le_s4, DL.le_s5, DL.le_s6, DL.le_s7, DL.le_s8, DL.le_s9, DL.le_s10, DL.le_s11, DL.le_s12, DL.le_s13, DL.le_s14, DL.le_s15, DL.le_s16, DL.le_s17, DL.le_s18, DL.le_s19, DL.le_s20, DL.le_s21, DL.le_s22, DL.le_s23, DL.le_s24, DL.le_s25, DL.le_s26, DL.le_s27, DL.le_s28, DL.le_s29, DL.le_s30, DL.le_s31, DL.le_s32, DL.le_s33, DL.le_s34, DL.le_s35, DL.le_s36, DL.le_s37, DL.le_s38, DL.le_s39, DL.le_s40, DL.le_s41, DL.le_s42, DL.le_s43, DL.le_s44, DL.le_s45, DL.le_s46, DL.le_s47, DL.le_s48, DL.le_s49, DL.le_s50, DL.le_s51, DL.le_s52, DL.le_s53, DL.le_s54, DL.le_s55, DL.le_s56, DL.le_s57, DL.le_s58, DL.le_s59, DL.le_s60, DL.le_s61, DL.le_s62, DL.le_s63, DL.le_s64, DL.start0, DL.asDat, DL.lend, DL.noOwn, DL.DV.isOwn, DL.pd_dat, DL.pd_own, DL.ocpd_lst, DL.ocpd_dk, DL.itemsOf, List.map_cons, List.map_nil, List.append_nil, List.cons_append, List.nil_append, List.length_cons, List.length_nil, List.replicate_succ, List.replicate_zero, List.getElem?_cons_zero, List.getElem?_cons_succ, List.set_cons_zero, List.set_cons_succ, Nat.reduceSub, Nat.reduceAdd, Nat.sub_self, Nat.zero_add, Option.some.injEq, DL.DV.dat.injEq, PyData.bool.injEq, PyData.int.injEq, PyData.str.injEq, PyData.tuple.injEq, PyData.list.injEq, DL.DV.ob.injEq, V.ty.injEq, DL.DV.own.injEq, DL.OC.lst.injEq, List.cons.injEq, Option.map_some, exists_eq_left', exists_eq_left, exists_eq_right, exists_eq_right', exists_and_left, and_true, true_and, Bool.not_true, Bool.not_false, Bool.and_true, Bool.true_and, true_or, Bool.not_eq_true', Bool.false_eq_true, if_true, if_false, reduceIte, reduceCtorEq])
    (try simp only [DL.negP_i, DL.le_s0, DL.le_s1, DL.le_s2, DL.le_s3, DL.le_s4, DL.le_s5, DL.le_s6, DL.le_s7, DL.le_s8, DL.le_s9, DL.le_s10, DL.le_s11, DL.le_s12, DL.le_s13, DL.le_s14, DL.le_s15, DL.le_s16, DL.le_s17, DL.le_s18, DL.le_s19, DL.le_s20, DL.le_s21, DL.le_s22, DL.le_s23, DL.le_s24, DL.le_s25, DL.le_s26, DL.le_s27, DL.le_s28, DL.le_s29, DL.le_s30, DL.le_s31, DL.le_s32, DL.le_s33, DL.le_s34, DL.le_s35, DL.le_s36, DL.le_s37, DL.le_s38, DL.le_s39, DL.le_s40, DL.le_s41, DL.le_s42, DL.le_s43, DL.le_s44, DL.le_s45, DL.le_s46, DL.le_s47, DL.le_s48, DL.le_s49, DL.le_s50, DL.le_s51, DL.le_s52, DL.le_s53, DL.le_s54, DL.le_s55, DL.le_s56, DL.le_s57, DL.le_s58, DL.le_s59, DL.le_s60, DL.le_s61, DL.le_s62, DL.le_s63, DL.le_s64, DL.iteB_true, DL.iteB_false, DL.lenP_t, DL.lenP_l, DL.lenP_s, DL.eqP, DL.eqOk_int, DL.eqOk_str, DL.eqOk_emp, DL.eqOk_empL, DL.eqv_emp1, DL.eqv_empL1, DL.eqv_ii, DL.eqv_ss, DL.ixP_t, DL.ixP_l, DL.ixP_s, DL.slP_t, DL.slP_l, DL.slP_s, DL.intcP_i, DL.intcP_b, DL.intcP_s, DL.tupcP_l, DL.tupcP_t, DL.atI_z, DL.atI_o, DL.atI_t, DL.int0P_ii, DL.intP_ii, DL.addP_ii, DL.addP_ss, DL.addP_tt, DL.addP_ll, DL.isTup_t, DL.reprP, Bool.false_eq_true, if_true, if_false, reduceIte, Option.some.injEq, PyData.bool.injEq, exists_eq_left', exists_eq_left, exists_eq_right, exists_eq_right', true_and, and_true, Bool.true_eq_false, Bool.not_true, Bool.not_false, false_and, and_false, exists_and_left, reduceCtorEq, DL.DV.gts.injEq, exists_const])
    exact ⟨es[i], L2.atI_nat (List.getElem?_eq_getElem hi), hk _ (List.getElem_mem hi)⟩
end
end DW


set_option Elab.async false
set_option linter.all false
set_option maxRecDepth 100000
set_option maxHeartbeats 1000000
/-! Pile machines: the program's looks. -/
namespace PA
open PySem PySem.Spec PyProof.Rows L2 KT KG KX KY KE0 KQ LK GxR DL KA DW
structure TbP (mg : Str → Option Value) : Prop where
  type : mg "type" = none
  int : mg "int" = none
  str : mg "str" = none
  tuple : mg "tuple" = none
  isinstance : mg "isinstance" = none
  len : mg "len" = none
  all : mg "all" = none
abbrev N_is_whole : List Str := ["thing"]
abbrev P_is_whole : List Str := ["thing"]
theorem sc_is_whole : FnScope N_is_whole P_is_whole (defScope s_is_whole) := ⟨rfl, rfl, rfl, by decide +kernel, rfl, by decide +kernel, by decide +kernel⟩
abbrev N_fits_rule : List Str := ["thing", "many"]
abbrev P_fits_rule : List Str := ["thing", "many"]
theorem sc_fits_rule : FnScope N_fits_rule P_fits_rule (defScope s_fits_rule) := ⟨rfl, rfl, rfl, by decide +kernel, rfl, by decide +kernel, by decide +kernel⟩
abbrev N_fits_state : List Str := ["thing", "many", "part"]
abbrev P_fits_state : List Str := ["thing", "many"]
theorem sc_fits_state : FnScope N_fits_state P_fits_state (defScope s_fits_state) := ⟨rfl, rfl, rfl, by decide +kernel, rfl, by decide +kernel, by decide +kernel⟩
abbrev N_is_machine : List Str := ["thing", "part"]
abbrev P_is_machine : List Str := ["thing"]
theorem sc_is_machine : FnScope N_is_machine P_is_machine (defScope s_is_machine) := ⟨rfl, rfl, rfl, by decide +kernel, rfl, by decide +kernel, by decide +kernel⟩
section
variable {P : Program} {w : World} {K : PySem.W.Frag} {mg : Str → Option Value} {base : Heap} {Tl : List Addr}
def wholeD : PyData → Bool
  | .int i => decide (0 ≤ i)
  | _ => false
def F_whole : FnD := fun ds K _ => ∃ d, ds = [.dat d] ∧ K (.bool (wholeD d))
theorem ok_whole {fd : FuncData} (T : TbP mg) (D : Df K mg "is_whole" s_is_whole P_is_whole fd) : FnOk P w K mg base CX0 1 (He.fAd K ("is_whole", none)) fd P_is_whole (spD (WP K Tl) F_whole) := by
  refine okD D.F sc_is_whole (fun ds Kk KE h => by obtain ⟨d, rfl, _⟩ := h; rfl) (fun W cdv A outer s E hW hcd hr => ⟨_, (dss_one (ds_ret (de_and (de_cmp op_isTyB sn_tyIs (de_cb (pe_callTy (call_typeX W.vol) (by rfl) T.type (by decide +kernel) (da_cons (dv 0) da_nil)) sn_type) (de_ob (pe_bltn (v := .ty "int") (by rfl) T.int (by decide +kernel) rfl))) (pe_one (de_cmp op_ge sn_cmp (dv 0) de_int))))), fun ds Kk KE h => ?_⟩)
  obtain ⟨d, rfl, h⟩ := h
  (try simp only [DL.iteB_true, DL.iteB_false, DL.sSeq, DL.sNext, DL.sRet, DL.sRetN, DL.sIf, DL.sAsg, DL.sNew, DL.sDrop, DL.sRel, DL.sApp, DL.sFor, DL.sBreak, DL.sCont, DL.sAsgT, DL.sPar, DL.sPar3, DL.sPar3DFD, DL.sParFD, DL.sParDF, DL.sExt, DL.sPut, DL.sAug, DL.sCut, DL.sRaise, DL.sWhile, DL.fVar, DL.fC, DL.fOb, DL.fGts, DL.f2, DL.f1, DL.fCall, DL.fB, DL.fTru, DL.fAnd, DL.fOr, DL.fNot, DL.fIf, DL.tAndD, DL.tOrD, DL.tNotD, DL.fNil, DL.fCons, DL.fTup, DL.fLst, DL.fDnew, DL.fNew, DL.fIt, DL.fRng1, DL.fRng2, DL.fLc, DL.fAG, DL.fFn, DL.fFnX, DL.fFnK, DL.fSl, DL.fNone, DL.fPart, DL.fList, DL.fM0, DL.fM1, DL.tYesD, DL.gdN, DL.gdT_t, DL.gdNil_n, DL.gdCons_c, DL.op2, DL.op1, DL.opC, DL.c1, DL.isiP, DL.typeO, DL.tyIs, DL.inG, DL.isND, DL.rel, DL.wipeD, DL.le_s0, DL.le_s1, DL.le_s2, DL.le_s3, DL.le_s4, DL.le_s5, DL.le_s6, DL.le_s7, DL.le_s8, DL.le_s9, DL.le_s10, DL.le_s11, DL.le_s12, DL.le_s13, DL.le_s14, DL.le_s15, DL.le_s16, DL.le_s17, DL.le_s18, DL.le_s19, DL.le_s20, DL.le_s21, DL.le_s22, DL.le_s23, DL.le_s24, DL.le_s25, DL.le_s26, DL.le_s27, DL.le_s28, DL.le_s29, DL.le_s30, DL.le_s31, DL.le_s32, DL.le_s33, DL.le_s34, DL.le_s35, DL.le_s36, DL.le_s37, DL.le_s38, DL.le_s39, DL.le_s40, DL.le_s41, DL.le_s42, DL.le_s43, DL.le_s44, DL.le_s45, DL.le_s46, DL.le_s47, DL.le_s48, DL.le_s49, DL.le_s50, DL.le_s51, DL.le_s52, DL.le_s53, DL.le_s54, DL.le_s55, DL.le_s56, DL.le_s57, DL.le_s58, DL.le_s59, DL.le_s60, DL.le_s61, DL.le_s62, DL.le_s63, DL.le_s64, DL.start0, DL.asDat, DL.lend, DL.noOwn, DL.DV.isOwn, DL.pd_dat, DL.pd_own, DL.ocpd_lst, DL.ocpd_dk, DL.itemsOf, List.map_cons, List.map_nil, List.append_nil, List.cons_append, List.nil_append, List.length_cons, List.length_nil, List.replicate_succ, List.replicate_zero, List.getElem?_cons_zero, List.getElem?_cons_succ, List.set_cons_zero, List.set_cons_succ, Nat.reduceSub, Nat.reduceAdd, Nat.sub_self, Nat.zero_add, Option.some.injEq, DL.DV.dat.injEq, PyData.bool.injEq, PyData.int.injEq, PyData.str.injEq, PyData.tuple.injEq, PyData.list.injEq, DL.DV.ob.injEq, V.ty.injEq, DL.DV.own.injEq, DL.OC.lst.injEq, List.cons.injEq, Option.map_some, exists_eq_left', exists_eq_left, exists_eq_right, exists_eq_right', exists_and_left, and_true, true_and, Bool.not_true, Bool.not_false, Bool.and_true, Bool.true_and, true_or, Bool.not_eq_true', Bool.false_eq_true, if_true, if_false, reduceIte, reduceCtorEq])
  rw [ty_intD]
  cases d <;> simpa [isIntD, wholeD, int0P] using h
def deedL : List Str := ["stay", "put0", "put1", "cut", "over", "back"]
def atMost (n : Int) : PyData → Bool
  | .int i => decide (i ≤ n)
  | _ => false
def isDeed (d : PyData) : Bool := deedL.any fun z => PyData.eqv d (.str z)
def ruleB (n : Int) : PyData → Bool
  | .tuple [a, b] => wholeD a && (atMost n a && isDeed b)
  | _ => false
def F_rule : FnD := fun ds K _ => ∃ d n, ds = [.dat d, .dat (.int n)] ∧ K (.bool (ruleB n d))
theorem len2D {xs : List PyData} (h : xs.length = 2) : ∃ a b, xs = [a, b] := by
  match xs, h with
  | [a, b], _ => exact ⟨a, b, rfl⟩
theorem len3D {xs : List PyData} (h : xs.length = 3) : ∃ a b c, xs = [a, b, c] := by
  match xs, h with
  | [a, b, c], _ => exact ⟨a, b, c, rfl⟩
theorem rule_no {n : Int} {xs : List PyData} (h : ¬ xs.length = 2) : ruleB n (.tuple xs) = false := by
  match xs, h with
  | [], _ => rfl
  | [_], _ => rfl
  | [_, _], h => exact absurd rfl h
  | _ :: _ :: _ :: _, _ => rfl
theorem ok_rule {a_DEEDS : Addr} {fd fdW : FuncData} (T : TbP mg) (D : Df K mg "fits_rule" s_fits_rule P_fits_rule fd) (D_is_whole : Df K mg "is_whole" s_is_whole P_is_whole fdW) (G_is_whole : FnOk P w K mg base CX0 1 (He.fAd K ("is_whole", none)) fdW P_is_whole (spD (WP K Tl) F_whole))
    (mg_DEEDS : mg "DEEDS" = some (.ref a_DEEDS)) (gts_DEEDS : ∀ H, SqT K H a_DEEDS (deedL.map V.str)) : FnOk P w K mg base CX0 5 (He.fAd K ("fits_rule", none)) fd P_fits_rule (spD (WP K Tl) F_rule) := by
  refine okD D.F sc_fits_rule (fun ds Kk KE h => by obtain ⟨d, n, rfl, _⟩ := h; rfl) (fun W cdv A outer s E hW hcd hr => ?_)
  have hK : W.K = K := hW.k
  refine ⟨_, (dss_cons (ds_if (PW.pt (dw_or (dt_not (dt_val (de_cb (pe_callB call_isi (by rfl) T.isinstance (by decide +kernel) (da_cons (dv 0) (da_cons (de_ob (pe_bltn (v := .ty "tuple") (by rfl) T.tuple (by decide +kernel) rfl)) da_nil))) (sn_isi kb_tup)))) (dw_or1 (dt_cmp (op_neX hr W.vol) sn_ne (de_cb (pe_callB call_len (by rfl) T.len (by decide +kernel) (da_cons (dv 0) da_nil)) sn_len) de_int)))) (dss_one (ds_ret de_bl)) dss_nil)
      (dss_one (ds_ret (de_and (de_call (pe_call G_is_whole (hr.mono (by first | decide | omega)) (by rfl) D_is_whole.g D_is_whole.F.kp D_is_whole.b .nil pass0 (da_cons (de_ix ix_all sn_ix (dv 0) de_int (fun _ _ => rfl)) da_nil)) hW) (de_and (de_cmp op_le sn_cmp (de_ix ix_all sn_ix (dv 0) de_int (fun _ _ => rfl)) (dv 1)) (pe_one (de_cmp (op_inT (k := 0) (hr.mono (by decide)) W.vol) (sn_inG hK) (de_ix ix_all sn_ix (dv 0) de_int (fun _ _ => rfl)) (de_gts (pe_glob (v := .ref a_DEEDS) (by rfl) mg_DEEDS rfl) hK gts_DEEDS) (by rfl)))))))), fun ds Kk KE h => ?_⟩
  obtain ⟨d, n, rfl, h⟩ := h
  (try simp only [DL.iteB_true, DL.iteB_false, DL.sSeq, DL.sNext, DL.sRet, DL.sRetN, DL.sIf, DL.sAsg, DL.sNew, DL.sDrop, DL.sRel, DL.sApp, DL.sFor, DL.sBreak, DL.sCont, DL.sAsgT, DL.sPar, DL.sPar3, DL.sPar3DFD, DL.sParFD, DL.sParDF, DL.sExt, DL.sPut, DL.sAug, DL.sCut, DL.sRaise, DL.sWhile, DL.fVar, DL.fC, DL.fOb, DL.fGts, DL.f2, DL.f1, DL.fCall, DL.fB, DL.fTru, DL.fAnd, DL.fOr, DL.fNot, DL.fIf, DL.tAndD, DL.tOrD, DL.tNotD, DL.fNil, DL.fCons, DL.fTup, DL.fLst, DL.fDnew, DL.fNew, DL.fIt, DL.fRng1, DL.fRng2, DL.fLc, DL.fAG, DL.fFn, DL.fFnX, DL.fFnK, DL.fSl, DL.fNone, DL.fPart, DL.fList, DL.fM0, DL.fM1, DL.tYesD, DL.gdN, DL.gdT_t, DL.gdNil_n, DL.gdCons_c, DL.op2, DL.op1, DL.opC, DL.c1, DL.isiP, DL.typeO, DL.tyIs, DL.inG, DL.isND, DL.rel, DL.wipeD, DL.le_s0, DL.le_s1, DL.le_s2, DL.le_s3, DL.le_s4, DL.le_s5, DL.le_s6, DL.le_s7, DL.le_s8, DL.le_s9, DL.le_s10, DL.le_s11, DL.le_s12, DL.le_s13, DL.le_s14, DL.le_s15, DL.le_s16, DL.le_s17, DL.le_s18, DL.le_s19, DL.le_s20, DL.le_s21, DL.le_s22, DL.le_s23, DL.le_s24, DL.le_s25, DL.le_s26, DL.le_s27, DL.le_s28, DL.le_s29, DL.le_s30, DL.le_s31, DL.le_s32, DL.le_s33, DL.le_s34, DL.le_s35, DL.le_s36, DL.le_s37, DL.le_s38, DL.le_s39, DL.le_s40, DL.le_s41, DL.le_s42, DL.le_s43, DL.le_s44, DL.le_s45, DL.le_s46, DL.le_s47, DL.le_s48, DL.le_s49, DL.le_s50, DL.le_s51, DL.le_s52, DL.le_s53, DL.le_s54, DL.le_s55, DL.le_s56, DL.le_s57, DL.le_s58, DL.le_s59, DL.le_s60, DL.le_s61, DL.le_s62, DL.le_s63, DL.le_s64, DL.start0, DL.asDat, DL.lend, DL.noOwn, DL.DV.isOwn, DL.pd_dat, DL.pd_own, DL.ocpd_lst, DL.ocpd_dk, DL.itemsOf, List.map_cons, List.map_nil, List.append_nil, List.cons_append, List.nil_append, List.length_cons, List.length_nil, List.replicate_succ, List.replicate_zero, List.getElem?_cons_zero, List.getElem?_cons_succ, List.set_cons_zero, List.set_cons_succ, Nat.reduceSub, Nat.reduceAdd, Nat.sub_self, Nat.zero_add, Option.some.injEq, DL.DV.dat.injEq, PyData.bool.injEq, PyData.int.injEq, PyData.str.injEq, PyData.tuple.injEq, PyData.list.injEq, DL.DV.ob.injEq, V.ty.injEq, DL.DV.own.injEq, DL.OC.lst.injEq, List.cons.injEq, Option.map_some, exists_eq_left', exists_eq_left, exists_eq_right, exists_eq_right', exists_and_left, and_true, true_and, Bool.not_true, Bool.not_false, Bool.and_true, Bool.true_and, true_or, Bool.not_eq_true', Bool.false_eq_true, if_true, if_false, reduceIte, reduceCtorEq])
  cases d with
  | tuple xs =>
    by_cases hl : xs.length = 2
    · obtain ⟨a, b, rfl⟩ := len2D hl
      (try simp only [DL.negP_i, DL.le_s0, DL.le_s1, DL.le_s2, DL.le_s3, DL.le_s4, DL.le_s5, DL.le_s6, DL.le_s7, DL.le_s8, DL.le_s9, DL.le_s10, DL.le_s11, DL.le_s12, DL.le_s13, DL.le_s14, DL.le_s15, DL.le_s16, DL.le_s17, DL.le_s18, DL.le_s19, DL.le_s20, DL.le_s21, DL.le_s22, DL.le_s23, DL.le_s24, DL.le_s25, DL.le_s26, DL.le_s27, DL.le_s28, DL.le_s29, DL.le_s30, DL.le_s31, DL.le_s32, DL.le_s33, DL.le_s34, DL.le_s35, DL.le_s36, DL.le_s37, DL.le_s38, DL.le_s39, DL.le_s40, DL.le_s41, DL.le_s42, DL.le_s43, DL.le_s44, DL.le_s45, DL.le_s46, DL.le_s47, DL.le_s48, DL.le_s49, DL.le_s50, DL.le_s51, DL.le_s52, DL.le_s53, DL.le_s54, DL.le_s55, DL.le_s56, DL.le_s57, DL.le_s58, DL.le_s59, DL.le_s60, DL.le_s61, DL.le_s62, DL.le_s63, DL.le_s64, DL.iteB_true, DL.iteB_false, DL.lenP_t, DL.lenP_l, DL.lenP_s, DL.eqP, DL.eqOk_int, DL.eqOk_str, DL.eqOk_emp, DL.eqOk_empL, DL.eqv_emp1, DL.eqv_empL1, DL.eqv_ii, DL.eqv_ss, DL.ixP_t, DL.ixP_l, DL.ixP_s, DL.slP_t, DL.slP_l, DL.slP_s, DL.intcP_i, DL.intcP_b, DL.intcP_s, DL.tupcP_l, DL.tupcP_t, DL.atI_z, DL.atI_o, DL.atI_t, DL.int0P_ii, DL.intP_ii, DL.addP_ii, DL.addP_ss, DL.addP_tt, DL.addP_ll, DL.isTup_t, DL.reprP, Bool.false_eq_true, if_true, if_false, reduceIte, Option.some.injEq, PyData.bool.injEq, exists_eq_left', exists_eq_left, exists_eq_right, exists_eq_right', true_and, and_true, Bool.true_eq_false, Bool.not_true, Bool.not_false, false_and, and_false, exists_and_left, reduceCtorEq, DL.DV.gts.injEq, exists_const])
      have e : ((([a, b].length : Nat) : Int) == 2) = true := rfl
      rw [e]
      (try simp only [DL.negP_i, DL.le_s0, DL.le_s1, DL.le_s2, DL.le_s3, DL.le_s4, DL.le_s5, DL.le_s6, DL.le_s7, DL.le_s8, DL.le_s9, DL.le_s10, DL.le_s11, DL.le_s12, DL.le_s13, DL.le_s14, DL.le_s15, DL.le_s16, DL.le_s17, DL.le_s18, DL.le_s19, DL.le_s20, DL.le_s21, DL.le_s22, DL.le_s23, DL.le_s24, DL.le_s25, DL.le_s26, DL.le_s27, DL.le_s28, DL.le_s29, DL.le_s30, DL.le_s31, DL.le_s32, DL.le_s33, DL.le_s34, DL.le_s35, DL.le_s36, DL.le_s37, DL.le_s38, DL.le_s39, DL.le_s40, DL.le_s41, DL.le_s42, DL.le_s43, DL.le_s44, DL.le_s45, DL.le_s46, DL.le_s47, DL.le_s48, DL.le_s49, DL.le_s50, DL.le_s51, DL.le_s52, DL.le_s53, DL.le_s54, DL.le_s55, DL.le_s56, DL.le_s57, DL.le_s58, DL.le_s59, DL.le_s60, DL.le_s61, DL.le_s62, DL.le_s63, DL.le_s64, DL.iteB_true, DL.iteB_false, DL.lenP_t, DL.lenP_l, DL.lenP_s, DL.eqP, DL.eqOk_int, DL.eqOk_str, DL.eqOk_emp, DL.eqOk_empL, DL.eqv_emp1, DL.eqv_empL1, DL.eqv_ii, DL.eqv_ss, DL.ixP_t, DL.ixP_l, DL.ixP_s, DL.slP_t, DL.slP_l, DL.slP_s, DL.intcP_i, DL.intcP_b, DL.intcP_s, DL.tupcP_l, DL.tupcP_t, DL.atI_z, DL.atI_o, DL.atI_t, DL.int0P_ii, DL.intP_ii, DL.addP_ii, DL.addP_ss, DL.addP_tt, DL.addP_ll, DL.isTup_t, DL.reprP, Bool.false_eq_true, if_true, if_false, reduceIte, Option.some.injEq, PyData.bool.injEq, exists_eq_left', exists_eq_left, exists_eq_right, exists_eq_right', true_and, and_true, Bool.true_eq_false, Bool.not_true, Bool.not_false, false_and, and_false, exists_and_left, reduceCtorEq, DL.DV.gts.injEq, exists_const])
      refine ⟨a, rfl, ?_⟩
      (try simp only [DL.iteB_true, DL.iteB_false, DL.sSeq, DL.sNext, DL.sRet, DL.sRetN, DL.sIf, DL.sAsg, DL.sNew, DL.sDrop, DL.sRel, DL.sApp, DL.sFor, DL.sBreak, DL.sCont, DL.sAsgT, DL.sPar, DL.sPar3, DL.sPar3DFD, DL.sParFD, DL.sParDF, DL.sExt, DL.sPut, DL.sAug, DL.sCut, DL.sRaise, DL.sWhile, DL.fVar, DL.fC, DL.fOb, DL.fGts, DL.f2, DL.f1, DL.fCall, DL.fB, DL.fTru, DL.fAnd, DL.fOr, DL.fNot, DL.fIf, DL.tAndD, DL.tOrD, DL.tNotD, DL.fNil, DL.fCons, DL.fTup, DL.fLst, DL.fDnew, DL.fNew, DL.fIt, DL.fRng1, DL.fRng2, DL.fLc, DL.fAG, DL.fFn, DL.fFnX, DL.fFnK, DL.fSl, DL.fNone, DL.fPart, DL.fList, DL.fM0, DL.fM1, DL.tYesD, DL.gdN, DL.gdT_t, DL.gdNil_n, DL.gdCons_c, DL.op2, DL.op1, DL.opC, DL.c1, DL.isiP, DL.typeO, DL.tyIs, DL.inG, DL.isND, DL.rel, DL.wipeD, DL.le_s0, DL.le_s1, DL.le_s2, DL.le_s3, DL.le_s4, DL.le_s5, DL.le_s6, DL.le_s7, DL.le_s8, DL.le_s9, DL.le_s10, DL.le_s11, DL.le_s12, DL.le_s13, DL.le_s14, DL.le_s15, DL.le_s16, DL.le_s17, DL.le_s18, DL.le_s19, DL.le_s20, DL.le_s21, DL.le_s22, DL.le_s23, DL.le_s24, DL.le_s25, DL.le_s26, DL.le_s27, DL.le_s28, DL.le_s29, DL.le_s30, DL.le_s31, DL.le_s32, DL.le_s33, DL.le_s34, DL.le_s35, DL.le_s36, DL.le_s37, DL.le_s38, DL.le_s39, DL.le_s40, DL.le_s41, DL.le_s42, DL.le_s43, DL.le_s44, DL.le_s45, DL.le_s46, DL.le_s47, DL.le_s48, DL.le_s49, DL.le_s50, DL.le_s51, DL.le_s52, DL.le_s53, DL.le_s54, DL.le_s55, DL.le_s56, DL.le_s57, DL.le_s58, DL.le_s59, DL.le_s60, DL.le_s61, DL.le_s62, DL.le_s63, DL.le_s64, DL.start0, DL.asDat, DL.lend, DL.noOwn, DL.DV.isOwn, DL.pd_dat, DL.pd_own, DL.ocpd_lst, DL.ocpd_dk, DL.itemsOf, List.map_cons, List.map_nil, List.append_nil, List.cons_append, List.nil_append, List.length_cons, List.length_nil, List.replicate_succ, List.replicate_zero, List.getElem?_cons_zero, List.getElem?_cons_succ, List.set_cons_zero, List.set_cons_succ, Nat.reduceSub, Nat.reduceAdd, Nat.sub_self, Nat.zero_add, Option.some.injEq, DL.DV.dat.injEq, PyData.bool.injEq, PyData.int.injEq, PyData.str.injEq, PyData.tuple.injEq, PyData.list.injEq, DL.DV.ob.injEq, V.ty.injEq, DL.DV.own.injEq, DL.OC.lst.injEq, List.cons.injEq, Option.map_some, exists_eq_left', exists_eq_left, exists_eq_right, exists_eq_right', exists_and_left, and_true, true_and, Bool.not_true, Bool.not_false, Bool.and_true, Bool.true_and, true_or, Bool.not_eq_true', Bool.false_eq_true, if_true, if_false, reduceIte, reduceCtorEq])
      have hr : ruleB n (.tuple [a, b]) = (wholeD a && (atMost n a && isDeed b)) := rfl
      rw [hr] at h
      cases a with
      | int i =>
        (try simp only [DL.negP_i, DL.le_s0, DL.le_s1, DL.le_s2, DL.le_s3, DL.le_s4, DL.le_s5, DL.le_s6, DL.le_s7, DL.le_s8, DL.le_s9, DL.le_s10, DL.le_s11, DL.le_s12, DL.le_s13, DL.le_s14, DL.le_s15, DL.le_s16, DL.le_s17, DL.le_s18, DL.le_s19, DL.le_s20, DL.le_s21, DL.le_s22, DL.le_s23, DL.le_s24, DL.le_s25, DL.le_s26, DL.le_s27, DL.le_s28, DL.le_s29, DL.le_s30, DL.le_s31, DL.le_s32, DL.le_s33, DL.le_s34, DL.le_s35, DL.le_s36, DL.le_s37, DL.le_s38, DL.le_s39, DL.le_s40, DL.le_s41, DL.le_s42, DL.le_s43, DL.le_s44, DL.le_s45, DL.le_s46, DL.le_s47, DL.le_s48, DL.le_s49, DL.le_s50, DL.le_s51, DL.le_s52, DL.le_s53, DL.le_s54, DL.le_s55, DL.le_s56, DL.le_s57, DL.le_s58, DL.le_s59, DL.le_s60, DL.le_s61, DL.le_s62, DL.le_s63, DL.le_s64, DL.iteB_true, DL.iteB_false, DL.lenP_t, DL.lenP_l, DL.lenP_s, DL.eqP, DL.eqOk_int, DL.eqOk_str, DL.eqOk_emp, DL.eqOk_empL, DL.eqv_emp1, DL.eqv_empL1, DL.eqv_ii, DL.eqv_ss, DL.ixP_t, DL.ixP_l, DL.ixP_s, DL.slP_t, DL.slP_l, DL.slP_s, DL.intcP_i, DL.intcP_b, DL.intcP_s, DL.tupcP_l, DL.tupcP_t, DL.atI_z, DL.atI_o, DL.atI_t, DL.int0P_ii, DL.intP_ii, DL.addP_ii, DL.addP_ss, DL.addP_tt, DL.addP_ll, DL.isTup_t, DL.reprP, Bool.false_eq_true, if_true, if_false, reduceIte, Option.some.injEq, PyData.bool.injEq, exists_eq_left', exists_eq_left, exists_eq_right, exists_eq_right', true_and, and_true, Bool.true_eq_false, Bool.not_true, Bool.not_false, false_and, and_false, exists_and_left, reduceCtorEq, DL.DV.gts.injEq, exists_const])
        cases hw : wholeD (.int i) with
        | true =>
          rw [hw, Bool.true_and] at h
          (try simp only [DL.negP_i, DL.le_s0, DL.le_s1, DL.le_s2, DL.le_s3, DL.le_s4, DL.le_s5, DL.le_s6, DL.le_s7, DL.le_s8, DL.le_s9, DL.le_s10, DL.le_s11, DL.le_s12, DL.le_s13, DL.le_s14, DL.le_s15, DL.le_s16, DL.le_s17, DL.le_s18, DL.le_s19, DL.le_s20, DL.le_s21, DL.le_s22, DL.le_s23, DL.le_s24, DL.le_s25, DL.le_s26, DL.le_s27, DL.le_s28, DL.le_s29, DL.le_s30, DL.le_s31, DL.le_s32, DL.le_s33, DL.le_s34, DL.le_s35, DL.le_s36, DL.le_s37, DL.le_s38, DL.le_s39, DL.le_s40, DL.le_s41, DL.le_s42, DL.le_s43, DL.le_s44, DL.le_s45, DL.le_s46, DL.le_s47, DL.le_s48, DL.le_s49, DL.le_s50, DL.le_s51, DL.le_s52, DL.le_s53, DL.le_s54, DL.le_s55, DL.le_s56, DL.le_s57, DL.le_s58, DL.le_s59, DL.le_s60, DL.le_s61, DL.le_s62, DL.le_s63, DL.le_s64, DL.iteB_true, DL.iteB_false, DL.lenP_t, DL.lenP_l, DL.lenP_s, DL.eqP, DL.eqOk_int, DL.eqOk_str, DL.eqOk_emp, DL.eqOk_empL, DL.eqv_emp1, DL.eqv_empL1, DL.eqv_ii, DL.eqv_ss, DL.ixP_t, DL.ixP_l, DL.ixP_s, DL.slP_t, DL.slP_l, DL.slP_s, DL.intcP_i, DL.intcP_b, DL.intcP_s, DL.tupcP_l, DL.tupcP_t, DL.atI_z, DL.atI_o, DL.atI_t, DL.int0P_ii, DL.intP_ii, DL.addP_ii, DL.addP_ss, DL.addP_tt, DL.addP_ll, DL.isTup_t, DL.reprP, Bool.false_eq_true, if_true, if_false, reduceIte, Option.some.injEq, PyData.bool.injEq, exists_eq_left', exists_eq_left, exists_eq_right, exists_eq_right', true_and, and_true, Bool.true_eq_false, Bool.not_true, Bool.not_false, false_and, and_false, exists_and_left, reduceCtorEq, DL.DV.gts.injEq, exists_const])
          cases hm : decide (i ≤ n) with
          | true =>
            rw [show atMost n (.int i) = true from hm, Bool.true_and] at h
            (try simp only [DL.negP_i, DL.le_s0, DL.le_s1, DL.le_s2, DL.le_s3, DL.le_s4, DL.le_s5, DL.le_s6, DL.le_s7, DL.le_s8, DL.le_s9, DL.le_s10, DL.le_s11, DL.le_s12, DL.le_s13, DL.le_s14, DL.le_s15, DL.le_s16, DL.le_s17, DL.le_s18, DL.le_s19, DL.le_s20, DL.le_s21, DL.le_s22, DL.le_s23, DL.le_s24, DL.le_s25, DL.le_s26, DL.le_s27, DL.le_s28, DL.le_s29, DL.le_s30, DL.le_s31, DL.le_s32, DL.le_s33, DL.le_s34, DL.le_s35, DL.le_s36, DL.le_s37, DL.le_s38, DL.le_s39, DL.le_s40, DL.le_s41, DL.le_s42, DL.le_s43, DL.le_s44, DL.le_s45, DL.le_s46, DL.le_s47, DL.le_s48, DL.le_s49, DL.le_s50, DL.le_s51, DL.le_s52, DL.le_s53, DL.le_s54, DL.le_s55, DL.le_s56, DL.le_s57, DL.le_s58, DL.le_s59, DL.le_s60, DL.le_s61, DL.le_s62, DL.le_s63, DL.le_s64, DL.iteB_true, DL.iteB_false, DL.lenP_t, DL.lenP_l, DL.lenP_s, DL.eqP, DL.eqOk_int, DL.eqOk_str, DL.eqOk_emp, DL.eqOk_empL, DL.eqv_emp1, DL.eqv_empL1, DL.eqv_ii, DL.eqv_ss, DL.ixP_t, DL.ixP_l, DL.ixP_s, DL.slP_t, DL.slP_l, DL.slP_s, DL.intcP_i, DL.intcP_b, DL.intcP_s, DL.tupcP_l, DL.tupcP_t, DL.atI_z, DL.atI_o, DL.atI_t, DL.int0P_ii, DL.intP_ii, DL.addP_ii, DL.addP_ss, DL.addP_tt, DL.addP_ll, DL.isTup_t, DL.reprP, Bool.false_eq_true, if_true, if_false, reduceIte, Option.some.injEq, PyData.bool.injEq, exists_eq_left', exists_eq_left, exists_eq_right, exists_eq_right', true_and, and_true, Bool.true_eq_false, Bool.not_true, Bool.not_false, false_and, and_false, exists_and_left, reduceCtorEq, DL.DV.gts.injEq, exists_const])
            exact h
          | false =>
            rw [show atMost n (.int i) = false from hm, Bool.false_and] at h
            (try simp only [DL.negP_i, DL.le_s0, DL.le_s1, DL.le_s2, DL.le_s3, DL.le_s4, DL.le_s5, DL.le_s6, DL.le_s7, DL.le_s8, DL.le_s9, DL.le_s10, DL.le_s11, DL.le_s12, DL.le_s13, DL.le_s14, DL.le_s15, DL.le_s16, DL.le_s17, DL.le_s18, DL.le_s19, DL.le_s20, DL.le_s21, DL.le_s22, DL.le_s23, DL.le_s24, DL.le_s25, DL.le_s26, DL.le_s27, DL.le_s28, DL.le_s29, DL.le_s30, DL.le_s31, DL.le_s32, DL.le_s33, DL.le_s34, DL.le_s35, DL.le_s36, DL.le_s37, DL.le_s38, DL.le_s39, DL.le_s40, DL.le_s41, DL.le_s42, DL.le_s43, DL.le_s44, DL.le_s45, DL.le_s46, DL.le_s47, DL.le_s48, DL.le_s49, DL.le_s50, DL.le_s51, DL.le_s52, DL.le_s53, DL.le_s54, DL.le_s55, DL.le_s56, DL.le_s57, DL.le_s58, DL.le_s59, DL.le_s60, DL.le_s61, DL.le_s62, DL.le_s63, DL.le_s64, DL.iteB_true, DL.iteB_false, DL.lenP_t, DL.lenP_l, DL.lenP_s, DL.eqP, DL.eqOk_int, DL.eqOk_str, DL.eqOk_emp, DL.eqOk_empL, DL.eqv_emp1, DL.eqv_empL1, DL.eqv_ii, DL.eqv_ss, DL.ixP_t, DL.ixP_l, DL.ixP_s, DL.slP_t, DL.slP_l, DL.slP_s, DL.intcP_i, DL.intcP_b, DL.intcP_s, DL.tupcP_l, DL.tupcP_t, DL.atI_z, DL.atI_o, DL.atI_t, DL.int0P_ii, DL.intP_ii, DL.addP_ii, DL.addP_ss, DL.addP_tt, DL.addP_ll, DL.isTup_t, DL.reprP, Bool.false_eq_true, if_true, if_false, reduceIte, Option.some.injEq, PyData.bool.injEq, exists_eq_left', exists_eq_left, exists_eq_right, exists_eq_right', true_and, and_true, Bool.true_eq_false, Bool.not_true, Bool.not_false, false_and, and_false, exists_and_left, reduceCtorEq, DL.DV.gts.injEq, exists_const])
            exact h
        | false =>
          rw [hw, Bool.false_and] at h
          (try simp only [DL.negP_i, DL.le_s0, DL.le_s1, DL.le_s2, DL.le_s3, DL.le_s4, DL.le_s5, DL.le_s6, DL.le_s7, DL.le_s8, DL.le_s9, DL.le_s10, DL.le_s11, DL.le_s12, DL.le_s13, DL.le_s14, DL.le_s15, DL.le_s16, DL.le_s17, DL.le_s18, DL.le_s19, DL.le_s20, DL.le_s21, DL.le_s22, DL.le_s23, DL.le_s24, DL.le_s25, DL.le_s26, DL.le_s27, DL.le_s28, DL.le_s29, DL.le_s30, DL.le_s31, DL.le_s32, DL.le_s33, DL.le_s34, DL.le_s35, DL.le_s36, DL.le_s37, DL.le_s38, DL.le_s39, DL.le_s40, DL.le_s41, DL.le_s42, DL.le_s43, DL.le_s44, DL.le_s45, DL.le_s46, DL.le_s47, DL.le_s48, DL.le_s49, DL.le_s50, DL.le_s51, DL.le_s52, DL.le_s53, DL.le_s54, DL.le_s55, DL.le_s56, DL.le_s57, DL.le_s58, DL.le_s59, DL.le_s60, DL.le_s61, DL.le_s62, DL.le_s63, DL.le_s64, DL.iteB_true, DL.iteB_false, DL.lenP_t, DL.lenP_l, DL.lenP_s, DL.eqP, DL.eqOk_int, DL.eqOk_str, DL.eqOk_emp, DL.eqOk_empL, DL.eqv_emp1, DL.eqv_empL1, DL.eqv_ii, DL.eqv_ss, DL.ixP_t, DL.ixP_l, DL.ixP_s, DL.slP_t, DL.slP_l, DL.slP_s, DL.intcP_i, DL.intcP_b, DL.intcP_s, DL.tupcP_l, DL.tupcP_t, DL.atI_z, DL.atI_o, DL.atI_t, DL.int0P_ii, DL.intP_ii, DL.addP_ii, DL.addP_ss, DL.addP_tt, DL.addP_ll, DL.isTup_t, DL.reprP, Bool.false_eq_true, if_true, if_false, reduceIte, Option.some.injEq, PyData.bool.injEq, exists_eq_left', exists_eq_left, exists_eq_right, exists_eq_right', true_and, and_true, Bool.true_eq_false, Bool.not_true, Bool.not_false, false_and, and_false, exists_and_left, reduceCtorEq, DL.DV.gts.injEq, exists_const])
          exact h
      | _ => simpa [wholeD] using h
    · (try simp only [DL.negP_i, DL.le_s0, DL.le_s1, DL.le_s2, DL.le_s3, DL.le_s4, DL.le_s5, DL.le_s6, DL.le_s7, DL.le_s8, DL.le_s9, DL.le_s10, DL.le_s11, DL.le_s12, DL.le_s13, DL.le_s14, DL.le_s15, DL.le_s16, DL.le_s17, DL.le_s18, DL.le_s19, DL.le_s20, DL.le_s21, DL.le_s22, DL.le_s23, DL.le_s24, DL.le_s25, DL.le_s26, DL.le_s27, DL.le_s28, DL.le_s29, DL.le_s30, DL.le_s31, DL.le_s32, DL.le_s33, DL.le_s34, DL.le_s35, DL.le_s36, DL.le_s37, DL.le_s38, DL.le_s39, DL.le_s40, DL.le_s41, DL.le_s42, DL.le_s43, DL.le_s44, DL.le_s45, DL.le_s46, DL.le_s47, DL.le_s48, DL.le_s49, DL.le_s50, DL.le_s51, DL.le_s52, DL.le_s53, DL.le_s54, DL.le_s55, DL.le_s56, DL.le_s57, DL.le_s58, DL.le_s59, DL.le_s60, DL.le_s61, DL.le_s62, DL.le_s63, DL.le_s64, DL.iteB_true, DL.iteB_false, DL.lenP_t, DL.lenP_l, DL.lenP_s, DL.eqP, DL.eqOk_int, DL.eqOk_str, DL.eqOk_emp, DL.eqOk_empL, DL.eqv_emp1, DL.eqv_empL1, DL.eqv_ii, DL.eqv_ss, DL.ixP_t, DL.ixP_l, DL.ixP_s, DL.slP_t, DL.slP_l, DL.slP_s, DL.intcP_i, DL.intcP_b, DL.intcP_s, DL.tupcP_l, DL.tupcP_t, DL.atI_z, DL.atI_o, DL.atI_t, DL.int0P_ii, DL.intP_ii, DL.addP_ii, DL.addP_ss, DL.addP_tt, DL.addP_ll, DL.isTup_t, DL.reprP, Bool.false_eq_true, if_true, if_false, reduceIte, Option.some.injEq, PyData.bool.injEq, exists_eq_left', exists_eq_left, exists_eq_right, exists_eq_right', true_and, and_true, Bool.true_eq_false, Bool.not_true, Bool.not_false, false_and, and_false, exists_and_left, reduceCtorEq, DL.DV.gts.injEq, exists_const])
      have e : ((xs.length : Int) == 2) = false := by simpa using (by omega : ¬ (xs.length : Int) = 2)
      rw [e]
      (try simp only [DL.negP_i, DL.le_s0, DL.le_s1, DL.le_s2, DL.le_s3, DL.le_s4, DL.le_s5, DL.le_s6, DL.le_s7, DL.le_s8, DL.le_s9, DL.le_s10, DL.le_s11, DL.le_s12, DL.le_s13, DL.le_s14, DL.le_s15, DL.le_s16, DL.le_s17, DL.le_s18, DL.le_s19, DL.le_s20, DL.le_s21, DL.le_s22, DL.le_s23, DL.le_s24, DL.le_s25, DL.le_s26, DL.le_s27, DL.le_s28, DL.le_s29, DL.le_s30, DL.le_s31, DL.le_s32, DL.le_s33, DL.le_s34, DL.le_s35, DL.le_s36, DL.le_s37, DL.le_s38, DL.le_s39, DL.le_s40, DL.le_s41, DL.le_s42, DL.le_s43, DL.le_s44, DL.le_s45, DL.le_s46, DL.le_s47, DL.le_s48, DL.le_s49, DL.le_s50, DL.le_s51, DL.le_s52, DL.le_s53, DL.le_s54, DL.le_s55, DL.le_s56, DL.le_s57, DL.le_s58, DL.le_s59, DL.le_s60, DL.le_s61, DL.le_s62, DL.le_s63, DL.le_s64, DL.iteB_true, DL.iteB_false, DL.lenP_t, DL.lenP_l, DL.lenP_s, DL.eqP, DL.eqOk_int, DL.eqOk_str, DL.eqOk_emp, DL.eqOk_empL, DL.eqv_emp1, DL.eqv_empL1, DL.eqv_ii, DL.eqv_ss, DL.ixP_t, DL.ixP_l, DL.ixP_s, DL.slP_t, DL.slP_l, DL.slP_s, DL.intcP_i, DL.intcP_b, DL.intcP_s, DL.tupcP_l, DL.tupcP_t, DL.atI_z, DL.atI_o, DL.atI_t, DL.int0P_ii, DL.intP_ii, DL.addP_ii, DL.addP_ss, DL.addP_tt, DL.addP_ll, DL.isTup_t, DL.reprP, Bool.false_eq_true, if_true, if_false, reduceIte, Option.some.injEq, PyData.bool.injEq, exists_eq_left', exists_eq_left, exists_eq_right, exists_eq_right', true_and, and_true, Bool.true_eq_false, Bool.not_true, Bool.not_false, false_and, and_false, exists_and_left, reduceCtorEq, DL.DV.gts.injEq, exists_const])
      simpa [rule_no hl] using h
  | _ => simpa [isTup, ruleB] using h
def stateB (n : Int) : PyData → Bool
  | .tuple xs => decide (xs.length = 3) && xs.all (ruleB n)
  | _ => false
def F_state : FnD := fun ds K _ => ∃ d n, ds = [.dat d, .dat (.int n)] ∧ K (.bool (stateB n d))
theorem len_beq (xs : List PyData) (n : Nat) : (((xs.length : Nat) : Int) == (n : Int)) = decide (xs.length = n) := by
  rw [natcast_beq]
  rfl
theorem ok_state {fd fdR : FuncData} (T : TbP mg) (D : Df K mg "fits_state" s_fits_state P_fits_state fd) (D_fits_rule : Df K mg "fits_rule" s_fits_rule P_fits_rule fdR) (G_fits_rule : FnOk P w K mg base CX0 5 (He.fAd K ("fits_rule", none)) fdR P_fits_rule (spD (WP K Tl) F_rule))
    (hT2 : (He.cT K ("fits_state", none)).2 ∈ Tl) (TB_fits_state : TabB base mg (He.cT K ("fits_state", none)).1 (He.cT K ("fits_state", none)).2) : FnOk P w K mg base CX0 9 (He.fAd K ("fits_state", none)) fd P_fits_state (spD (WP K Tl) F_state) := by
  refine okD D.F sc_fits_state (fun ds Kk KE h => by obtain ⟨d, n, rfl, _⟩ := h; rfl) (fun W cdv A outer s E hW hcd hr => ?_)
  have hK : W.K = K := hW.k
  have hT_fits_state : (He.cT K ("fits_state", none)).2 ∈ W.Tl := by rw [hW.tl]; exact hT2
  refine ⟨_, (dss_one (ds_ret (de_and (de_cb (pe_callB call_isi (by rfl) T.isinstance (by decide +kernel) (da_cons (dv 0) (da_cons (de_ob (pe_bltn (v := .ty "tuple") (by rfl) T.tuple (by decide +kernel) rfl)) da_nil))) (sn_isi kb_tup)) (de_and (de_cmp (op_eqX hr W.vol) sn_eq (de_cb (pe_callB call_len (by rfl) T.len (by decide +kernel) (da_cons (dv 0) da_nil)) sn_len) de_int) (pe_one (de_all (own := [("part", 2)]) (g := gName 2) rfl sc_fits_state.nd hr (by rfl) T.all TB_fits_state hcd hT_fits_state (gnOk_by (own := [("part", 2)]) (N := N_fits_state) (sc := defScope s_fits_state) (by decide +kernel)) (di_seq (st := false) (dv 0) hK) (fun _ _ _ _ _ _ => (pg_name (i := 2) sc_fits_state.nd rfl (.inl rfl))) (sg_name (i := 2) (by simp)) (fun _ _ _ _ _ _ => (de_call (pe_call G_fits_rule ((room_gen hr).mono (by first | decide | omega)) (by rfl) D_fits_rule.g D_fits_rule.F.kp D_fits_rule.b .nil pass0 (da_cons (dv 2) (da_cons (dv 1) da_nil))) hW)))))))), fun ds Kk KE h => ?_⟩
  obtain ⟨d, n, rfl, h⟩ := h
  (try simp only [DL.iteB_true, DL.iteB_false, DL.sSeq, DL.sNext, DL.sRet, DL.sRetN, DL.sIf, DL.sAsg, DL.sNew, DL.sDrop, DL.sRel, DL.sApp, DL.sFor, DL.sBreak, DL.sCont, DL.sAsgT, DL.sPar, DL.sPar3, DL.sPar3DFD, DL.sParFD, DL.sParDF, DL.sExt, DL.sPut, DL.sAug, DL.sCut, DL.sRaise, DL.sWhile, DL.fVar, DL.fC, DL.fOb, DL.fGts, DL.f2, DL.f1, DL.fCall, DL.fB, DL.fTru, DL.fAnd, DL.fOr, DL.fNot, DL.fIf, DL.tAndD, DL.tOrD, DL.tNotD, DL.fNil, DL.fCons, DL.fTup, DL.fLst, DL.fDnew, DL.fNew, DL.fIt, DL.fRng1, DL.fRng2, DL.fLc, DL.fAG, DL.fFn, DL.fFnX, DL.fFnK, DL.fSl, DL.fNone, DL.fPart, DL.fList, DL.fM0, DL.fM1, DL.tYesD, DL.gdN, DL.gdT_t, DL.gdNil_n, DL.gdCons_c, DL.op2, DL.op1, DL.opC, DL.c1, DL.isiP, DL.typeO, DL.tyIs, DL.inG, DL.isND, DL.rel, DL.wipeD, DL.le_s0, DL.le_s1, DL.le_s2, DL.le_s3, DL.le_s4, DL.le_s5, DL.le_s6, DL.le_s7, DL.le_s8, DL.le_s9, DL.le_s10, DL.le_s11, DL.le_s12, DL.le_s13, DL.le_s14, DL.le_s15, DL.le_s16, DL.le_s17, DL.le_s18, DL.le_s19, DL.le_s20, DL.le_s21, DL.le_s22, DL.le_s23, DL.le_s24, DL.le_s25, DL.le_s26, DL.le_s27, DL.le_s28, DL.le_s29, DL.le_s30, DL.le_s31, DL.le_s32, DL.le_s33, DL.le_s34, DL.le_s35, DL.le_s36, DL.le_s37, DL.le_s38, DL.le_s39, DL.le_s40, DL.le_s41, DL.le_s42, DL.le_s43, DL.le_s44, DL.le_s45, DL.le_s46, DL.le_s47, DL.le_s48, DL.le_s49, DL.le_s50, DL.le_s51, DL.le_s52, DL.le_s53, DL.le_s54, DL.le_s55, DL.le_s56, DL.le_s57, DL.le_s58, DL.le_s59, DL.le_s60, DL.le_s61, DL.le_s62, DL.le_s63, DL.le_s64, DL.start0, DL.asDat, DL.lend, DL.noOwn, DL.DV.isOwn, DL.pd_dat, DL.pd_own, DL.ocpd_lst, DL.ocpd_dk, DL.itemsOf, List.map_cons, List.map_nil, List.append_nil, List.cons_append, List.nil_append, List.length_cons, List.length_nil, List.replicate_succ, List.replicate_zero, List.getElem?_cons_zero, List.getElem?_cons_succ, List.set_cons_zero, List.set_cons_succ, Nat.reduceSub, Nat.reduceAdd, Nat.sub_self, Nat.zero_add, Option.some.injEq, DL.DV.dat.injEq, PyData.bool.injEq, PyData.int.injEq, PyData.str.injEq, PyData.tuple.injEq, PyData.list.injEq, DL.DV.ob.injEq, V.ty.injEq, DL.DV.own.injEq, DL.OC.lst.injEq, List.cons.injEq, Option.map_some, exists_eq_left', exists_eq_left, exists_eq_right, exists_eq_right', exists_and_left, and_true, true_and, Bool.not_true, Bool.not_false, Bool.and_true, Bool.true_and, true_or, Bool.not_eq_true', Bool.false_eq_true, if_true, if_false, reduceIte, reduceCtorEq])
  cases d with
  | tuple xs =>
    (try simp only [DL.negP_i, DL.le_s0, DL.le_s1, DL.le_s2, DL.le_s3, DL.le_s4, DL.le_s5, DL.le_s6, DL.le_s7, DL.le_s8, DL.le_s9, DL.le_s10, DL.le_s11, DL.le_s12, DL.le_s13, DL.le_s14, DL.le_s15, DL.le_s16, DL.le_s17, DL.le_s18, DL.le_s19, DL.le_s20, DL.le_s21, DL.le_s22, DL.le_s23, DL.le_s24, DL.le_s25, DL.le_s26, DL.le_s27, DL.le_s28, DL.le_s29, DL.le_s30, DL.le_s31, DL.le_s32, DL.le_s33, DL.le_s34, DL.le_s35, DL.le_s36, DL.le_s37, DL.le_s38, DL.le_s39, DL.le_s40, DL.le_s41, DL.le_s42, DL.le_s43, DL.le_s44, DL.le_s45, DL.le_s46, DL.le_s47, DL.le_s48, DL.le_s49, DL.le_s50, DL.le_s51, DL.le_s52, DL.le_s53, DL.le_s54, DL.le_s55, DL.le_s56, DL.le_s57, DL.le_s58, DL.le_s59, DL.le_s60, DL.le_s61, DL.le_s62, DL.le_s63, DL.le_s64, DL.iteB_true, DL.iteB_false, DL.lenP_t, DL.lenP_l, DL.lenP_s, DL.eqP, DL.eqOk_int, DL.eqOk_str, DL.eqOk_emp, DL.eqOk_empL, DL.eqv_emp1, DL.eqv_empL1, DL.eqv_ii, DL.eqv_ss, DL.ixP_t, DL.ixP_l, DL.ixP_s, DL.slP_t, DL.slP_l, DL.slP_s, DL.intcP_i, DL.intcP_b, DL.intcP_s, DL.tupcP_l, DL.tupcP_t, DL.atI_z, DL.atI_o, DL.atI_t, DL.int0P_ii, DL.intP_ii, DL.addP_ii, DL.addP_ss, DL.addP_tt, DL.addP_ll, DL.isTup_t, DL.reprP, Bool.false_eq_true, if_true, if_false, reduceIte, Option.some.injEq, PyData.bool.injEq, exists_eq_left', exists_eq_left, exists_eq_right, exists_eq_right', true_and, and_true, Bool.true_eq_false, Bool.not_true, Bool.not_false, false_and, and_false, exists_and_left, reduceCtorEq, DL.DV.gts.injEq, exists_const])
    rw [show (((xs.length : Nat) : Int) == 3) = decide (xs.length = 3) from len_beq xs 3]
    have e : stateB n (.tuple xs) = (decide (xs.length = 3) && xs.all (ruleB n)) := rfl
    rw [e] at h
    cases hl : decide (xs.length = 3) with
    | true =>
      rw [hl, Bool.true_and] at h
      (try simp only [DL.negP_i, DL.le_s0, DL.le_s1, DL.le_s2, DL.le_s3, DL.le_s4, DL.le_s5, DL.le_s6, DL.le_s7, DL.le_s8, DL.le_s9, DL.le_s10, DL.le_s11, DL.le_s12, DL.le_s13, DL.le_s14, DL.le_s15, DL.le_s16, DL.le_s17, DL.le_s18, DL.le_s19, DL.le_s20, DL.le_s21, DL.le_s22, DL.le_s23, DL.le_s24, DL.le_s25, DL.le_s26, DL.le_s27, DL.le_s28, DL.le_s29, DL.le_s30, DL.le_s31, DL.le_s32, DL.le_s33, DL.le_s34, DL.le_s35, DL.le_s36, DL.le_s37, DL.le_s38, DL.le_s39, DL.le_s40, DL.le_s41, DL.le_s42, DL.le_s43, DL.le_s44, DL.le_s45, DL.le_s46, DL.le_s47, DL.le_s48, DL.le_s49, DL.le_s50, DL.le_s51, DL.le_s52, DL.le_s53, DL.le_s54, DL.le_s55, DL.le_s56, DL.le_s57, DL.le_s58, DL.le_s59, DL.le_s60, DL.le_s61, DL.le_s62, DL.le_s63, DL.le_s64, DL.iteB_true, DL.iteB_false, DL.lenP_t, DL.lenP_l, DL.lenP_s, DL.eqP, DL.eqOk_int, DL.eqOk_str, DL.eqOk_emp, DL.eqOk_empL, DL.eqv_emp1, DL.eqv_empL1, DL.eqv_ii, DL.eqv_ss, DL.ixP_t, DL.ixP_l, DL.ixP_s, DL.slP_t, DL.slP_l, DL.slP_s, DL.intcP_i, DL.intcP_b, DL.intcP_s, DL.tupcP_l, DL.tupcP_t, DL.atI_z, DL.atI_o, DL.atI_t, DL.int0P_ii, DL.intP_ii, DL.addP_ii, DL.addP_ss, DL.addP_tt, DL.addP_ll, DL.isTup_t, DL.reprP, Bool.false_eq_true, if_true, if_false, reduceIte, Option.some.injEq, PyData.bool.injEq, exists_eq_left', exists_eq_left, exists_eq_right, exists_eq_right', true_and, and_true, Bool.true_eq_false, Bool.not_true, Bool.not_false, false_and, and_false, exists_and_left, reduceCtorEq, DL.DV.gts.injEq, exists_const])
      refine ag_fun (p := ruleB n) (fun d _ Q q => ?_) h
      (try simp only [DL.iteB_true, DL.iteB_false, DL.sSeq, DL.sNext, DL.sRet, DL.sRetN, DL.sIf, DL.sAsg, DL.sNew, DL.sDrop, DL.sRel, DL.sApp, DL.sFor, DL.sBreak, DL.sCont, DL.sAsgT, DL.sPar, DL.sPar3, DL.sPar3DFD, DL.sParFD, DL.sParDF, DL.sExt, DL.sPut, DL.sAug, DL.sCut, DL.sRaise, DL.sWhile, DL.fVar, DL.fC, DL.fOb, DL.fGts, DL.f2, DL.f1, DL.fCall, DL.fB, DL.fTru, DL.fAnd, DL.fOr, DL.fNot, DL.fIf, DL.tAndD, DL.tOrD, DL.tNotD, DL.fNil, DL.fCons, DL.fTup, DL.fLst, DL.fDnew, DL.fNew, DL.fIt, DL.fRng1, DL.fRng2, DL.fLc, DL.fAG, DL.fFn, DL.fFnX, DL.fFnK, DL.fSl, DL.fNone, DL.fPart, DL.fList, DL.fM0, DL.fM1, DL.tYesD, DL.gdN, DL.gdT_t, DL.gdNil_n, DL.gdCons_c, DL.op2, DL.op1, DL.opC, DL.c1, DL.isiP, DL.typeO, DL.tyIs, DL.inG, DL.isND, DL.rel, DL.wipeD, DL.le_s0, DL.le_s1, DL.le_s2, DL.le_s3, DL.le_s4, DL.le_s5, DL.le_s6, DL.le_s7, DL.le_s8, DL.le_s9, DL.le_s10, DL.le_s11, DL.le_s12, DL.le_s13, DL.le_s14, DL.le_s15, DL.le_s16, DL.le_s17, DL.le_s18, DL.le_s19, DL.le_s20, DL.le_s21, DL.le_s22, DL.le_s23, DL.le_s24, DL.le_s25, DL.le_s26, DL.le_s27, DL.le_s28, DL.le_s29, DL.le_s30, DL.le_s31, DL.le_s32, DL.le_s33, DL.le_s34, DL.le_s35, DL.le_s36, DL.le_s37, DL.le_s38, DL.le_s39, DL.le_s40, DL.le_s41, DL.le_s42, DL.le_s43, DL.le_s44, DL.le_s45, DL.le_s46, DL.le_s47, DL.le_s48, DL.le_s49, DL.le_s50, DL.le_s51, DL.le_s52, DL.le_s53, DL.le_s54, DL.le_s55, DL.le_s56, DL.le_s57, DL.le_s58, DL.le_s59, DL.le_s60, DL.le_s61, DL.le_s62, DL.le_s63, DL.le_s64, DL.start0, DL.asDat, DL.lend, DL.noOwn, DL.DV.isOwn, DL.pd_dat, DL.pd_own, DL.ocpd_lst, DL.ocpd_dk, DL.itemsOf, List.map_cons, List.map_nil, List.append_nil, List.cons_append, List.nil_append, List.length_cons, List.length_nil, List.replicate_succ, List.replicate_zero, List.getElem?_cons_zero, List.getElem?_cons_succ, List.set_cons_zero, List.set_cons_succ, Nat.reduceSub, Nat.reduceAdd, Nat.sub_self, Nat.zero_add, Option.some.injEq, DL.DV.dat.injEq, PyData.bool.injEq, PyData.int.injEq, PyData.str.injEq, PyData.tuple.injEq, PyData.list.injEq, DL.DV.ob.injEq, V.ty.injEq, DL.DV.own.injEq, DL.OC.lst.injEq, List.cons.injEq, Option.map_some, exists_eq_left', exists_eq_left, exists_eq_right, exists_eq_right', exists_and_left, and_true, true_and, Bool.not_true, Bool.not_false, Bool.and_true, Bool.true_and, true_or, Bool.not_eq_true', Bool.false_eq_true, if_true, if_false, reduceIte, reduceCtorEq])
      exact ⟨d, n, rfl, q⟩
    | false =>
      rw [hl, Bool.false_and] at h
      exact h
  | _ => simpa [isTup, stateB] using h
def machB : PyData → Bool
  | .tuple xs => decide (0 < xs.length) && xs.all (stateB xs.length)
  | _ => false
def F_mach : FnD := fun ds K _ => ∃ d, ds = [.dat d] ∧ K (.bool (machB d))
theorem ok_mach {fd fdR : FuncData} (T : TbP mg) (D : Df K mg "is_machine" s_is_machine P_is_machine fd) (D_fits_state : Df K mg "fits_state" s_fits_state P_fits_state fdR) (G_fits_state : FnOk P w K mg base CX0 9 (He.fAd K ("fits_state", none)) fdR P_fits_state (spD (WP K Tl) F_state))
    (hT2 : (He.cT K ("is_machine", none)).2 ∈ Tl) (TB_is_machine : TabB base mg (He.cT K ("is_machine", none)).1 (He.cT K ("is_machine", none)).2) : FnOk P w K mg base CX0 13 (He.fAd K ("is_machine", none)) fd P_is_machine (spD (WP K Tl) F_mach) := by
  refine okD D.F sc_is_machine (fun ds Kk KE h => by obtain ⟨d, rfl, _⟩ := h; rfl) (fun W cdv A outer s E hW hcd hr => ?_)
  have hK : W.K = K := hW.k
  have hT_is_machine : (He.cT K ("is_machine", none)).2 ∈ W.Tl := by rw [hW.tl]; exact hT2
  refine ⟨_, (dss_one (ds_ret (de_and (de_cb (pe_callB call_isi (by rfl) T.isinstance (by decide +kernel) (da_cons (dv 0) (da_cons (de_ob (pe_bltn (v := .ty "tuple") (by rfl) T.tuple (by decide +kernel) rfl)) da_nil))) (sn_isi kb_tup)) (de_and (de_cmp op_gt sn_cmp (de_cb (pe_callB call_len (by rfl) T.len (by decide +kernel) (da_cons (dv 0) da_nil)) sn_len) de_int) (pe_one (de_all (own := [("part", 1)]) (g := gName 1) rfl sc_is_machine.nd hr (by rfl) T.all TB_is_machine hcd hT_is_machine (gnOk_by (own := [("part", 1)]) (N := N_is_machine) (sc := defScope s_is_machine) (by decide +kernel)) (di_seq (st := false) (dv 0) hK) (fun _ _ _ _ _ _ => (pg_name (i := 1) sc_is_machine.nd rfl (.inl rfl))) (sg_name (i := 1) (by simp)) (fun _ _ _ _ _ _ => (de_call (pe_call G_fits_state ((room_gen hr).mono (by first | decide | omega)) (by rfl) D_fits_state.g D_fits_state.F.kp D_fits_state.b .nil pass0 (da_cons (dv 1) (da_cons (de_cb (pe_callB call_len (by rfl) T.len (by decide +kernel) (da_cons (dv 0) da_nil)) sn_len) da_nil))) hW)))))))), fun ds Kk KE h => ?_⟩
  obtain ⟨d, rfl, h⟩ := h
  (try simp only [DL.iteB_true, DL.iteB_false, DL.sSeq, DL.sNext, DL.sRet, DL.sRetN, DL.sIf, DL.sAsg, DL.sNew, DL.sDrop, DL.sRel, DL.sApp, DL.sFor, DL.sBreak, DL.sCont, DL.sAsgT, DL.sPar, DL.sPar3, DL.sPar3DFD, DL.sParFD, DL.sParDF, DL.sExt, DL.sPut, DL.sAug, DL.sCut, DL.sRaise, DL.sWhile, DL.fVar, DL.fC, DL.fOb, DL.fGts, DL.f2, DL.f1, DL.fCall, DL.fB, DL.fTru, DL.fAnd, DL.fOr, DL.fNot, DL.fIf, DL.tAndD, DL.tOrD, DL.tNotD, DL.fNil, DL.fCons, DL.fTup, DL.fLst, DL.fDnew, DL.fNew, DL.fIt, DL.fRng1, DL.fRng2, DL.fLc, DL.fAG, DL.fFn, DL.fFnX, DL.fFnK, DL.fSl, DL.fNone, DL.fPart, DL.fList, DL.fM0, DL.fM1, DL.tYesD, DL.gdN, DL.gdT_t, DL.gdNil_n, DL.gdCons_c, DL.op2, DL.op1, DL.opC, DL.c1, DL.isiP, DL.typeO, DL.tyIs, DL.inG, DL.isND, DL.rel, DL.wipeD, DL.le_s0, DL.le_s1, DL.le_s2, DL.le_s3, DL.le_s4, DL.le_s5, DL.le_s6, DL.le_s7, DL.le_s8, DL.le_s9, DL.le_s10, DL.le_s11, DL.le_s12, DL.le_s13, DL.le_s14, DL.le_s15, DL.le_s16, DL.le_s17, DL.le_s18, DL.le_s19, DL.le_s20, DL.le_s21, DL.le_s22, DL.le_s23, DL.le_s24, DL.le_s25, DL.le_s26, DL.le_s27, DL.le_s28, DL.le_s29, DL.le_s30, DL.le_s31, DL.le_s32, DL.le_s33, DL.le_s34, DL.le_s35, DL.le_s36, DL.le_s37, DL.le_s38, DL.le_s39, DL.le_s40, DL.le_s41, DL.le_s42, DL.le_s43, DL.le_s44, DL.le_s45, DL.le_s46, DL.le_s47, DL.le_s48, DL.le_s49, DL.le_s50, DL.le_s51, DL.le_s52, DL.le_s53, DL.le_s54, DL.le_s55, DL.le_s56, DL.le_s57, DL.le_s58, DL.le_s59, DL.le_s60, DL.le_s61, DL.le_s62, DL.le_s63, DL.le_s64, DL.start0, DL.asDat, DL.lend, DL.noOwn, DL.DV.isOwn, DL.pd_dat, DL.pd_own, DL.ocpd_lst, DL.ocpd_dk, DL.itemsOf, List.map_cons, List.map_nil, List.append_nil, List.cons_append, List.nil_append, List.length_cons, List.length_nil, List.replicate_succ, List.replicate_zero, List.getElem?_cons_zero, List.getElem?_cons_succ, List.set_cons_zero, List.set_cons_succ, Nat.reduceSub, Nat.reduceAdd, Nat.sub_self, Nat.zero_add, Option.some.injEq, DL.DV.dat.injEq, PyData.bool.injEq, PyData.int.injEq, PyData.str.injEq, PyData.tuple.injEq, PyData.list.injEq, DL.DV.ob.injEq, V.ty.injEq, DL.DV.own.injEq, DL.OC.lst.injEq, List.cons.injEq, Option.map_some, exists_eq_left', exists_eq_left, exists_eq_right, exists_eq_right', exists_and_left, and_true, true_and, Bool.not_true, Bool.not_false, Bool.and_true, Bool.true_and, true_or, Bool.not_eq_true', Bool.false_eq_true, if_true, if_false, reduceIte, reduceCtorEq])
  cases d with
  | tuple xs =>
    (try simp only [DL.negP_i, DL.le_s0, DL.le_s1, DL.le_s2, DL.le_s3, DL.le_s4, DL.le_s5, DL.le_s6, DL.le_s7, DL.le_s8, DL.le_s9, DL.le_s10, DL.le_s11, DL.le_s12, DL.le_s13, DL.le_s14, DL.le_s15, DL.le_s16, DL.le_s17, DL.le_s18, DL.le_s19, DL.le_s20, DL.le_s21, DL.le_s22, DL.le_s23, DL.le_s24, DL.le_s25, DL.le_s26, DL.le_s27, DL.le_s28, DL.le_s29, DL.le_s30, DL.le_s31, DL.le_s32, DL.le_s33, DL.le_s34, DL.le_s35, DL.le_s36, DL.le_s37, DL.le_s38, DL.le_s39, DL.le_s40, DL.le_s41, DL.le_s42, DL.le_s43, DL.le_s44, DL.le_s45, DL.le_s46, DL.le_s47, DL.le_s48, DL.le_s49, DL.le_s50, DL.le_s51, DL.le_s52, DL.le_s53, DL.le_s54, DL.le_s55, DL.le_s56, DL.le_s57, DL.le_s58, DL.le_s59, DL.le_s60, DL.le_s61, DL.le_s62, DL.le_s63, DL.le_s64, DL.iteB_true, DL.iteB_false, DL.lenP_t, DL.lenP_l, DL.lenP_s, DL.eqP, DL.eqOk_int, DL.eqOk_str, DL.eqOk_emp, DL.eqOk_empL, DL.eqv_emp1, DL.eqv_empL1, DL.eqv_ii, DL.eqv_ss, DL.ixP_t, DL.ixP_l, DL.ixP_s, DL.slP_t, DL.slP_l, DL.slP_s, DL.intcP_i, DL.intcP_b, DL.intcP_s, DL.tupcP_l, DL.tupcP_t, DL.atI_z, DL.atI_o, DL.atI_t, DL.int0P_ii, DL.intP_ii, DL.addP_ii, DL.addP_ss, DL.addP_tt, DL.addP_ll, DL.isTup_t, DL.reprP, Bool.false_eq_true, if_true, if_false, reduceIte, Option.some.injEq, PyData.bool.injEq, exists_eq_left', exists_eq_left, exists_eq_right, exists_eq_right', true_and, and_true, Bool.true_eq_false, Bool.not_true, Bool.not_false, false_and, and_false, exists_and_left, reduceCtorEq, DL.DV.gts.injEq, exists_const])
    have e1 : decide ((0 : Int) < (xs.length : Nat)) = decide (0 < xs.length) := decide_eq_decide.mpr (by omega)
    rw [e1]
    have e : machB (.tuple xs) = (decide (0 < xs.length) && xs.all (stateB xs.length)) := rfl
    rw [e] at h
    cases hl : decide (0 < xs.length) with
    | true =>
      rw [hl, Bool.true_and] at h
      (try simp only [DL.negP_i, DL.le_s0, DL.le_s1, DL.le_s2, DL.le_s3, DL.le_s4, DL.le_s5, DL.le_s6, DL.le_s7, DL.le_s8, DL.le_s9, DL.le_s10, DL.le_s11, DL.le_s12, DL.le_s13, DL.le_s14, DL.le_s15, DL.le_s16, DL.le_s17, DL.le_s18, DL.le_s19, DL.le_s20, DL.le_s21, DL.le_s22, DL.le_s23, DL.le_s24, DL.le_s25, DL.le_s26, DL.le_s27, DL.le_s28, DL.le_s29, DL.le_s30, DL.le_s31, DL.le_s32, DL.le_s33, DL.le_s34, DL.le_s35, DL.le_s36, DL.le_s37, DL.le_s38, DL.le_s39, DL.le_s40, DL.le_s41, DL.le_s42, DL.le_s43, DL.le_s44, DL.le_s45, DL.le_s46, DL.le_s47, DL.le_s48, DL.le_s49, DL.le_s50, DL.le_s51, DL.le_s52, DL.le_s53, DL.le_s54, DL.le_s55, DL.le_s56, DL.le_s57, DL.le_s58, DL.le_s59, DL.le_s60, DL.le_s61, DL.le_s62, DL.le_s63, DL.le_s64, DL.iteB_true, DL.iteB_false, DL.lenP_t, DL.lenP_l, DL.lenP_s, DL.eqP, DL.eqOk_int, DL.eqOk_str, DL.eqOk_emp, DL.eqOk_empL, DL.eqv_emp1, DL.eqv_empL1, DL.eqv_ii, DL.eqv_ss, DL.ixP_t, DL.ixP_l, DL.ixP_s, DL.slP_t, DL.slP_l, DL.slP_s, DL.intcP_i, DL.intcP_b, DL.intcP_s, DL.tupcP_l, DL.tupcP_t, DL.atI_z, DL.atI_o, DL.atI_t, DL.int0P_ii, DL.intP_ii, DL.addP_ii, DL.addP_ss, DL.addP_tt, DL.addP_ll, DL.isTup_t, DL.reprP, Bool.false_eq_true, if_true, if_false, reduceIte, Option.some.injEq, PyData.bool.injEq, exists_eq_left', exists_eq_left, exists_eq_right, exists_eq_right', true_and, and_true, Bool.true_eq_false, Bool.not_true, Bool.not_false, false_and, and_false, exists_and_left, reduceCtorEq, DL.DV.gts.injEq, exists_const])
      refine ag_fun (p := stateB xs.length) (fun d _ Q q => ?_) h
      (try simp only [DL.iteB_true, DL.iteB_false, DL.sSeq, DL.sNext, DL.sRet, DL.sRetN, DL.sIf, DL.sAsg, DL.sNew, DL.sDrop, DL.sRel, DL.sApp, DL.sFor, DL.sBreak, DL.sCont, DL.sAsgT, DL.sPar, DL.sPar3, DL.sPar3DFD, DL.sParFD, DL.sParDF, DL.sExt, DL.sPut, DL.sAug, DL.sCut, DL.sRaise, DL.sWhile, DL.fVar, DL.fC, DL.fOb, DL.fGts, DL.f2, DL.f1, DL.fCall, DL.fB, DL.fTru, DL.fAnd, DL.fOr, DL.fNot, DL.fIf, DL.tAndD, DL.tOrD, DL.tNotD, DL.fNil, DL.fCons, DL.fTup, DL.fLst, DL.fDnew, DL.fNew, DL.fIt, DL.fRng1, DL.fRng2, DL.fLc, DL.fAG, DL.fFn, DL.fFnX, DL.fFnK, DL.fSl, DL.fNone, DL.fPart, DL.fList, DL.fM0, DL.fM1, DL.tYesD, DL.gdN, DL.gdT_t, DL.gdNil_n, DL.gdCons_c, DL.op2, DL.op1, DL.opC, DL.c1, DL.isiP, DL.typeO, DL.tyIs, DL.inG, DL.isND, DL.rel, DL.wipeD, DL.le_s0, DL.le_s1, DL.le_s2, DL.le_s3, DL.le_s4, DL.le_s5, DL.le_s6, DL.le_s7, DL.le_s8, DL.le_s9, DL.le_s10, DL.le_s11, DL.le_s12, DL.le_s13, DL.le_s14, DL.le_s15, DL.le_s16, DL.le_s17, DL.le_s18, DL.le_s19, DL.le_s20, DL.le_s21, DL.le_s22, DL.le_s23, DL.le_s24, DL.le_s25, DL.le_s26, DL.le_s27, DL.le_s28, DL.le_s29, DL.le_s30, DL.le_s31, DL.le_s32, DL.le_s33, DL.le_s34, DL.le_s35, DL.le_s36, DL.le_s37, DL.le_s38, DL.le_s39, DL.le_s40, DL.le_s41, DL.le_s42, DL.le_s43, DL.le_s44, DL.le_s45, DL.le_s46, DL.le_s47, DL.le_s48, DL.le_s49, DL.le_s50, DL.le_s51, DL.le_s52, DL.le_s53, DL.le_s54, DL.le_s55, DL.le_s56, DL.le_s57, DL.le_s58, DL.le_s59, DL.le_s60, DL.le_s61, DL.le_s62, DL.le_s63, DL.le_s64, DL.start0, DL.asDat, DL.lend, DL.noOwn, DL.DV.isOwn, DL.pd_dat, DL.pd_own, DL.ocpd_lst, DL.ocpd_dk, DL.itemsOf, List.map_cons, List.map_nil, List.append_nil, List.cons_append, List.nil_append, List.length_cons, List.length_nil, List.replicate_succ, List.replicate_zero, List.getElem?_cons_zero, List.getElem?_cons_succ, List.set_cons_zero, List.set_cons_succ, Nat.reduceSub, Nat.reduceAdd, Nat.sub_self, Nat.zero_add, Option.some.injEq, DL.DV.dat.injEq, PyData.bool.injEq, PyData.int.injEq, PyData.str.injEq, PyData.tuple.injEq, PyData.list.injEq, DL.DV.ob.injEq, V.ty.injEq, DL.DV.own.injEq, DL.OC.lst.injEq, List.cons.injEq, Option.map_some, exists_eq_left', exists_eq_left, exists_eq_right, exists_eq_right', exists_and_left, and_true, true_and, Bool.not_true, Bool.not_false, Bool.and_true, Bool.true_and, true_or, Bool.not_eq_true', Bool.false_eq_true, if_true, if_false, reduceIte, reduceCtorEq])
      (try simp only [DL.negP_i, DL.le_s0, DL.le_s1, DL.le_s2, DL.le_s3, DL.le_s4, DL.le_s5, DL.le_s6, DL.le_s7, DL.le_s8, DL.le_s9, DL.le_s10, DL.le_s11, DL.le_s12, DL.le_s13, DL.le_s14, DL.le_s15, DL.le_s16, DL.le_s17, DL.le_s18, DL.le_s19, DL.le_s20, DL.le_s21, DL.le_s22, DL.le_s23, DL.le_s24, DL.le_s25, DL.le_s26, DL.le_s27, DL.le_s28, DL.le_s29, DL.le_s30, DL.le_s31, DL.le_s32, DL.le_s33, DL.le_s34, DL.le_s35, DL.le_s36, DL.le_s37, DL.le_s38, DL.le_s39, DL.le_s40, DL.le_s41, DL.le_s42, DL.le_s43, DL.le_s44, DL.le_s45, DL.le_s46, DL.le_s47, DL.le_s48, DL.le_s49, DL.le_s50, DL.le_s51, DL.le_s52, DL.le_s53, DL.le_s54, DL.le_s55, DL.le_s56, DL.le_s57, DL.le_s58, DL.le_s59, DL.le_s60, DL.le_s61, DL.le_s62, DL.le_s63, DL.le_s64, DL.iteB_true, DL.iteB_false, DL.lenP_t, DL.lenP_l, DL.lenP_s, DL.eqP, DL.eqOk_int, DL.eqOk_str, DL.eqOk_emp, DL.eqOk_empL, DL.eqv_emp1, DL.eqv_empL1, DL.eqv_ii, DL.eqv_ss, DL.ixP_t, DL.ixP_l, DL.ixP_s, DL.slP_t, DL.slP_l, DL.slP_s, DL.intcP_i, DL.intcP_b, DL.intcP_s, DL.tupcP_l, DL.tupcP_t, DL.atI_z, DL.atI_o, DL.atI_t, DL.int0P_ii, DL.intP_ii, DL.addP_ii, DL.addP_ss, DL.addP_tt, DL.addP_ll, DL.isTup_t, DL.reprP, Bool.false_eq_true, if_true, if_false, reduceIte, Option.some.injEq, PyData.bool.injEq, exists_eq_left', exists_eq_left, exists_eq_right, exists_eq_right', true_and, and_true, Bool.true_eq_false, Bool.not_true, Bool.not_false, false_and, and_false, exists_and_left, reduceCtorEq, DL.DV.gts.injEq, exists_const])
      exact ⟨d, _, rfl, q⟩
    | false =>
      rw [hl, Bool.false_and] at h
      exact h
  | _ => simpa [isTup, machB] using h
end
end PA


set_option Elab.async false
set_option linter.all false
set_option maxRecDepth 100000
set_option maxHeartbeats 1000000
/-! Pile machines: words, standings, steps. -/
namespace PB
open PySem PySem.Spec PyProof.Rows L2 KT KG KM KX KY KE0 KQ LK GxR DL KA DW PA
theorem q_stay_stay : (("stay" : Str) == "stay") = true := by decide +kernel
theorem q_stay_put0 : (("stay" : Str) == "put0") = false := by decide +kernel
theorem q_stay_put1 : (("stay" : Str) == "put1") = false := by decide +kernel
theorem q_stay_cut : (("stay" : Str) == "cut") = false := by decide +kernel
theorem q_stay_over : (("stay" : Str) == "over") = false := by decide +kernel
theorem q_stay_back : (("stay" : Str) == "back") = false := by decide +kernel
theorem q_put0_stay : (("put0" : Str) == "stay") = false := by decide +kernel
theorem q_put0_put0 : (("put0" : Str) == "put0") = true := by decide +kernel
theorem q_put0_put1 : (("put0" : Str) == "put1") = false := by decide +kernel
theorem q_put0_cut : (("put0" : Str) == "cut") = false := by decide +kernel
theorem q_put0_over : (("put0" : Str) == "over") = false := by decide +kernel
theorem q_put0_back : (("put0" : Str) == "back") = false := by decide +kernel
theorem q_put1_stay : (("put1" : Str) == "stay") = false := by decide +kernel
theorem q_put1_put0 : (("put1" : Str) == "put0") = false := by decide +kernel
theorem q_put1_put1 : (("put1" : Str) == "put1") = true := by decide +kernel
theorem q_put1_cut : (("put1" : Str) == "cut") = false := by decide +kernel
theorem q_put1_over : (("put1" : Str) == "over") = false := by decide +kernel
theorem q_put1_back : (("put1" : Str) == "back") = false := by decide +kernel
theorem q_cut_stay : (("cut" : Str) == "stay") = false := by decide +kernel
theorem q_cut_put0 : (("cut" : Str) == "put0") = false := by decide +kernel
theorem q_cut_put1 : (("cut" : Str) == "put1") = false := by decide +kernel
theorem q_cut_cut : (("cut" : Str) == "cut") = true := by decide +kernel
theorem q_cut_over : (("cut" : Str) == "over") = false := by decide +kernel
theorem q_cut_back : (("cut" : Str) == "back") = false := by decide +kernel
theorem q_over_stay : (("over" : Str) == "stay") = false := by decide +kernel
theorem q_over_put0 : (("over" : Str) == "put0") = false := by decide +kernel
theorem q_over_put1 : (("over" : Str) == "put1") = false := by decide +kernel
theorem q_over_cut : (("over" : Str) == "cut") = false := by decide +kernel
theorem q_over_over : (("over" : Str) == "over") = true := by decide +kernel
theorem q_over_back : (("over" : Str) == "back") = false := by decide +kernel
theorem q_back_stay : (("back" : Str) == "stay") = false := by decide +kernel
theorem q_back_put0 : (("back" : Str) == "put0") = false := by decide +kernel
theorem q_back_put1 : (("back" : Str) == "put1") = false := by decide +kernel
theorem q_back_cut : (("back" : Str) == "cut") = false := by decide +kernel
theorem q_back_over : (("back" : Str) == "over") = false := by decide +kernel
theorem q_back_back : (("back" : Str) == "back") = true := by decide +kernel
/-! ### words -/
def wordB : PyData → Bool
  | .str z => isW z
  | _ => false
def shortP (d : PyData) : Prop := ∀ z, d = .str z → z.length ≤ sizeLine
def F_word : FnD := fun ds K _ => ∃ d, ds = [.dat d] ∧ shortP d ∧ K (.bool (wordB d))
def stripP (a : Str) (d : PyData) (K : PyData → Prop) : Prop := ∃ b, d = .str b ∧ a.length ≤ sizeLine ∧ K (.str (Txt.stripChars a b))
theorem sn_strip {W : Wd} : SndM1 W (fun x xs H Q => ∃ a b, x = V.str a ∧ xs = [V.str b] ∧ a.length ≤ sizeLine ∧ Q (V.str (Txt.stripChars a b)) H) stripP := by
  intro M H a y dy d K Q g ry hd h c
  obtain ⟨b, rfl, hl, k⟩ := h
  cases pd_str hd ry
  exact ⟨a, b, rfl, rfl, hl, c _ k _ H .refl (Dx.str _)⟩
theorem strip_beq (z : Str) : (Txt.stripChars z "01" == "") = isW z := by
  have h := strip01 z
  rw [← h]
  by_cases e : Txt.stripChars z "01" = ""
  · rw [e]
    exact (decide_eq_true rfl).symm
  · rw [decide_eq_false (fun q => e (V.str.inj q))]
    exact beq_eq_false_iff_ne.mpr e
abbrev N_is_word : List Str := ["thing"]
abbrev P_is_word : List Str := ["thing"]
theorem sc_is_word : FnScope N_is_word P_is_word (defScope s_is_word) := ⟨rfl, rfl, rfl, by decide +kernel, rfl, by decide +kernel, by decide +kernel⟩
abbrev N_piles_after : List Str := ["deed", "left", "right"]
abbrev P_piles_after : List Str := ["deed", "left", "right"]
theorem sc_piles_after : FnScope N_piles_after P_piles_after (defScope s_piles_after) := ⟨rfl, rfl, rfl, by decide +kernel, rfl, by decide +kernel, by decide +kernel⟩
abbrev N_next_standing : List Str := ["machine", "standing", "state", "left", "right", "letter", "following", "deed"]
abbrev P_next_standing : List Str := ["machine", "standing"]
theorem sc_next_standing : FnScope N_next_standing P_next_standing (defScope s_next_standing) := ⟨rfl, rfl, rfl, by decide +kernel, rfl, by decide +kernel, by decide +kernel⟩
abbrev N_require_machine : List Str := ["thing"]
abbrev P_require_machine : List Str := ["thing"]
theorem sc_require_machine : FnScope N_require_machine P_require_machine (defScope s_require_machine) := ⟨rfl, rfl, rfl, by decide +kernel, rfl, by decide +kernel, by decide +kernel⟩
section
variable {P : Program} {w : World} {K : PySem.W.Frag} {mg : Str → Option Value} {base : Heap} {Tl : List Addr}
theorem ok_word {fd : FuncData} (T : TbP mg) (D : Df K mg "is_word" s_is_word P_is_word fd) : FnOk P w K mg base CX0 1 (He.fAd K ("is_word", none)) fd P_is_word (spD (WP K Tl) F_word) := by
  refine okD D.F sc_is_word (fun ds Kk KE h => by obtain ⟨d, rfl, _⟩ := h; rfl) (fun W cdv A outer s E hW hcd hr => ⟨_, (dss_one (ds_ret (de_and (de_cb (pe_callB call_isi (by rfl) T.isinstance (by decide +kernel) (da_cons (dv 0) (da_cons (de_ob (pe_bltn (v := .ty "str") (by rfl) T.str (by decide +kernel) rfl)) da_nil))) (sn_isi kb_str)) (pe_one (de_cmp (op_eqX hr W.vol) sn_eq (de_m1 (pe_m1 F.slot_str_strip F.type_str_strip mt_stripChars (dv 0) de_str) sn_strip) de_str))))), fun ds Kk KE h => ?_⟩)
  obtain ⟨d, rfl, hs, h⟩ := h
  (try simp only [DL.iteB_true, DL.iteB_false, DL.sSeq, DL.sNext, DL.sRet, DL.sRetN, DL.sIf, DL.sAsg, DL.sNew, DL.sDrop, DL.sRel, DL.sApp, DL.sFor, DL.sBreak, DL.sCont, DL.sAsgT, DL.sPar, DL.sPar3, DL.sPar3DFD, DL.sParFD, DL.sParDF, DL.sExt, DL.sPut, DL.sAug, DL.sCut, DL.sRaise, DL.sWhile, DL.fVar, DL.fC, DL.fOb, DL.fGts, DL.f2, DL.f1, DL.fCall, DL.fB, DL.fTru, DL.fAnd, DL.fOr, DL.fNot, DL.fIf, DL.tAndD, DL.tOrD, DL.tNotD, DL.fNil, DL.fCons, DL.fTup, DL.fLst, DL.fDnew, DL.fNew, DL.fIt, DL.fRng1, DL.fRng2, DL.fLc, DL.fAG, DL.fFn, DL.fFnX, DL.fFnK, DL.fSl, DL.fNone, DL.fPart, DL.fList, DL.fM0, DL.fM1, DL.tYesD, DL.gdN, DL.gdT_t, DL.gdNil_n, DL.gdCons_c, DL.op2, DL.op1, DL.opC, DL.c1, DL.isiP, DL.typeO, DL.tyIs, DL.inG, DL.isND, DL.rel, DL.wipeD, DL.le_s0, DL.le_s1, DL.le_s2, DL.le_s3, DL.le_s4, DL.le_s5, DL.le_s6, DL.le_s7, DL.le_s8, DL.le_s9, DL.le_s10, DL.le_s11, DL.le_s12, DL.le_s13, DL.le_s14, DL.le_s15, DL.le_s16, DL.le_s17, DL.le_s18, DL.le_s19, DL.le_s20, DL.le_s21, DL.le_s22, DL.le_s23, DL.le_s24, DL.le_s25, DL.le_s26, DL.le_s27, DL.le_s28, DL.le_s29, DL.le_s30, DL.le_s31, DL.le_s32, DL.le_s33, DL.le_s34, DL.le_s35, DL.le_s36, DL.le_s37, DL.le_s38, DL.le_s39, DL.le_s40, DL.le_s41, DL.le_s42, DL.le_s43, DL.le_s44, DL.le_s45, DL.le_s46, DL.le_s47, DL.le_s48, DL.le_s49, DL.le_s50, DL.le_s51, DL.le_s52, DL.le_s53, DL.le_s54, DL.le_s55, DL.le_s56, DL.le_s57, DL.le_s58, DL.le_s59, DL.le_s60, DL.le_s61, DL.le_s62, DL.le_s63, DL.le_s64, DL.start0, DL.asDat, DL.lend, DL.noOwn, DL.DV.isOwn, DL.pd_dat, DL.pd_own, DL.ocpd_lst, DL.ocpd_dk, DL.itemsOf, List.map_cons, List.map_nil, List.append_nil, List.cons_append, List.nil_append, List.length_cons, List.length_nil, List.replicate_succ, List.replicate_zero, List.getElem?_cons_zero, List.getElem?_cons_succ, List.set_cons_zero, List.set_cons_succ, Nat.reduceSub, Nat.reduceAdd, Nat.sub_self, Nat.zero_add, Option.some.injEq, DL.DV.dat.injEq, PyData.bool.injEq, PyData.int.injEq, PyData.str.injEq, PyData.tuple.injEq, PyData.list.injEq, DL.DV.ob.injEq, V.ty.injEq, DL.DV.own.injEq, DL.OC.lst.injEq, List.cons.injEq, Option.map_some, exists_eq_left', exists_eq_left, exists_eq_right, exists_eq_right', exists_and_left, and_true, true_and, Bool.not_true, Bool.not_false, Bool.and_true, Bool.true_and, true_or, Bool.not_eq_true', Bool.false_eq_true, if_true, if_false, reduceIte, reduceCtorEq])
  cases d with
  | str z =>
    simp only [isStrD, iteB_true]
    refine ⟨z, rfl, "01", rfl, hs z rfl, ?_⟩
    (try simp only [DL.negP_i, DL.le_s0, DL.le_s1, DL.le_s2, DL.le_s3, DL.le_s4, DL.le_s5, DL.le_s6, DL.le_s7, DL.le_s8, DL.le_s9, DL.le_s10, DL.le_s11, DL.le_s12, DL.le_s13, DL.le_s14, DL.le_s15, DL.le_s16, DL.le_s17, DL.le_s18, DL.le_s19, DL.le_s20, DL.le_s21, DL.le_s22, DL.le_s23, DL.le_s24, DL.le_s25, DL.le_s26, DL.le_s27, DL.le_s28, DL.le_s29, DL.le_s30, DL.le_s31, DL.le_s32, DL.le_s33, DL.le_s34, DL.le_s35, DL.le_s36, DL.le_s37, DL.le_s38, DL.le_s39, DL.le_s40, DL.le_s41, DL.le_s42, DL.le_s43, DL.le_s44, DL.le_s45, DL.le_s46, DL.le_s47, DL.le_s48, DL.le_s49, DL.le_s50, DL.le_s51, DL.le_s52, DL.le_s53, DL.le_s54, DL.le_s55, DL.le_s56, DL.le_s57, DL.le_s58, DL.le_s59, DL.le_s60, DL.le_s61, DL.le_s62, DL.le_s63, DL.le_s64, DL.iteB_true, DL.iteB_false, DL.lenP_t, DL.lenP_l, DL.lenP_s, DL.eqP, DL.eqOk_int, DL.eqOk_str, DL.eqOk_emp, DL.eqOk_empL, DL.eqv_emp1, DL.eqv_empL1, DL.eqv_ii, DL.eqv_ss, DL.ixP_t, DL.ixP_l, DL.ixP_s, DL.slP_t, DL.slP_l, DL.slP_s, DL.intcP_i, DL.intcP_b, DL.intcP_s, DL.tupcP_l, DL.tupcP_t, DL.atI_z, DL.atI_o, DL.atI_t, DL.int0P_ii, DL.intP_ii, DL.addP_ii, DL.addP_ss, DL.addP_tt, DL.addP_ll, DL.isTup_t, DL.reprP, Bool.false_eq_true, if_true, if_false, reduceIte, Option.some.injEq, PyData.bool.injEq, exists_eq_left', exists_eq_left, exists_eq_right, exists_eq_right', true_and, and_true, Bool.true_eq_false, Bool.not_true, Bool.not_false, false_and, and_false, exists_and_left, reduceCtorEq, DL.DV.gts.injEq, exists_const])
    rw [strip_beq]
    exact h
  | _ => simpa [isStrD, wordB] using h
def standB (n : Int) : PyData → Bool
  | .tuple [a, b, c] => wholeD a && (atMost n a && (wordB b && wordB c))
  | _ => false
def lenT : PyData → Nat
  | .tuple xs => xs.length
  | _ => 0
def partsS (d : PyData) : Prop := ∀ xs, d = .tuple xs → ∀ x ∈ xs, shortP x
def F_stand : FnD := fun ds K _ => ∃ xs d, ds = [.dat (.tuple xs), .dat d] ∧ partsS d ∧ K (.bool (standB xs.length d))
theorem stand_no {n : Int} {xs : List PyData} (h : ¬ xs.length = 3) : standB n (.tuple xs) = false := by
  match xs, h with
  | [], _ => rfl
  | [_], _ => rfl
  | [_, _], _ => rfl
  | [_, _, _], h => exact absurd rfl h
  | _ :: _ :: _ :: _ :: _, _ => rfl
/-! ### a step -/
def initS (z : Str) : Str := cutS z none (some (-1))
def lastS (z : Str) : Str := cutS z (some (-1)) none
def pa (d l r : Str) : Str × Str :=
  bif d == "put0" then (l ++ "0", r) else bif d == "put1" then (l ++ "1", r) else bif d == "cut" then (initS l, r) else bif d == "over" then (initS l, r ++ lastS l) else bif d == "back" then (l ++ lastS r, initS r) else (l, r)
def roomy (l r : Str) : Prop := l.length + r.length + 2 ≤ sizeLine
def F_after : FnD := fun ds K _ => ∃ d l r, ds = [.dat (.str d), .dat (.str l), .dat (.str r)] ∧ d ∈ deedL ∧ roomy l r ∧ K (.tuple [.str (pa d l r).1, .str (pa d l r).2])
theorem cutS_le (z : Str) (lo hi : Option Int) : (cutS z lo hi).length ≤ z.length := by
  show (Array.size _) ≤ z.cps.size
  unfold cutS
  simp only [List.size_toArray, List.length_take, List.length_drop, Array.length_toList]
  omega
theorem ok_after {fd : FuncData} (T : TbP mg) (D : Df K mg "piles_after" s_piles_after P_piles_after fd) : FnOk P w K mg base CX0 3 (He.fAd K ("piles_after", none)) fd P_piles_after (spD (WP K Tl) F_after) := by
  refine okD D.F sc_piles_after (fun ds Kk KE h => by obtain ⟨d, l, r, rfl, _⟩ := h; rfl) (fun W cdv A outer s E hW hcd hr => ⟨_, (dss_cons (ds_if (dt_cmp (op_inX (k := 0) (hr.mono (by first | decide | omega)) W.vol) sn_in (dv 0) (de_tup (da_cons de_str (da_cons de_str da_nil))) (by rfl)) (dss_one (ds_ret (de_tup (da_cons (de_op op_addD sn_add (dv 1) (de_ix ix_all sn_ix (dv 0) (de_un un_neg sn_neg de_int) (fun _ _ => rfl))) (da_cons (dv 2) da_nil))))) dss_nil)
      (dss_cons (ds_if (dt_cmp (op_eqX hr W.vol) sn_eq (dv 0) de_str) (dss_one (ds_ret (de_tup (da_cons (de_slice (dv 1) do_none (do_some (de_un un_neg sn_neg de_int))) (da_cons (dv 2) da_nil))))) dss_nil)
      (dss_cons (ds_if (dt_cmp (op_eqX hr W.vol) sn_eq (dv 0) de_str) (dss_one (ds_ret (de_tup (da_cons (de_slice (dv 1) do_none (do_some (de_un un_neg sn_neg de_int))) (da_cons (de_op op_addD sn_add (dv 2) (de_slice (dv 1) (do_some (de_un un_neg sn_neg de_int)) do_none)) da_nil))))) dss_nil)
      (dss_cons (ds_if (dt_cmp (op_eqX hr W.vol) sn_eq (dv 0) de_str) (dss_one (ds_ret (de_tup (da_cons (de_op op_addD sn_add (dv 1) (de_slice (dv 2) (do_some (de_un un_neg sn_neg de_int)) do_none)) (da_cons (de_slice (dv 2) do_none (do_some (de_un un_neg sn_neg de_int))) da_nil))))) dss_nil)
      (dss_one (ds_ret (de_tup (da_cons (dv 1) (da_cons (dv 2) da_nil))))))))), fun ds Kk KE h => ?_⟩)
  obtain ⟨d, l, r, rfl, hd, hroom, h⟩ := h
  have hl : l.length ≤ sizeLine := by unfold roomy at hroom; omega
  have hr2 : r.length ≤ sizeLine := by unfold roomy at hroom; omega
  have c1 := cutS_le l (some (-1)) none
  have c2 := cutS_le r (some (-1)) none
  have two : ∀ b1 b2 : Str, ([PyData.str b1, PyData.str b2] : List PyData).length ≤ sizeLine := fun _ _ => by show 2 ≤ sizeLine; decide
  simp only [deedL, List.mem_cons, List.not_mem_nil, or_false] at hd
  unfold roomy at hroom
  rcases hd with rfl | rfl | rfl | rfl | rfl | rfl
  all_goals
    (try simp only [DL.iteB_true, DL.iteB_false, DL.sSeq, DL.sNext, DL.sRet, DL.sRetN, DL.sIf, DL.sAsg, DL.sNew, DL.sDrop, DL.sRel, DL.sApp, DL.sFor, DL.sBreak, DL.sCont, DL.sAsgT, DL.sPar, DL.sPar3, DL.sPar3DFD, DL.sParFD, DL.sParDF, DL.sExt, DL.sPut, DL.sAug, DL.sCut, DL.sRaise, DL.sWhile, DL.fVar, DL.fC, DL.fOb, DL.fGts, DL.f2, DL.f1, DL.fCall, DL.fB, DL.fTru, DL.fAnd, DL.fOr, DL.fNot, DL.fIf, DL.tAndD, DL.tOrD, DL.tNotD, DL.fNil, DL.fCons, DL.fTup, DL.fLst, DL.fDnew, DL.fNew, DL.fIt, DL.fRng1, DL.fRng2, DL.fLc, DL.fAG, DL.fFn, DL.fFnX, DL.fFnK, DL.fSl, DL.fNone, DL.fPart, DL.fList, DL.fM0, DL.fM1, DL.tYesD, DL.gdN, DL.gdT_t, DL.gdNil_n, DL.gdCons_c, DL.op2, DL.op1, DL.opC, DL.c1, DL.isiP, DL.typeO, DL.tyIs, DL.inG, DL.isND, DL.rel, DL.wipeD, DL.le_s0, DL.le_s1, DL.le_s2, DL.le_s3, DL.le_s4, DL.le_s5, DL.le_s6, DL.le_s7, DL.le_s8, DL.le_s9, DL.le_s10, DL.le_s11, DL.le_s12, DL.le_s13, DL.le_s14, DL.le_s15, DL.le_s16, DL.le_s17, DL.le_s18, DL.le_s19, DL.le_s20, DL.le_s21, DL.le_s22, DL.le_s23, DL.le_s24, DL.le_s25, DL.le_s26, DL.le_s27, DL.le_s28, DL.le_s29, DL.le_s30, DL.le_s31, DL.le_s32, DL.le_s33, DL.le_s34, DL.le_s35, DL.le_s36, DL.le_s37, DL.le_s38, DL.le_s39, DL.le_s40, DL.le_s41, DL.le_s42, DL.le_s43, DL.le_s44, DL.le_s45, DL.le_s46, DL.le_s47, DL.le_s48, DL.le_s49, DL.le_s50, DL.le_s51, DL.le_s52, DL.le_s53, DL.le_s54, DL.le_s55, DL.le_s56, DL.le_s57, DL.le_s58, DL.le_s59, DL.le_s60, DL.le_s61, DL.le_s62, DL.le_s63, DL.le_s64, DL.start0, DL.asDat, DL.lend, DL.noOwn, DL.DV.isOwn, DL.pd_dat, DL.pd_own, DL.ocpd_lst, DL.ocpd_dk, DL.itemsOf, List.map_cons, List.map_nil, List.append_nil, List.cons_append, List.nil_append, List.length_cons, List.length_nil, List.replicate_succ, List.replicate_zero, List.getElem?_cons_zero, List.getElem?_cons_succ, List.set_cons_zero, List.set_cons_succ, Nat.reduceSub, Nat.reduceAdd, Nat.sub_self, Nat.zero_add, Option.some.injEq, DL.DV.dat.injEq, PyData.bool.injEq, PyData.int.injEq, PyData.str.injEq, PyData.tuple.injEq, PyData.list.injEq, DL.DV.ob.injEq, V.ty.injEq, DL.DV.own.injEq, DL.OC.lst.injEq, List.cons.injEq, Option.map_some, exists_eq_left', exists_eq_left, exists_eq_right, exists_eq_right', exists_and_left, and_true, true_and, Bool.not_true, Bool.not_false, Bool.and_true, Bool.true_and, true_or, Bool.not_eq_true', Bool.false_eq_true, if_true, if_false, reduceIte, reduceCtorEq])
    (try simp only [DL.negP_i, DL.le_s0, DL.le_s1, DL.le_s2, DL.le_s3, DL.le_s4, DL.le_s5, DL.le_s6, DL.le_s7, DL.le_s8, DL.le_s9, DL.le_s10, DL.le_s11, DL.le_s12, DL.le_s13, DL.le_s14, DL.le_s15, DL.le_s16, DL.le_s17, DL.le_s18, DL.le_s19, DL.le_s20, DL.le_s21, DL.le_s22, DL.le_s23, DL.le_s24, DL.le_s25, DL.le_s26, DL.le_s27, DL.le_s28, DL.le_s29, DL.le_s30, DL.le_s31, DL.le_s32, DL.le_s33, DL.le_s34, DL.le_s35, DL.le_s36, DL.le_s37, DL.le_s38, DL.le_s39, DL.le_s40, DL.le_s41, DL.le_s42, DL.le_s43, DL.le_s44, DL.le_s45, DL.le_s46, DL.le_s47, DL.le_s48, DL.le_s49, DL.le_s50, DL.le_s51, DL.le_s52, DL.le_s53, DL.le_s54, DL.le_s55, DL.le_s56, DL.le_s57, DL.le_s58, DL.le_s59, DL.le_s60, DL.le_s61, DL.le_s62, DL.le_s63, DL.le_s64, DL.iteB_true, DL.iteB_false, DL.lenP_t, DL.lenP_l, DL.lenP_s, DL.eqP, DL.eqOk_int, DL.eqOk_str, DL.eqOk_emp, DL.eqOk_empL, DL.eqv_emp1, DL.eqv_empL1, DL.eqv_ii, DL.eqv_ss, DL.ixP_t, DL.ixP_l, DL.ixP_s, DL.slP_t, DL.slP_l, DL.slP_s, DL.intcP_i, DL.intcP_b, DL.intcP_s, DL.tupcP_l, DL.tupcP_t, DL.atI_z, DL.atI_o, DL.atI_t, DL.int0P_ii, DL.intP_ii, DL.addP_ii, DL.addP_ss, DL.addP_tt, DL.addP_ll, DL.isTup_t, DL.reprP, Bool.false_eq_true, if_true, if_false, reduceIte, Option.some.injEq, PyData.bool.injEq, exists_eq_left', exists_eq_left, exists_eq_right, exists_eq_right', true_and, and_true, Bool.true_eq_false, Bool.not_true, Bool.not_false, false_and, and_false, exists_and_left, reduceCtorEq, DL.DV.gts.injEq, exists_const])
    simp only [inP, inOk, inD, List.all_cons, List.all_nil, List.any_cons, List.any_nil, isStrD, eqv_ss, Bool.or_false, Bool.or_true, Bool.true_or, Bool.false_or, Bool.and_self, true_and, q_stay_stay, q_stay_put0, q_stay_put1, q_stay_cut, q_stay_over, q_stay_back, q_put0_stay, q_put0_put0, q_put0_put1, q_put0_cut, q_put0_over, q_put0_back, q_put1_stay, q_put1_put0, q_put1_put1, q_put1_cut, q_put1_over, q_put1_back, q_cut_stay, q_cut_put0, q_cut_put1, q_cut_cut, q_cut_over, q_cut_back, q_over_stay, q_over_put0, q_over_put1, q_over_cut, q_over_over, q_over_back, q_back_stay, q_back_put0, q_back_put1, q_back_cut, q_back_over, q_back_back, PyData.bool.injEq, exists_eq_left', iteB_true, iteB_false]
    try (try simp only [DL.negP_i, DL.le_s0, DL.le_s1, DL.le_s2, DL.le_s3, DL.le_s4, DL.le_s5, DL.le_s6, DL.le_s7, DL.le_s8, DL.le_s9, DL.le_s10, DL.le_s11, DL.le_s12, DL.le_s13, DL.le_s14, DL.le_s15, DL.le_s16, DL.le_s17, DL.le_s18, DL.le_s19, DL.le_s20, DL.le_s21, DL.le_s22, DL.le_s23, DL.le_s24, DL.le_s25, DL.le_s26, DL.le_s27, DL.le_s28, DL.le_s29, DL.le_s30, DL.le_s31, DL.le_s32, DL.le_s33, DL.le_s34, DL.le_s35, DL.le_s36, DL.le_s37, DL.le_s38, DL.le_s39, DL.le_s40, DL.le_s41, DL.le_s42, DL.le_s43, DL.le_s44, DL.le_s45, DL.le_s46, DL.le_s47, DL.le_s48, DL.le_s49, DL.le_s50, DL.le_s51, DL.le_s52, DL.le_s53, DL.le_s54, DL.le_s55, DL.le_s56, DL.le_s57, DL.le_s58, DL.le_s59, DL.le_s60, DL.le_s61, DL.le_s62, DL.le_s63, DL.le_s64, DL.iteB_true, DL.iteB_false, DL.lenP_t, DL.lenP_l, DL.lenP_s, DL.eqP, DL.eqOk_int, DL.eqOk_str, DL.eqOk_emp, DL.eqOk_empL, DL.eqv_emp1, DL.eqv_empL1, DL.eqv_ii, DL.eqv_ss, DL.ixP_t, DL.ixP_l, DL.ixP_s, DL.slP_t, DL.slP_l, DL.slP_s, DL.intcP_i, DL.intcP_b, DL.intcP_s, DL.tupcP_l, DL.tupcP_t, DL.atI_z, DL.atI_o, DL.atI_t, DL.int0P_ii, DL.intP_ii, DL.addP_ii, DL.addP_ss, DL.addP_tt, DL.addP_ll, DL.isTup_t, DL.reprP, Bool.false_eq_true, if_true, if_false, reduceIte, Option.some.injEq, PyData.bool.injEq, exists_eq_left', exists_eq_left, exists_eq_right, exists_eq_right', true_and, and_true, Bool.true_eq_false, Bool.not_true, Bool.not_false, false_and, and_false, exists_and_left, reduceCtorEq, DL.DV.gts.injEq, exists_const])
    try simp only [q_stay_stay, q_stay_put0, q_stay_put1, q_stay_cut, q_stay_over, q_stay_back, q_put0_stay, q_put0_put0, q_put0_put1, q_put0_cut, q_put0_over, q_put0_back, q_put1_stay, q_put1_put0, q_put1_put1, q_put1_cut, q_put1_over, q_put1_back, q_cut_stay, q_cut_put0, q_cut_put1, q_cut_cut, q_cut_over, q_cut_back, q_over_stay, q_over_put0, q_over_put1, q_over_cut, q_over_over, q_over_back, q_back_stay, q_back_put0, q_back_put1, q_back_cut, q_back_over, q_back_back, iteB_true, iteB_false]
    try (try simp only [DL.negP_i, DL.le_s0, DL.le_s1, DL.le_s2, DL.le_s3, DL.le_s4, DL.le_s5, DL.le_s6, DL.le_s7, DL.le_s8, DL.le_s9, DL.le_s10, DL.le_s11, DL.le_s12, DL.le_s13, DL.le_s14, DL.le_s15, DL.le_s16, DL.le_s17, DL.le_s18, DL.le_s19, DL.le_s20, DL.le_s21, DL.le_s22, DL.le_s23, DL.le_s24, DL.le_s25, DL.le_s26, DL.le_s27, DL.le_s28, DL.le_s29, DL.le_s30, DL.le_s31, DL.le_s32, DL.le_s33, DL.le_s34, DL.le_s35, DL.le_s36, DL.le_s37, DL.le_s38, DL.le_s39, DL.le_s40, DL.le_s41, DL.le_s42, DL.le_s43, DL.le_s44, DL.le_s45, DL.le_s46, DL.le_s47, DL.le_s48, DL.le_s49, DL.le_s50, DL.le_s51, DL.le_s52, DL.le_s53, DL.le_s54, DL.le_s55, DL.le_s56, DL.le_s57, DL.le_s58, DL.le_s59, DL.le_s60, DL.le_s61, DL.le_s62, DL.le_s63, DL.le_s64, DL.iteB_true, DL.iteB_false, DL.lenP_t, DL.lenP_l, DL.lenP_s, DL.eqP, DL.eqOk_int, DL.eqOk_str, DL.eqOk_emp, DL.eqOk_empL, DL.eqv_emp1, DL.eqv_empL1, DL.eqv_ii, DL.eqv_ss, DL.ixP_t, DL.ixP_l, DL.ixP_s, DL.slP_t, DL.slP_l, DL.slP_s, DL.intcP_i, DL.intcP_b, DL.intcP_s, DL.tupcP_l, DL.tupcP_t, DL.atI_z, DL.atI_o, DL.atI_t, DL.int0P_ii, DL.intP_ii, DL.addP_ii, DL.addP_ss, DL.addP_tt, DL.addP_ll, DL.isTup_t, DL.reprP, Bool.false_eq_true, if_true, if_false, reduceIte, Option.some.injEq, PyData.bool.injEq, exists_eq_left', exists_eq_left, exists_eq_right, exists_eq_right', true_and, and_true, Bool.true_eq_false, Bool.not_true, Bool.not_false, false_and, and_false, exists_and_left, reduceCtorEq, DL.DV.gts.injEq, exists_const])
  · exact h
  · refine ⟨by decide, 48, by decide +kernel, ?_, h⟩
    have e : (⟨#[48]⟩ : Str).length = 1 := rfl
    omega
  · refine ⟨by decide, 49, by decide +kernel, ?_, h⟩
    have e : (⟨#[49]⟩ : Str).length = 1 := rfl
    omega
  · exact ⟨_, rfl, hl, h⟩
  · exact ⟨_, rfl, hl, _, rfl, hl, by omega, h⟩
  · exact ⟨_, rfl, hr2, by omega, _, rfl, hr2, h⟩
end
end PB


set_option Elab.async false
set_option linter.all false
set_option maxRecDepth 100000
set_option maxHeartbeats 1000000
/-! Pile machines: a step, by the program and by the law. -/
namespace PC
open PySem PySem.Spec PyProof.Rows L2 KT KG KM KX KY KE0 KQ LK GxR DL KA DW PA PB QF
/-! ### the last letter -/
theorem str_snoc {l : Str} (h : l ≠ "") : ∃ (xs : List Nat) (c : Nat), l = ⟨(xs ++ [c]).toArray⟩ := by
  obtain ⟨a⟩ := l
  have ha : a.toList ≠ [] := fun z => h (by
    have : a = #[] := by simpa using congrArg List.toArray z
    rw [this]
    rfl)
  refine ⟨a.toList.dropLast, a.toList.getLast ha, ?_⟩
  rw [List.dropLast_concat_getLast]
theorem last_atI (xs : List Nat) (c : Nat) : atI (⟨(xs ++ [c]).toArray⟩ : Str).cps.toList (-1) = some c := by
  show atI (xs ++ [c]).toArray.toList (-1) = some c
  rw [List.toList_toArray]
  exact atI_last xs c
theorem lastS_snoc (xs : List Nat) (c : Nat) : lastS ⟨(xs ++ [c]).toArray⟩ = ⟨#[c]⟩ := by
  have hl : (⟨(xs ++ [c]).toArray⟩ : Str).length = xs.length + 1 := by
    show (xs ++ [c]).toArray.size = _
    simp
  have e1 : HT.sIx (xs.length + 1) 0 (some (-1)) = xs.length := by
    show (if (-1 : Int) < 0 then ((-1 : Int) + ((xs.length + 1 : Nat) : Int)).toNat else min (-1 : Int).toNat (xs.length + 1)) = _
    rw [if_pos (by decide)]
    omega
  have e2 : HT.sIx (xs.length + 1) (xs.length + 1) none = xs.length + 1 := rfl
  unfold lastS cutS
  rw [hl, e1, e2]
  show (⟨(((xs ++ [c]).toArray.toList.drop xs.length).take (xs.length + 1 - xs.length)).toArray⟩ : Str) = _
  rw [List.toList_toArray, List.drop_left, Nat.add_sub_cancel_left]
  rfl
theorem lastS_nil : lastS "" = "" := by decide +kernel
theorem initS_nil : initS "" = "" := by decide +kernel
theorem app_nil (r : Str) : r ++ ("" : Str) = r := by
  show (⟨r.cps ++ #[]⟩ : Str) = r
  simp
theorem isW_last {xs : List Nat} {c : Nat} (h : isW ⟨(xs ++ [c]).toArray⟩ = true) : c = 48 ∨ c = 49 := by
  unfold isW at h
  have := List.all_eq_true.mp h c (by show c ∈ (xs ++ [c]).toArray.toList; simp)
  have e : ("01" : Str).cps.toList = [48, 49] := by decide +kernel
  rw [e] at this
  simpa using of_decide_eq_true this
def lastC (l : Str) : Nat := (l.cps.toList.getLast?).getD 0
theorem lastC_snoc (xs : List Nat) (c : Nat) : lastC ⟨(xs ++ [c]).toArray⟩ = c := by
  unfold lastC
  show ((xs ++ [c]).toArray.toList.getLast?).getD 0 = c
  rw [List.toList_toArray, List.getLast?_concat]
  rfl
/-- which rule of a state: by the last letter -/
def letS (l : Str) : Nat := bif l == "" then 0 else lastC l - 47
theorem it48 : PySem.intText? ⟨#[48]⟩ = some 0 := by decide +kernel
theorem it49 : PySem.intText? ⟨#[49]⟩ = some 1 := by decide +kernel
theorem letS_lt {l : Str} (h : isW l = true) : letS l < 3 := by
  unfold letS
  by_cases e : l = ""
  · subst e
    decide
  · rw [show (l == "") = false from beq_eq_false_iff_ne.mpr e]
    obtain ⟨xs, c, rfl⟩ := str_snoc e
    rw [lastC_snoc]
    rcases isW_last h with rfl | rfl <;> decide
/-! ### the rule that holds -/
def ruleAt (xs : List PyData) (i j : Nat) : PyData × Str :=
  match xs[i]? with
  | some (.tuple rs) => (match rs[j]? with
    | some (.tuple [to, .str d]) => (to, d)
    | _ => (.none, ""))
  | _ => (.none, "")
theorem deed_str {d : PyData} (h : isDeed d = true) : ∃ z, d = .str z ∧ z ∈ deedL := by
  unfold isDeed at h
  obtain ⟨z, hz, e⟩ := List.any_eq_true.mp h
  cases d with
  | str y =>
    rw [eqv_ss] at e
    exact ⟨y, rfl, by rw [eq_of_beq e]; exact hz⟩
  | _ => cases e
theorem rule_is {n : Int} {d : PyData} (h : ruleB n d = true) : ∃ (to : Int) (z : Str), d = .tuple [.int to, .str z] ∧ 0 ≤ to ∧ to ≤ n ∧ z ∈ deedL := by
  match d, h with
  | .tuple [a, b], h =>
    have h : (wholeD a && (atMost n a && isDeed b)) = true := h
    rw [Bool.and_eq_true, Bool.and_eq_true] at h
    obtain ⟨h1, h2, h3⟩ := h
    obtain ⟨z, rfl, hz⟩ := deed_str h3
    cases a with
    | int i => exact ⟨i, z, rfl, of_decide_eq_true h1, of_decide_eq_true h2, hz⟩
    | _ => cases h1
theorem mach_at {xs : List PyData} {i j : Nat} (h : machB (.tuple xs) = true) (hi : i < xs.length) (hj : j < 3) : ∃ (rs : List PyData) (to : Int) (z : Str), xs[i]? = some (.tuple rs) ∧ rs[j]? = some (.tuple [.int to, .str z]) ∧ 0 ≤ to ∧ to ≤ xs.length ∧ z ∈ deedL ∧ ruleAt xs i j = (.int to, z) := by
  have h : (decide (0 < xs.length) && xs.all (stateB xs.length)) = true := h
  rw [Bool.and_eq_true] at h
  have hs := List.all_eq_true.mp h.2 xs[i] (List.getElem_mem hi)
  have ei : xs[i]? = some xs[i] := List.getElem?_eq_getElem hi
  generalize xs[i] = s at hs ei
  cases s with
  | tuple rs =>
    have hs : (decide (rs.length = 3) && rs.all (ruleB xs.length)) = true := hs
    rw [Bool.and_eq_true] at hs
    have hl := of_decide_eq_true hs.1
    have hj2 : j < rs.length := by omega
    obtain ⟨to, z, e, h1, h2, h3⟩ := rule_is (List.all_eq_true.mp hs.2 rs[j] (List.getElem_mem hj2))
    have ej : rs[j]? = some (.tuple [.int to, .str z]) := by rw [List.getElem?_eq_getElem hj2, e]
    refine ⟨rs, to, z, ei, ej, h1, h2, h3, ?_⟩
    unfold ruleAt
    rw [ei]
    dsimp only
    rw [ej]
  | _ => cases hs
def nextD (xs : List PyData) (n : Int) (l r : Str) : PyData :=
  bif n == (xs.length : Int) then .tuple [.int n, .str l, .str r] else .tuple [(ruleAt xs n.toNat (letS l)).1, .str (pa (ruleAt xs n.toNat (letS l)).2 l r).1, .str (pa (ruleAt xs n.toNat (letS l)).2 l r).2]
/-- a standing of the machine xs -/
structure Stand (xs : List PyData) (n : Int) (l r : Str) : Prop where
  m : machB (.tuple xs) = true
  n0 : 0 ≤ n
  n1 : n ≤ xs.length
  wl : isW l = true
  wr : isW r = true
  room : roomy l r
def F_next : FnD := fun ds K _ => ∃ xs n l r, ds = [.dat (.tuple xs), .dat (.tuple [.int n, .str l, .str r])] ∧ Stand xs n l r ∧ K (nextD xs n l r)
abbrev N__law_pile_step : List Str := ["_law_machine_here", "_law_standing", "_law_state", "_law_left", "_law_right", "_law_to", "_law_deed"]
abbrev P__law_pile_step : List Str := ["_law_machine_here", "_law_standing"]
theorem sc__law_pile_step : FnScope N__law_pile_step P__law_pile_step (defScope s__law_pile_step) := ⟨rfl, rfl, rfl, by decide +kernel, rfl, by decide +kernel, by decide +kernel⟩
section
variable {P : Program} {w : World} {K : PySem.W.Frag} {mg : Str → Option Value} {base : Heap} {Tl : List Addr}
theorem ok_next {fd fdA : FuncData} (T : TbP mg) (D : Df K mg "next_standing" s_next_standing P_next_standing fd) (D_piles_after : Df K mg "piles_after" s_piles_after P_piles_after fdA) (G_piles_after : FnOk P w K mg base CX0 3 (He.fAd K ("piles_after", none)) fdA P_piles_after (spD (WP K Tl) F_after)) :
    FnOk P w K mg base CX0 5 (He.fAd K ("next_standing", none)) fd P_next_standing (spD (WP K Tl) F_next) := by
  refine okD D.F sc_next_standing (fun ds Kk KE h => by obtain ⟨xs, n, l, r, rfl, _⟩ := h; rfl) (fun W cdv A outer s E hW hcd hr => ⟨_, (dss_cons (ds_asg (dv 1) (pg_tup rfl (pgs_cons (pg_name (i := 2) sc_next_standing.nd rfl (.inl rfl)) (pgs_cons (pg_name (i := 3) sc_next_standing.nd rfl (.inl rfl)) (pgs_cons (pg_name (i := 4) sc_next_standing.nd rfl (.inl rfl)) pgs_nil)))) (sg_tup (n := 3) (sgs_cons (sg_name (i := 2) trivial) (sgs_cons (sg_name (i := 3) trivial) (sgs_cons (sg_name (i := 4) trivial) sgs_nil)))))
      (dss_cons (ds_if (dt_cmp (op_eqX hr W.vol) sn_eq (dv 2) (de_cb (pe_callB call_len (by rfl) T.len (by decide +kernel) (da_cons (dv 0) da_nil)) sn_len)) (dss_one (ds_ret (dv 1))) dss_nil)
      (dss_cons (ds_set (i := 5) sc_next_standing.nd rfl (.inl rfl) (de_if (dt_cmp (op_eqX hr W.vol) sn_eq (dv 3) de_str) de_int (de_op op_addD sn_add de_int (de_cb (pe_callTy call_intD (by rfl) T.int (by decide +kernel) (da_cons (de_ix ix_all sn_ix (dv 3) (de_un un_neg sn_neg de_int) (fun _ _ => rfl)) da_nil)) sn_intc))))
      (dss_cons (ds_asg (de_ix ix_all sn_ix (de_ix ix_all sn_ix (dv 0) (dv 2) (fun _ _ => rfl)) (dv 5) (fun _ _ => rfl)) (pg_tup rfl (pgs_cons (pg_name (i := 6) sc_next_standing.nd rfl (.inl rfl)) (pgs_cons (pg_name (i := 7) sc_next_standing.nd rfl (.inl rfl)) pgs_nil))) (sg_tup (n := 2) (sgs_cons (sg_name (i := 6) trivial) (sgs_cons (sg_name (i := 7) trivial) sgs_nil))))
      (dss_one (ds_ret (de_op op_addD sn_add (de_tup (da_cons (dv 6) da_nil)) (de_call (pe_call G_piles_after (hr.mono (by first | decide | omega)) (by rfl) D_piles_after.g D_piles_after.F.kp D_piles_after.b .nil pass0 (da_cons (dv 7) (da_cons (dv 3) (da_cons (dv 4) da_nil)))) hW)))))))), fun ds Kk KE h => ?_⟩)
  obtain ⟨xs, n, l, r, rfl, st, h⟩ := h
  have room := st.room
  unfold roomy at room
  (try simp only [DL.iteB_true, DL.iteB_false, DL.sSeq, DL.sNext, DL.sRet, DL.sRetN, DL.sIf, DL.sAsg, DL.sNew, DL.sDrop, DL.sRel, DL.sApp, DL.sFor, DL.sBreak, DL.sCont, DL.sAsgT, DL.sPar, DL.sPar3, DL.sPar3DFD, DL.sParFD, DL.sParDF, DL.sExt, DL.sPut, DL.sAug, DL.sCut, DL.sRaise, DL.sWhile, DL.fVar, DL.fC, DL.fOb, DL.fGts, DL.f2, DL.f1, DL.fCall, DL.fB, DL.fTru, DL.fAnd, DL.fOr, DL.fNot, DL.fIf, DL.tAndD, DL.tOrD, DL.tNotD, DL.fNil, DL.fCons, DL.fTup, DL.fLst, DL.fDnew, DL.fNew, DL.fIt, DL.fRng1, DL.fRng2, DL.fLc, DL.fAG, DL.fFn, DL.fFnX, DL.fFnK, DL.fSl, DL.fNone, DL.fPart, DL.fList, DL.fM0, DL.fM1, DL.tYesD, DL.gdN, DL.gdT_t, DL.gdNil_n, DL.gdCons_c, DL.op2, DL.op1, DL.opC, DL.c1, DL.isiP, DL.typeO, DL.tyIs, DL.inG, DL.isND, DL.rel, DL.wipeD, DL.le_s0, DL.le_s1, DL.le_s2, DL.le_s3, DL.le_s4, DL.le_s5, DL.le_s6, DL.le_s7, DL.le_s8, DL.le_s9, DL.le_s10, DL.le_s11, DL.le_s12, DL.le_s13, DL.le_s14, DL.le_s15, DL.le_s16, DL.le_s17, DL.le_s18, DL.le_s19, DL.le_s20, DL.le_s21, DL.le_s22, DL.le_s23, DL.le_s24, DL.le_s25, DL.le_s26, DL.le_s27, DL.le_s28, DL.le_s29, DL.le_s30, DL.le_s31, DL.le_s32, DL.le_s33, DL.le_s34, DL.le_s35, DL.le_s36, DL.le_s37, DL.le_s38, DL.le_s39, DL.le_s40, DL.le_s41, DL.le_s42, DL.le_s43, DL.le_s44, DL.le_s45, DL.le_s46, DL.le_s47, DL.le_s48, DL.le_s49, DL.le_s50, DL.le_s51, DL.le_s52, DL.le_s53, DL.le_s54, DL.le_s55, DL.le_s56, DL.le_s57, DL.le_s58, DL.le_s59, DL.le_s60, DL.le_s61, DL.le_s62, DL.le_s63, DL.le_s64, DL.start0, DL.asDat, DL.lend, DL.noOwn, DL.DV.isOwn, DL.pd_dat, DL.pd_own, DL.ocpd_lst, DL.ocpd_dk, DL.itemsOf, List.map_cons, List.map_nil, List.append_nil, List.cons_append, List.nil_append, List.length_cons, List.length_nil, List.replicate_succ, List.replicate_zero, List.getElem?_cons_zero, List.getElem?_cons_succ, List.set_cons_zero, List.set_cons_succ, Nat.reduceSub, Nat.reduceAdd, Nat.sub_self, Nat.zero_add, Option.some.injEq, DL.DV.dat.injEq, PyData.bool.injEq, PyData.int.injEq, PyData.str.injEq, PyData.tuple.injEq, PyData.list.injEq, DL.DV.ob.injEq, V.ty.injEq, DL.DV.own.injEq, DL.OC.lst.injEq, List.cons.injEq, Option.map_some, exists_eq_left', exists_eq_left, exists_eq_right, exists_eq_right', exists_and_left, and_true, true_and, Bool.not_true, Bool.not_false, Bool.and_true, Bool.true_and, true_or, Bool.not_eq_true', Bool.false_eq_true, if_true, if_false, reduceIte, reduceCtorEq])
  (try simp only [DL.negP_i, DL.le_s0, DL.le_s1, DL.le_s2, DL.le_s3, DL.le_s4, DL.le_s5, DL.le_s6, DL.le_s7, DL.le_s8, DL.le_s9, DL.le_s10, DL.le_s11, DL.le_s12, DL.le_s13, DL.le_s14, DL.le_s15, DL.le_s16, DL.le_s17, DL.le_s18, DL.le_s19, DL.le_s20, DL.le_s21, DL.le_s22, DL.le_s23, DL.le_s24, DL.le_s25, DL.le_s26, DL.le_s27, DL.le_s28, DL.le_s29, DL.le_s30, DL.le_s31, DL.le_s32, DL.le_s33, DL.le_s34, DL.le_s35, DL.le_s36, DL.le_s37, DL.le_s38, DL.le_s39, DL.le_s40, DL.le_s41, DL.le_s42, DL.le_s43, DL.le_s44, DL.le_s45, DL.le_s46, DL.le_s47, DL.le_s48, DL.le_s49, DL.le_s50, DL.le_s51, DL.le_s52, DL.le_s53, DL.le_s54, DL.le_s55, DL.le_s56, DL.le_s57, DL.le_s58, DL.le_s59, DL.le_s60, DL.le_s61, DL.le_s62, DL.le_s63, DL.le_s64, DL.iteB_true, DL.iteB_false, DL.lenP_t, DL.lenP_l, DL.lenP_s, DL.eqP, DL.eqOk_int, DL.eqOk_str, DL.eqOk_emp, DL.eqOk_empL, DL.eqv_emp1, DL.eqv_empL1, DL.eqv_ii, DL.eqv_ss, DL.ixP_t, DL.ixP_l, DL.ixP_s, DL.slP_t, DL.slP_l, DL.slP_s, DL.intcP_i, DL.intcP_b, DL.intcP_s, DL.tupcP_l, DL.tupcP_t, DL.atI_z, DL.atI_o, DL.atI_t, DL.int0P_ii, DL.intP_ii, DL.addP_ii, DL.addP_ss, DL.addP_tt, DL.addP_ll, DL.isTup_t, DL.reprP, Bool.false_eq_true, if_true, if_false, reduceIte, Option.some.injEq, PyData.bool.injEq, exists_eq_left', exists_eq_left, exists_eq_right, exists_eq_right', true_and, and_true, Bool.true_eq_false, Bool.not_true, Bool.not_false, false_and, and_false, exists_and_left, reduceCtorEq, DL.DV.gts.injEq, exists_const])
  cases hn : n == (xs.length : Int) with
  | true =>
    unfold nextD at h
    rw [hn] at h
    exact h
  | false =>
    have hlt : n.toNat < xs.length := by
      have := beq_eq_false_iff_ne.mp hn
      have := st.n1
      have := st.n0
      omega
    obtain ⟨rs, to, z, e1, e2, t0, t1, hz, e3⟩ := mach_at st.m hlt (letS_lt st.wl)
    unfold nextD at h
    rw [hn, e3] at h
    have en : n = (n.toNat : Int) := by
      have := st.n0
      omega
    have at1 : atI xs n = some (.tuple rs) := by
      rw [en]
      exact atI_nat e1
    have at2 : atI rs ((letS l : Nat) : Int) = some (.tuple [.int to, .str z]) := atI_nat e2
    cases hl : l == "" with
    | true =>
      have el : letS l = 0 := by unfold letS; rw [hl]; rfl
      rw [el] at at2
      simp only [iteB_true, iteB_false]
      refine ⟨_, at1, ?_⟩
      (try simp only [DL.negP_i, DL.le_s0, DL.le_s1, DL.le_s2, DL.le_s3, DL.le_s4, DL.le_s5, DL.le_s6, DL.le_s7, DL.le_s8, DL.le_s9, DL.le_s10, DL.le_s11, DL.le_s12, DL.le_s13, DL.le_s14, DL.le_s15, DL.le_s16, DL.le_s17, DL.le_s18, DL.le_s19, DL.le_s20, DL.le_s21, DL.le_s22, DL.le_s23, DL.le_s24, DL.le_s25, DL.le_s26, DL.le_s27, DL.le_s28, DL.le_s29, DL.le_s30, DL.le_s31, DL.le_s32, DL.le_s33, DL.le_s34, DL.le_s35, DL.le_s36, DL.le_s37, DL.le_s38, DL.le_s39, DL.le_s40, DL.le_s41, DL.le_s42, DL.le_s43, DL.le_s44, DL.le_s45, DL.le_s46, DL.le_s47, DL.le_s48, DL.le_s49, DL.le_s50, DL.le_s51, DL.le_s52, DL.le_s53, DL.le_s54, DL.le_s55, DL.le_s56, DL.le_s57, DL.le_s58, DL.le_s59, DL.le_s60, DL.le_s61, DL.le_s62, DL.le_s63, DL.le_s64, DL.iteB_true, DL.iteB_false, DL.lenP_t, DL.lenP_l, DL.lenP_s, DL.eqP, DL.eqOk_int, DL.eqOk_str, DL.eqOk_emp, DL.eqOk_empL, DL.eqv_emp1, DL.eqv_empL1, DL.eqv_ii, DL.eqv_ss, DL.ixP_t, DL.ixP_l, DL.ixP_s, DL.slP_t, DL.slP_l, DL.slP_s, DL.intcP_i, DL.intcP_b, DL.intcP_s, DL.tupcP_l, DL.tupcP_t, DL.atI_z, DL.atI_o, DL.atI_t, DL.int0P_ii, DL.intP_ii, DL.addP_ii, DL.addP_ss, DL.addP_tt, DL.addP_ll, DL.isTup_t, DL.reprP, Bool.false_eq_true, if_true, if_false, reduceIte, Option.some.injEq, PyData.bool.injEq, exists_eq_left', exists_eq_left, exists_eq_right, exists_eq_right', true_and, and_true, Bool.true_eq_false, Bool.not_true, Bool.not_false, false_and, and_false, exists_and_left, reduceCtorEq, DL.DV.gts.injEq, exists_const])
      refine ⟨_, at2, ?_⟩
      (try simp only [DL.iteB_true, DL.iteB_false, DL.sSeq, DL.sNext, DL.sRet, DL.sRetN, DL.sIf, DL.sAsg, DL.sNew, DL.sDrop, DL.sRel, DL.sApp, DL.sFor, DL.sBreak, DL.sCont, DL.sAsgT, DL.sPar, DL.sPar3, DL.sPar3DFD, DL.sParFD, DL.sParDF, DL.sExt, DL.sPut, DL.sAug, DL.sCut, DL.sRaise, DL.sWhile, DL.fVar, DL.fC, DL.fOb, DL.fGts, DL.f2, DL.f1, DL.fCall, DL.fB, DL.fTru, DL.fAnd, DL.fOr, DL.fNot, DL.fIf, DL.tAndD, DL.tOrD, DL.tNotD, DL.fNil, DL.fCons, DL.fTup, DL.fLst, DL.fDnew, DL.fNew, DL.fIt, DL.fRng1, DL.fRng2, DL.fLc, DL.fAG, DL.fFn, DL.fFnX, DL.fFnK, DL.fSl, DL.fNone, DL.fPart, DL.fList, DL.fM0, DL.fM1, DL.tYesD, DL.gdN, DL.gdT_t, DL.gdNil_n, DL.gdCons_c, DL.op2, DL.op1, DL.opC, DL.c1, DL.isiP, DL.typeO, DL.tyIs, DL.inG, DL.isND, DL.rel, DL.wipeD, DL.le_s0, DL.le_s1, DL.le_s2, DL.le_s3, DL.le_s4, DL.le_s5, DL.le_s6, DL.le_s7, DL.le_s8, DL.le_s9, DL.le_s10, DL.le_s11, DL.le_s12, DL.le_s13, DL.le_s14, DL.le_s15, DL.le_s16, DL.le_s17, DL.le_s18, DL.le_s19, DL.le_s20, DL.le_s21, DL.le_s22, DL.le_s23, DL.le_s24, DL.le_s25, DL.le_s26, DL.le_s27, DL.le_s28, DL.le_s29, DL.le_s30, DL.le_s31, DL.le_s32, DL.le_s33, DL.le_s34, DL.le_s35, DL.le_s36, DL.le_s37, DL.le_s38, DL.le_s39, DL.le_s40, DL.le_s41, DL.le_s42, DL.le_s43, DL.le_s44, DL.le_s45, DL.le_s46, DL.le_s47, DL.le_s48, DL.le_s49, DL.le_s50, DL.le_s51, DL.le_s52, DL.le_s53, DL.le_s54, DL.le_s55, DL.le_s56, DL.le_s57, DL.le_s58, DL.le_s59, DL.le_s60, DL.le_s61, DL.le_s62, DL.le_s63, DL.le_s64, DL.start0, DL.asDat, DL.lend, DL.noOwn, DL.DV.isOwn, DL.pd_dat, DL.pd_own, DL.ocpd_lst, DL.ocpd_dk, DL.itemsOf, List.map_cons, List.map_nil, List.append_nil, List.cons_append, List.nil_append, List.length_cons, List.length_nil, List.replicate_succ, List.replicate_zero, List.getElem?_cons_zero, List.getElem?_cons_succ, List.set_cons_zero, List.set_cons_succ, Nat.reduceSub, Nat.reduceAdd, Nat.sub_self, Nat.zero_add, Option.some.injEq, DL.DV.dat.injEq, PyData.bool.injEq, PyData.int.injEq, PyData.str.injEq, PyData.tuple.injEq, PyData.list.injEq, DL.DV.ob.injEq, V.ty.injEq, DL.DV.own.injEq, DL.OC.lst.injEq, List.cons.injEq, Option.map_some, exists_eq_left', exists_eq_left, exists_eq_right, exists_eq_right', exists_and_left, and_true, true_and, Bool.not_true, Bool.not_false, Bool.and_true, Bool.true_and, true_or, Bool.not_eq_true', Bool.false_eq_true, if_true, if_false, reduceIte, reduceCtorEq])
      exact ⟨z, l, r, rfl, hz, st.room, by (try simp only [DL.negP_i, DL.le_s0, DL.le_s1, DL.le_s2, DL.le_s3, DL.le_s4, DL.le_s5, DL.le_s6, DL.le_s7, DL.le_s8, DL.le_s9, DL.le_s10, DL.le_s11, DL.le_s12, DL.le_s13, DL.le_s14, DL.le_s15, DL.le_s16, DL.le_s17, DL.le_s18, DL.le_s19, DL.le_s20, DL.le_s21, DL.le_s22, DL.le_s23, DL.le_s24, DL.le_s25, DL.le_s26, DL.le_s27, DL.le_s28, DL.le_s29, DL.le_s30, DL.le_s31, DL.le_s32, DL.le_s33, DL.le_s34, DL.le_s35, DL.le_s36, DL.le_s37, DL.le_s38, DL.le_s39, DL.le_s40, DL.le_s41, DL.le_s42, DL.le_s43, DL.le_s44, DL.le_s45, DL.le_s46, DL.le_s47, DL.le_s48, DL.le_s49, DL.le_s50, DL.le_s51, DL.le_s52, DL.le_s53, DL.le_s54, DL.le_s55, DL.le_s56, DL.le_s57, DL.le_s58, DL.le_s59, DL.le_s60, DL.le_s61, DL.le_s62, DL.le_s63, DL.le_s64, DL.iteB_true, DL.iteB_false, DL.lenP_t, DL.lenP_l, DL.lenP_s, DL.eqP, DL.eqOk_int, DL.eqOk_str, DL.eqOk_emp, DL.eqOk_empL, DL.eqv_emp1, DL.eqv_empL1, DL.eqv_ii, DL.eqv_ss, DL.ixP_t, DL.ixP_l, DL.ixP_s, DL.slP_t, DL.slP_l, DL.slP_s, DL.intcP_i, DL.intcP_b, DL.intcP_s, DL.tupcP_l, DL.tupcP_t, DL.atI_z, DL.atI_o, DL.atI_t, DL.int0P_ii, DL.intP_ii, DL.addP_ii, DL.addP_ss, DL.addP_tt, DL.addP_ll, DL.isTup_t, DL.reprP, Bool.false_eq_true, if_true, if_false, reduceIte, Option.some.injEq, PyData.bool.injEq, exists_eq_left', exists_eq_left, exists_eq_right, exists_eq_right', true_and, and_true, Bool.true_eq_false, Bool.not_true, Bool.not_false, false_and, and_false, exists_and_left, reduceCtorEq, DL.DV.gts.injEq, exists_const]); exact ⟨by show 3 ≤ sizeLine; decide, h⟩⟩
    | false =>
      have hne := beq_eq_false_iff_ne.mp hl
      simp only [iteB_true, iteB_false]
      obtain ⟨cs, c, rfl⟩ := str_snoc hne
      have el : letS ⟨(cs ++ [c]).toArray⟩ = c - 47 := by
        unfold letS
        rw [hl, lastC_snoc]
        rfl
      rw [el] at at2
      refine ⟨by omega, c, last_atI cs c, by show 1 ≤ 640; decide, ?_⟩
      rcases isW_last st.wl with rfl | rfl
      · refine ⟨0, it48, _, at1, ?_⟩
        (try simp only [DL.negP_i, DL.le_s0, DL.le_s1, DL.le_s2, DL.le_s3, DL.le_s4, DL.le_s5, DL.le_s6, DL.le_s7, DL.le_s8, DL.le_s9, DL.le_s10, DL.le_s11, DL.le_s12, DL.le_s13, DL.le_s14, DL.le_s15, DL.le_s16, DL.le_s17, DL.le_s18, DL.le_s19, DL.le_s20, DL.le_s21, DL.le_s22, DL.le_s23, DL.le_s24, DL.le_s25, DL.le_s26, DL.le_s27, DL.le_s28, DL.le_s29, DL.le_s30, DL.le_s31, DL.le_s32, DL.le_s33, DL.le_s34, DL.le_s35, DL.le_s36, DL.le_s37, DL.le_s38, DL.le_s39, DL.le_s40, DL.le_s41, DL.le_s42, DL.le_s43, DL.le_s44, DL.le_s45, DL.le_s46, DL.le_s47, DL.le_s48, DL.le_s49, DL.le_s50, DL.le_s51, DL.le_s52, DL.le_s53, DL.le_s54, DL.le_s55, DL.le_s56, DL.le_s57, DL.le_s58, DL.le_s59, DL.le_s60, DL.le_s61, DL.le_s62, DL.le_s63, DL.le_s64, DL.iteB_true, DL.iteB_false, DL.lenP_t, DL.lenP_l, DL.lenP_s, DL.eqP, DL.eqOk_int, DL.eqOk_str, DL.eqOk_emp, DL.eqOk_empL, DL.eqv_emp1, DL.eqv_empL1, DL.eqv_ii, DL.eqv_ss, DL.ixP_t, DL.ixP_l, DL.ixP_s, DL.slP_t, DL.slP_l, DL.slP_s, DL.intcP_i, DL.intcP_b, DL.intcP_s, DL.tupcP_l, DL.tupcP_t, DL.atI_z, DL.atI_o, DL.atI_t, DL.int0P_ii, DL.intP_ii, DL.addP_ii, DL.addP_ss, DL.addP_tt, DL.addP_ll, DL.isTup_t, DL.reprP, Bool.false_eq_true, if_true, if_false, reduceIte, Option.some.injEq, PyData.bool.injEq, exists_eq_left', exists_eq_left, exists_eq_right, exists_eq_right', true_and, and_true, Bool.true_eq_false, Bool.not_true, Bool.not_false, false_and, and_false, exists_and_left, reduceCtorEq, DL.DV.gts.injEq, exists_const])
        refine ⟨_, at2, ?_⟩
        (try simp only [DL.iteB_true, DL.iteB_false, DL.sSeq, DL.sNext, DL.sRet, DL.sRetN, DL.sIf, DL.sAsg, DL.sNew, DL.sDrop, DL.sRel, DL.sApp, DL.sFor, DL.sBreak, DL.sCont, DL.sAsgT, DL.sPar, DL.sPar3, DL.sPar3DFD, DL.sParFD, DL.sParDF, DL.sExt, DL.sPut, DL.sAug, DL.sCut, DL.sRaise, DL.sWhile, DL.fVar, DL.fC, DL.fOb, DL.fGts, DL.f2, DL.f1, DL.fCall, DL.fB, DL.fTru, DL.fAnd, DL.fOr, DL.fNot, DL.fIf, DL.tAndD, DL.tOrD, DL.tNotD, DL.fNil, DL.fCons, DL.fTup, DL.fLst, DL.fDnew, DL.fNew, DL.fIt, DL.fRng1, DL.fRng2, DL.fLc, DL.fAG, DL.fFn, DL.fFnX, DL.fFnK, DL.fSl, DL.fNone, DL.fPart, DL.fList, DL.fM0, DL.fM1, DL.tYesD, DL.gdN, DL.gdT_t, DL.gdNil_n, DL.gdCons_c, DL.op2, DL.op1, DL.opC, DL.c1, DL.isiP, DL.typeO, DL.tyIs, DL.inG, DL.isND, DL.rel, DL.wipeD, DL.le_s0, DL.le_s1, DL.le_s2, DL.le_s3, DL.le_s4, DL.le_s5, DL.le_s6, DL.le_s7, DL.le_s8, DL.le_s9, DL.le_s10, DL.le_s11, DL.le_s12, DL.le_s13, DL.le_s14, DL.le_s15, DL.le_s16, DL.le_s17, DL.le_s18, DL.le_s19, DL.le_s20, DL.le_s21, DL.le_s22, DL.le_s23, DL.le_s24, DL.le_s25, DL.le_s26, DL.le_s27, DL.le_s28, DL.le_s29, DL.le_s30, DL.le_s31, DL.le_s32, DL.le_s33, DL.le_s34, DL.le_s35, DL.le_s36, DL.le_s37, DL.le_s38, DL.le_s39, DL.le_s40, DL.le_s41, DL.le_s42, DL.le_s43, DL.le_s44, DL.le_s45, DL.le_s46, DL.le_s47, DL.le_s48, DL.le_s49, DL.le_s50, DL.le_s51, DL.le_s52, DL.le_s53, DL.le_s54, DL.le_s55, DL.le_s56, DL.le_s57, DL.le_s58, DL.le_s59, DL.le_s60, DL.le_s61, DL.le_s62, DL.le_s63, DL.le_s64, DL.start0, DL.asDat, DL.lend, DL.noOwn, DL.DV.isOwn, DL.pd_dat, DL.pd_own, DL.ocpd_lst, DL.ocpd_dk, DL.itemsOf, List.map_cons, List.map_nil, List.append_nil, List.cons_append, List.nil_append, List.length_cons, List.length_nil, List.replicate_succ, List.replicate_zero, List.getElem?_cons_zero, List.getElem?_cons_succ, List.set_cons_zero, List.set_cons_succ, Nat.reduceSub, Nat.reduceAdd, Nat.sub_self, Nat.zero_add, Option.some.injEq, DL.DV.dat.injEq, PyData.bool.injEq, PyData.int.injEq, PyData.str.injEq, PyData.tuple.injEq, PyData.list.injEq, DL.DV.ob.injEq, V.ty.injEq, DL.DV.own.injEq, DL.OC.lst.injEq, List.cons.injEq, Option.map_some, exists_eq_left', exists_eq_left, exists_eq_right, exists_eq_right', exists_and_left, and_true, true_and, Bool.not_true, Bool.not_false, Bool.and_true, Bool.true_and, true_or, Bool.not_eq_true', Bool.false_eq_true, if_true, if_false, reduceIte, reduceCtorEq])
        exact ⟨z, _, r, rfl, hz, st.room, by (try simp only [DL.negP_i, DL.le_s0, DL.le_s1, DL.le_s2, DL.le_s3, DL.le_s4, DL.le_s5, DL.le_s6, DL.le_s7, DL.le_s8, DL.le_s9, DL.le_s10, DL.le_s11, DL.le_s12, DL.le_s13, DL.le_s14, DL.le_s15, DL.le_s16, DL.le_s17, DL.le_s18, DL.le_s19, DL.le_s20, DL.le_s21, DL.le_s22, DL.le_s23, DL.le_s24, DL.le_s25, DL.le_s26, DL.le_s27, DL.le_s28, DL.le_s29, DL.le_s30, DL.le_s31, DL.le_s32, DL.le_s33, DL.le_s34, DL.le_s35, DL.le_s36, DL.le_s37, DL.le_s38, DL.le_s39, DL.le_s40, DL.le_s41, DL.le_s42, DL.le_s43, DL.le_s44, DL.le_s45, DL.le_s46, DL.le_s47, DL.le_s48, DL.le_s49, DL.le_s50, DL.le_s51, DL.le_s52, DL.le_s53, DL.le_s54, DL.le_s55, DL.le_s56, DL.le_s57, DL.le_s58, DL.le_s59, DL.le_s60, DL.le_s61, DL.le_s62, DL.le_s63, DL.le_s64, DL.iteB_true, DL.iteB_false, DL.lenP_t, DL.lenP_l, DL.lenP_s, DL.eqP, DL.eqOk_int, DL.eqOk_str, DL.eqOk_emp, DL.eqOk_empL, DL.eqv_emp1, DL.eqv_empL1, DL.eqv_ii, DL.eqv_ss, DL.ixP_t, DL.ixP_l, DL.ixP_s, DL.slP_t, DL.slP_l, DL.slP_s, DL.intcP_i, DL.intcP_b, DL.intcP_s, DL.tupcP_l, DL.tupcP_t, DL.atI_z, DL.atI_o, DL.atI_t, DL.int0P_ii, DL.intP_ii, DL.addP_ii, DL.addP_ss, DL.addP_tt, DL.addP_ll, DL.isTup_t, DL.reprP, Bool.false_eq_true, if_true, if_false, reduceIte, Option.some.injEq, PyData.bool.injEq, exists_eq_left', exists_eq_left, exists_eq_right, exists_eq_right', true_and, and_true, Bool.true_eq_false, Bool.not_true, Bool.not_false, false_and, and_false, exists_and_left, reduceCtorEq, DL.DV.gts.injEq, exists_const]); exact ⟨by show 3 ≤ sizeLine; decide, h⟩⟩
      · refine ⟨1, it49, _, at1, ?_⟩
        (try simp only [DL.negP_i, DL.le_s0, DL.le_s1, DL.le_s2, DL.le_s3, DL.le_s4, DL.le_s5, DL.le_s6, DL.le_s7, DL.le_s8, DL.le_s9, DL.le_s10, DL.le_s11, DL.le_s12, DL.le_s13, DL.le_s14, DL.le_s15, DL.le_s16, DL.le_s17, DL.le_s18, DL.le_s19, DL.le_s20, DL.le_s21, DL.le_s22, DL.le_s23, DL.le_s24, DL.le_s25, DL.le_s26, DL.le_s27, DL.le_s28, DL.le_s29, DL.le_s30, DL.le_s31, DL.le_s32, DL.le_s33, DL.le_s34, DL.le_s35, DL.le_s36, DL.le_s37, DL.le_s38, DL.le_s39, DL.le_s40, DL.le_s41, DL.le_s42, DL.le_s43, DL.le_s44, DL.le_s45, DL.le_s46, DL.le_s47, DL.le_s48, DL.le_s49, DL.le_s50, DL.le_s51, DL.le_s52, DL.le_s53, DL.le_s54, DL.le_s55, DL.le_s56, DL.le_s57, DL.le_s58, DL.le_s59, DL.le_s60, DL.le_s61, DL.le_s62, DL.le_s63, DL.le_s64, DL.iteB_true, DL.iteB_false, DL.lenP_t, DL.lenP_l, DL.lenP_s, DL.eqP, DL.eqOk_int, DL.eqOk_str, DL.eqOk_emp, DL.eqOk_empL, DL.eqv_emp1, DL.eqv_empL1, DL.eqv_ii, DL.eqv_ss, DL.ixP_t, DL.ixP_l, DL.ixP_s, DL.slP_t, DL.slP_l, DL.slP_s, DL.intcP_i, DL.intcP_b, DL.intcP_s, DL.tupcP_l, DL.tupcP_t, DL.atI_z, DL.atI_o, DL.atI_t, DL.int0P_ii, DL.intP_ii, DL.addP_ii, DL.addP_ss, DL.addP_tt, DL.addP_ll, DL.isTup_t, DL.reprP, Bool.false_eq_true, if_true, if_false, reduceIte, Option.some.injEq, PyData.bool.injEq, exists_eq_left', exists_eq_left, exists_eq_right, exists_eq_right', true_and, and_true, Bool.true_eq_false, Bool.not_true, Bool.not_false, false_and, and_false, exists_and_left, reduceCtorEq, DL.DV.gts.injEq, exists_const])
        refine ⟨_, at2, ?_⟩
        (try simp only [DL.iteB_true, DL.iteB_false, DL.sSeq, DL.sNext, DL.sRet, DL.sRetN, DL.sIf, DL.sAsg, DL.sNew, DL.sDrop, DL.sRel, DL.sApp, DL.sFor, DL.sBreak, DL.sCont, DL.sAsgT, DL.sPar, DL.sPar3, DL.sPar3DFD, DL.sParFD, DL.sParDF, DL.sExt, DL.sPut, DL.sAug, DL.sCut, DL.sRaise, DL.sWhile, DL.fVar, DL.fC, DL.fOb, DL.fGts, DL.f2, DL.f1, DL.fCall, DL.fB, DL.fTru, DL.fAnd, DL.fOr, DL.fNot, DL.fIf, DL.tAndD, DL.tOrD, DL.tNotD, DL.fNil, DL.fCons, DL.fTup, DL.fLst, DL.fDnew, DL.fNew, DL.fIt, DL.fRng1, DL.fRng2, DL.fLc, DL.fAG, DL.fFn, DL.fFnX, DL.fFnK, DL.fSl, DL.fNone, DL.fPart, DL.fList, DL.fM0, DL.fM1, DL.tYesD, DL.gdN, DL.gdT_t, DL.gdNil_n, DL.gdCons_c, DL.op2, DL.op1, DL.opC, DL.c1, DL.isiP, DL.typeO, DL.tyIs, DL.inG, DL.isND, DL.rel, DL.wipeD, DL.le_s0, DL.le_s1, DL.le_s2, DL.le_s3, DL.le_s4, DL.le_s5, DL.le_s6, DL.le_s7, DL.le_s8, DL.le_s9, DL.le_s10, DL.le_s11, DL.le_s12, DL.le_s13, DL.le_s14, DL.le_s15, DL.le_s16, DL.le_s17, DL.le_s18, DL.le_s19, DL.le_s20, DL.le_s21, DL.le_s22, DL.le_s23, DL.le_s24, DL.le_s25, DL.le_s26, DL.le_s27, DL.le_s28, DL.le_s29, DL.le_s30, DL.le_s31, DL.le_s32, DL.le_s33, DL.le_s34, DL.le_s35, DL.le_s36, DL.le_s37, DL.le_s38, DL.le_s39, DL.le_s40, DL.le_s41, DL.le_s42, DL.le_s43, DL.le_s44, DL.le_s45, DL.le_s46, DL.le_s47, DL.le_s48, DL.le_s49, DL.le_s50, DL.le_s51, DL.le_s52, DL.le_s53, DL.le_s54, DL.le_s55, DL.le_s56, DL.le_s57, DL.le_s58, DL.le_s59, DL.le_s60, DL.le_s61, DL.le_s62, DL.le_s63, DL.le_s64, DL.start0, DL.asDat, DL.lend, DL.noOwn, DL.DV.isOwn, DL.pd_dat, DL.pd_own, DL.ocpd_lst, DL.ocpd_dk, DL.itemsOf, List.map_cons, List.map_nil, List.append_nil, List.cons_append, List.nil_append, List.length_cons, List.length_nil, List.replicate_succ, List.replicate_zero, List.getElem?_cons_zero, List.getElem?_cons_succ, List.set_cons_zero, List.set_cons_succ, Nat.reduceSub, Nat.reduceAdd, Nat.sub_self, Nat.zero_add, Option.some.injEq, DL.DV.dat.injEq, PyData.bool.injEq, PyData.int.injEq, PyData.str.injEq, PyData.tuple.injEq, PyData.list.injEq, DL.DV.ob.injEq, V.ty.injEq, DL.DV.own.injEq, DL.OC.lst.injEq, List.cons.injEq, Option.map_some, exists_eq_left', exists_eq_left, exists_eq_right, exists_eq_right', exists_and_left, and_true, true_and, Bool.not_true, Bool.not_false, Bool.and_true, Bool.true_and, true_or, Bool.not_eq_true', Bool.false_eq_true, if_true, if_false, reduceIte, reduceCtorEq])
        exact ⟨z, _, r, rfl, hz, st.room, by (try simp only [DL.negP_i, DL.le_s0, DL.le_s1, DL.le_s2, DL.le_s3, DL.le_s4, DL.le_s5, DL.le_s6, DL.le_s7, DL.le_s8, DL.le_s9, DL.le_s10, DL.le_s11, DL.le_s12, DL.le_s13, DL.le_s14, DL.le_s15, DL.le_s16, DL.le_s17, DL.le_s18, DL.le_s19, DL.le_s20, DL.le_s21, DL.le_s22, DL.le_s23, DL.le_s24, DL.le_s25, DL.le_s26, DL.le_s27, DL.le_s28, DL.le_s29, DL.le_s30, DL.le_s31, DL.le_s32, DL.le_s33, DL.le_s34, DL.le_s35, DL.le_s36, DL.le_s37, DL.le_s38, DL.le_s39, DL.le_s40, DL.le_s41, DL.le_s42, DL.le_s43, DL.le_s44, DL.le_s45, DL.le_s46, DL.le_s47, DL.le_s48, DL.le_s49, DL.le_s50, DL.le_s51, DL.le_s52, DL.le_s53, DL.le_s54, DL.le_s55, DL.le_s56, DL.le_s57, DL.le_s58, DL.le_s59, DL.le_s60, DL.le_s61, DL.le_s62, DL.le_s63, DL.le_s64, DL.iteB_true, DL.iteB_false, DL.lenP_t, DL.lenP_l, DL.lenP_s, DL.eqP, DL.eqOk_int, DL.eqOk_str, DL.eqOk_emp, DL.eqOk_empL, DL.eqv_emp1, DL.eqv_empL1, DL.eqv_ii, DL.eqv_ss, DL.ixP_t, DL.ixP_l, DL.ixP_s, DL.slP_t, DL.slP_l, DL.slP_s, DL.intcP_i, DL.intcP_b, DL.intcP_s, DL.tupcP_l, DL.tupcP_t, DL.atI_z, DL.atI_o, DL.atI_t, DL.int0P_ii, DL.intP_ii, DL.addP_ii, DL.addP_ss, DL.addP_tt, DL.addP_ll, DL.isTup_t, DL.reprP, Bool.false_eq_true, if_true, if_false, reduceIte, Option.some.injEq, PyData.bool.injEq, exists_eq_left', exists_eq_left, exists_eq_right, exists_eq_right', true_and, and_true, Bool.true_eq_false, Bool.not_true, Bool.not_false, false_and, and_false, exists_and_left, reduceCtorEq, DL.DV.gts.injEq, exists_const]); exact ⟨by show 3 ≤ sizeLine; decide, h⟩⟩
/-! ### what a step asks -/
def KEm (d : PyData) (KE : Str → PyData → Prop) : Prop := KE "BadMachine" d
def F_req : FnD := fun ds K KE => ∃ d, ds = [.dat d] ∧ (machB d = true → K .none) ∧ (machB d = false → KE "BadMachine" d)
theorem ok_req {fd fdM fdE : FuncData} (E_BadMachine : Eq1 P w K mg base "BadMachine" (fld "BadMachine") fdE) (D : Df K mg "require_machine" s_require_machine P_require_machine fd) (D_is_machine : Df K mg "is_machine" s_is_machine P_is_machine fdM) (G_is_machine : FnOk P w K mg base CX0 13 (He.fAd K ("is_machine", none)) fdM P_is_machine (spD (WP K Tl) F_mach)) :
    FnOk P w K mg base (L2.CX P w) 15 (He.fAd K ("require_machine", none)) fd P_require_machine (spD (WP K Tl) F_req) := by
  refine okDX D.F sc_require_machine (fun ds Kk KE h => by obtain ⟨d, rfl, _⟩ := h; rfl) (fun W cdv A outer s E KE hW hE hcd hr => ?_)
  have hK : W.K = K := hW.k
  refine ⟨_, (dss_one (ds_if (dt_not (dt_val (de_call (pe_call G_is_machine (hr.mono (by first | decide | omega)) (by rfl) D_is_machine.g D_is_machine.F.kp D_is_machine.b .nil pass0 (da_cons (dv 0) da_nil)) hW))) (dss_one (ds_raise E_BadMachine (hr.mono (by first | decide | omega)) hK rfl hE rfl rfl (takes_of rfl rfl rfl rfl) (dv 0) (by rfl))) dss_nil)), fun ds Kk h => ?_⟩
  obtain ⟨d, rfl, h1, h2⟩ := h
  (try simp only [DL.iteB_true, DL.iteB_false, DL.sSeq, DL.sNext, DL.sRet, DL.sRetN, DL.sIf, DL.sAsg, DL.sNew, DL.sDrop, DL.sRel, DL.sApp, DL.sFor, DL.sBreak, DL.sCont, DL.sAsgT, DL.sPar, DL.sPar3, DL.sPar3DFD, DL.sParFD, DL.sParDF, DL.sExt, DL.sPut, DL.sAug, DL.sCut, DL.sRaise, DL.sWhile, DL.fVar, DL.fC, DL.fOb, DL.fGts, DL.f2, DL.f1, DL.fCall, DL.fB, DL.fTru, DL.fAnd, DL.fOr, DL.fNot, DL.fIf, DL.tAndD, DL.tOrD, DL.tNotD, DL.fNil, DL.fCons, DL.fTup, DL.fLst, DL.fDnew, DL.fNew, DL.fIt, DL.fRng1, DL.fRng2, DL.fLc, DL.fAG, DL.fFn, DL.fFnX, DL.fFnK, DL.fSl, DL.fNone, DL.fPart, DL.fList, DL.fM0, DL.fM1, DL.tYesD, DL.gdN, DL.gdT_t, DL.gdNil_n, DL.gdCons_c, DL.op2, DL.op1, DL.opC, DL.c1, DL.isiP, DL.typeO, DL.tyIs, DL.inG, DL.isND, DL.rel, DL.wipeD, DL.le_s0, DL.le_s1, DL.le_s2, DL.le_s3, DL.le_s4, DL.le_s5, DL.le_s6, DL.le_s7, DL.le_s8, DL.le_s9, DL.le_s10, DL.le_s11, DL.le_s12, DL.le_s13, DL.le_s14, DL.le_s15, DL.le_s16, DL.le_s17, DL.le_s18, DL.le_s19, DL.le_s20, DL.le_s21, DL.le_s22, DL.le_s23, DL.le_s24, DL.le_s25, DL.le_s26, DL.le_s27, DL.le_s28, DL.le_s29, DL.le_s30, DL.le_s31, DL.le_s32, DL.le_s33, DL.le_s34, DL.le_s35, DL.le_s36, DL.le_s37, DL.le_s38, DL.le_s39, DL.le_s40, DL.le_s41, DL.le_s42, DL.le_s43, DL.le_s44, DL.le_s45, DL.le_s46, DL.le_s47, DL.le_s48, DL.le_s49, DL.le_s50, DL.le_s51, DL.le_s52, DL.le_s53, DL.le_s54, DL.le_s55, DL.le_s56, DL.le_s57, DL.le_s58, DL.le_s59, DL.le_s60, DL.le_s61, DL.le_s62, DL.le_s63, DL.le_s64, DL.start0, DL.asDat, DL.lend, DL.noOwn, DL.DV.isOwn, DL.pd_dat, DL.pd_own, DL.ocpd_lst, DL.ocpd_dk, DL.itemsOf, List.map_cons, List.map_nil, List.append_nil, List.cons_append, List.nil_append, List.length_cons, List.length_nil, List.replicate_succ, List.replicate_zero, List.getElem?_cons_zero, List.getElem?_cons_succ, List.set_cons_zero, List.set_cons_succ, Nat.reduceSub, Nat.reduceAdd, Nat.sub_self, Nat.zero_add, Option.some.injEq, DL.DV.dat.injEq, PyData.bool.injEq, PyData.int.injEq, PyData.str.injEq, PyData.tuple.injEq, PyData.list.injEq, DL.DV.ob.injEq, V.ty.injEq, DL.DV.own.injEq, DL.OC.lst.injEq, List.cons.injEq, Option.map_some, exists_eq_left', exists_eq_left, exists_eq_right, exists_eq_right', exists_and_left, and_true, true_and, Bool.not_true, Bool.not_false, Bool.and_true, Bool.true_and, true_or, Bool.not_eq_true', Bool.false_eq_true, if_true, if_false, reduceIte, reduceCtorEq])
  refine ⟨d, rfl, ?_⟩
  (try simp only [DL.iteB_true, DL.iteB_false, DL.sSeq, DL.sNext, DL.sRet, DL.sRetN, DL.sIf, DL.sAsg, DL.sNew, DL.sDrop, DL.sRel, DL.sApp, DL.sFor, DL.sBreak, DL.sCont, DL.sAsgT, DL.sPar, DL.sPar3, DL.sPar3DFD, DL.sParFD, DL.sParDF, DL.sExt, DL.sPut, DL.sAug, DL.sCut, DL.sRaise, DL.sWhile, DL.fVar, DL.fC, DL.fOb, DL.fGts, DL.f2, DL.f1, DL.fCall, DL.fB, DL.fTru, DL.fAnd, DL.fOr, DL.fNot, DL.fIf, DL.tAndD, DL.tOrD, DL.tNotD, DL.fNil, DL.fCons, DL.fTup, DL.fLst, DL.fDnew, DL.fNew, DL.fIt, DL.fRng1, DL.fRng2, DL.fLc, DL.fAG, DL.fFn, DL.fFnX, DL.fFnK, DL.fSl, DL.fNone, DL.fPart, DL.fList, DL.fM0, DL.fM1, DL.tYesD, DL.gdN, DL.gdT_t, DL.gdNil_n, DL.gdCons_c, DL.op2, DL.op1, DL.opC, DL.c1, DL.isiP, DL.typeO, DL.tyIs, DL.inG, DL.isND, DL.rel, DL.wipeD, DL.le_s0, DL.le_s1, DL.le_s2, DL.le_s3, DL.le_s4, DL.le_s5, DL.le_s6, DL.le_s7, DL.le_s8, DL.le_s9, DL.le_s10, DL.le_s11, DL.le_s12, DL.le_s13, DL.le_s14, DL.le_s15, DL.le_s16, DL.le_s17, DL.le_s18, DL.le_s19, DL.le_s20, DL.le_s21, DL.le_s22, DL.le_s23, DL.le_s24, DL.le_s25, DL.le_s26, DL.le_s27, DL.le_s28, DL.le_s29, DL.le_s30, DL.le_s31, DL.le_s32, DL.le_s33, DL.le_s34, DL.le_s35, DL.le_s36, DL.le_s37, DL.le_s38, DL.le_s39, DL.le_s40, DL.le_s41, DL.le_s42, DL.le_s43, DL.le_s44, DL.le_s45, DL.le_s46, DL.le_s47, DL.le_s48, DL.le_s49, DL.le_s50, DL.le_s51, DL.le_s52, DL.le_s53, DL.le_s54, DL.le_s55, DL.le_s56, DL.le_s57, DL.le_s58, DL.le_s59, DL.le_s60, DL.le_s61, DL.le_s62, DL.le_s63, DL.le_s64, DL.start0, DL.asDat, DL.lend, DL.noOwn, DL.DV.isOwn, DL.pd_dat, DL.pd_own, DL.ocpd_lst, DL.ocpd_dk, DL.itemsOf, List.map_cons, List.map_nil, List.append_nil, List.cons_append, List.nil_append, List.length_cons, List.length_nil, List.replicate_succ, List.replicate_zero, List.getElem?_cons_zero, List.getElem?_cons_succ, List.set_cons_zero, List.set_cons_succ, Nat.reduceSub, Nat.reduceAdd, Nat.sub_self, Nat.zero_add, Option.some.injEq, DL.DV.dat.injEq, PyData.bool.injEq, PyData.int.injEq, PyData.str.injEq, PyData.tuple.injEq, PyData.list.injEq, DL.DV.ob.injEq, V.ty.injEq, DL.DV.own.injEq, DL.OC.lst.injEq, List.cons.injEq, Option.map_some, exists_eq_left', exists_eq_left, exists_eq_right, exists_eq_right', exists_and_left, and_true, true_and, Bool.not_true, Bool.not_false, Bool.and_true, Bool.true_and, true_or, Bool.not_eq_true', Bool.false_eq_true, if_true, if_false, reduceIte, reduceCtorEq])
  cases hm : machB d with
  | true => exact h1 hm
  | false => exact h2 hm
/-- pile_step -/
def F_pstep : FnD := fun ds K KE => ∃ m s, ds = [.dat m, .dat s] ∧ (machB m = false → KE "BadMachine" m) ∧ (∀ xs, m = .tuple xs → machB m = true → partsS s ∧ (standB xs.length s = false → KE "BadStanding" s) ∧ (standB xs.length s = true → ∀ n l r, s = .tuple [.int n, .str l, .str r] → roomy l r ∧ K (nextD xs n l r)))
theorem stand_is {k : Int} {s : PyData} (h : standB k s = true) : ∃ (n : Int) (l r : Str), s = .tuple [.int n, .str l, .str r] ∧ 0 ≤ n ∧ n ≤ k ∧ isW l = true ∧ isW r = true := by
  match s, h with
  | .tuple [a, b, c], h =>
    have h : (wholeD a && (atMost k a && (wordB b && wordB c))) = true := h
    rw [Bool.and_eq_true, Bool.and_eq_true, Bool.and_eq_true] at h
    obtain ⟨h1, h2, h3, h4⟩ := h
    cases a with
    | int i =>
      cases b with
      | str l =>
        cases c with
        | str r => exact ⟨i, l, r, rfl, of_decide_eq_true h1, of_decide_eq_true h2, h3, h4⟩
        | _ => cases h4
      | _ => cases h3
    | _ => cases h1
end
end PC


set_option Elab.async false
set_option linter.all false
set_option maxRecDepth 100000
set_option maxHeartbeats 1000000
/-! Pile machines: the law's own looks. -/
namespace PD
open PySem PySem.Spec PyProof.Rows L2 KT KG KM KX KY KE0 KQ LK GxR DL KA DW PA PB PC QF WT
structure TbL (mg : Str → Option Value) : Prop where
  int : mg "int" = none
  bool : mg "bool" = none
  str : mg "str" = none
  tuple : mg "tuple" = none
  list : mg "list" = none
  isinstance : mg "isinstance" = none
  len : mg "len" = none
  range : mg "range" = none
  repr : mg "repr" = none
abbrev N__law_is_integer : List Str := ["_law_thing"]
abbrev P__law_is_integer : List Str := ["_law_thing"]
theorem sc__law_is_integer : FnScope N__law_is_integer P__law_is_integer (defScope s__law_is_integer) := ⟨rfl, rfl, rfl, by decide +kernel, rfl, by decide +kernel, by decide +kernel⟩
abbrev N__law_is_number : List Str := ["_law_thing"]
abbrev P__law_is_number : List Str := ["_law_thing"]
theorem sc__law_is_number : FnScope N__law_is_number P__law_is_number (defScope s__law_is_number) := ⟨rfl, rfl, rfl, by decide +kernel, rfl, by decide +kernel, by decide +kernel⟩
abbrev N__law_is_machine : List Str := ["_law_thing", "_law_state", "_law_rule"]
abbrev P__law_is_machine : List Str := ["_law_thing"]
theorem sc__law_is_machine : FnScope N__law_is_machine P__law_is_machine (defScope s__law_is_machine) := ⟨rfl, rfl, rfl, by decide +kernel, rfl, by decide +kernel, by decide +kernel⟩
section
variable {P : Program} {w : World} {K : PySem.W.Frag} {mg : Str → Option Value} {base : Heap} {Tl : List Addr}
def F_isInt : FnD := fun ds K _ => ∃ d, ds = [.dat d] ∧ K (.bool (isIntD d))
theorem ok_isInt {fd : FuncData} (T : TbL mg) (D : Df K mg "_law_is_integer" s__law_is_integer P__law_is_integer fd) : FnOk P w K mg base CX0 1 (He.fAd K ("_law_is_integer", none)) fd P__law_is_integer (spD (WP K Tl) F_isInt) := by
  refine okD D.F sc__law_is_integer (fun ds Kk KE h => by obtain ⟨d, rfl, _⟩ := h; rfl) (fun W cdv A outer s E hW hcd hr => ⟨_, (dss_one (ds_ret (de_and (de_cb (pe_callB call_isi (by rfl) T.isinstance (by decide +kernel) (da_cons (dv 0) (da_cons (de_ob (pe_bltn (v := .ty "int") (by rfl) T.int (by decide +kernel) rfl)) da_nil))) (sn_isi kb_int)) (pe_one (de_not (de_cb (pe_callB call_isi (by rfl) T.isinstance (by decide +kernel) (da_cons (dv 0) (da_cons (de_ob (pe_bltn (v := .ty "bool") (by rfl) T.bool (by decide +kernel) rfl)) da_nil))) (sn_isi kb_bool))))))), fun ds Kk KE h => ?_⟩)
  obtain ⟨d, rfl, h⟩ := h
  (try simp only [DL.iteB_true, DL.iteB_false, DL.sSeq, DL.sNext, DL.sRet, DL.sRetN, DL.sIf, DL.sAsg, DL.sNew, DL.sDrop, DL.sRel, DL.sApp, DL.sFor, DL.sBreak, DL.sCont, DL.sAsgT, DL.sPar, DL.sPar3, DL.sPar3DFD, DL.sParFD, DL.sParDF, DL.sExt, DL.sPut, DL.sAug, DL.sCut, DL.sRaise, DL.sWhile, DL.fVar, DL.fC, DL.fOb, DL.fGts, DL.f2, DL.f1, DL.fCall, DL.fB, DL.fTru, DL.fAnd, DL.fOr, DL.fNot, DL.fIf, DL.tAndD, DL.tOrD, DL.tNotD, DL.fNil, DL.fCons, DL.fTup, DL.fLst, DL.fDnew, DL.fNew, DL.fIt, DL.fRng1, DL.fRng2, DL.fLc, DL.fAG, DL.fFn, DL.fFnX, DL.fFnK, DL.fSl, DL.fNone, DL.fPart, DL.fList, DL.fM0, DL.fM1, DL.tYesD, DL.gdN, DL.gdT_t, DL.gdNil_n, DL.gdCons_c, DL.op2, DL.op1, DL.opC, DL.c1, DL.isiP, DL.typeO, DL.tyIs, DL.inG, DL.isND, DL.rel, DL.wipeD, DL.le_s0, DL.le_s1, DL.le_s2, DL.le_s3, DL.le_s4, DL.le_s5, DL.le_s6, DL.le_s7, DL.le_s8, DL.le_s9, DL.le_s10, DL.le_s11, DL.le_s12, DL.le_s13, DL.le_s14, DL.le_s15, DL.le_s16, DL.le_s17, DL.le_s18, DL.le_s19, DL.le_s20, DL.le_s21, DL.le_s22, DL.le_s23, DL.le_s24, DL.le_s25, DL.le_s26, DL.le_s27, DL.le_s28, DL.le_s29, DL.le_s30, DL.le_s31, DL.le_s32, DL.le_s33, DL.le_s34, DL.le_s35, DL.le_s36, DL.le_s37, DL.le_s38, DL.le_s39, DL.le_s40, DL.le_s41, DL.le_s42, DL.le_s43, DL.le_s44, DL.le_s45, DL.le_s46, DL.le_s47, DL.le_s48, DL.le_s49, DL.le_s50, DL.le_s51, DL.le_s52, DL.le_s53, DL.le_s54, DL.le_s55, DL.le_s56, DL.le_s57, DL.le_s58, DL.le_s59, DL.le_s60, DL.le_s61, DL.le_s62, DL.le_s63, DL.le_s64, DL.start0, DL.asDat, DL.lend, DL.noOwn, DL.DV.isOwn, DL.pd_dat, DL.pd_own, DL.ocpd_lst, DL.ocpd_dk, DL.itemsOf, List.map_cons, List.map_nil, List.append_nil, List.cons_append, List.nil_append, List.length_cons, List.length_nil, List.replicate_succ, List.replicate_zero, List.getElem?_cons_zero, List.getElem?_cons_succ, List.set_cons_zero, List.set_cons_succ, Nat.reduceSub, Nat.reduceAdd, Nat.sub_self, Nat.zero_add, Option.some.injEq, DL.DV.dat.injEq, PyData.bool.injEq, PyData.int.injEq, PyData.str.injEq, PyData.tuple.injEq, PyData.list.injEq, DL.DV.ob.injEq, V.ty.injEq, DL.DV.own.injEq, DL.OC.lst.injEq, List.cons.injEq, Option.map_some, exists_eq_left', exists_eq_left, exists_eq_right, exists_eq_right', exists_and_left, and_true, true_and, Bool.not_true, Bool.not_false, Bool.and_true, Bool.true_and, true_or, Bool.not_eq_true', Bool.false_eq_true, if_true, if_false, reduceIte, reduceCtorEq])
  cases d <;> simpa [isIntB, isBoolD, isIntD] using h
theorem ok_isNum {fd fdI : FuncData} (T : TbL mg) (D : Df K mg "_law_is_number" s__law_is_number P__law_is_number fd) (D__law_is_integer : Df K mg "_law_is_integer" s__law_is_integer P__law_is_integer fdI) (G__law_is_integer : FnOk P w K mg base CX0 1 (He.fAd K ("_law_is_integer", none)) fdI P__law_is_integer (spD (WP K Tl) F_isInt)) :
    FnOk P w K mg base CX0 2 (He.fAd K ("_law_is_number", none)) fd P__law_is_number (spD (WP K Tl) F_whole) := by
  refine okD D.F sc__law_is_number (fun ds Kk KE h => by obtain ⟨d, rfl, _⟩ := h; rfl) (fun W cdv A outer s E hW hcd hr => ⟨_, (dss_one (ds_ret (de_and (de_call (pe_call G__law_is_integer (hr.mono (by first | decide | omega)) (by rfl) D__law_is_integer.g D__law_is_integer.F.kp D__law_is_integer.b .nil pass0 (da_cons (dv 0) da_nil)) hW) (pe_one (de_cmp op_ge sn_cmp (dv 0) de_int))))), fun ds Kk KE h => ?_⟩)
  obtain ⟨d, rfl, h⟩ := h
  (try simp only [DL.iteB_true, DL.iteB_false, DL.sSeq, DL.sNext, DL.sRet, DL.sRetN, DL.sIf, DL.sAsg, DL.sNew, DL.sDrop, DL.sRel, DL.sApp, DL.sFor, DL.sBreak, DL.sCont, DL.sAsgT, DL.sPar, DL.sPar3, DL.sPar3DFD, DL.sParFD, DL.sParDF, DL.sExt, DL.sPut, DL.sAug, DL.sCut, DL.sRaise, DL.sWhile, DL.fVar, DL.fC, DL.fOb, DL.fGts, DL.f2, DL.f1, DL.fCall, DL.fB, DL.fTru, DL.fAnd, DL.fOr, DL.fNot, DL.fIf, DL.tAndD, DL.tOrD, DL.tNotD, DL.fNil, DL.fCons, DL.fTup, DL.fLst, DL.fDnew, DL.fNew, DL.fIt, DL.fRng1, DL.fRng2, DL.fLc, DL.fAG, DL.fFn, DL.fFnX, DL.fFnK, DL.fSl, DL.fNone, DL.fPart, DL.fList, DL.fM0, DL.fM1, DL.tYesD, DL.gdN, DL.gdT_t, DL.gdNil_n, DL.gdCons_c, DL.op2, DL.op1, DL.opC, DL.c1, DL.isiP, DL.typeO, DL.tyIs, DL.inG, DL.isND, DL.rel, DL.wipeD, DL.le_s0, DL.le_s1, DL.le_s2, DL.le_s3, DL.le_s4, DL.le_s5, DL.le_s6, DL.le_s7, DL.le_s8, DL.le_s9, DL.le_s10, DL.le_s11, DL.le_s12, DL.le_s13, DL.le_s14, DL.le_s15, DL.le_s16, DL.le_s17, DL.le_s18, DL.le_s19, DL.le_s20, DL.le_s21, DL.le_s22, DL.le_s23, DL.le_s24, DL.le_s25, DL.le_s26, DL.le_s27, DL.le_s28, DL.le_s29, DL.le_s30, DL.le_s31, DL.le_s32, DL.le_s33, DL.le_s34, DL.le_s35, DL.le_s36, DL.le_s37, DL.le_s38, DL.le_s39, DL.le_s40, DL.le_s41, DL.le_s42, DL.le_s43, DL.le_s44, DL.le_s45, DL.le_s46, DL.le_s47, DL.le_s48, DL.le_s49, DL.le_s50, DL.le_s51, DL.le_s52, DL.le_s53, DL.le_s54, DL.le_s55, DL.le_s56, DL.le_s57, DL.le_s58, DL.le_s59, DL.le_s60, DL.le_s61, DL.le_s62, DL.le_s63, DL.le_s64, DL.start0, DL.asDat, DL.lend, DL.noOwn, DL.DV.isOwn, DL.pd_dat, DL.pd_own, DL.ocpd_lst, DL.ocpd_dk, DL.itemsOf, List.map_cons, List.map_nil, List.append_nil, List.cons_append, List.nil_append, List.length_cons, List.length_nil, List.replicate_succ, List.replicate_zero, List.getElem?_cons_zero, List.getElem?_cons_succ, List.set_cons_zero, List.set_cons_succ, Nat.reduceSub, Nat.reduceAdd, Nat.sub_self, Nat.zero_add, Option.some.injEq, DL.DV.dat.injEq, PyData.bool.injEq, PyData.int.injEq, PyData.str.injEq, PyData.tuple.injEq, PyData.list.injEq, DL.DV.ob.injEq, V.ty.injEq, DL.DV.own.injEq, DL.OC.lst.injEq, List.cons.injEq, Option.map_some, exists_eq_left', exists_eq_left, exists_eq_right, exists_eq_right', exists_and_left, and_true, true_and, Bool.not_true, Bool.not_false, Bool.and_true, Bool.true_and, true_or, Bool.not_eq_true', Bool.false_eq_true, if_true, if_false, reduceIte, reduceCtorEq])
  refine ⟨d, rfl, ?_⟩
  (try simp only [DL.iteB_true, DL.iteB_false, DL.sSeq, DL.sNext, DL.sRet, DL.sRetN, DL.sIf, DL.sAsg, DL.sNew, DL.sDrop, DL.sRel, DL.sApp, DL.sFor, DL.sBreak, DL.sCont, DL.sAsgT, DL.sPar, DL.sPar3, DL.sPar3DFD, DL.sParFD, DL.sParDF, DL.sExt, DL.sPut, DL.sAug, DL.sCut, DL.sRaise, DL.sWhile, DL.fVar, DL.fC, DL.fOb, DL.fGts, DL.f2, DL.f1, DL.fCall, DL.fB, DL.fTru, DL.fAnd, DL.fOr, DL.fNot, DL.fIf, DL.tAndD, DL.tOrD, DL.tNotD, DL.fNil, DL.fCons, DL.fTup, DL.fLst, DL.fDnew, DL.fNew, DL.fIt, DL.fRng1, DL.fRng2, DL.fLc, DL.fAG, DL.fFn, DL.fFnX, DL.fFnK, DL.fSl, DL.fNone, DL.fPart, DL.fList, DL.fM0, DL.fM1, DL.tYesD, DL.gdN, DL.gdT_t, DL.gdNil_n, DL.gdCons_c, DL.op2, DL.op1, DL.opC, DL.c1, DL.isiP, DL.typeO, DL.tyIs, DL.inG, DL.isND, DL.rel, DL.wipeD, DL.le_s0, DL.le_s1, DL.le_s2, DL.le_s3, DL.le_s4, DL.le_s5, DL.le_s6, DL.le_s7, DL.le_s8, DL.le_s9, DL.le_s10, DL.le_s11, DL.le_s12, DL.le_s13, DL.le_s14, DL.le_s15, DL.le_s16, DL.le_s17, DL.le_s18, DL.le_s19, DL.le_s20, DL.le_s21, DL.le_s22, DL.le_s23, DL.le_s24, DL.le_s25, DL.le_s26, DL.le_s27, DL.le_s28, DL.le_s29, DL.le_s30, DL.le_s31, DL.le_s32, DL.le_s33, DL.le_s34, DL.le_s35, DL.le_s36, DL.le_s37, DL.le_s38, DL.le_s39, DL.le_s40, DL.le_s41, DL.le_s42, DL.le_s43, DL.le_s44, DL.le_s45, DL.le_s46, DL.le_s47, DL.le_s48, DL.le_s49, DL.le_s50, DL.le_s51, DL.le_s52, DL.le_s53, DL.le_s54, DL.le_s55, DL.le_s56, DL.le_s57, DL.le_s58, DL.le_s59, DL.le_s60, DL.le_s61, DL.le_s62, DL.le_s63, DL.le_s64, DL.start0, DL.asDat, DL.lend, DL.noOwn, DL.DV.isOwn, DL.pd_dat, DL.pd_own, DL.ocpd_lst, DL.ocpd_dk, DL.itemsOf, List.map_cons, List.map_nil, List.append_nil, List.cons_append, List.nil_append, List.length_cons, List.length_nil, List.replicate_succ, List.replicate_zero, List.getElem?_cons_zero, List.getElem?_cons_succ, List.set_cons_zero, List.set_cons_succ, Nat.reduceSub, Nat.reduceAdd, Nat.sub_self, Nat.zero_add, Option.some.injEq, DL.DV.dat.injEq, PyData.bool.injEq, PyData.int.injEq, PyData.str.injEq, PyData.tuple.injEq, PyData.list.injEq, DL.DV.ob.injEq, V.ty.injEq, DL.DV.own.injEq, DL.OC.lst.injEq, List.cons.injEq, Option.map_some, exists_eq_left', exists_eq_left, exists_eq_right, exists_eq_right', exists_and_left, and_true, true_and, Bool.not_true, Bool.not_false, Bool.and_true, Bool.true_and, true_or, Bool.not_eq_true', Bool.false_eq_true, if_true, if_false, reduceIte, reduceCtorEq])
  cases d <;> simpa [isIntD, wholeD, int0P] using h
/-- a rule, by the law's look -/
theorem isLT_t (xs ys : List PyData) : isLT (.tuple xs) (.tuple ys) = true := rfl
theorem deed_any (z : Str) : (isDeed (.str z)) = deedL.any fun y => z == y := rfl
theorem ok_isMach {fd fdN : FuncData} (T : TbL mg) (D : Df K mg "_law_is_machine" s__law_is_machine P__law_is_machine fd) (D__law_is_number : Df K mg "_law_is_number" s__law_is_number P__law_is_number fdN) (G__law_is_number : FnOk P w K mg base CX0 2 (He.fAd K ("_law_is_number", none)) fdN P__law_is_number (spD (WP K Tl) F_whole)) :
    FnOk P w K mg base CX0 5 (He.fAd K ("_law_is_machine", none)) fd P__law_is_machine (spD (WP K Tl) F_mach) := by
  refine okD D.F sc__law_is_machine (fun ds Kk KE h => by obtain ⟨d, rfl, _⟩ := h; rfl) (fun W cdv A outer s E hW hcd hr => ?_)
  have hK : W.K = K := hW.k
  refine ⟨_, (dss_cons (ds_if (PW.pt (dw_or (dt_not (dt_val (de_cb (pe_callB call_isi (by rfl) T.isinstance (by decide +kernel) (da_cons (dv 0) (da_cons (de_ob (pe_bltn (v := .ty "tuple") (by rfl) T.tuple (by decide +kernel) rfl)) da_nil))) (sn_isi kb_tup)))) (dw_or1 (dt_cmp (op_eqX hr W.vol) sn_eq (dv 0) (de_tup da_nil))))) (dss_one (ds_ret de_bl)) dss_nil)
      (dss_cons (ds_for PassesOwn.never rfl (di_seq (st := true) (dv 0) hK) (pg_name (i := 1) sc__law_is_machine.nd rfl (.inl rfl)) (sg_name (i := 1) trivial) (dss_cons (ds_if (PW.pt (dw_or (dt_not (dt_val (de_cb (pe_callB call_isi (by rfl) T.isinstance (by decide +kernel) (da_cons (dv 1) (da_cons (de_ob (pe_bltn (v := .ty "tuple") (by rfl) T.tuple (by decide +kernel) rfl)) da_nil))) (sn_isi kb_tup)))) (dw_or1 (dt_cmp (op_neX hr W.vol) sn_ne (de_cb (pe_callB call_len (by rfl) T.len (by decide +kernel) (da_cons (dv 1) da_nil)) sn_len) de_int)))) (dss_one (ds_ret de_bl)) dss_nil)
          (dss_one (ds_for PassesOwn.never rfl (di_seq (st := true) (dv 1) hK) (pg_name (i := 2) sc__law_is_machine.nd rfl (.inl rfl)) (sg_name (i := 2) trivial) (dss_cons (ds_if (PW.pt (dw_or (dt_not (dt_val (de_cb (pe_callB call_isi (by rfl) T.isinstance (by decide +kernel) (da_cons (dv 2) (da_cons (de_ob (pe_bltn (v := .ty "tuple") (by rfl) T.tuple (by decide +kernel) rfl)) da_nil))) (sn_isi kb_tup)))) (dw_or1 (dt_cmp (op_neX hr W.vol) sn_ne (de_cb (pe_callB call_len (by rfl) T.len (by decide +kernel) (da_cons (dv 2) da_nil)) sn_len) de_int)))) (dss_one (ds_ret de_bl)) dss_nil)
              (dss_cons (ds_if (PW.pt (dw_or (dt_not (dt_val (de_call (pe_call G__law_is_number (hr.mono (by first | decide | omega)) (by rfl) D__law_is_number.g D__law_is_number.F.kp D__law_is_number.b .nil pass0 (da_cons (de_ix ix_all sn_ix (dv 2) de_int (fun _ _ => rfl)) da_nil)) hW))) (dw_or1 (dt_cmp op_gt sn_cmp (de_ix ix_all sn_ix (dv 2) de_int (fun _ _ => rfl)) (de_cb (pe_callB call_len (by rfl) T.len (by decide +kernel) (da_cons (dv 0) da_nil)) sn_len))))) (dss_one (ds_ret de_bl)) dss_nil)
              (dss_one (ds_if (PW.pt (dw_or (dt_not (dt_val (de_cb (pe_callB call_isi (by rfl) T.isinstance (by decide +kernel) (da_cons (de_ix ix_all sn_ix (dv 2) de_int (fun _ _ => rfl)) (da_cons (de_ob (pe_bltn (v := .ty "str") (by rfl) T.str (by decide +kernel) rfl)) da_nil))) (sn_isi kb_str)))) (dw_or1 (dt_cmp op_notIn_seq sn_notIn (de_ix ix_all sn_ix (dv 2) de_int (fun _ _ => rfl)) (de_tup (da_cons de_str (da_cons de_str (da_cons de_str (da_cons de_str (da_cons de_str (da_cons de_str da_nil))))))) (by rfl))))) (dss_one (ds_ret de_bl)) dss_nil))))))))
      (dss_one (ds_ret de_bl)))), fun ds Kk KE h => ?_⟩
  obtain ⟨d, rfl, h⟩ := h
  (try simp only [DL.iteB_true, DL.iteB_false, DL.sSeq, DL.sNext, DL.sRet, DL.sRetN, DL.sIf, DL.sAsg, DL.sNew, DL.sDrop, DL.sRel, DL.sApp, DL.sFor, DL.sBreak, DL.sCont, DL.sAsgT, DL.sPar, DL.sPar3, DL.sPar3DFD, DL.sParFD, DL.sParDF, DL.sExt, DL.sPut, DL.sAug, DL.sCut, DL.sRaise, DL.sWhile, DL.fVar, DL.fC, DL.fOb, DL.fGts, DL.f2, DL.f1, DL.fCall, DL.fB, DL.fTru, DL.fAnd, DL.fOr, DL.fNot, DL.fIf, DL.tAndD, DL.tOrD, DL.tNotD, DL.fNil, DL.fCons, DL.fTup, DL.fLst, DL.fDnew, DL.fNew, DL.fIt, DL.fRng1, DL.fRng2, DL.fLc, DL.fAG, DL.fFn, DL.fFnX, DL.fFnK, DL.fSl, DL.fNone, DL.fPart, DL.fList, DL.fM0, DL.fM1, DL.tYesD, DL.gdN, DL.gdT_t, DL.gdNil_n, DL.gdCons_c, DL.op2, DL.op1, DL.opC, DL.c1, DL.isiP, DL.typeO, DL.tyIs, DL.inG, DL.isND, DL.rel, DL.wipeD, DL.le_s0, DL.le_s1, DL.le_s2, DL.le_s3, DL.le_s4, DL.le_s5, DL.le_s6, DL.le_s7, DL.le_s8, DL.le_s9, DL.le_s10, DL.le_s11, DL.le_s12, DL.le_s13, DL.le_s14, DL.le_s15, DL.le_s16, DL.le_s17, DL.le_s18, DL.le_s19, DL.le_s20, DL.le_s21, DL.le_s22, DL.le_s23, DL.le_s24, DL.le_s25, DL.le_s26, DL.le_s27, DL.le_s28, DL.le_s29, DL.le_s30, DL.le_s31, DL.le_s32, DL.le_s33, DL.le_s34, DL.le_s35, DL.le_s36, DL.le_s37, DL.le_s38, DL.le_s39, DL.le_s40, DL.le_s41, DL.le_s42, DL.le_s43, DL.le_s44, DL.le_s45, DL.le_s46, DL.le_s47, DL.le_s48, DL.le_s49, DL.le_s50, DL.le_s51, DL.le_s52, DL.le_s53, DL.le_s54, DL.le_s55, DL.le_s56, DL.le_s57, DL.le_s58, DL.le_s59, DL.le_s60, DL.le_s61, DL.le_s62, DL.le_s63, DL.le_s64, DL.start0, DL.asDat, DL.lend, DL.noOwn, DL.DV.isOwn, DL.pd_dat, DL.pd_own, DL.ocpd_lst, DL.ocpd_dk, DL.itemsOf, List.map_cons, List.map_nil, List.append_nil, List.cons_append, List.nil_append, List.length_cons, List.length_nil, List.replicate_succ, List.replicate_zero, List.getElem?_cons_zero, List.getElem?_cons_succ, List.set_cons_zero, List.set_cons_succ, Nat.reduceSub, Nat.reduceAdd, Nat.sub_self, Nat.zero_add, Option.some.injEq, DL.DV.dat.injEq, PyData.bool.injEq, PyData.int.injEq, PyData.str.injEq, PyData.tuple.injEq, PyData.list.injEq, DL.DV.ob.injEq, V.ty.injEq, DL.DV.own.injEq, DL.OC.lst.injEq, List.cons.injEq, Option.map_some, exists_eq_left', exists_eq_left, exists_eq_right, exists_eq_right', exists_and_left, and_true, true_and, Bool.not_true, Bool.not_false, Bool.and_true, Bool.true_and, true_or, Bool.not_eq_true', Bool.false_eq_true, if_true, if_false, reduceIte, reduceCtorEq])
  cases d with
  | tuple xs =>
    (try simp only [DL.negP_i, DL.le_s0, DL.le_s1, DL.le_s2, DL.le_s3, DL.le_s4, DL.le_s5, DL.le_s6, DL.le_s7, DL.le_s8, DL.le_s9, DL.le_s10, DL.le_s11, DL.le_s12, DL.le_s13, DL.le_s14, DL.le_s15, DL.le_s16, DL.le_s17, DL.le_s18, DL.le_s19, DL.le_s20, DL.le_s21, DL.le_s22, DL.le_s23, DL.le_s24, DL.le_s25, DL.le_s26, DL.le_s27, DL.le_s28, DL.le_s29, DL.le_s30, DL.le_s31, DL.le_s32, DL.le_s33, DL.le_s34, DL.le_s35, DL.le_s36, DL.le_s37, DL.le_s38, DL.le_s39, DL.le_s40, DL.le_s41, DL.le_s42, DL.le_s43, DL.le_s44, DL.le_s45, DL.le_s46, DL.le_s47, DL.le_s48, DL.le_s49, DL.le_s50, DL.le_s51, DL.le_s52, DL.le_s53, DL.le_s54, DL.le_s55, DL.le_s56, DL.le_s57, DL.le_s58, DL.le_s59, DL.le_s60, DL.le_s61, DL.le_s62, DL.le_s63, DL.le_s64, DL.iteB_true, DL.iteB_false, DL.lenP_t, DL.lenP_l, DL.lenP_s, DL.eqP, DL.eqOk_int, DL.eqOk_str, DL.eqOk_emp, DL.eqOk_empL, DL.eqv_emp1, DL.eqv_empL1, DL.eqv_ii, DL.eqv_ss, DL.ixP_t, DL.ixP_l, DL.ixP_s, DL.slP_t, DL.slP_l, DL.slP_s, DL.intcP_i, DL.intcP_b, DL.intcP_s, DL.tupcP_l, DL.tupcP_t, DL.atI_z, DL.atI_o, DL.atI_t, DL.int0P_ii, DL.intP_ii, DL.addP_ii, DL.addP_ss, DL.addP_tt, DL.addP_ll, DL.isTup_t, DL.reprP, Bool.false_eq_true, if_true, if_false, reduceIte, Option.some.injEq, PyData.bool.injEq, exists_eq_left', exists_eq_left, exists_eq_right, exists_eq_right', true_and, and_true, Bool.true_eq_false, Bool.not_true, Bool.not_false, false_and, and_false, exists_and_left, reduceCtorEq, DL.DV.gts.injEq, exists_const])
    cases hx : xs.isEmpty with
    | true =>
      have : xs = [] := by simpa using hx
      subst this
      exact h
    | false =>
      have hpos : 0 < xs.length := by
        cases xs with
        | nil => cases hx
        | cons _ _ => simp
      have e : machB (.tuple xs) = xs.all (stateB xs.length) := by
        show (decide (0 < xs.length) && _) = _
        rw [decide_eq_true hpos, Bool.true_and]
      rw [e] at h
      simp only [iteB_true, iteB_false]
      refine for_chk (p := stateB xs.length) (R := Kk (.bool false)) (fun ρ => ∃ a b, ρ = [some (.dat (.tuple xs)), a, b]) (fun d _ ρ N hi h1 h2 => ?_) ⟨_, _, rfl⟩ (fun ha ρ' hi => ?_) (fun ha => by rw [ha] at h; exact h)
      · obtain ⟨a, b, rfl⟩ := hi
        (try simp only [DL.iteB_true, DL.iteB_false, DL.sSeq, DL.sNext, DL.sRet, DL.sRetN, DL.sIf, DL.sAsg, DL.sNew, DL.sDrop, DL.sRel, DL.sApp, DL.sFor, DL.sBreak, DL.sCont, DL.sAsgT, DL.sPar, DL.sPar3, DL.sPar3DFD, DL.sParFD, DL.sParDF, DL.sExt, DL.sPut, DL.sAug, DL.sCut, DL.sRaise, DL.sWhile, DL.fVar, DL.fC, DL.fOb, DL.fGts, DL.f2, DL.f1, DL.fCall, DL.fB, DL.fTru, DL.fAnd, DL.fOr, DL.fNot, DL.fIf, DL.tAndD, DL.tOrD, DL.tNotD, DL.fNil, DL.fCons, DL.fTup, DL.fLst, DL.fDnew, DL.fNew, DL.fIt, DL.fRng1, DL.fRng2, DL.fLc, DL.fAG, DL.fFn, DL.fFnX, DL.fFnK, DL.fSl, DL.fNone, DL.fPart, DL.fList, DL.fM0, DL.fM1, DL.tYesD, DL.gdN, DL.gdT_t, DL.gdNil_n, DL.gdCons_c, DL.op2, DL.op1, DL.opC, DL.c1, DL.isiP, DL.typeO, DL.tyIs, DL.inG, DL.isND, DL.rel, DL.wipeD, DL.le_s0, DL.le_s1, DL.le_s2, DL.le_s3, DL.le_s4, DL.le_s5, DL.le_s6, DL.le_s7, DL.le_s8, DL.le_s9, DL.le_s10, DL.le_s11, DL.le_s12, DL.le_s13, DL.le_s14, DL.le_s15, DL.le_s16, DL.le_s17, DL.le_s18, DL.le_s19, DL.le_s20, DL.le_s21, DL.le_s22, DL.le_s23, DL.le_s24, DL.le_s25, DL.le_s26, DL.le_s27, DL.le_s28, DL.le_s29, DL.le_s30, DL.le_s31, DL.le_s32, DL.le_s33, DL.le_s34, DL.le_s35, DL.le_s36, DL.le_s37, DL.le_s38, DL.le_s39, DL.le_s40, DL.le_s41, DL.le_s42, DL.le_s43, DL.le_s44, DL.le_s45, DL.le_s46, DL.le_s47, DL.le_s48, DL.le_s49, DL.le_s50, DL.le_s51, DL.le_s52, DL.le_s53, DL.le_s54, DL.le_s55, DL.le_s56, DL.le_s57, DL.le_s58, DL.le_s59, DL.le_s60, DL.le_s61, DL.le_s62, DL.le_s63, DL.le_s64, DL.start0, DL.asDat, DL.lend, DL.noOwn, DL.DV.isOwn, DL.pd_dat, DL.pd_own, DL.ocpd_lst, DL.ocpd_dk, DL.itemsOf, List.map_cons, List.map_nil, List.append_nil, List.cons_append, List.nil_append, List.length_cons, List.length_nil, List.replicate_succ, List.replicate_zero, List.getElem?_cons_zero, List.getElem?_cons_succ, List.set_cons_zero, List.set_cons_succ, Nat.reduceSub, Nat.reduceAdd, Nat.sub_self, Nat.zero_add, Option.some.injEq, DL.DV.dat.injEq, PyData.bool.injEq, PyData.int.injEq, PyData.str.injEq, PyData.tuple.injEq, PyData.list.injEq, DL.DV.ob.injEq, V.ty.injEq, DL.DV.own.injEq, DL.OC.lst.injEq, List.cons.injEq, Option.map_some, exists_eq_left', exists_eq_left, exists_eq_right, exists_eq_right', exists_and_left, and_true, true_and, Bool.not_true, Bool.not_false, Bool.and_true, Bool.true_and, true_or, Bool.not_eq_true', Bool.false_eq_true, if_true, if_false, reduceIte, reduceCtorEq])
        cases d with
        | tuple rs =>
          (try simp only [DL.negP_i, DL.le_s0, DL.le_s1, DL.le_s2, DL.le_s3, DL.le_s4, DL.le_s5, DL.le_s6, DL.le_s7, DL.le_s8, DL.le_s9, DL.le_s10, DL.le_s11, DL.le_s12, DL.le_s13, DL.le_s14, DL.le_s15, DL.le_s16, DL.le_s17, DL.le_s18, DL.le_s19, DL.le_s20, DL.le_s21, DL.le_s22, DL.le_s23, DL.le_s24, DL.le_s25, DL.le_s26, DL.le_s27, DL.le_s28, DL.le_s29, DL.le_s30, DL.le_s31, DL.le_s32, DL.le_s33, DL.le_s34, DL.le_s35, DL.le_s36, DL.le_s37, DL.le_s38, DL.le_s39, DL.le_s40, DL.le_s41, DL.le_s42, DL.le_s43, DL.le_s44, DL.le_s45, DL.le_s46, DL.le_s47, DL.le_s48, DL.le_s49, DL.le_s50, DL.le_s51, DL.le_s52, DL.le_s53, DL.le_s54, DL.le_s55, DL.le_s56, DL.le_s57, DL.le_s58, DL.le_s59, DL.le_s60, DL.le_s61, DL.le_s62, DL.le_s63, DL.le_s64, DL.iteB_true, DL.iteB_false, DL.lenP_t, DL.lenP_l, DL.lenP_s, DL.eqP, DL.eqOk_int, DL.eqOk_str, DL.eqOk_emp, DL.eqOk_empL, DL.eqv_emp1, DL.eqv_empL1, DL.eqv_ii, DL.eqv_ss, DL.ixP_t, DL.ixP_l, DL.ixP_s, DL.slP_t, DL.slP_l, DL.slP_s, DL.intcP_i, DL.intcP_b, DL.intcP_s, DL.tupcP_l, DL.tupcP_t, DL.atI_z, DL.atI_o, DL.atI_t, DL.int0P_ii, DL.intP_ii, DL.addP_ii, DL.addP_ss, DL.addP_tt, DL.addP_ll, DL.isTup_t, DL.reprP, Bool.false_eq_true, if_true, if_false, reduceIte, Option.some.injEq, PyData.bool.injEq, exists_eq_left', exists_eq_left, exists_eq_right, exists_eq_right', true_and, and_true, Bool.true_eq_false, Bool.not_true, Bool.not_false, false_and, and_false, exists_and_left, reduceCtorEq, DL.DV.gts.injEq, exists_const])
          rw [show (((rs.length : Nat) : Int) == 3) = decide (rs.length = 3) from len_beq rs 3]
          have es : stateB xs.length (.tuple rs) = (decide (rs.length = 3) && rs.all (ruleB xs.length)) := rfl
          rw [es] at h1 h2
          cases hl : decide (rs.length = 3) with
          | false =>
            rw [hl, Bool.false_and] at h2
            exact h2 rfl
          | true =>
            rw [hl, Bool.true_and] at h1 h2
            (try simp only [DL.negP_i, DL.le_s0, DL.le_s1, DL.le_s2, DL.le_s3, DL.le_s4, DL.le_s5, DL.le_s6, DL.le_s7, DL.le_s8, DL.le_s9, DL.le_s10, DL.le_s11, DL.le_s12, DL.le_s13, DL.le_s14, DL.le_s15, DL.le_s16, DL.le_s17, DL.le_s18, DL.le_s19, DL.le_s20, DL.le_s21, DL.le_s22, DL.le_s23, DL.le_s24, DL.le_s25, DL.le_s26, DL.le_s27, DL.le_s28, DL.le_s29, DL.le_s30, DL.le_s31, DL.le_s32, DL.le_s33, DL.le_s34, DL.le_s35, DL.le_s36, DL.le_s37, DL.le_s38, DL.le_s39, DL.le_s40, DL.le_s41, DL.le_s42, DL.le_s43, DL.le_s44, DL.le_s45, DL.le_s46, DL.le_s47, DL.le_s48, DL.le_s49, DL.le_s50, DL.le_s51, DL.le_s52, DL.le_s53, DL.le_s54, DL.le_s55, DL.le_s56, DL.le_s57, DL.le_s58, DL.le_s59, DL.le_s60, DL.le_s61, DL.le_s62, DL.le_s63, DL.le_s64, DL.iteB_true, DL.iteB_false, DL.lenP_t, DL.lenP_l, DL.lenP_s, DL.eqP, DL.eqOk_int, DL.eqOk_str, DL.eqOk_emp, DL.eqOk_empL, DL.eqv_emp1, DL.eqv_empL1, DL.eqv_ii, DL.eqv_ss, DL.ixP_t, DL.ixP_l, DL.ixP_s, DL.slP_t, DL.slP_l, DL.slP_s, DL.intcP_i, DL.intcP_b, DL.intcP_s, DL.tupcP_l, DL.tupcP_t, DL.atI_z, DL.atI_o, DL.atI_t, DL.int0P_ii, DL.intP_ii, DL.addP_ii, DL.addP_ss, DL.addP_tt, DL.addP_ll, DL.isTup_t, DL.reprP, Bool.false_eq_true, if_true, if_false, reduceIte, Option.some.injEq, PyData.bool.injEq, exists_eq_left', exists_eq_left, exists_eq_right, exists_eq_right', true_and, and_true, Bool.true_eq_false, Bool.not_true, Bool.not_false, false_and, and_false, exists_and_left, reduceCtorEq, DL.DV.gts.injEq, exists_const])
            refine for_chk (p := ruleB xs.length) (R := Kk (.bool false)) (fun ρ => ∃ b, ρ = [some (.dat (.tuple xs)), some (.dat (.tuple rs)), b]) (fun d _ ρ N hi h3 h4 => ?_) ⟨_, rfl⟩ (fun ha ρ' hi => ?_) (fun ha => h2 ha)
            · obtain ⟨b, rfl⟩ := hi
              (try simp only [DL.iteB_true, DL.iteB_false, DL.sSeq, DL.sNext, DL.sRet, DL.sRetN, DL.sIf, DL.sAsg, DL.sNew, DL.sDrop, DL.sRel, DL.sApp, DL.sFor, DL.sBreak, DL.sCont, DL.sAsgT, DL.sPar, DL.sPar3, DL.sPar3DFD, DL.sParFD, DL.sParDF, DL.sExt, DL.sPut, DL.sAug, DL.sCut, DL.sRaise, DL.sWhile, DL.fVar, DL.fC, DL.fOb, DL.fGts, DL.f2, DL.f1, DL.fCall, DL.fB, DL.fTru, DL.fAnd, DL.fOr, DL.fNot, DL.fIf, DL.tAndD, DL.tOrD, DL.tNotD, DL.fNil, DL.fCons, DL.fTup, DL.fLst, DL.fDnew, DL.fNew, DL.fIt, DL.fRng1, DL.fRng2, DL.fLc, DL.fAG, DL.fFn, DL.fFnX, DL.fFnK, DL.fSl, DL.fNone, DL.fPart, DL.fList, DL.fM0, DL.fM1, DL.tYesD, DL.gdN, DL.gdT_t, DL.gdNil_n, DL.gdCons_c, DL.op2, DL.op1, DL.opC, DL.c1, DL.isiP, DL.typeO, DL.tyIs, DL.inG, DL.isND, DL.rel, DL.wipeD, DL.le_s0, DL.le_s1, DL.le_s2, DL.le_s3, DL.le_s4, DL.le_s5, DL.le_s6, DL.le_s7, DL.le_s8, DL.le_s9, DL.le_s10, DL.le_s11, DL.le_s12, DL.le_s13, DL.le_s14, DL.le_s15, DL.le_s16, DL.le_s17, DL.le_s18, DL.le_s19, DL.le_s20, DL.le_s21, DL.le_s22, DL.le_s23, DL.le_s24, DL.le_s25, DL.le_s26, DL.le_s27, DL.le_s28, DL.le_s29, DL.le_s30, DL.le_s31, DL.le_s32, DL.le_s33, DL.le_s34, DL.le_s35, DL.le_s36, DL.le_s37, DL.le_s38, DL.le_s39, DL.le_s40, DL.le_s41, DL.le_s42, DL.le_s43, DL.le_s44, DL.le_s45, DL.le_s46, DL.le_s47, DL.le_s48, DL.le_s49, DL.le_s50, DL.le_s51, DL.le_s52, DL.le_s53, DL.le_s54, DL.le_s55, DL.le_s56, DL.le_s57, DL.le_s58, DL.le_s59, DL.le_s60, DL.le_s61, DL.le_s62, DL.le_s63, DL.le_s64, DL.start0, DL.asDat, DL.lend, DL.noOwn, DL.DV.isOwn, DL.pd_dat, DL.pd_own, DL.ocpd_lst, DL.ocpd_dk, DL.itemsOf, List.map_cons, List.map_nil, List.append_nil, List.cons_append, List.nil_append, List.length_cons, List.length_nil, List.replicate_succ, List.replicate_zero, List.getElem?_cons_zero, List.getElem?_cons_succ, List.set_cons_zero, List.set_cons_succ, Nat.reduceSub, Nat.reduceAdd, Nat.sub_self, Nat.zero_add, Option.some.injEq, DL.DV.dat.injEq, PyData.bool.injEq, PyData.int.injEq, PyData.str.injEq, PyData.tuple.injEq, PyData.list.injEq, DL.DV.ob.injEq, V.ty.injEq, DL.DV.own.injEq, DL.OC.lst.injEq, List.cons.injEq, Option.map_some, exists_eq_left', exists_eq_left, exists_eq_right, exists_eq_right', exists_and_left, and_true, true_and, Bool.not_true, Bool.not_false, Bool.and_true, Bool.true_and, true_or, Bool.not_eq_true', Bool.false_eq_true, if_true, if_false, reduceIte, reduceCtorEq])
              cases d with
              | tuple ys =>
                (try simp only [DL.negP_i, DL.le_s0, DL.le_s1, DL.le_s2, DL.le_s3, DL.le_s4, DL.le_s5, DL.le_s6, DL.le_s7, DL.le_s8, DL.le_s9, DL.le_s10, DL.le_s11, DL.le_s12, DL.le_s13, DL.le_s14, DL.le_s15, DL.le_s16, DL.le_s17, DL.le_s18, DL.le_s19, DL.le_s20, DL.le_s21, DL.le_s22, DL.le_s23, DL.le_s24, DL.le_s25, DL.le_s26, DL.le_s27, DL.le_s28, DL.le_s29, DL.le_s30, DL.le_s31, DL.le_s32, DL.le_s33, DL.le_s34, DL.le_s35, DL.le_s36, DL.le_s37, DL.le_s38, DL.le_s39, DL.le_s40, DL.le_s41, DL.le_s42, DL.le_s43, DL.le_s44, DL.le_s45, DL.le_s46, DL.le_s47, DL.le_s48, DL.le_s49, DL.le_s50, DL.le_s51, DL.le_s52, DL.le_s53, DL.le_s54, DL.le_s55, DL.le_s56, DL.le_s57, DL.le_s58, DL.le_s59, DL.le_s60, DL.le_s61, DL.le_s62, DL.le_s63, DL.le_s64, DL.iteB_true, DL.iteB_false, DL.lenP_t, DL.lenP_l, DL.lenP_s, DL.eqP, DL.eqOk_int, DL.eqOk_str, DL.eqOk_emp, DL.eqOk_empL, DL.eqv_emp1, DL.eqv_empL1, DL.eqv_ii, DL.eqv_ss, DL.ixP_t, DL.ixP_l, DL.ixP_s, DL.slP_t, DL.slP_l, DL.slP_s, DL.intcP_i, DL.intcP_b, DL.intcP_s, DL.tupcP_l, DL.tupcP_t, DL.atI_z, DL.atI_o, DL.atI_t, DL.int0P_ii, DL.intP_ii, DL.addP_ii, DL.addP_ss, DL.addP_tt, DL.addP_ll, DL.isTup_t, DL.reprP, Bool.false_eq_true, if_true, if_false, reduceIte, Option.some.injEq, PyData.bool.injEq, exists_eq_left', exists_eq_left, exists_eq_right, exists_eq_right', true_and, and_true, Bool.true_eq_false, Bool.not_true, Bool.not_false, false_and, and_false, exists_and_left, reduceCtorEq, DL.DV.gts.injEq, exists_const])
                rw [show (((ys.length : Nat) : Int) == 2) = decide (ys.length = 2) from len_beq ys 2]
                by_cases hl2 : ys.length = 2
                · obtain ⟨a, b, rfl⟩ := len2D hl2
                  rw [decide_eq_true hl2]
                  have er : ruleB xs.length (.tuple [a, b]) = (wholeD a && (atMost xs.length a && isDeed b)) := rfl
                  rw [er] at h3 h4
                  (try simp only [DL.negP_i, DL.le_s0, DL.le_s1, DL.le_s2, DL.le_s3, DL.le_s4, DL.le_s5, DL.le_s6, DL.le_s7, DL.le_s8, DL.le_s9, DL.le_s10, DL.le_s11, DL.le_s12, DL.le_s13, DL.le_s14, DL.le_s15, DL.le_s16, DL.le_s17, DL.le_s18, DL.le_s19, DL.le_s20, DL.le_s21, DL.le_s22, DL.le_s23, DL.le_s24, DL.le_s25, DL.le_s26, DL.le_s27, DL.le_s28, DL.le_s29, DL.le_s30, DL.le_s31, DL.le_s32, DL.le_s33, DL.le_s34, DL.le_s35, DL.le_s36, DL.le_s37, DL.le_s38, DL.le_s39, DL.le_s40, DL.le_s41, DL.le_s42, DL.le_s43, DL.le_s44, DL.le_s45, DL.le_s46, DL.le_s47, DL.le_s48, DL.le_s49, DL.le_s50, DL.le_s51, DL.le_s52, DL.le_s53, DL.le_s54, DL.le_s55, DL.le_s56, DL.le_s57, DL.le_s58, DL.le_s59, DL.le_s60, DL.le_s61, DL.le_s62, DL.le_s63, DL.le_s64, DL.iteB_true, DL.iteB_false, DL.lenP_t, DL.lenP_l, DL.lenP_s, DL.eqP, DL.eqOk_int, DL.eqOk_str, DL.eqOk_emp, DL.eqOk_empL, DL.eqv_emp1, DL.eqv_empL1, DL.eqv_ii, DL.eqv_ss, DL.ixP_t, DL.ixP_l, DL.ixP_s, DL.slP_t, DL.slP_l, DL.slP_s, DL.intcP_i, DL.intcP_b, DL.intcP_s, DL.tupcP_l, DL.tupcP_t, DL.atI_z, DL.atI_o, DL.atI_t, DL.int0P_ii, DL.intP_ii, DL.addP_ii, DL.addP_ss, DL.addP_tt, DL.addP_ll, DL.isTup_t, DL.reprP, Bool.false_eq_true, if_true, if_false, reduceIte, Option.some.injEq, PyData.bool.injEq, exists_eq_left', exists_eq_left, exists_eq_right, exists_eq_right', true_and, and_true, Bool.true_eq_false, Bool.not_true, Bool.not_false, false_and, and_false, exists_and_left, reduceCtorEq, DL.DV.gts.injEq, exists_const])
                  refine ⟨a, rfl, ?_⟩
                  (try simp only [DL.iteB_true, DL.iteB_false, DL.sSeq, DL.sNext, DL.sRet, DL.sRetN, DL.sIf, DL.sAsg, DL.sNew, DL.sDrop, DL.sRel, DL.sApp, DL.sFor, DL.sBreak, DL.sCont, DL.sAsgT, DL.sPar, DL.sPar3, DL.sPar3DFD, DL.sParFD, DL.sParDF, DL.sExt, DL.sPut, DL.sAug, DL.sCut, DL.sRaise, DL.sWhile, DL.fVar, DL.fC, DL.fOb, DL.fGts, DL.f2, DL.f1, DL.fCall, DL.fB, DL.fTru, DL.fAnd, DL.fOr, DL.fNot, DL.fIf, DL.tAndD, DL.tOrD, DL.tNotD, DL.fNil, DL.fCons, DL.fTup, DL.fLst, DL.fDnew, DL.fNew, DL.fIt, DL.fRng1, DL.fRng2, DL.fLc, DL.fAG, DL.fFn, DL.fFnX, DL.fFnK, DL.fSl, DL.fNone, DL.fPart, DL.fList, DL.fM0, DL.fM1, DL.tYesD, DL.gdN, DL.gdT_t, DL.gdNil_n, DL.gdCons_c, DL.op2, DL.op1, DL.opC, DL.c1, DL.isiP, DL.typeO, DL.tyIs, DL.inG, DL.isND, DL.rel, DL.wipeD, DL.le_s0, DL.le_s1, DL.le_s2, DL.le_s3, DL.le_s4, DL.le_s5, DL.le_s6, DL.le_s7, DL.le_s8, DL.le_s9, DL.le_s10, DL.le_s11, DL.le_s12, DL.le_s13, DL.le_s14, DL.le_s15, DL.le_s16, DL.le_s17, DL.le_s18, DL.le_s19, DL.le_s20, DL.le_s21, DL.le_s22, DL.le_s23, DL.le_s24, DL.le_s25, DL.le_s26, DL.le_s27, DL.le_s28, DL.le_s29, DL.le_s30, DL.le_s31, DL.le_s32, DL.le_s33, DL.le_s34, DL.le_s35, DL.le_s36, DL.le_s37, DL.le_s38, DL.le_s39, DL.le_s40, DL.le_s41, DL.le_s42, DL.le_s43, DL.le_s44, DL.le_s45, DL.le_s46, DL.le_s47, DL.le_s48, DL.le_s49, DL.le_s50, DL.le_s51, DL.le_s52, DL.le_s53, DL.le_s54, DL.le_s55, DL.le_s56, DL.le_s57, DL.le_s58, DL.le_s59, DL.le_s60, DL.le_s61, DL.le_s62, DL.le_s63, DL.le_s64, DL.start0, DL.asDat, DL.lend, DL.noOwn, DL.DV.isOwn, DL.pd_dat, DL.pd_own, DL.ocpd_lst, DL.ocpd_dk, DL.itemsOf, List.map_cons, List.map_nil, List.append_nil, List.cons_append, List.nil_append, List.length_cons, List.length_nil, List.replicate_succ, List.replicate_zero, List.getElem?_cons_zero, List.getElem?_cons_succ, List.set_cons_zero, List.set_cons_succ, Nat.reduceSub, Nat.reduceAdd, Nat.sub_self, Nat.zero_add, Option.some.injEq, DL.DV.dat.injEq, PyData.bool.injEq, PyData.int.injEq, PyData.str.injEq, PyData.tuple.injEq, PyData.list.injEq, DL.DV.ob.injEq, V.ty.injEq, DL.DV.own.injEq, DL.OC.lst.injEq, List.cons.injEq, Option.map_some, exists_eq_left', exists_eq_left, exists_eq_right, exists_eq_right', exists_and_left, and_true, true_and, Bool.not_true, Bool.not_false, Bool.and_true, Bool.true_and, true_or, Bool.not_eq_true', Bool.false_eq_true, if_true, if_false, reduceIte, reduceCtorEq])
                  cases a with
                  | int i =>
                    (try simp only [DL.negP_i, DL.le_s0, DL.le_s1, DL.le_s2, DL.le_s3, DL.le_s4, DL.le_s5, DL.le_s6, DL.le_s7, DL.le_s8, DL.le_s9, DL.le_s10, DL.le_s11, DL.le_s12, DL.le_s13, DL.le_s14, DL.le_s15, DL.le_s16, DL.le_s17, DL.le_s18, DL.le_s19, DL.le_s20, DL.le_s21, DL.le_s22, DL.le_s23, DL.le_s24, DL.le_s25, DL.le_s26, DL.le_s27, DL.le_s28, DL.le_s29, DL.le_s30, DL.le_s31, DL.le_s32, DL.le_s33, DL.le_s34, DL.le_s35, DL.le_s36, DL.le_s37, DL.le_s38, DL.le_s39, DL.le_s40, DL.le_s41, DL.le_s42, DL.le_s43, DL.le_s44, DL.le_s45, DL.le_s46, DL.le_s47, DL.le_s48, DL.le_s49, DL.le_s50, DL.le_s51, DL.le_s52, DL.le_s53, DL.le_s54, DL.le_s55, DL.le_s56, DL.le_s57, DL.le_s58, DL.le_s59, DL.le_s60, DL.le_s61, DL.le_s62, DL.le_s63, DL.le_s64, DL.iteB_true, DL.iteB_false, DL.lenP_t, DL.lenP_l, DL.lenP_s, DL.eqP, DL.eqOk_int, DL.eqOk_str, DL.eqOk_emp, DL.eqOk_empL, DL.eqv_emp1, DL.eqv_empL1, DL.eqv_ii, DL.eqv_ss, DL.ixP_t, DL.ixP_l, DL.ixP_s, DL.slP_t, DL.slP_l, DL.slP_s, DL.intcP_i, DL.intcP_b, DL.intcP_s, DL.tupcP_l, DL.tupcP_t, DL.atI_z, DL.atI_o, DL.atI_t, DL.int0P_ii, DL.intP_ii, DL.addP_ii, DL.addP_ss, DL.addP_tt, DL.addP_ll, DL.isTup_t, DL.reprP, Bool.false_eq_true, if_true, if_false, reduceIte, Option.some.injEq, PyData.bool.injEq, exists_eq_left', exists_eq_left, exists_eq_right, exists_eq_right', true_and, and_true, Bool.true_eq_false, Bool.not_true, Bool.not_false, false_and, and_false, exists_and_left, reduceCtorEq, DL.DV.gts.injEq, exists_const])
                    cases hw : wholeD (.int i) with
                    | false =>
                      rw [hw, Bool.false_and] at h4
                      exact h4 rfl
                    | true =>
                      rw [hw, Bool.true_and] at h3 h4
                      have em : atMost xs.length (.int i) = !decide ((xs.length : Int) < i) := by
                        show decide (i ≤ xs.length) = _
                        by_cases z : (xs.length : Int) < i
                        · rw [decide_eq_true z, decide_eq_false (by omega)]
                          rfl
                        · rw [decide_eq_false z, decide_eq_true (by omega)]
                          rfl
                      rw [em] at h3 h4
                      (try simp only [DL.negP_i, DL.le_s0, DL.le_s1, DL.le_s2, DL.le_s3, DL.le_s4, DL.le_s5, DL.le_s6, DL.le_s7, DL.le_s8, DL.le_s9, DL.le_s10, DL.le_s11, DL.le_s12, DL.le_s13, DL.le_s14, DL.le_s15, DL.le_s16, DL.le_s17, DL.le_s18, DL.le_s19, DL.le_s20, DL.le_s21, DL.le_s22, DL.le_s23, DL.le_s24, DL.le_s25, DL.le_s26, DL.le_s27, DL.le_s28, DL.le_s29, DL.le_s30, DL.le_s31, DL.le_s32, DL.le_s33, DL.le_s34, DL.le_s35, DL.le_s36, DL.le_s37, DL.le_s38, DL.le_s39, DL.le_s40, DL.le_s41, DL.le_s42, DL.le_s43, DL.le_s44, DL.le_s45, DL.le_s46, DL.le_s47, DL.le_s48, DL.le_s49, DL.le_s50, DL.le_s51, DL.le_s52, DL.le_s53, DL.le_s54, DL.le_s55, DL.le_s56, DL.le_s57, DL.le_s58, DL.le_s59, DL.le_s60, DL.le_s61, DL.le_s62, DL.le_s63, DL.le_s64, DL.iteB_true, DL.iteB_false, DL.lenP_t, DL.lenP_l, DL.lenP_s, DL.eqP, DL.eqOk_int, DL.eqOk_str, DL.eqOk_emp, DL.eqOk_empL, DL.eqv_emp1, DL.eqv_empL1, DL.eqv_ii, DL.eqv_ss, DL.ixP_t, DL.ixP_l, DL.ixP_s, DL.slP_t, DL.slP_l, DL.slP_s, DL.intcP_i, DL.intcP_b, DL.intcP_s, DL.tupcP_l, DL.tupcP_t, DL.atI_z, DL.atI_o, DL.atI_t, DL.int0P_ii, DL.intP_ii, DL.addP_ii, DL.addP_ss, DL.addP_tt, DL.addP_ll, DL.isTup_t, DL.reprP, Bool.false_eq_true, if_true, if_false, reduceIte, Option.some.injEq, PyData.bool.injEq, exists_eq_left', exists_eq_left, exists_eq_right, exists_eq_right', true_and, and_true, Bool.true_eq_false, Bool.not_true, Bool.not_false, false_and, and_false, exists_and_left, reduceCtorEq, DL.DV.gts.injEq, exists_const])
                      cases hm : decide ((xs.length : Int) < i) with
                      | true =>
                        rw [hm] at h4
                        exact h4 rfl
                      | false =>
                        rw [hm] at h3 h4
                        (try simp only [DL.negP_i, DL.le_s0, DL.le_s1, DL.le_s2, DL.le_s3, DL.le_s4, DL.le_s5, DL.le_s6, DL.le_s7, DL.le_s8, DL.le_s9, DL.le_s10, DL.le_s11, DL.le_s12, DL.le_s13, DL.le_s14, DL.le_s15, DL.le_s16, DL.le_s17, DL.le_s18, DL.le_s19, DL.le_s20, DL.le_s21, DL.le_s22, DL.le_s23, DL.le_s24, DL.le_s25, DL.le_s26, DL.le_s27, DL.le_s28, DL.le_s29, DL.le_s30, DL.le_s31, DL.le_s32, DL.le_s33, DL.le_s34, DL.le_s35, DL.le_s36, DL.le_s37, DL.le_s38, DL.le_s39, DL.le_s40, DL.le_s41, DL.le_s42, DL.le_s43, DL.le_s44, DL.le_s45, DL.le_s46, DL.le_s47, DL.le_s48, DL.le_s49, DL.le_s50, DL.le_s51, DL.le_s52, DL.le_s53, DL.le_s54, DL.le_s55, DL.le_s56, DL.le_s57, DL.le_s58, DL.le_s59, DL.le_s60, DL.le_s61, DL.le_s62, DL.le_s63, DL.le_s64, DL.iteB_true, DL.iteB_false, DL.lenP_t, DL.lenP_l, DL.lenP_s, DL.eqP, DL.eqOk_int, DL.eqOk_str, DL.eqOk_emp, DL.eqOk_empL, DL.eqv_emp1, DL.eqv_empL1, DL.eqv_ii, DL.eqv_ss, DL.ixP_t, DL.ixP_l, DL.ixP_s, DL.slP_t, DL.slP_l, DL.slP_s, DL.intcP_i, DL.intcP_b, DL.intcP_s, DL.tupcP_l, DL.tupcP_t, DL.atI_z, DL.atI_o, DL.atI_t, DL.int0P_ii, DL.intP_ii, DL.addP_ii, DL.addP_ss, DL.addP_tt, DL.addP_ll, DL.isTup_t, DL.reprP, Bool.false_eq_true, if_true, if_false, reduceIte, Option.some.injEq, PyData.bool.injEq, exists_eq_left', exists_eq_left, exists_eq_right, exists_eq_right', true_and, and_true, Bool.true_eq_false, Bool.not_true, Bool.not_false, false_and, and_false, exists_and_left, reduceCtorEq, DL.DV.gts.injEq, exists_const])
                        cases b with
                        | str z =>
                          rw [deed_any] at h3 h4
                          simp only [isStrD, iteB_true, iteB_false, Bool.not_true, Bool.not_false]
                          refine ⟨⟨rfl, _, .inl rfl, rfl⟩, _, rfl, ?_⟩
                          have ei : inD (.str z) (.tuple (deedL.map PyData.str)) = deedL.any fun y => z == y := by
                            show (deedL.map PyData.str).any (fun y => PyData.eqv y (.str z)) = _
                            rw [List.any_map]
                            congr 1
                            funext y
                            exact Bool.beq_comm ..
                          have ei : inD (.str z) (.tuple [.str "stay", .str "put0", .str "put1", .str "cut", .str "over", .str "back"]) = deedL.any fun y => z == y := ei
                          rw [ei]
                          cases hd : deedL.any fun y => z == y with
                          | true =>
                            rw [hd] at h3
                            exact h3 rfl _ ⟨_, rfl⟩
                          | false =>
                            rw [hd] at h4
                            exact h4 rfl
                        | _ => exact h4 (by rfl)
                  | _ => exact h4 (by rfl)
                · rw [decide_eq_false hl2]
                  exact h4 (rule_no hl2)
              | _ => exact h4 rfl
            · obtain ⟨b, rfl⟩ := hi
              (try simp only [DL.iteB_true, DL.iteB_false, DL.sSeq, DL.sNext, DL.sRet, DL.sRetN, DL.sIf, DL.sAsg, DL.sNew, DL.sDrop, DL.sRel, DL.sApp, DL.sFor, DL.sBreak, DL.sCont, DL.sAsgT, DL.sPar, DL.sPar3, DL.sPar3DFD, DL.sParFD, DL.sParDF, DL.sExt, DL.sPut, DL.sAug, DL.sCut, DL.sRaise, DL.sWhile, DL.fVar, DL.fC, DL.fOb, DL.fGts, DL.f2, DL.f1, DL.fCall, DL.fB, DL.fTru, DL.fAnd, DL.fOr, DL.fNot, DL.fIf, DL.tAndD, DL.tOrD, DL.tNotD, DL.fNil, DL.fCons, DL.fTup, DL.fLst, DL.fDnew, DL.fNew, DL.fIt, DL.fRng1, DL.fRng2, DL.fLc, DL.fAG, DL.fFn, DL.fFnX, DL.fFnK, DL.fSl, DL.fNone, DL.fPart, DL.fList, DL.fM0, DL.fM1, DL.tYesD, DL.gdN, DL.gdT_t, DL.gdNil_n, DL.gdCons_c, DL.op2, DL.op1, DL.opC, DL.c1, DL.isiP, DL.typeO, DL.tyIs, DL.inG, DL.isND, DL.rel, DL.wipeD, DL.le_s0, DL.le_s1, DL.le_s2, DL.le_s3, DL.le_s4, DL.le_s5, DL.le_s6, DL.le_s7, DL.le_s8, DL.le_s9, DL.le_s10, DL.le_s11, DL.le_s12, DL.le_s13, DL.le_s14, DL.le_s15, DL.le_s16, DL.le_s17, DL.le_s18, DL.le_s19, DL.le_s20, DL.le_s21, DL.le_s22, DL.le_s23, DL.le_s24, DL.le_s25, DL.le_s26, DL.le_s27, DL.le_s28, DL.le_s29, DL.le_s30, DL.le_s31, DL.le_s32, DL.le_s33, DL.le_s34, DL.le_s35, DL.le_s36, DL.le_s37, DL.le_s38, DL.le_s39, DL.le_s40, DL.le_s41, DL.le_s42, DL.le_s43, DL.le_s44, DL.le_s45, DL.le_s46, DL.le_s47, DL.le_s48, DL.le_s49, DL.le_s50, DL.le_s51, DL.le_s52, DL.le_s53, DL.le_s54, DL.le_s55, DL.le_s56, DL.le_s57, DL.le_s58, DL.le_s59, DL.le_s60, DL.le_s61, DL.le_s62, DL.le_s63, DL.le_s64, DL.start0, DL.asDat, DL.lend, DL.noOwn, DL.DV.isOwn, DL.pd_dat, DL.pd_own, DL.ocpd_lst, DL.ocpd_dk, DL.itemsOf, List.map_cons, List.map_nil, List.append_nil, List.cons_append, List.nil_append, List.length_cons, List.length_nil, List.replicate_succ, List.replicate_zero, List.getElem?_cons_zero, List.getElem?_cons_succ, List.set_cons_zero, List.set_cons_succ, Nat.reduceSub, Nat.reduceAdd, Nat.sub_self, Nat.zero_add, Option.some.injEq, DL.DV.dat.injEq, PyData.bool.injEq, PyData.int.injEq, PyData.str.injEq, PyData.tuple.injEq, PyData.list.injEq, DL.DV.ob.injEq, V.ty.injEq, DL.DV.own.injEq, DL.OC.lst.injEq, List.cons.injEq, Option.map_some, exists_eq_left', exists_eq_left, exists_eq_right, exists_eq_right', exists_and_left, and_true, true_and, Bool.not_true, Bool.not_false, Bool.and_true, Bool.true_and, true_or, Bool.not_eq_true', Bool.false_eq_true, if_true, if_false, reduceIte, reduceCtorEq])
              exact h1 ha _ ⟨_, _, rfl⟩
        | _ => exact h2 rfl
      · rw [ha] at h
        obtain ⟨_, _, rfl⟩ := hi
        (try simp only [DL.iteB_true, DL.iteB_false, DL.sSeq, DL.sNext, DL.sRet, DL.sRetN, DL.sIf, DL.sAsg, DL.sNew, DL.sDrop, DL.sRel, DL.sApp, DL.sFor, DL.sBreak, DL.sCont, DL.sAsgT, DL.sPar, DL.sPar3, DL.sPar3DFD, DL.sParFD, DL.sParDF, DL.sExt, DL.sPut, DL.sAug, DL.sCut, DL.sRaise, DL.sWhile, DL.fVar, DL.fC, DL.fOb, DL.fGts, DL.f2, DL.f1, DL.fCall, DL.fB, DL.fTru, DL.fAnd, DL.fOr, DL.fNot, DL.fIf, DL.tAndD, DL.tOrD, DL.tNotD, DL.fNil, DL.fCons, DL.fTup, DL.fLst, DL.fDnew, DL.fNew, DL.fIt, DL.fRng1, DL.fRng2, DL.fLc, DL.fAG, DL.fFn, DL.fFnX, DL.fFnK, DL.fSl, DL.fNone, DL.fPart, DL.fList, DL.fM0, DL.fM1, DL.tYesD, DL.gdN, DL.gdT_t, DL.gdNil_n, DL.gdCons_c, DL.op2, DL.op1, DL.opC, DL.c1, DL.isiP, DL.typeO, DL.tyIs, DL.inG, DL.isND, DL.rel, DL.wipeD, DL.le_s0, DL.le_s1, DL.le_s2, DL.le_s3, DL.le_s4, DL.le_s5, DL.le_s6, DL.le_s7, DL.le_s8, DL.le_s9, DL.le_s10, DL.le_s11, DL.le_s12, DL.le_s13, DL.le_s14, DL.le_s15, DL.le_s16, DL.le_s17, DL.le_s18, DL.le_s19, DL.le_s20, DL.le_s21, DL.le_s22, DL.le_s23, DL.le_s24, DL.le_s25, DL.le_s26, DL.le_s27, DL.le_s28, DL.le_s29, DL.le_s30, DL.le_s31, DL.le_s32, DL.le_s33, DL.le_s34, DL.le_s35, DL.le_s36, DL.le_s37, DL.le_s38, DL.le_s39, DL.le_s40, DL.le_s41, DL.le_s42, DL.le_s43, DL.le_s44, DL.le_s45, DL.le_s46, DL.le_s47, DL.le_s48, DL.le_s49, DL.le_s50, DL.le_s51, DL.le_s52, DL.le_s53, DL.le_s54, DL.le_s55, DL.le_s56, DL.le_s57, DL.le_s58, DL.le_s59, DL.le_s60, DL.le_s61, DL.le_s62, DL.le_s63, DL.le_s64, DL.start0, DL.asDat, DL.lend, DL.noOwn, DL.DV.isOwn, DL.pd_dat, DL.pd_own, DL.ocpd_lst, DL.ocpd_dk, DL.itemsOf, List.map_cons, List.map_nil, List.append_nil, List.cons_append, List.nil_append, List.length_cons, List.length_nil, List.replicate_succ, List.replicate_zero, List.getElem?_cons_zero, List.getElem?_cons_succ, List.set_cons_zero, List.set_cons_succ, Nat.reduceSub, Nat.reduceAdd, Nat.sub_self, Nat.zero_add, Option.some.injEq, DL.DV.dat.injEq, PyData.bool.injEq, PyData.int.injEq, PyData.str.injEq, PyData.tuple.injEq, PyData.list.injEq, DL.DV.ob.injEq, V.ty.injEq, DL.DV.own.injEq, DL.OC.lst.injEq, List.cons.injEq, Option.map_some, exists_eq_left', exists_eq_left, exists_eq_right, exists_eq_right', exists_and_left, and_true, true_and, Bool.not_true, Bool.not_false, Bool.and_true, Bool.true_and, true_or, Bool.not_eq_true', Bool.false_eq_true, if_true, if_false, reduceIte, reduceCtorEq])
        exact h
  | _ => exact h
end
end PD


set_option Elab.async false
set_option linter.all false
set_option maxRecDepth 100000
set_option maxHeartbeats 4000000
/-! try .. except C1 as n: .. except C2 as m: ..; the caught error stands in the abstract heap. -/
namespace QT
open PySem PySem.Spec PyProof.Rows L2 KT QY QZ
abbrev Cl : Type := Value × Nat × (Addr → TS)
/-- where a suite goes on: its name's slot is empty again -/
def endsAs (i : Nat) (D : Ends) : Ends := { nx := fun σ H => D.nx (σ.set i none) H, rt := D.rt, bk := fun σ H => D.bk (σ.set i none) H, ct := fun σ H => D.ct (σ.set i none) H }
/-- what the clauses wish of an error of the body -/
def wAll (K : PySem.W.Frag) (Wout : WX) (D : Ends) : List Cl → WX
  | [] => Wout
  | (c, i, ts) :: r => fun cls d σ H => ∃ b, PySem.W.exmOne K cls c = some b ∧ (b = true → ∃ C, cls = .ref C ∧ ∀ a, H a = none → ts a (endsAs i D) (σ.set i (some (.ref a))) (upd H a (exq a C d))) ∧ (b = false → wAll K Wout D r cls d σ H)
inductive HdsAs (X : Cx) : List ExceptHandler → List Cl → Prop
  | nil : HdsAs X [] []
  | cons {x n : Str} {c : Value} {i : Nat} {ts : Addr → TS} {b₀ : Stmt} {suite : List Stmt} {np pos' : Pos} {hds : List ExceptHandler} {l : List Cl} (hi : X.N[i]? = some n) (hln : X.env.kindOf n = some .local) (hc : Names X x c)
      (hsu : ∀ (a : Addr) (pn : List (Addr × Obj)), PSs (X.suite a pn) (b₀ :: suite) (ts a)) (r : HdsAs X hds l) : HdsAs X (.ExceptHandler (some (.Name x np)) (some n) (b₀ :: suite) pos' :: hds) ((c, i, ts) :: l)
section
variable {X : Cx} {pins : List (Addr × Obj)} {σ : L2.St} {H : Hp} {sI s s' : Shared} {B : Heap}
/-- into a suite, the error tracked -/
theorem Inv.caught {a C : Addr} {d : Option Addr} {oe : Obj} {vs : Array Value} (I : Inv X pins σ H sI) (nb : ∀ b o, sI.heap.get? b = some o → b ∉ frs X.stack → B.get? b = some o) (st : B.StaysIn s'.heap) (up : sI.heap.UpToSlots s'.heap) (os : s'.os = sI.os) (ag : AllBare s'.gens)
    (gB : B.get? a = none) (nf : a ∉ frs X.stack) (na : H a = none) (he : s'.heap.get? a = some oe) (hz : Zc (.ref C) d oe) (hv : oe.data = .fields vs) : Inv X pins σ (upd H a (exq a C d)) s' := by
  have gI : sI.heap.get? a = none := by
    cases e : sI.heap.get? a with
    | none => rfl
    | some o =>
      have := nb a o e nf
      rw [gB] at this
      cases this
  have ne : ∀ b o, sI.heap.get? b = some o → b ≠ a := fun b o e z => by
    rw [z, gI] at e
    cases e
  have fr : ∀ b ∈ frs X.stack, ∀ o, sI.heap.get? b = some o → ∃ sl, s'.heap.get? b = some { o with slots := sl } := fun b hb o e => by
    obtain ⟨_, oF, eF, hd⟩ := I.stack.mem hb
    cases e.symm.trans eF
    exact up b o e hd
  have hok0 : HOk X.prog X.w H s'.heap := (I.inGround nb).kept st
  refine I.call' (ch := []) os ⟨fun b o e _ hb _ => st b o (nb b o e hb), fun b o e _ hb _ => fr b hb o e, fun b o e n _ => by rw [upd_ne (ne b o e)]; exact n, fun b o e _ => ?_, fun b xs e => by rw [upd_ne (ne_of_none e na)]; exact e, fun b o u e => by rw [upd_ne (ne_of_none e na)]; exact e, fun b ps e => ⟨#[], by rw [upd_ne (ne_of_none e na), e]; simp⟩⟩ (fun b o e => ?_) ag (fun b z => nomatch z)
  · by_cases isF : b ∈ frs X.stack
    · obtain ⟨sl, q⟩ := fr b isF o e
      exact ⟨_, q⟩
    · exact ⟨o, st b o (nb b o e isF)⟩
  · by_cases hb : b = a
    · subst hb
      rw [upd_same] at e
      cases e
      exact ⟨⟨oe, he, hz, vs, hv⟩, ⟨oe, he⟩, fun _ _ ⟨o2, q, r⟩ k => ⟨o2, k _ q, r⟩⟩
    · rw [upd_ne hb] at e
      exact (hok0 b o e).stay (fun c v _ q => q) (fun c q => by rw [upd_ne (ne_of_none q na)]; exact q) fun c xs q => by rw [upd_ne (ne_of_none q na)]; exact q
theorem Inv.toSuite (I : Inv X pins σ H s) (a : Addr) : Inv (X.suite a (X.pn ++ pins)) [] σ H s where
  ok := I.ok.suite _ _
  os := I.os
  bare := I.bare
  base := I.base
  loc := I.loc
  cell := I.cell
  free := I.free
  freeC := I.freeC
  pin := fun q hq => I.pin q ((List.append_nil (X.pn ++ pins)) ▸ hq)
  hok := I.hok
  len := I.len
theorem Inv.ofSuite {a : Addr} {pn' : List (Addr × Obj)} (ok : X.Ok) (I : Inv (X.suite a (X.pn ++ pins)) pn' σ H s) : Inv X pins σ H s where
  ok := ok
  os := I.os
  bare := I.bare
  base := I.base
  loc := I.loc
  cell := I.cell
  free := I.free
  freeC := I.freeC
  pin := fun q hq => I.pin q (List.mem_append.mpr (.inl hq))
  hok := I.hok
  len := I.len
end
/-- an end told in one context, told in another -/
theorem sp_in {X Y : Cx} {ps qs : List (Addr × Obj)} {D : Ends} (go : ∀ σ H s, Inv Y ps σ H s → Inv X qs σ H s) : ∀ {f : Flow} {s : Shared}, SP Y ps D f s → SP X qs D f s
  | .next, _, ⟨_, _, j, q⟩ => ⟨_, _, go _ _ _ j, q⟩
  | .brk, _, ⟨_, _, j, q⟩ => ⟨_, _, go _ _ _ j, q⟩
  | .cont, _, ⟨_, _, j, q⟩ => ⟨_, _, go _ _ _ j, q⟩
  | .ret _, _, ⟨_, _, _, j, r, q⟩ => ⟨_, _, _, go _ _ _ j, r, q⟩
section
variable {X : Cx} {pins : List (Addr × Obj)} {σ : L2.St} {H : Hp} {D : Ends} {Wout : WX} {B : Heap} {a : Addr} {cls : Value} {d : Option Addr} {sI sE : Shared} {h : Heap}
/-- the error a has come down at the heap h; sI is the state without it -/
structure Down (X : Cx) (B : Heap) (a : Addr) (cls : Value) (d : Option Addr) (sI sE : Shared) (h : Heap) : Prop where
  fl : HandSPX.FlyingZ B (X.env :: X.outer) a (Zc cls d) h
  up : sI.heap.UpToSlots h
  gr : ∀ b o, sI.heap.get? b = some o → b ∉ frs X.stack → B.get? b = some o
  os : sE.os = sI.os
  ag : AllBare sE.gens
theorem Down.off (z : Down X B a cls d sI sE h) (hs : X.stack = X.env :: X.outer) : a ∉ frs X.stack := fun m => by
  obtain ⟨_, vs, e1, _, ed⟩ := z.fl.there
  rw [hs] at m
  obtain ⟨_, o2, e2, nf⟩ := z.fl.2.2.1.mem m
  cases e1.symm.trans e2
  exact nf vs ed
/-- no clause is left -/
theorem down_nil (hs : X.stack = X.env :: X.outer) (hf : X.env.frame = some X.env.locals) (tk : Takes X Wout) (z : Down X B a cls d sI sE h) (J : Inv X pins σ H sI) (na : H a = none) (wish : Wout cls d σ H) :
    wpAny (model X.prog X.w) X.A (handleBy (.ref a) X.env []) (SP X pins D) X.xe { sE with heap := h } := by
  have out : ∀ h4, HandSPX.HeldZ B (X.env :: X.outer) a (Zc cls d) X.env.locals h4 → h.UpToSlots h4 → X.xe (.ref a) { sE with heap := h4 } := fun h4 held up4 =>
    tk _ _ ⟨a, B, sI, pins, σ, H, cls, d, rfl, J, z.gr, z.up.trans up4, .inr (.inr (hs ▸ held)), na, z.os, z.ag, wish⟩
  have last : wpAny (model X.prog X.w) X.A (setFlight (.ref a) X.env.frame) (fun _ s4 => wpAny (model X.prog X.w) X.A (throw (.ref a) : Sem Flow) (SP X pins D) X.xe s4) X.xe { sE with heap := h } := by
    simp only [hf]
    exact HandSPX.setFlight_upZ z.fl fun h4 held up4 => wpAny_throw (out h4 held up4)
  obtain ⟨_, _, _, oa, fields, tbk, _, _, ea, _, ed, e1, _⟩ := z.fl
  have some_tb : ¬ ((Value.ref tbk == Value.none) = true) := by simp
  refine wpAny_handleBy_nil ?_
  unfold PySem.passOn
  refine wpAny_bind (wpAny_field ea ed e1 ?_)
  simp only [if_neg some_tb]
  first
    | exact wpAny_bind (wpAny_pure (wpAny_bind last))
    | exact wpAny_bind last
/-- what a clause's class is, asked where the error is handled -/
theorem names_at {x : Str} {c : Value} {np : Pos} {s : Shared} {Q : Value → Shared → Prop} {E : Value → Shared → Prop} {pn : List (Addr × Obj)} (S : Inv (X.suite a pn) [] σ H s) (hc : Names X x c) (q : Q c s) :
    wpAny (model X.prog X.w) (X.A.mark (some (.ref a))) (eval (.Name x np) X.env) Q E s := by
  rcases hc with ⟨g, db, own | ⟨nil, boot, nn⟩⟩
  · exact ld_glob (X := X.suite a pn) S g own q db
  · exact ld_blt (X := X.suite a pn) S g nil boot q nn db
/-- the clauses, one behind another -/
theorem down_all (hs : X.stack = X.env :: X.outer) (hf : X.env.frame = some X.env.locals) (hN : X.N.Nodup) (tk : Takes X Wout) (ok : X.Ok) (J : Inv X pins σ H sI) (na : H a = none) (z : Down X B a cls d sI sE h) (J3 : Inv X pins σ H { sE with heap := h }) :
    ∀ {cs : List ExceptHandler} {l : List Cl}, HdsAs X cs l → wAll X.K Wout D l cls d σ H → wpAny (model X.prog X.w) X.A (handleBy (.ref a) X.env cs) (SP X pins D) X.xe { sE with heap := h }
  | _, _, .nil, wish => down_nil hs hf tk z J na wish
  | _, _, .cons (x := x) (n := n) (i := i) (ts := ts) (pos' := pos') (hds := more) hi hln hc hsu r, ⟨b, kb, yes, no⟩ => by
    obtain ⟨oa, _, ea, za, _⟩ := z.fl.there
    have kind : PySem.W.Looks (model X.prog X.w) h (typeOf (.ref a)) cls := fun A Q E s k q => by
      refine wpAny_typeOf_ref (k _ _ ea) ?_
      rw [za.1]
      exact q
    have S3 := Inv.toSuite J3 a
    refine wpAny_handleBy_cons (codeAny_handlers_test (names_at S3 hc ((PySem.W.exm_one (M := model X.prog X.w) J3.kIn kind kb).here ?_))) (fun q => nomatch q)
    match b, yes, no with
    | false, _, no => exact down_all hs hf hN tk ok J na z J3 r (no rfl)
    | true, yes, _ =>
      obtain ⟨C, rfl, body⟩ := yes rfl
      refine codeAny_handlers_suite_as (HandSPX.lands_againZ z.fl fun h4 fl4 up4 => ?_)
      obtain ⟨o4, _, e4, z4, d4⟩ := fl4.there
      have J4 : Inv X pins σ (upd H a (exq a C d)) { sE with heap := h4 } := Inv.caught (s' := { sE with heap := h4 }) J z.gr fl4.1 (z.up.trans up4) z.os z.ag fl4.2.1 (z.off hs) na e4 z4 d4
      refine store_ok (X := X.suite a (X.pn ++ pins)) (v := .ref a) (Inv.toSuite J4 a) hN hi (.inl hln) rfl (fun s5 S5 => ?_) (.inr hln)
      refine wpAny_mono ((hsu a (X.pn ++ pins)).run [] s5 _ _ _ S5 (body a na)) (fun f s6 e6 => ?_) (fun _ _ no => no.elim)
      have gone : ∀ {σ6 : L2.St} {H6 : Hp} {Q : Shared → Prop}, Inv (X.suite a (X.pn ++ pins)) [] σ6 H6 s6 → (∀ s7, Inv X pins (σ6.set i none) H6 s7 → Q s7) →
          wpAny (model X.prog X.w) X.A (do bindName X.env n .none; unbindBehindTheSuite X.env n pos') (fun _ s7 => Q s7) X.xe s6 := fun {σ6 H6 Q} S6 hq => gone_ok (Q := fun _ s7 => Q s7) (Inv.ofSuite ok S6) hN hi hln hq
      match f, e6 with
      | .next, ⟨_, _, S6, q⟩ => exact gone S6 fun _ j => ⟨_, _, j, q⟩
      | .brk, ⟨_, _, S6, q⟩ => exact gone S6 fun _ j => ⟨_, _, j, q⟩
      | .cont, ⟨_, _, S6, q⟩ => exact gone S6 fun _ j => ⟨_, _, j, q⟩
      | .ret _, ⟨_, _, _, S6, rv, q⟩ => exact gone S6 fun _ j => ⟨_, _, _, j, rv, q⟩
end
section
variable {X : Cx} {body : List Stmt} {h₀ : ExceptHandler} {hds : List ExceptHandler} {l : List Cl} {pos : Pos} {tb : WX → TS} {Wout : WX}
/-- the body of a try, told for any wish that its own context takes -/
def BodyAs (X : Cx) (body : List Stmt) (tb : WX → TS) : Prop := ∀ (W : WX) (pn : List (Addr × Obj)) (xe : Value → Shared → Prop), Takes (X.tr pn xe) W → PassesOwn (model X.prog X.w) X.A X.env xe → PSs (X.tr pn xe) body (tb W)
theorem ps_try_all (hs : X.stack = X.env :: X.outer) (hf : X.env.frame = some X.env.locals) (hN : X.N.Nodup) (tk : Takes X Wout) (told : BodyAs X body tb) (hh : HdsAs X (h₀ :: hds) l) :
    PS X (.Try body (h₀ :: hds) [] [] pos) (fun D σ H => tb (wAll X.K Wout D l) D σ H) where
  run := fun pins s σ H D I wish => by
    have ok := I.ok
    refine wpAny_Try_except ?_
    refine wpAny_mono ((told (wAll X.K Wout D l) (X.pn ++ pins) _ (fun u s' air => ?_) PassesOwn.looking).run [] s σ H D (I.toTry _) wish) (fun f s1 e => ?_) (fun _ _ e => e)
    · obtain ⟨a, B, sI, pins', σ', H', cls, d, rfl, J', gr, up, sky, na, os, ag, w⟩ := air
      have jI := J'.ofTry ok
      have two : X.A.frames = some (X.env :: X.outer) := ok.frames.trans (congrArg some hs)
      refine Sky.land Zc.steady two hf (hs ▸ sky) fun h3 fl3 up3 => ?_
      exact down_all hs hf hN tk ok jI na ⟨fl3, up.trans up3, gr, os, ag⟩ (jI.landed gr fl3.1 (up.trans up3) os ag) hh w
    · have here : SP X pins D f s1 := sp_in (fun _ _ _ j => j.ofTry ok) e
      cases f with
      | next => exact wpAny_execs_nil here
      | _ => exact here
end
end QT

set_option Elab.async false
set_option linter.all false
set_option maxRecDepth 100000
set_option maxHeartbeats 4000000
/-! A lambda handed to a def, over data: all but the maker's own table stays. -/
namespace LB
open PySem PySem.Spec PyProof.Rows L2 KT KG KX KY KZ KE0 KQ LK GxR DL LamX QY QZ QB QE QF QT
/-- all but what is at P -/
def Rest (P : Addr) (H H' : Hp) : Prop := ∀ b o, b ≠ P → H b = some o → H' b = some o
section
variable {X : Cx} {pins : List (Addr × Obj)} {σ : L2.St} {H : Hp} {s : Shared}
theorem lam_mk {c P : Addr} {q : Str} {pms : Arguments} {bdy : Expr} {sco : Scope} {pos : Pos} {E : Value → Shared → Prop} {Q : Value → Shared → Prop} (I : Inv X pins σ H s) (TB : LamX.TabB X.base X.mg c P) (hcode : X.env.code = .ref c) (hq : q = X.env.qual ++ "<lambda>") (hT : TabS H P q)
    (hdef : defaultsOf pms X.env = ([], [])) (hfree : ∀ y ∈ sco.names, y.2 = .free → ∃ c, X.env.cells.lookup y.1 = some c)
    (k : ∀ (f c' : Addr) (pm ctv : Value) (H1 : Hp) (s' : Shared), Inv X pins σ H1 s' → Rest P H H1 → TabS H1 P q → s'.heap.get? f = some (PySem.W.kla_obj "<lambda>" q pms bdy sco (cloFrom X.env.cells sco.names []) pm c' ctv) → H1 f = none → f ∉ frs X.stack → H1 c' = some (CodeO c' q) → Q (.ref f) s') :
    wpAny (model X.prog X.w) X.A (eval (.Lambda pms bdy sco pos) X.env) Q E s := by
  subst hq
  obtain ⟨ps, hP, ht, ha⟩ := hT
  have gP := I.hok P _ hP
  have out : ∀ f, s.heap.objs.size ≤ f → f ∉ frs X.stack := fun f hf z => by
    rcases List.mem_cons.mp (I.stkSub _ z) with rfl | e
    · exact absurd I.lt (Nat.not_lt.mpr hf)
    · exact I.nofs hf e
  refine PySem.W.kla_eval hdef ?_; cases hc : codeAmong pos ps.toList with
  | some cv =>
    obtain ⟨c', rfl, hco⟩ := ha pos cv hc
    refine PySem.W.kla_makeFunctionHit (mg := X.mg) (c := c) (P := P) (ps := ps) (closure_ok hfree) I.ok.glob (I.mod.glob.keeps I.bk) hcode (TB.code.keeps I.bk) gP ht hc (TB.bm.keeps I.bk) fun ctv h' tk hx hsz => ?_
    exact k _ c' _ ctv H _ (I.kept fun b o e => Heap.get?_push_of_some _ (hx b o e)) (fun _ _ _ e => e) ⟨ps, hP, ht, ha⟩ (Heap.get?_push_size _ rfl) (I.hok.fresh hsz) (out _ hsz) hco
  | none =>
    refine PySem.W.kla_makeFunction (mg := X.mg) (c := c) (P := P) (ps := ps) (closure_ok hfree) I.ok.glob (I.mod.glob.keeps I.bk) hcode (TB.code.keeps I.bk) gP ht hc TB.gP (TB.bm.keeps I.bk) fun c' ctv h' tk hx hge hlt hrec htb => ?_
    obtain ⟨c0, oc, vs, tt, z0, hoc, hd, hv⟩ := hrec
    cases z0
    have big : s.heap.objs.size ≤ h'.objs.size := Nat.le_of_lt (Nat.lt_of_le_of_lt hge hlt)
    have nc : H c' = none := I.hok.fresh hge
    have up : ∀ b o, b ≠ P → H b = some o → upd (upd H P (.tbl (ps ++ #[rawInt pos.line, rawInt pos.col, .ref c']))) c' (CodeO c' (X.env.qual ++ "<lambda>")) b = some o := fun b o n e => by
      rw [upd_ne (ne_of_none e nc), upd_ne n]
      exact e
    refine k h'.objs.size c' ((X.mg "__name__").getD .none) ctv _ _ (inv_table (t' := tk) (more := #[rawInt pos.line, rawInt pos.col, .ref c']) (h' := h'.push (PySem.W.kla_obj "<lambda>" (X.env.qual ++ "<lambda>") pms bdy sco (cloFrom X.env.cells sco.names []) ((X.mg "__name__").getD .none) c' ctv)) I hP
      (fun b o n e => Heap.get?_push_of_some _ (hx b o n e)) (Heap.get?_push_of_some _ htb) hge ⟨oc, vs, tt, Heap.get?_push_of_some _ hoc, hd, hv⟩) up ⟨_, by rw [upd_ne (ne_of_none hP nc), upd_same], ?_, fun p' cv hcv => ?_⟩ (Heap.get?_push_size _ rfl) ?_ (out _ big) upd_same
    · have e : (ps ++ #[rawInt pos.line, rawInt pos.col, .ref c']).toList = ps.toList ++ [rawInt pos.line, rawInt pos.col, .ref c'] := by simp
      rw [e]
      exact PySem.TriplesOk_snoc _ _ _ _ ht
    · have e : (ps ++ #[rawInt pos.line, rawInt pos.col, .ref c']).toList = ps.toList ++ [rawInt pos.line, rawInt pos.col, .ref c'] := by simp
      rw [e] at hcv
      rcases among_app _ ht hcv with z | rfl
      · obtain ⟨c0, rfl, e2⟩ := ha p' _ z
        refine ⟨c0, rfl, up c0 _ (fun y => ?_) e2⟩
        rw [y, hP] at e2
        exact codeO_ne ps (Option.some.inj e2).symm
      · exact ⟨c', rfl, upd_same⟩
    · rw [upd_ne (Nat.ne_of_gt hlt), upd_ne (Nat.ne_of_gt (Nat.lt_of_lt_of_le (Heap.lt_size gP) big))]
      exact I.hok.fresh big
end
/-- x(lambda: ..): the maker's table, then what x makes of the lambda -/
def tLm (P : Addr) (q : Str) (TT : (XK → Hp → VK → Prop) → Hp → VK → Prop) (t : XK → TE) : TE := fun σ H Q => TabS H P q ∧ ∀ H1, Rest P H H1 → TabS H1 P q → TT (fun E H' Q' => t E σ H' Q') H1 Q
section
variable {X : Cx}
theorem pe_lm {TT : (XK → Hp → VK → Prop) → Hp → VK → Prop} {x a q : Str} {g c P : Addr} {k : Nat} {st : Stmt} {fd : FuncData} {Ng : List Str} {pms : Arguments} {bdy : Expr} {sco : Scope} {t : XK → TE} {p pl pos : Pos} (hg : Gl X x) (hm : X.mg x = some (.ref g))
    (F : FnP X.K x st g fd) (hb : L2.Binds X.K fd [a] []) (Sg : FnScope Ng [a] (defScope st)) (hNg : Ng[0]? = some a) (hva : Vis (defScope st) a) (hq : q = X.env.qual ++ "<lambda>") (hG : ∀ cdv, GivesTo X Ng x (defScope st) g cdv (defBody st) a q TT)
    (TB : LamX.TabB X.base X.mg c P) (hcode : X.env.code = .ref c) (hr : Room (k + 2) X.A) (L : LamS X.env.scope sco) (hdef : defaultsOf pms X.env = ([], [])) (hbind : ∀ (q : Str) (cl : List (Str × Addr)) (pm cv ctv : Value), bindArgs (PySem.W.kla_fn "<lambda>" q pms bdy sco cl pm cv ctv) ⟨[], []⟩ = pure [])
    (hbody : ∀ (A : Around) (outer : List Env) (s : Shared) (H : Hp) (E : XK) (f c' : Addr), Room k (A.deeper (lamEnv X sco s.heap.objs.size f c')) → PE (lamCx X A outer s H E sco f c') bdy (t E))
    (hdb : (x == ("__debug__" : Str)) = false := by decide) (hd : (a == ("__debug__" : Str)) = false := by decide) (hcd : (a == ("__classdict__" : Str)) = false := by decide) : PE X (.Call (.Name x p) [.Lambda pms bdy sco pl] [] pos) (tLm P q TT t) := by
  obtain ⟨oc, od, kV, doc, pm, an, cdv, ct, osl, rfl, lk, hcg⟩ := (fun_of F).ex
  refine ⟨fun pins s σ H Q I ⟨hT, h⟩ => wpAny_Call_Name_kw (ld_glob I hg hm ?_ hdb)⟩
  refine PySem.W.callWith_K (h₀ := X.base) I.ok.mod.kin F.kp ?_ (by rfl) (by rfl)
  show wpAny _ _ (spliced ((false, eval (.Lambda pms bdy sco pl) X.env) :: backTo pos (starEach [] X.env))) _ _ s
  refine Calls.spliced_cons (lam_mk I TB hcode hq hT hdef (L.has I.ok) fun f c' pm' ctv H1 s' I1 eN T1 hf hfn hfr hco => Calls.spliced_nil ⟨I1.kIn, ?_⟩)
  have run : codeAny (model X.prog X.w) X.A (.call (.ref g) ⟨[.ref f], []⟩) (CR C8.CX0 X.stack X.prog X.w H1 s' Q C8.E0) s' := by
    refine run_ofS (N := Ng) (ps := [a]) (us := [.ref f]) (vs := [.ref f]) lk hcg Sg hr I1.env0 (hb s' [.ref f] I1.kIn rfl) (.cons rfl .nil) rfl fun hr' => ?_
    obtain ⟨t', ht', hq'⟩ := hG _ f c' s' H1 Q (fun E H' Q' => t E σ H' Q') (fun W pn xe E p1 p2 tk hW => by
      subst hq
      exact pe_act (i := 0) I1 L hf hfn hfr (hbind _ _ _ _ _) tk hW hr' (fun A outer s H hr2 => hbody A outer s H E f c' hr2) hNg hva hd hcd) hco (h H1 eN T1)
    exact ⟨t', ht'.nox, hq'⟩
  refine wpAny_call (codeAny_mono run fun r s2 hq => ?_)
  match r, hq with
  | .ok (.ret u), hq => exact I1.after hq
end
section
variable {P : Program} {w : World} {K : PySem.W.Frag} {mg : Str → Option Value} {base : Heap}
/-- KT's okG, the code object told -/
theorem okGC {x : Str} {st : Stmt} {fd : FuncData} {N ps : List Str} {k : Nat} {sp : Sp} (F : Fun K x x st (He.fAd K (x, none)) fd) (S : FnScope N ps (defScope st)) (len : ∀ vs H Q E, sp vs H Q E → vs.length = ps.length)
    (hbody : ∀ (cdv : Value) (A : Around) (outer : List Env) (s : Shared) (H : Hp) (vs : List V) (Q : VK) (E : XK), cdv = .ref (He.codeOf K (x, none)) → A.guards = some [] → Room k (A.deeper (envOfC x (defScope st) s.heap.objs.size (He.fAd K (x, none)) cdv)) → sp vs H Q E →
      ∃ t, PSs (cxOf CX0 P w K mg base N x (defScope st) (He.fAd K (x, none)) cdv A outer s H E).nox (defBody st) t ∧ t { nx := fun _ H' => Q .non H', rt := Q } (start N vs) H) : FnG P w K mg base (k + 1) (He.fAd K (x, none)) fd ps sp := by
  obtain ⟨oc, od, kV, doc, pm, an, cdv, ct, osl, rfl, lk, hcd⟩ := F.ex
  have told : cdv = .ref (He.codeOf K (x, none)) := by
    obtain ⟨c, ec⟩ := He.codeIn_ref hcd
    rw [He.codeOf_eq lk ec, ec]
  refine ⟨len, fun A outer s H args us vs Q E hA hr e0 hb r hsp => ?_⟩
  have KX : K.In s.heap := e0.mod.kin.keeps fun b o e => (e0.bs b o e).1
  have knd : ∀ y ∈ ps.zip us, (defScope st).names.lookup y.1 = some .local ∨ ((defScope st).names.lookup y.1 = some .cell ∧ ((cellsFrom (s.heap.objs.size + 1) (defScope st).names []).lookup y.1).isSome = true) := by
    rintro ⟨n, v⟩ hy
    exact (S.par n (List.of_mem_zip hy).1).imp id fun q => ⟨q, PySem.W.cellsFrom_some _ _ _ (.inl q)⟩
  refine codeAny_call_function hr.depth (KX _ _ lk) rfl S.co S.gen rfl (PySem.W.codeRec_of KX hcd) (hb _ _ _ _ (wpAny_newFunctionEnv_cells S.kind knd fun env he s1 x1 => ?_))
  subst he
  obtain ⟨t, ht, hq⟩ := hbody cdv A outer s H vs Q E told hA (hr.deeper _) hsp
  have J := inv_start (CX := CX0) (E := E) (mg := mg) (cd := cdv) (f := He.fAd K (x, none)) (qual := x) S hr.hd e0 (len _ _ _ _ hsp) r x1
  refine ⟨(e0.mod.nolimit.keeps fun b o e => (e0.bs b o e).1).keeps x1.toInCall.keep, codeAny_func (wpAny_mono (ht.nox.run [] s1 (start N vs) H _ J hq) (fun fl s' hs => ?_) fun e s' z => z)⟩
  have done : ∀ {σ' : L2.St} {H' : Hp} {v : V} {u : Value}, Inv (cxOf CX0 P w K mg base N x (defScope st) (He.fAd K (x, none)) cdv A outer s H E) [] σ' H' s' → RelV v u → Q v H' → CE outer P w H s Q u s' := fun j rv q => ⟨_, _, j.os, j.bare, j.base, j.hok, rv, q⟩
  cases fl with
  | ret u =>
    obtain ⟨v, σ', H', j, rv, q⟩ := hs
    exact done j rv q
  | next =>
    obtain ⟨σ', H', j, q⟩ := hs
    exact done (v := V.non) (u := Value.none) j rfl q
  | brk => exact hs.elim fun _ z => z.elim fun _ z => z.2.elim
  | cont => exact hs.elim fun _ z => z.elim fun _ z => z.2.elim
end
section
variable {X : Cx} {W : Wd}
/-- {i: z} -/
theorem df_disp1 {i : Int} {z : Str} {k v : Expr} {pos : Pos} (hk : PE X k (tC (.int i))) (hv : PE X v (tC (.str z))) : PE X (.Dict [some k] [v] pos) (tFr W fun _ K => K (.dk [(.inl i, .str z)])) :=
  (pe_disp (pps_cons hk hv pps_nil) rfl rfl (by simp) (by show 1 ≤ 15; decide)).imp fun σ H Q ⟨M, ρ, K, ge, k, c⟩ => fun p np => ⟨upd_same, [(.inl i, .str z)], rfl, by show 1 ≤ 15; decide, by
    rw [upd_upd]
    exact c _ k p (.dK [(.inl i, .str z)]) H .refl np (.dk rfl (.cons (Dx.str z) .nil))⟩
end
end LB

set_option Elab.async false
set_option linter.all false
set_option maxRecDepth 100000
set_option maxHeartbeats 1000000
/-! Pile machines: the law's own step. -/
namespace PE
open PySem PySem.Spec PyProof.Rows L2 KT KG KM KX KY KE0 KQ LK GxR DL KA DW PA PB PC PD QF WT
theorem pa_stay (l r : Str) : pa "stay" l r = (l, r) := by simp [pa, q_stay_put0, q_stay_put1, q_stay_cut, q_stay_over, q_stay_back]
theorem pa_put0 (l r : Str) : pa "put0" l r = (l ++ "0", r) := by simp [pa, q_put0_put0]
theorem pa_put1 (l r : Str) : pa "put1" l r = (l ++ "1", r) := by simp [pa, q_put1_put0, q_put1_put1]
theorem pa_cut (l r : Str) : pa "cut" l r = (initS l, r) := by simp [pa, q_cut_put0, q_cut_put1, q_cut_cut]
theorem pa_over (l r : Str) : pa "over" l r = (initS l, r ++ lastS l) := by simp [pa, q_over_put0, q_over_put1, q_over_cut, q_over_over]
theorem pa_back (l r : Str) : pa "back" l r = (l ++ lastS r, initS r) := by simp [pa, q_back_put0, q_back_put1, q_back_cut, q_back_over, q_back_back]
theorem len1 (c : Nat) : (⟨#[c]⟩ : Str).length = 1 := rfl
abbrev N__law_pile_step : List Str := ["_law_machine_here", "_law_standing", "_law_state", "_law_left", "_law_right", "_law_to", "_law_deed"]
abbrev P__law_pile_step : List Str := ["_law_machine_here", "_law_standing"]
theorem sc__law_pile_step : FnScope N__law_pile_step P__law_pile_step (defScope s__law_pile_step) := ⟨rfl, rfl, rfl, by decide +kernel, rfl, by decide +kernel, by decide +kernel⟩
section
variable {P : Program} {w : World} {K : PySem.W.Frag} {mg : Str → Option Value} {base : Heap} {Tl : List Addr}
/-! ### a step -/
theorem ok_lstep {fd : FuncData} (T : TbL mg) (D : Df K mg "_law_pile_step" s__law_pile_step P__law_pile_step fd) : FnOk P w K mg base CX0 3 (He.fAd K ("_law_pile_step", none)) fd P__law_pile_step (spD (WP K Tl) F_next) := by
  refine okD D.F sc__law_pile_step (fun ds Kk KE h => by obtain ⟨xs, n, l, r, rfl, _⟩ := h; rfl) (fun W cdv A outer s E hW hcd hr => ⟨_, (dss_cons (ds_asg (dv 1) (pg_tup rfl (pgs_cons (pg_name (i := 2) sc__law_pile_step.nd rfl (.inl rfl)) (pgs_cons (pg_name (i := 3) sc__law_pile_step.nd rfl (.inl rfl)) (pgs_cons (pg_name (i := 4) sc__law_pile_step.nd rfl (.inl rfl)) pgs_nil)))) (sg_tup (n := 3) (sgs_cons (sg_name (i := 2) trivial) (sgs_cons (sg_name (i := 3) trivial) (sgs_cons (sg_name (i := 4) trivial) sgs_nil)))))
      (dss_cons (ds_if (dt_cmp (op_eqX hr W.vol) sn_eq (dv 2) (de_cb (pe_callB call_len (by rfl) T.len (by decide +kernel) (da_cons (dv 0) da_nil)) sn_len)) (dss_one (ds_ret (dv 1))) dss_nil)
      (dss_cons (ds_asg (de_ix ix_all sn_ix (de_ix ix_all sn_ix (dv 0) (dv 2) (fun _ _ => rfl)) (de_if (dt_cmp (op_eqX hr W.vol) sn_eq (dv 3) de_str) de_int (de_op op_addD sn_add de_int (de_cb (pe_callTy call_intD (by rfl) T.int (by decide +kernel) (da_cons (de_ix ix_all sn_ix (dv 3) (de_un un_neg sn_neg de_int) (fun _ _ => rfl)) da_nil)) sn_intc))) (fun _ _ => rfl)) (pg_tup rfl (pgs_cons (pg_name (i := 5) sc__law_pile_step.nd rfl (.inl rfl)) (pgs_cons (pg_name (i := 6) sc__law_pile_step.nd rfl (.inl rfl)) pgs_nil))) (sg_tup (n := 2) (sgs_cons (sg_name (i := 5) trivial) (sgs_cons (sg_name (i := 6) trivial) sgs_nil))))
      (dss_cons (ds_if (dt_cmp (op_eqX hr W.vol) sn_eq (dv 6) de_str) (dss_one (ds_set (i := 3) sc__law_pile_step.nd rfl (.inl rfl) (de_op op_addD sn_add (dv 3) de_str))) (dss_one (ds_if (dt_cmp (op_eqX hr W.vol) sn_eq (dv 6) de_str) (dss_one (ds_set (i := 3) sc__law_pile_step.nd rfl (.inl rfl) (de_op op_addD sn_add (dv 3) de_str))) (dss_one (ds_if (dt_cmp (op_eqX hr W.vol) sn_eq (dv 6) de_str) (dss_one (ds_set (i := 3) sc__law_pile_step.nd rfl (.inl rfl) (de_slice (dv 3) do_none (do_some (de_un un_neg sn_neg de_int))))) (dss_one (ds_if (PW.pt (dw_and (dt_cmp (op_eqX hr W.vol) sn_eq (dv 6) de_str) (dw_and1 (dt_cmp (op_neX hr W.vol) sn_ne (dv 3) de_str)))) (dss_one (ds_par (ps_par (i := 3) (j := 4) (by rfl) sc__law_pile_step.nd rfl rfl (by decide) rfl rfl (da_cons (de_slice (dv 3) do_none (do_some (de_un un_neg sn_neg de_int))) (da_cons (de_op op_addD sn_add (dv 4) (de_ix ix_all sn_ix (dv 3) (de_un un_neg sn_neg de_int) (fun _ _ => rfl))) da_nil)) (by rfl)))) (dss_one (ds_if (PW.pt (dw_and (dt_cmp (op_eqX hr W.vol) sn_eq (dv 6) de_str) (dw_and1 (dt_cmp (op_neX hr W.vol) sn_ne (dv 4) de_str)))) (dss_one (ds_par (ps_par (i := 3) (j := 4) (by rfl) sc__law_pile_step.nd rfl rfl (by decide) rfl rfl (da_cons (de_op op_addD sn_add (dv 3) (de_ix ix_all sn_ix (dv 4) (de_un un_neg sn_neg de_int) (fun _ _ => rfl))) (da_cons (de_slice (dv 4) do_none (do_some (de_un un_neg sn_neg de_int))) da_nil)) (by rfl)))) dss_nil)))))))))
      (dss_one (ds_ret (de_tup (da_cons (dv 5) (da_cons (dv 3) (da_cons (dv 4) da_nil)))))))))), fun ds Kk KE h => ?_⟩)
  obtain ⟨xs, n, l, r, rfl, st, h⟩ := h
  have room := st.room
  unfold roomy at room
  have c1 := cutS_le l none (some (-1))
  have c2 := cutS_le r none (some (-1))
  (try simp only [DL.iteB_true, DL.iteB_false, DL.sSeq, DL.sNext, DL.sRet, DL.sRetN, DL.sIf, DL.sAsg, DL.sNew, DL.sDrop, DL.sRel, DL.sApp, DL.sFor, DL.sBreak, DL.sCont, DL.sAsgT, DL.sPar, DL.sPar3, DL.sPar3DFD, DL.sParFD, DL.sParDF, DL.sExt, DL.sPut, DL.sAug, DL.sCut, DL.sRaise, DL.sWhile, DL.fVar, DL.fC, DL.fOb, DL.fGts, DL.f2, DL.f1, DL.fCall, DL.fB, DL.fTru, DL.fAnd, DL.fOr, DL.fNot, DL.fIf, DL.tAndD, DL.tOrD, DL.tNotD, DL.fNil, DL.fCons, DL.fTup, DL.fLst, DL.fDnew, DL.fNew, DL.fIt, DL.fRng1, DL.fRng2, DL.fLc, DL.fAG, DL.fFn, DL.fFnX, DL.fFnK, DL.fSl, DL.fNone, DL.fPart, DL.fList, DL.fM0, DL.fM1, DL.tYesD, DL.gdN, DL.gdT_t, DL.gdNil_n, DL.gdCons_c, DL.op2, DL.op1, DL.opC, DL.c1, DL.isiP, DL.typeO, DL.tyIs, DL.inG, DL.isND, DL.rel, DL.wipeD, DL.le_s0, DL.le_s1, DL.le_s2, DL.le_s3, DL.le_s4, DL.le_s5, DL.le_s6, DL.le_s7, DL.le_s8, DL.le_s9, DL.le_s10, DL.le_s11, DL.le_s12, DL.le_s13, DL.le_s14, DL.le_s15, DL.le_s16, DL.le_s17, DL.le_s18, DL.le_s19, DL.le_s20, DL.le_s21, DL.le_s22, DL.le_s23, DL.le_s24, DL.le_s25, DL.le_s26, DL.le_s27, DL.le_s28, DL.le_s29, DL.le_s30, DL.le_s31, DL.le_s32, DL.le_s33, DL.le_s34, DL.le_s35, DL.le_s36, DL.le_s37, DL.le_s38, DL.le_s39, DL.le_s40, DL.le_s41, DL.le_s42, DL.le_s43, DL.le_s44, DL.le_s45, DL.le_s46, DL.le_s47, DL.le_s48, DL.le_s49, DL.le_s50, DL.le_s51, DL.le_s52, DL.le_s53, DL.le_s54, DL.le_s55, DL.le_s56, DL.le_s57, DL.le_s58, DL.le_s59, DL.le_s60, DL.le_s61, DL.le_s62, DL.le_s63, DL.le_s64, DL.start0, DL.asDat, DL.lend, DL.noOwn, DL.DV.isOwn, DL.pd_dat, DL.pd_own, DL.ocpd_lst, DL.ocpd_dk, DL.itemsOf, List.map_cons, List.map_nil, List.append_nil, List.cons_append, List.nil_append, List.length_cons, List.length_nil, List.replicate_succ, List.replicate_zero, List.getElem?_cons_zero, List.getElem?_cons_succ, List.set_cons_zero, List.set_cons_succ, Nat.reduceSub, Nat.reduceAdd, Nat.sub_self, Nat.zero_add, Option.some.injEq, DL.DV.dat.injEq, PyData.bool.injEq, PyData.int.injEq, PyData.str.injEq, PyData.tuple.injEq, PyData.list.injEq, DL.DV.ob.injEq, V.ty.injEq, DL.DV.own.injEq, DL.OC.lst.injEq, List.cons.injEq, Option.map_some, exists_eq_left', exists_eq_left, exists_eq_right, exists_eq_right', exists_and_left, and_true, true_and, Bool.not_true, Bool.not_false, Bool.and_true, Bool.true_and, true_or, Bool.not_eq_true', Bool.false_eq_true, if_true, if_false, reduceIte, reduceCtorEq])
  (try simp only [DL.negP_i, DL.le_s0, DL.le_s1, DL.le_s2, DL.le_s3, DL.le_s4, DL.le_s5, DL.le_s6, DL.le_s7, DL.le_s8, DL.le_s9, DL.le_s10, DL.le_s11, DL.le_s12, DL.le_s13, DL.le_s14, DL.le_s15, DL.le_s16, DL.le_s17, DL.le_s18, DL.le_s19, DL.le_s20, DL.le_s21, DL.le_s22, DL.le_s23, DL.le_s24, DL.le_s25, DL.le_s26, DL.le_s27, DL.le_s28, DL.le_s29, DL.le_s30, DL.le_s31, DL.le_s32, DL.le_s33, DL.le_s34, DL.le_s35, DL.le_s36, DL.le_s37, DL.le_s38, DL.le_s39, DL.le_s40, DL.le_s41, DL.le_s42, DL.le_s43, DL.le_s44, DL.le_s45, DL.le_s46, DL.le_s47, DL.le_s48, DL.le_s49, DL.le_s50, DL.le_s51, DL.le_s52, DL.le_s53, DL.le_s54, DL.le_s55, DL.le_s56, DL.le_s57, DL.le_s58, DL.le_s59, DL.le_s60, DL.le_s61, DL.le_s62, DL.le_s63, DL.le_s64, DL.iteB_true, DL.iteB_false, DL.lenP_t, DL.lenP_l, DL.lenP_s, DL.eqP, DL.eqOk_int, DL.eqOk_str, DL.eqOk_emp, DL.eqOk_empL, DL.eqv_emp1, DL.eqv_empL1, DL.eqv_ii, DL.eqv_ss, DL.ixP_t, DL.ixP_l, DL.ixP_s, DL.slP_t, DL.slP_l, DL.slP_s, DL.intcP_i, DL.intcP_b, DL.intcP_s, DL.tupcP_l, DL.tupcP_t, DL.atI_z, DL.atI_o, DL.atI_t, DL.int0P_ii, DL.intP_ii, DL.addP_ii, DL.addP_ss, DL.addP_tt, DL.addP_ll, DL.isTup_t, DL.reprP, Bool.false_eq_true, if_true, if_false, reduceIte, Option.some.injEq, PyData.bool.injEq, exists_eq_left', exists_eq_left, exists_eq_right, exists_eq_right', true_and, and_true, Bool.true_eq_false, Bool.not_true, Bool.not_false, false_and, and_false, exists_and_left, reduceCtorEq, DL.DV.gts.injEq, exists_const])
  cases hn : n == (xs.length : Int) with
  | true =>
    unfold nextD at h
    rw [hn] at h
    exact h
  | false =>
    have hlt : n.toNat < xs.length := by
      have := beq_eq_false_iff_ne.mp hn
      have := st.n1
      have := st.n0
      omega
    obtain ⟨rs, to, z, e1, e2, t0, t1, hz, e3⟩ := mach_at st.m hlt (letS_lt st.wl)
    unfold nextD at h
    rw [hn, e3] at h
    have en : n = (n.toNat : Int) := by
      have := st.n0
      omega
    have at1 : atI xs n = some (.tuple rs) := by
      rw [en]
      exact atI_nat e1
    have at2 : atI rs ((letS l : Nat) : Int) = some (.tuple [.int to, .str z]) := atI_nat e2
    simp only [iteB_true, iteB_false]
    refine ⟨_, at1, ?_⟩
    simp only [deedL, List.mem_cons, List.not_mem_nil, or_false] at hz
    dsimp only [cond_false] at h
    have hR : ∀ (Q : Prop), (r = "" → Q) → (r ≠ "" → (∃ ys b, r = ⟨(ys ++ [b]).toArray⟩) → Q) → Q := fun Q k1 k2 => by
      by_cases e : r = ""
      · exact k1 e
      · exact k2 e (str_snoc e)
    cases hl : l == "" with
    | true =>
      have el : letS l = 0 := by unfold letS; rw [hl]; rfl
      rw [el] at at2
      obtain rfl : l = "" := eq_of_beq hl
      simp only [iteB_true, iteB_false]
      (try simp only [DL.negP_i, DL.le_s0, DL.le_s1, DL.le_s2, DL.le_s3, DL.le_s4, DL.le_s5, DL.le_s6, DL.le_s7, DL.le_s8, DL.le_s9, DL.le_s10, DL.le_s11, DL.le_s12, DL.le_s13, DL.le_s14, DL.le_s15, DL.le_s16, DL.le_s17, DL.le_s18, DL.le_s19, DL.le_s20, DL.le_s21, DL.le_s22, DL.le_s23, DL.le_s24, DL.le_s25, DL.le_s26, DL.le_s27, DL.le_s28, DL.le_s29, DL.le_s30, DL.le_s31, DL.le_s32, DL.le_s33, DL.le_s34, DL.le_s35, DL.le_s36, DL.le_s37, DL.le_s38, DL.le_s39, DL.le_s40, DL.le_s41, DL.le_s42, DL.le_s43, DL.le_s44, DL.le_s45, DL.le_s46, DL.le_s47, DL.le_s48, DL.le_s49, DL.le_s50, DL.le_s51, DL.le_s52, DL.le_s53, DL.le_s54, DL.le_s55, DL.le_s56, DL.le_s57, DL.le_s58, DL.le_s59, DL.le_s60, DL.le_s61, DL.le_s62, DL.le_s63, DL.le_s64, DL.iteB_true, DL.iteB_false, DL.lenP_t, DL.lenP_l, DL.lenP_s, DL.eqP, DL.eqOk_int, DL.eqOk_str, DL.eqOk_emp, DL.eqOk_empL, DL.eqv_emp1, DL.eqv_empL1, DL.eqv_ii, DL.eqv_ss, DL.ixP_t, DL.ixP_l, DL.ixP_s, DL.slP_t, DL.slP_l, DL.slP_s, DL.intcP_i, DL.intcP_b, DL.intcP_s, DL.tupcP_l, DL.tupcP_t, DL.atI_z, DL.atI_o, DL.atI_t, DL.int0P_ii, DL.intP_ii, DL.addP_ii, DL.addP_ss, DL.addP_tt, DL.addP_ll, DL.isTup_t, DL.reprP, Bool.false_eq_true, if_true, if_false, reduceIte, Option.some.injEq, PyData.bool.injEq, exists_eq_left', exists_eq_left, exists_eq_right, exists_eq_right', true_and, and_true, Bool.true_eq_false, Bool.not_true, Bool.not_false, false_and, and_false, exists_and_left, reduceCtorEq, DL.DV.gts.injEq, exists_const])
      refine ⟨_, at2, ?_⟩
      rcases hz with rfl | rfl | rfl | rfl | rfl | rfl
      all_goals
        (try simp only [DL.iteB_true, DL.iteB_false, DL.sSeq, DL.sNext, DL.sRet, DL.sRetN, DL.sIf, DL.sAsg, DL.sNew, DL.sDrop, DL.sRel, DL.sApp, DL.sFor, DL.sBreak, DL.sCont, DL.sAsgT, DL.sPar, DL.sPar3, DL.sPar3DFD, DL.sParFD, DL.sParDF, DL.sExt, DL.sPut, DL.sAug, DL.sCut, DL.sRaise, DL.sWhile, DL.fVar, DL.fC, DL.fOb, DL.fGts, DL.f2, DL.f1, DL.fCall, DL.fB, DL.fTru, DL.fAnd, DL.fOr, DL.fNot, DL.fIf, DL.tAndD, DL.tOrD, DL.tNotD, DL.fNil, DL.fCons, DL.fTup, DL.fLst, DL.fDnew, DL.fNew, DL.fIt, DL.fRng1, DL.fRng2, DL.fLc, DL.fAG, DL.fFn, DL.fFnX, DL.fFnK, DL.fSl, DL.fNone, DL.fPart, DL.fList, DL.fM0, DL.fM1, DL.tYesD, DL.gdN, DL.gdT_t, DL.gdNil_n, DL.gdCons_c, DL.op2, DL.op1, DL.opC, DL.c1, DL.isiP, DL.typeO, DL.tyIs, DL.inG, DL.isND, DL.rel, DL.wipeD, DL.le_s0, DL.le_s1, DL.le_s2, DL.le_s3, DL.le_s4, DL.le_s5, DL.le_s6, DL.le_s7, DL.le_s8, DL.le_s9, DL.le_s10, DL.le_s11, DL.le_s12, DL.le_s13, DL.le_s14, DL.le_s15, DL.le_s16, DL.le_s17, DL.le_s18, DL.le_s19, DL.le_s20, DL.le_s21, DL.le_s22, DL.le_s23, DL.le_s24, DL.le_s25, DL.le_s26, DL.le_s27, DL.le_s28, DL.le_s29, DL.le_s30, DL.le_s31, DL.le_s32, DL.le_s33, DL.le_s34, DL.le_s35, DL.le_s36, DL.le_s37, DL.le_s38, DL.le_s39, DL.le_s40, DL.le_s41, DL.le_s42, DL.le_s43, DL.le_s44, DL.le_s45, DL.le_s46, DL.le_s47, DL.le_s48, DL.le_s49, DL.le_s50, DL.le_s51, DL.le_s52, DL.le_s53, DL.le_s54, DL.le_s55, DL.le_s56, DL.le_s57, DL.le_s58, DL.le_s59, DL.le_s60, DL.le_s61, DL.le_s62, DL.le_s63, DL.le_s64, DL.start0, DL.asDat, DL.lend, DL.noOwn, DL.DV.isOwn, DL.pd_dat, DL.pd_own, DL.ocpd_lst, DL.ocpd_dk, DL.itemsOf, List.map_cons, List.map_nil, List.append_nil, List.cons_append, List.nil_append, List.length_cons, List.length_nil, List.replicate_succ, List.replicate_zero, List.getElem?_cons_zero, List.getElem?_cons_succ, List.set_cons_zero, List.set_cons_succ, Nat.reduceSub, Nat.reduceAdd, Nat.sub_self, Nat.zero_add, Option.some.injEq, DL.DV.dat.injEq, PyData.bool.injEq, PyData.int.injEq, PyData.str.injEq, PyData.tuple.injEq, PyData.list.injEq, DL.DV.ob.injEq, V.ty.injEq, DL.DV.own.injEq, DL.OC.lst.injEq, List.cons.injEq, Option.map_some, exists_eq_left', exists_eq_left, exists_eq_right, exists_eq_right', exists_and_left, and_true, true_and, Bool.not_true, Bool.not_false, Bool.and_true, Bool.true_and, true_or, Bool.not_eq_true', Bool.false_eq_true, if_true, if_false, reduceIte, reduceCtorEq])
        (try simp only [DL.negP_i, DL.le_s0, DL.le_s1, DL.le_s2, DL.le_s3, DL.le_s4, DL.le_s5, DL.le_s6, DL.le_s7, DL.le_s8, DL.le_s9, DL.le_s10, DL.le_s11, DL.le_s12, DL.le_s13, DL.le_s14, DL.le_s15, DL.le_s16, DL.le_s17, DL.le_s18, DL.le_s19, DL.le_s20, DL.le_s21, DL.le_s22, DL.le_s23, DL.le_s24, DL.le_s25, DL.le_s26, DL.le_s27, DL.le_s28, DL.le_s29, DL.le_s30, DL.le_s31, DL.le_s32, DL.le_s33, DL.le_s34, DL.le_s35, DL.le_s36, DL.le_s37, DL.le_s38, DL.le_s39, DL.le_s40, DL.le_s41, DL.le_s42, DL.le_s43, DL.le_s44, DL.le_s45, DL.le_s46, DL.le_s47, DL.le_s48, DL.le_s49, DL.le_s50, DL.le_s51, DL.le_s52, DL.le_s53, DL.le_s54, DL.le_s55, DL.le_s56, DL.le_s57, DL.le_s58, DL.le_s59, DL.le_s60, DL.le_s61, DL.le_s62, DL.le_s63, DL.le_s64, DL.iteB_true, DL.iteB_false, DL.lenP_t, DL.lenP_l, DL.lenP_s, DL.eqP, DL.eqOk_int, DL.eqOk_str, DL.eqOk_emp, DL.eqOk_empL, DL.eqv_emp1, DL.eqv_empL1, DL.eqv_ii, DL.eqv_ss, DL.ixP_t, DL.ixP_l, DL.ixP_s, DL.slP_t, DL.slP_l, DL.slP_s, DL.intcP_i, DL.intcP_b, DL.intcP_s, DL.tupcP_l, DL.tupcP_t, DL.atI_z, DL.atI_o, DL.atI_t, DL.int0P_ii, DL.intP_ii, DL.addP_ii, DL.addP_ss, DL.addP_tt, DL.addP_ll, DL.isTup_t, DL.reprP, Bool.false_eq_true, if_true, if_false, reduceIte, Option.some.injEq, PyData.bool.injEq, exists_eq_left', exists_eq_left, exists_eq_right, exists_eq_right', true_and, and_true, Bool.true_eq_false, Bool.not_true, Bool.not_false, false_and, and_false, exists_and_left, reduceCtorEq, DL.DV.gts.injEq, exists_const])
        (try simp only [q_stay_stay, q_stay_put0, q_stay_put1, q_stay_cut, q_stay_over, q_stay_back, q_put0_stay, q_put0_put0, q_put0_put1, q_put0_cut, q_put0_over, q_put0_back, q_put1_stay, q_put1_put0, q_put1_put1, q_put1_cut, q_put1_over, q_put1_back, q_cut_stay, q_cut_put0, q_cut_put1, q_cut_cut, q_cut_over, q_cut_back, q_over_stay, q_over_put0, q_over_put1, q_over_cut, q_over_over, q_over_back, q_back_stay, q_back_put0, q_back_put1, q_back_cut, q_back_over, q_back_back, DL.iteB_true, DL.iteB_false, Bool.true_and, Bool.false_and])
        try (try simp only [DL.negP_i, DL.le_s0, DL.le_s1, DL.le_s2, DL.le_s3, DL.le_s4, DL.le_s5, DL.le_s6, DL.le_s7, DL.le_s8, DL.le_s9, DL.le_s10, DL.le_s11, DL.le_s12, DL.le_s13, DL.le_s14, DL.le_s15, DL.le_s16, DL.le_s17, DL.le_s18, DL.le_s19, DL.le_s20, DL.le_s21, DL.le_s22, DL.le_s23, DL.le_s24, DL.le_s25, DL.le_s26, DL.le_s27, DL.le_s28, DL.le_s29, DL.le_s30, DL.le_s31, DL.le_s32, DL.le_s33, DL.le_s34, DL.le_s35, DL.le_s36, DL.le_s37, DL.le_s38, DL.le_s39, DL.le_s40, DL.le_s41, DL.le_s42, DL.le_s43, DL.le_s44, DL.le_s45, DL.le_s46, DL.le_s47, DL.le_s48, DL.le_s49, DL.le_s50, DL.le_s51, DL.le_s52, DL.le_s53, DL.le_s54, DL.le_s55, DL.le_s56, DL.le_s57, DL.le_s58, DL.le_s59, DL.le_s60, DL.le_s61, DL.le_s62, DL.le_s63, DL.le_s64, DL.iteB_true, DL.iteB_false, DL.lenP_t, DL.lenP_l, DL.lenP_s, DL.eqP, DL.eqOk_int, DL.eqOk_str, DL.eqOk_emp, DL.eqOk_empL, DL.eqv_emp1, DL.eqv_empL1, DL.eqv_ii, DL.eqv_ss, DL.ixP_t, DL.ixP_l, DL.ixP_s, DL.slP_t, DL.slP_l, DL.slP_s, DL.intcP_i, DL.intcP_b, DL.intcP_s, DL.tupcP_l, DL.tupcP_t, DL.atI_z, DL.atI_o, DL.atI_t, DL.int0P_ii, DL.intP_ii, DL.addP_ii, DL.addP_ss, DL.addP_tt, DL.addP_ll, DL.isTup_t, DL.reprP, Bool.false_eq_true, if_true, if_false, reduceIte, Option.some.injEq, PyData.bool.injEq, exists_eq_left', exists_eq_left, exists_eq_right, exists_eq_right', true_and, and_true, Bool.true_eq_false, Bool.not_true, Bool.not_false, false_and, and_false, exists_and_left, reduceCtorEq, DL.DV.gts.injEq, exists_const])
      · rw [pa_stay] at h
        exact h
      · rw [pa_put0] at h
        exact ⟨by show 0 + 1 ≤ sizeLine; decide, h⟩
      · rw [pa_put1] at h
        exact ⟨by show 0 + 1 ≤ sizeLine; decide, h⟩
      · rw [pa_cut] at h
        exact ⟨_, rfl, by decide, h⟩
      · rw [pa_over] at h
        have h : Kk (.tuple [.int to, .str "", .str r]) := by
          have e : initS "" = "" := initS_nil
          have e2 : r ++ lastS "" = r := by rw [lastS_nil, app_nil]
          rw [e, e2] at h
          exact h
        exact h
      · rw [pa_back] at h
        refine hR _ (fun e => ?_) (fun e ⟨ys, b, hb⟩ => ?_)
        · subst e
          exact h
        · have er : (r == "") = false := beq_eq_false_iff_ne.mpr e
          have hrt : atI r.cps.toList (-1) = some b := by rw [hb]; exact last_atI ys b
          have hrl : lastS r = ⟨#[b]⟩ := by rw [hb]; exact lastS_snoc ys b
          rw [hrl] at h
          have := len1 b
          have z0 : ("" : Str).length = 0 := rfl
          rw [er]
          simp only [iteB_true, iteB_false, Bool.not_false]
          exact ⟨by omega, b, hrt, by omega, _, rfl, by omega, _, _, ⟨rfl, rfl⟩, rfl, rfl, _, rfl, by show 3 ≤ sizeLine; decide, h⟩
    | false =>
      have hne := beq_eq_false_iff_ne.mp hl
      simp only [iteB_true, iteB_false, Bool.not_false, Bool.not_true]
      obtain ⟨cs, c, hcs⟩ := str_snoc hne
      have el : letS l = c - 47 := by
        unfold letS
        rw [hl, hcs, lastC_snoc]
        rfl
      rw [el] at at2
      have hat : atI l.cps.toList (-1) = some c := by rw [hcs]; exact last_atI cs c
      have hls : lastS l = ⟨#[c]⟩ := by rw [hcs]; exact lastS_snoc cs c
      have hc : c = 48 ∨ c = 49 := by
        have := st.wl
        rw [hcs] at this
        exact isW_last this
      refine ⟨by omega, c, hat, by show 1 ≤ 640; decide, ?_⟩
      have key : ∃ j : Int, PySem.intText? ⟨#[c]⟩ = some j ∧ atI rs (1 + j) = some (.tuple [.int to, .str z]) := by
        rcases hc with rfl | rfl
        · exact ⟨0, it48, at2⟩
        · exact ⟨1, it49, at2⟩
      obtain ⟨j, hj, hat2⟩ := key
      refine ⟨j, hj, ?_⟩
      (try simp only [DL.negP_i, DL.le_s0, DL.le_s1, DL.le_s2, DL.le_s3, DL.le_s4, DL.le_s5, DL.le_s6, DL.le_s7, DL.le_s8, DL.le_s9, DL.le_s10, DL.le_s11, DL.le_s12, DL.le_s13, DL.le_s14, DL.le_s15, DL.le_s16, DL.le_s17, DL.le_s18, DL.le_s19, DL.le_s20, DL.le_s21, DL.le_s22, DL.le_s23, DL.le_s24, DL.le_s25, DL.le_s26, DL.le_s27, DL.le_s28, DL.le_s29, DL.le_s30, DL.le_s31, DL.le_s32, DL.le_s33, DL.le_s34, DL.le_s35, DL.le_s36, DL.le_s37, DL.le_s38, DL.le_s39, DL.le_s40, DL.le_s41, DL.le_s42, DL.le_s43, DL.le_s44, DL.le_s45, DL.le_s46, DL.le_s47, DL.le_s48, DL.le_s49, DL.le_s50, DL.le_s51, DL.le_s52, DL.le_s53, DL.le_s54, DL.le_s55, DL.le_s56, DL.le_s57, DL.le_s58, DL.le_s59, DL.le_s60, DL.le_s61, DL.le_s62, DL.le_s63, DL.le_s64, DL.iteB_true, DL.iteB_false, DL.lenP_t, DL.lenP_l, DL.lenP_s, DL.eqP, DL.eqOk_int, DL.eqOk_str, DL.eqOk_emp, DL.eqOk_empL, DL.eqv_emp1, DL.eqv_empL1, DL.eqv_ii, DL.eqv_ss, DL.ixP_t, DL.ixP_l, DL.ixP_s, DL.slP_t, DL.slP_l, DL.slP_s, DL.intcP_i, DL.intcP_b, DL.intcP_s, DL.tupcP_l, DL.tupcP_t, DL.atI_z, DL.atI_o, DL.atI_t, DL.int0P_ii, DL.intP_ii, DL.addP_ii, DL.addP_ss, DL.addP_tt, DL.addP_ll, DL.isTup_t, DL.reprP, Bool.false_eq_true, if_true, if_false, reduceIte, Option.some.injEq, PyData.bool.injEq, exists_eq_left', exists_eq_left, exists_eq_right, exists_eq_right', true_and, and_true, Bool.true_eq_false, Bool.not_true, Bool.not_false, false_and, and_false, exists_and_left, reduceCtorEq, DL.DV.gts.injEq, exists_const])
      refine ⟨_, hat2, ?_⟩
      rcases hz with rfl | rfl | rfl | rfl | rfl | rfl
      all_goals
        (try simp only [DL.iteB_true, DL.iteB_false, DL.sSeq, DL.sNext, DL.sRet, DL.sRetN, DL.sIf, DL.sAsg, DL.sNew, DL.sDrop, DL.sRel, DL.sApp, DL.sFor, DL.sBreak, DL.sCont, DL.sAsgT, DL.sPar, DL.sPar3, DL.sPar3DFD, DL.sParFD, DL.sParDF, DL.sExt, DL.sPut, DL.sAug, DL.sCut, DL.sRaise, DL.sWhile, DL.fVar, DL.fC, DL.fOb, DL.fGts, DL.f2, DL.f1, DL.fCall, DL.fB, DL.fTru, DL.fAnd, DL.fOr, DL.fNot, DL.fIf, DL.tAndD, DL.tOrD, DL.tNotD, DL.fNil, DL.fCons, DL.fTup, DL.fLst, DL.fDnew, DL.fNew, DL.fIt, DL.fRng1, DL.fRng2, DL.fLc, DL.fAG, DL.fFn, DL.fFnX, DL.fFnK, DL.fSl, DL.fNone, DL.fPart, DL.fList, DL.fM0, DL.fM1, DL.tYesD, DL.gdN, DL.gdT_t, DL.gdNil_n, DL.gdCons_c, DL.op2, DL.op1, DL.opC, DL.c1, DL.isiP, DL.typeO, DL.tyIs, DL.inG, DL.isND, DL.rel, DL.wipeD, DL.le_s0, DL.le_s1, DL.le_s2, DL.le_s3, DL.le_s4, DL.le_s5, DL.le_s6, DL.le_s7, DL.le_s8, DL.le_s9, DL.le_s10, DL.le_s11, DL.le_s12, DL.le_s13, DL.le_s14, DL.le_s15, DL.le_s16, DL.le_s17, DL.le_s18, DL.le_s19, DL.le_s20, DL.le_s21, DL.le_s22, DL.le_s23, DL.le_s24, DL.le_s25, DL.le_s26, DL.le_s27, DL.le_s28, DL.le_s29, DL.le_s30, DL.le_s31, DL.le_s32, DL.le_s33, DL.le_s34, DL.le_s35, DL.le_s36, DL.le_s37, DL.le_s38, DL.le_s39, DL.le_s40, DL.le_s41, DL.le_s42, DL.le_s43, DL.le_s44, DL.le_s45, DL.le_s46, DL.le_s47, DL.le_s48, DL.le_s49, DL.le_s50, DL.le_s51, DL.le_s52, DL.le_s53, DL.le_s54, DL.le_s55, DL.le_s56, DL.le_s57, DL.le_s58, DL.le_s59, DL.le_s60, DL.le_s61, DL.le_s62, DL.le_s63, DL.le_s64, DL.start0, DL.asDat, DL.lend, DL.noOwn, DL.DV.isOwn, DL.pd_dat, DL.pd_own, DL.ocpd_lst, DL.ocpd_dk, DL.itemsOf, List.map_cons, List.map_nil, List.append_nil, List.cons_append, List.nil_append, List.length_cons, List.length_nil, List.replicate_succ, List.replicate_zero, List.getElem?_cons_zero, List.getElem?_cons_succ, List.set_cons_zero, List.set_cons_succ, Nat.reduceSub, Nat.reduceAdd, Nat.sub_self, Nat.zero_add, Option.some.injEq, DL.DV.dat.injEq, PyData.bool.injEq, PyData.int.injEq, PyData.str.injEq, PyData.tuple.injEq, PyData.list.injEq, DL.DV.ob.injEq, V.ty.injEq, DL.DV.own.injEq, DL.OC.lst.injEq, List.cons.injEq, Option.map_some, exists_eq_left', exists_eq_left, exists_eq_right, exists_eq_right', exists_and_left, and_true, true_and, Bool.not_true, Bool.not_false, Bool.and_true, Bool.true_and, true_or, Bool.not_eq_true', Bool.false_eq_true, if_true, if_false, reduceIte, reduceCtorEq])
        (try simp only [DL.negP_i, DL.le_s0, DL.le_s1, DL.le_s2, DL.le_s3, DL.le_s4, DL.le_s5, DL.le_s6, DL.le_s7, DL.le_s8, DL.le_s9, DL.le_s10, DL.le_s11, DL.le_s12, DL.le_s13, DL.le_s14, DL.le_s15, DL.le_s16, DL.le_s17, DL.le_s18, DL.le_s19, DL.le_s20, DL.le_s21, DL.le_s22, DL.le_s23, DL.le_s24, DL.le_s25, DL.le_s26, DL.le_s27, DL.le_s28, DL.le_s29, DL.le_s30, DL.le_s31, DL.le_s32, DL.le_s33, DL.le_s34, DL.le_s35, DL.le_s36, DL.le_s37, DL.le_s38, DL.le_s39, DL.le_s40, DL.le_s41, DL.le_s42, DL.le_s43, DL.le_s44, DL.le_s45, DL.le_s46, DL.le_s47, DL.le_s48, DL.le_s49, DL.le_s50, DL.le_s51, DL.le_s52, DL.le_s53, DL.le_s54, DL.le_s55, DL.le_s56, DL.le_s57, DL.le_s58, DL.le_s59, DL.le_s60, DL.le_s61, DL.le_s62, DL.le_s63, DL.le_s64, DL.iteB_true, DL.iteB_false, DL.lenP_t, DL.lenP_l, DL.lenP_s, DL.eqP, DL.eqOk_int, DL.eqOk_str, DL.eqOk_emp, DL.eqOk_empL, DL.eqv_emp1, DL.eqv_empL1, DL.eqv_ii, DL.eqv_ss, DL.ixP_t, DL.ixP_l, DL.ixP_s, DL.slP_t, DL.slP_l, DL.slP_s, DL.intcP_i, DL.intcP_b, DL.intcP_s, DL.tupcP_l, DL.tupcP_t, DL.atI_z, DL.atI_o, DL.atI_t, DL.int0P_ii, DL.intP_ii, DL.addP_ii, DL.addP_ss, DL.addP_tt, DL.addP_ll, DL.isTup_t, DL.reprP, Bool.false_eq_true, if_true, if_false, reduceIte, Option.some.injEq, PyData.bool.injEq, exists_eq_left', exists_eq_left, exists_eq_right, exists_eq_right', true_and, and_true, Bool.true_eq_false, Bool.not_true, Bool.not_false, false_and, and_false, exists_and_left, reduceCtorEq, DL.DV.gts.injEq, exists_const])
        (try simp only [q_stay_stay, q_stay_put0, q_stay_put1, q_stay_cut, q_stay_over, q_stay_back, q_put0_stay, q_put0_put0, q_put0_put1, q_put0_cut, q_put0_over, q_put0_back, q_put1_stay, q_put1_put0, q_put1_put1, q_put1_cut, q_put1_over, q_put1_back, q_cut_stay, q_cut_put0, q_cut_put1, q_cut_cut, q_cut_over, q_cut_back, q_over_stay, q_over_put0, q_over_put1, q_over_cut, q_over_over, q_over_back, q_back_stay, q_back_put0, q_back_put1, q_back_cut, q_back_over, q_back_back, DL.iteB_true, DL.iteB_false, Bool.true_and, Bool.false_and])
        try (try simp only [DL.negP_i, DL.le_s0, DL.le_s1, DL.le_s2, DL.le_s3, DL.le_s4, DL.le_s5, DL.le_s6, DL.le_s7, DL.le_s8, DL.le_s9, DL.le_s10, DL.le_s11, DL.le_s12, DL.le_s13, DL.le_s14, DL.le_s15, DL.le_s16, DL.le_s17, DL.le_s18, DL.le_s19, DL.le_s20, DL.le_s21, DL.le_s22, DL.le_s23, DL.le_s24, DL.le_s25, DL.le_s26, DL.le_s27, DL.le_s28, DL.le_s29, DL.le_s30, DL.le_s31, DL.le_s32, DL.le_s33, DL.le_s34, DL.le_s35, DL.le_s36, DL.le_s37, DL.le_s38, DL.le_s39, DL.le_s40, DL.le_s41, DL.le_s42, DL.le_s43, DL.le_s44, DL.le_s45, DL.le_s46, DL.le_s47, DL.le_s48, DL.le_s49, DL.le_s50, DL.le_s51, DL.le_s52, DL.le_s53, DL.le_s54, DL.le_s55, DL.le_s56, DL.le_s57, DL.le_s58, DL.le_s59, DL.le_s60, DL.le_s61, DL.le_s62, DL.le_s63, DL.le_s64, DL.iteB_true, DL.iteB_false, DL.lenP_t, DL.lenP_l, DL.lenP_s, DL.eqP, DL.eqOk_int, DL.eqOk_str, DL.eqOk_emp, DL.eqOk_empL, DL.eqv_emp1, DL.eqv_empL1, DL.eqv_ii, DL.eqv_ss, DL.ixP_t, DL.ixP_l, DL.ixP_s, DL.slP_t, DL.slP_l, DL.slP_s, DL.intcP_i, DL.intcP_b, DL.intcP_s, DL.tupcP_l, DL.tupcP_t, DL.atI_z, DL.atI_o, DL.atI_t, DL.int0P_ii, DL.intP_ii, DL.addP_ii, DL.addP_ss, DL.addP_tt, DL.addP_ll, DL.isTup_t, DL.reprP, Bool.false_eq_true, if_true, if_false, reduceIte, Option.some.injEq, PyData.bool.injEq, exists_eq_left', exists_eq_left, exists_eq_right, exists_eq_right', true_and, and_true, Bool.true_eq_false, Bool.not_true, Bool.not_false, false_and, and_false, exists_and_left, reduceCtorEq, DL.DV.gts.injEq, exists_const])
      · rw [pa_stay] at h
        exact h
      · rw [pa_put0] at h
        exact ⟨by show _ + 1 ≤ sizeLine; omega, h⟩
      · rw [pa_put1] at h
        exact ⟨by show _ + 1 ≤ sizeLine; omega, h⟩
      · rw [pa_cut] at h
        exact ⟨_, rfl, by omega, h⟩
      · rw [pa_over, hls] at h
        have := len1 c
        rw [hl]
        simp only [iteB_true, iteB_false, Bool.not_false]
        exact ⟨_, rfl, by omega, by omega, c, hat, by omega, _, _, ⟨rfl, rfl⟩, rfl, rfl, _, rfl, by show 3 ≤ sizeLine; decide, h⟩
      · rw [pa_back] at h
        refine hR _ (fun e => ?_) (fun e ⟨ys, b, hb⟩ => ?_)
        · subst e
          have h : Kk (.tuple [.int to, .str l, .str ""]) := by
            have e : initS "" = "" := initS_nil
            have e2 : l ++ lastS "" = l := by rw [lastS_nil, app_nil]
            rw [e, e2] at h
            exact h
          exact h
        · have er : (r == "") = false := beq_eq_false_iff_ne.mpr e
          have hrt : atI r.cps.toList (-1) = some b := by rw [hb]; exact last_atI ys b
          have hrl : lastS r = ⟨#[b]⟩ := by rw [hb]; exact lastS_snoc ys b
          rw [hrl] at h
          have := len1 b
          rw [er]
          simp only [iteB_true, iteB_false, Bool.not_false]
          exact ⟨by omega, b, hrt, by omega, _, rfl, by omega, _, _, ⟨rfl, rfl⟩, rfl, rfl, _, rfl, by show 3 ≤ sizeLine; decide, h⟩
end
end PE


set_option Elab.async false
set_option linter.all false
set_option maxRecDepth 100000
set_option maxHeartbeats 1000000
/-! Pile machines: drawn words, drawn machines. -/
namespace PF
open PySem PySem.Spec PyProof.Rows L2 KT KG KM KX KY KE0 KQ LK GxR DL KA DW PA PB PC PD QF WT
/-! ### one text for both -/
theorem rngD_len (lo : Int) (n : Nat) : (rngD lo n).length = n := by simp [rngD]
def isBit (z : Str) : Prop := z = "0" ∨ z = "1"
theorem all2_bits {as es : List PyData} (h : All2 (fun _ e => e = .str "0" ∨ e = .str "1") as es) : ∃ zs : List Str, es = zs.map PyData.str ∧ (∀ z ∈ zs, isBit z) ∧ zs.length = as.length := by
  induction h with
  | nil => exact ⟨[], rfl, (fun z hz => by cases hz), rfl⟩
  | cons r _ ih =>
    obtain ⟨zs, rfl, h1, h2⟩ := ih
    rcases r with rfl | rfl
    · exact ⟨"0" :: zs, rfl, (fun z hz => by
        rcases List.mem_cons.mp hz with rfl | hz
        · exact .inl rfl
        · exact h1 z hz), by simp [h2]⟩
    · exact ⟨"1" :: zs, rfl, (fun z hz => by
        rcases List.mem_cons.mp hz with rfl | hz
        · exact .inr rfl
        · exact h1 z hz), by simp [h2]⟩
theorem bits_sum : ∀ {zs : List Str}, (∀ z ∈ zs, isBit z) → (zs.map (·.length)).sum = zs.length
  | [], _ => rfl
  | z :: r, h => by
    have := bits_sum (zs := r) fun z hz => h z (List.mem_cons_of_mem _ hz)
    rcases h z List.mem_cons_self with rfl | rfl
    · simp only [List.map_cons, List.sum_cons, List.length_cons, this]
      exact Nat.add_comm 1 _
    · simp only [List.map_cons, List.sum_cons, List.length_cons, this]
      exact Nat.add_comm 1 _
theorem isW_app {a b : Str} (h1 : isW a = true) (h2 : isW b = true) : isW (a ++ b) = true := by
  unfold isW at h1 h2 ⊢
  have e : (a ++ b).cps.toList = a.cps.toList ++ b.cps.toList := by
    show (a.cps ++ b.cps).toList = _
    simp
  rw [e, List.all_append, h1, h2]
  rfl
theorem isW_bit {z : Str} (h : isBit z) : isW z = true := by
  rcases h with rfl | rfl <;> decide +kernel
theorem bits_join1 : ∀ {zs : List Str}, (∀ z ∈ zs, isBit z) → isW (Str.join "" zs) = true ∧ (Str.join "" zs).length = zs.length
  | [], _ => ⟨by decide +kernel, rfl⟩
  | [z], h => by
    have e : Str.join "" [z] = z := rfl
    rw [e]
    refine ⟨isW_bit (h z List.mem_cons_self), ?_⟩
    rcases h z List.mem_cons_self with rfl | rfl <;> rfl
  | z :: y :: r, h => by
    obtain ⟨h1, h2⟩ := bits_join1 (zs := y :: r) fun z hz => h z (List.mem_cons_of_mem _ hz)
    have e : Str.join "" (z :: y :: r) = z ++ "" ++ Str.join "" (y :: r) := rfl
    rw [e, app_nil]
    refine ⟨isW_app (isW_bit (h z List.mem_cons_self)) h1, ?_⟩
    rw [Str.length_append, h2]
    rcases h z List.mem_cons_self with rfl | rfl
    · show 1 + _ = _
      simp [Nat.add_comm]
    · show 1 + _ = _
      simp [Nat.add_comm]
theorem bits_join {zs : List Str} (h : ∀ z ∈ zs, isBit z) : isW (Txt.join "" zs) = true ∧ (Txt.join "" zs).length = zs.length := by
  have e : Txt.join "" zs = Str.join "" zs := StrLaws.glued_eq_join _ _
  rw [e]
  exact bits_join1 h
theorem rule_ok {k to : Int} {b : PyData} (t0 : 0 ≤ to) (t1 : to ≤ k) (h : isDeed b = true) : ruleB k (.tuple [.int to, b]) = true := by
  show (decide (0 ≤ to) && (decide (to ≤ k) && isDeed b)) = true
  rw [decide_eq_true t0, decide_eq_true t1, h]
  rfl
theorem state_ok {k : Int} {a b c : PyData} (h1 : ruleB k a = true) (h2 : ruleB k b = true) (h3 : ruleB k c = true) : stateB k (.tuple [a, b, c]) = true := by
  show (decide (3 = 3) && (ruleB k a && (ruleB k b && (ruleB k c && true)))) = true
  rw [h1, h2, h3]
  rfl
theorem state_is {k : Int} {s : PyData} (h : stateB k s = true) : ∃ rs, s = .tuple rs ∧ rs.length = 3 ∧ ∀ r ∈ rs, ruleB k r = true := by
  match s, h with
  | .tuple rs, h =>
    have h : (decide (rs.length = 3) && rs.all (ruleB k)) = true := h
    rw [Bool.and_eq_true] at h
    exact ⟨rs, rfl, of_decide_eq_true h.1, List.all_eq_true.mp h.2⟩
theorem ixN_0 {n : Nat} (h : 0 < n) : ixN n 0 = some 0 := by simp [ixN, h]
theorem ixN_1 {n : Nat} (h : 1 < n) : ixN n 1 = some 1 := by
  have : (1:Int) < (n:Int) := by omega
  simp [ixN, this]
abbrev N__law_same : List Str := ["_law_told", "_law_due"]
abbrev P__law_same : List Str := ["_law_told", "_law_due"]
theorem sc__law_same : FnScope N__law_same P__law_same (defScope s__law_same) := ⟨rfl, rfl, rfl, by decide +kernel, rfl, by decide +kernel, by decide +kernel⟩
abbrev N__law_word : List Str := ["_law_deck_here", "_law_most", "_law_place"]
abbrev P__law_word : List Str := ["_law_deck_here", "_law_most"]
theorem sc__law_word : FnScope N__law_word P__law_word (defScope s__law_word) := ⟨rfl, rfl, rfl, by decide +kernel, rfl, by decide +kernel, by decide +kernel⟩
abbrev N__law_machine : List Str := ["_law_deck_here", "_law_most", "_law_many", "_law_machine_here", "_law_rare", "_law_deeds", "_law_state", "_law_rules", "_law_letter", "_law_to"]
abbrev P__law_machine : List Str := ["_law_deck_here", "_law_most"]
theorem sc__law_machine : FnScope N__law_machine P__law_machine (defScope s__law_machine) := ⟨rfl, rfl, rfl, by decide +kernel, rfl, by decide +kernel, by decide +kernel⟩
section
variable {P : Program} {w : World} {K : PySem.W.Frag} {mg : Str → Option Value} {base : Heap} {Tl : List Addr}
def Say (d : PyData) : Prop := d.showable = true ∧ d.depth ≤ 150 ∧ d.shown.length ≤ sizeLine
def F_same : FnD := fun ds K _ => ∃ a b, ds = [.dat a, .dat b] ∧ Say a ∧ Say b ∧ K (.bool (a.shown == b.shown))
theorem ok_same {fd : FuncData} (T : TbL mg) (hm : HasMods base) (D : Df K mg "_law_same" s__law_same P__law_same fd) : FnG P w K mg base 2 (He.fAd K ("_law_same", none)) fd P__law_same (spD (WP K Tl) F_same) := by
  refine okDG D.F sc__law_same (fun ds Kk KE h => by obtain ⟨a, b, rfl, _⟩ := h; rfl) (fun W cdv A outer s E hW hA hr => ⟨_, (dss_one (ds_ret (de_cmp (op_eqX hr W.vol) sn_eq (de_cb (pe_callB (call_reprX hr hA hm W.vol) (by rfl) T.repr (by decide +kernel) (da_cons (dv 0) da_nil)) sn_repr) (de_cb (pe_callB (call_reprX hr hA hm W.vol) (by rfl) T.repr (by decide +kernel) (da_cons (dv 1) da_nil)) sn_repr)))), fun ds Kk KE h => ?_⟩)
  obtain ⟨a, b, rfl, h1, h2, h⟩ := h
  (try simp only [DL.iteB_true, DL.iteB_false, DL.sSeq, DL.sNext, DL.sRet, DL.sRetN, DL.sIf, DL.sAsg, DL.sNew, DL.sDrop, DL.sRel, DL.sApp, DL.sFor, DL.sBreak, DL.sCont, DL.sAsgT, DL.sPar, DL.sPar3, DL.sPar3DFD, DL.sParFD, DL.sParDF, DL.sExt, DL.sPut, DL.sAug, DL.sCut, DL.sRaise, DL.sWhile, DL.fVar, DL.fC, DL.fOb, DL.fGts, DL.f2, DL.f1, DL.fCall, DL.fB, DL.fTru, DL.fAnd, DL.fOr, DL.fNot, DL.fIf, DL.tAndD, DL.tOrD, DL.tNotD, DL.fNil, DL.fCons, DL.fTup, DL.fLst, DL.fDnew, DL.fNew, DL.fIt, DL.fRng1, DL.fRng2, DL.fLc, DL.fAG, DL.fFn, DL.fFnX, DL.fFnK, DL.fSl, DL.fNone, DL.fPart, DL.fList, DL.fM0, DL.fM1, DL.tYesD, DL.gdN, DL.gdT_t, DL.gdNil_n, DL.gdCons_c, DL.op2, DL.op1, DL.opC, DL.c1, DL.isiP, DL.typeO, DL.tyIs, DL.inG, DL.isND, DL.rel, DL.wipeD, DL.le_s0, DL.le_s1, DL.le_s2, DL.le_s3, DL.le_s4, DL.le_s5, DL.le_s6, DL.le_s7, DL.le_s8, DL.le_s9, DL.le_s10, DL.le_s11, DL.le_s12, DL.le_s13, DL.le_s14, DL.le_s15, DL.le_s16, DL.le_s17, DL.le_s18, DL.le_s19, DL.le_s20, DL.le_s21, DL.le_s22, DL.le_s23, DL.le_s24, DL.le_s25, DL.le_s26, DL.le_s27, DL.le_s28, DL.le_s29, DL.le_s30, DL.le_s31, DL.le_s32, DL.le_s33, DL.le_s34, DL.le_s35, DL.le_s36, DL.le_s37, DL.le_s38, DL.le_s39, DL.le_s40, DL.le_s41, DL.le_s42, DL.le_s43, DL.le_s44, DL.le_s45, DL.le_s46, DL.le_s47, DL.le_s48, DL.le_s49, DL.le_s50, DL.le_s51, DL.le_s52, DL.le_s53, DL.le_s54, DL.le_s55, DL.le_s56, DL.le_s57, DL.le_s58, DL.le_s59, DL.le_s60, DL.le_s61, DL.le_s62, DL.le_s63, DL.le_s64, DL.start0, DL.asDat, DL.lend, DL.noOwn, DL.DV.isOwn, DL.pd_dat, DL.pd_own, DL.ocpd_lst, DL.ocpd_dk, DL.itemsOf, List.map_cons, List.map_nil, List.append_nil, List.cons_append, List.nil_append, List.length_cons, List.length_nil, List.replicate_succ, List.replicate_zero, List.getElem?_cons_zero, List.getElem?_cons_succ, List.set_cons_zero, List.set_cons_succ, Nat.reduceSub, Nat.reduceAdd, Nat.sub_self, Nat.zero_add, Option.some.injEq, DL.DV.dat.injEq, PyData.bool.injEq, PyData.int.injEq, PyData.str.injEq, PyData.tuple.injEq, PyData.list.injEq, DL.DV.ob.injEq, V.ty.injEq, DL.DV.own.injEq, DL.OC.lst.injEq, List.cons.injEq, Option.map_some, exists_eq_left', exists_eq_left, exists_eq_right, exists_eq_right', exists_and_left, and_true, true_and, Bool.not_true, Bool.not_false, Bool.and_true, Bool.true_and, true_or, Bool.not_eq_true', Bool.false_eq_true, if_true, if_false, reduceIte, reduceCtorEq])
  (try simp only [DL.negP_i, DL.le_s0, DL.le_s1, DL.le_s2, DL.le_s3, DL.le_s4, DL.le_s5, DL.le_s6, DL.le_s7, DL.le_s8, DL.le_s9, DL.le_s10, DL.le_s11, DL.le_s12, DL.le_s13, DL.le_s14, DL.le_s15, DL.le_s16, DL.le_s17, DL.le_s18, DL.le_s19, DL.le_s20, DL.le_s21, DL.le_s22, DL.le_s23, DL.le_s24, DL.le_s25, DL.le_s26, DL.le_s27, DL.le_s28, DL.le_s29, DL.le_s30, DL.le_s31, DL.le_s32, DL.le_s33, DL.le_s34, DL.le_s35, DL.le_s36, DL.le_s37, DL.le_s38, DL.le_s39, DL.le_s40, DL.le_s41, DL.le_s42, DL.le_s43, DL.le_s44, DL.le_s45, DL.le_s46, DL.le_s47, DL.le_s48, DL.le_s49, DL.le_s50, DL.le_s51, DL.le_s52, DL.le_s53, DL.le_s54, DL.le_s55, DL.le_s56, DL.le_s57, DL.le_s58, DL.le_s59, DL.le_s60, DL.le_s61, DL.le_s62, DL.le_s63, DL.le_s64, DL.iteB_true, DL.iteB_false, DL.lenP_t, DL.lenP_l, DL.lenP_s, DL.eqP, DL.eqOk_int, DL.eqOk_str, DL.eqOk_emp, DL.eqOk_empL, DL.eqv_emp1, DL.eqv_empL1, DL.eqv_ii, DL.eqv_ss, DL.ixP_t, DL.ixP_l, DL.ixP_s, DL.slP_t, DL.slP_l, DL.slP_s, DL.intcP_i, DL.intcP_b, DL.intcP_s, DL.tupcP_l, DL.tupcP_t, DL.atI_z, DL.atI_o, DL.atI_t, DL.int0P_ii, DL.intP_ii, DL.addP_ii, DL.addP_ss, DL.addP_tt, DL.addP_ll, DL.isTup_t, DL.reprP, Bool.false_eq_true, if_true, if_false, reduceIte, Option.some.injEq, PyData.bool.injEq, exists_eq_left', exists_eq_left, exists_eq_right, exists_eq_right', true_and, and_true, Bool.true_eq_false, Bool.not_true, Bool.not_false, false_and, and_false, exists_and_left, reduceCtorEq, DL.DV.gts.injEq, exists_const])
  exact ⟨h1, h2, h⟩
def F_lword : FnD := fun ds K _ => ∃ n : Int, ds = [.deck, .dat (.int n)] ∧ 0 ≤ n ∧ n ≤ 1000 ∧ ∀ z : Str, isW z = true → (z.length : Int) ≤ n → K (.str z)
theorem ok_lword {fd fdD fdP : FuncData} (T : TbL mg) (D : Df K mg "_law_word" s__law_word P__law_word fd) (D__law_draw : Df K mg "_law_draw" s__law_draw KA.P__law_draw fdD) (G__law_draw : FnOk P w K mg base CX0 1 (He.fAd K ("_law_draw", none)) fdD KA.P__law_draw (spD (WP K Tl) F_draw)) (D__law_pick : Df K mg "_law_pick" s__law_pick DW.P__law_pick fdP) (G__law_pick : FnOk P w K mg base CX0 2 (He.fAd K ("_law_pick", none)) fdP DW.P__law_pick (spD (WP K Tl) F_pick)) :
    FnOk P w K mg base CX0 4 (He.fAd K ("_law_word", none)) fd P__law_word (spD (WP K Tl) F_lword) := by
  refine okD D.F sc__law_word (fun ds Kk KE h => by obtain ⟨n, rfl, _⟩ := h; rfl) (fun W cdv A outer s E hW hcd hr => ?_)
  have hK : W.K = K := hW.k
  refine ⟨_, (dss_one (ds_ret (de_m1 (pe_join de_str (de_new (df_lc (own := [("_law_place", 2)]) (g := gName 2) rfl sc__law_word.nd (di_range1 (st := false) (by rfl) T.range (da_cons (de_call (pe_call G__law_draw (hr.mono (by first | decide | omega)) (by rfl) D__law_draw.g D__law_draw.F.kp D__law_draw.b .nil pass0 (da_cons (dv 0) (da_cons (de_op op_addD sn_add (dv 1) de_int) da_nil))) hW) da_nil)) (blkOk_by (own := [("_law_place", 2)]) (N := N__law_word) (sc := defScope s__law_word) (by decide +kernel)) (fun _ _ _ _ _ => (pg_name (i := 2) sc__law_word.nd rfl (.inl rfl))) (sg_name (i := 2) (by simp)) (fun _ _ _ _ _ => dts_nil) (fun _ _ _ _ _ => (de_call (pe_call G__law_pick (hr.mono (by first | decide | omega)) (by rfl) D__law_pick.g D__law_pick.F.kp D__law_pick.b .nil pass0 (da_cons (dv 0) (da_cons (de_new (df_lst (da_cons de_str (da_cons de_str da_nil)))) da_nil))) hW))))) sn_join))), fun ds Kk KE h => ?_⟩
  obtain ⟨n, rfl, n0, n1, h⟩ := h
  (try simp only [DL.iteB_true, DL.iteB_false, DL.sSeq, DL.sNext, DL.sRet, DL.sRetN, DL.sIf, DL.sAsg, DL.sNew, DL.sDrop, DL.sRel, DL.sApp, DL.sFor, DL.sBreak, DL.sCont, DL.sAsgT, DL.sPar, DL.sPar3, DL.sPar3DFD, DL.sParFD, DL.sParDF, DL.sExt, DL.sPut, DL.sAug, DL.sCut, DL.sRaise, DL.sWhile, DL.fVar, DL.fC, DL.fOb, DL.fGts, DL.f2, DL.f1, DL.fCall, DL.fB, DL.fTru, DL.fAnd, DL.fOr, DL.fNot, DL.fIf, DL.tAndD, DL.tOrD, DL.tNotD, DL.fNil, DL.fCons, DL.fTup, DL.fLst, DL.fDnew, DL.fNew, DL.fIt, DL.fRng1, DL.fRng2, DL.fLc, DL.fAG, DL.fFn, DL.fFnX, DL.fFnK, DL.fSl, DL.fNone, DL.fPart, DL.fList, DL.fM0, DL.fM1, DL.tYesD, DL.gdN, DL.gdT_t, DL.gdNil_n, DL.gdCons_c, DL.op2, DL.op1, DL.opC, DL.c1, DL.isiP, DL.typeO, DL.tyIs, DL.inG, DL.isND, DL.rel, DL.wipeD, DL.le_s0, DL.le_s1, DL.le_s2, DL.le_s3, DL.le_s4, DL.le_s5, DL.le_s6, DL.le_s7, DL.le_s8, DL.le_s9, DL.le_s10, DL.le_s11, DL.le_s12, DL.le_s13, DL.le_s14, DL.le_s15, DL.le_s16, DL.le_s17, DL.le_s18, DL.le_s19, DL.le_s20, DL.le_s21, DL.le_s22, DL.le_s23, DL.le_s24, DL.le_s25, DL.le_s26, DL.le_s27, DL.le_s28, DL.le_s29, DL.le_s30, DL.le_s31, DL.le_s32, DL.le_s33, DL.le_s34, DL.le_s35, DL.le_s36, DL.le_s37, DL.le_s38, DL.le_s39, DL.le_s40, DL.le_s41, DL.le_s42, DL.le_s43, DL.le_s44, DL.le_s45, DL.le_s46, DL.le_s47, DL.le_s48, DL.le_s49, DL.le_s50, DL.le_s51, DL.le_s52, DL.le_s53, DL.le_s54, DL.le_s55, DL.le_s56, DL.le_s57, DL.le_s58, DL.le_s59, DL.le_s60, DL.le_s61, DL.le_s62, DL.le_s63, DL.le_s64, DL.start0, DL.asDat, DL.lend, DL.noOwn, DL.DV.isOwn, DL.pd_dat, DL.pd_own, DL.ocpd_lst, DL.ocpd_dk, DL.itemsOf, List.map_cons, List.map_nil, List.append_nil, List.cons_append, List.nil_append, List.length_cons, List.length_nil, List.replicate_succ, List.replicate_zero, List.getElem?_cons_zero, List.getElem?_cons_succ, List.set_cons_zero, List.set_cons_succ, Nat.reduceSub, Nat.reduceAdd, Nat.sub_self, Nat.zero_add, Option.some.injEq, DL.DV.dat.injEq, PyData.bool.injEq, PyData.int.injEq, PyData.str.injEq, PyData.tuple.injEq, PyData.list.injEq, DL.DV.ob.injEq, V.ty.injEq, DL.DV.own.injEq, DL.OC.lst.injEq, List.cons.injEq, Option.map_some, exists_eq_left', exists_eq_left, exists_eq_right, exists_eq_right', exists_and_left, and_true, true_and, Bool.not_true, Bool.not_false, Bool.and_true, Bool.true_and, true_or, Bool.not_eq_true', Bool.false_eq_true, if_true, if_false, reduceIte, reduceCtorEq])
  (try simp only [DL.negP_i, DL.le_s0, DL.le_s1, DL.le_s2, DL.le_s3, DL.le_s4, DL.le_s5, DL.le_s6, DL.le_s7, DL.le_s8, DL.le_s9, DL.le_s10, DL.le_s11, DL.le_s12, DL.le_s13, DL.le_s14, DL.le_s15, DL.le_s16, DL.le_s17, DL.le_s18, DL.le_s19, DL.le_s20, DL.le_s21, DL.le_s22, DL.le_s23, DL.le_s24, DL.le_s25, DL.le_s26, DL.le_s27, DL.le_s28, DL.le_s29, DL.le_s30, DL.le_s31, DL.le_s32, DL.le_s33, DL.le_s34, DL.le_s35, DL.le_s36, DL.le_s37, DL.le_s38, DL.le_s39, DL.le_s40, DL.le_s41, DL.le_s42, DL.le_s43, DL.le_s44, DL.le_s45, DL.le_s46, DL.le_s47, DL.le_s48, DL.le_s49, DL.le_s50, DL.le_s51, DL.le_s52, DL.le_s53, DL.le_s54, DL.le_s55, DL.le_s56, DL.le_s57, DL.le_s58, DL.le_s59, DL.le_s60, DL.le_s61, DL.le_s62, DL.le_s63, DL.le_s64, DL.iteB_true, DL.iteB_false, DL.lenP_t, DL.lenP_l, DL.lenP_s, DL.eqP, DL.eqOk_int, DL.eqOk_str, DL.eqOk_emp, DL.eqOk_empL, DL.eqv_emp1, DL.eqv_empL1, DL.eqv_ii, DL.eqv_ss, DL.ixP_t, DL.ixP_l, DL.ixP_s, DL.slP_t, DL.slP_l, DL.slP_s, DL.intcP_i, DL.intcP_b, DL.intcP_s, DL.tupcP_l, DL.tupcP_t, DL.atI_z, DL.atI_o, DL.atI_t, DL.int0P_ii, DL.intP_ii, DL.addP_ii, DL.addP_ss, DL.addP_tt, DL.addP_ll, DL.isTup_t, DL.reprP, Bool.false_eq_true, if_true, if_false, reduceIte, Option.some.injEq, PyData.bool.injEq, exists_eq_left', exists_eq_left, exists_eq_right, exists_eq_right', true_and, and_true, Bool.true_eq_false, Bool.not_true, Bool.not_false, false_and, and_false, exists_and_left, reduceCtorEq, DL.DV.gts.injEq, exists_const])
  refine ⟨_, rfl, by omega, by omega, fun r r0 r1 => ?_⟩
  refine ⟨_, rfl, by omega, by omega, lc_any (R := fun _ e => e = .str "0" ∨ e = .str "1") (fun d _ Q hq => ?_) ?_ fun es hes => ?_⟩
  · (try simp only [DL.iteB_true, DL.iteB_false, DL.sSeq, DL.sNext, DL.sRet, DL.sRetN, DL.sIf, DL.sAsg, DL.sNew, DL.sDrop, DL.sRel, DL.sApp, DL.sFor, DL.sBreak, DL.sCont, DL.sAsgT, DL.sPar, DL.sPar3, DL.sPar3DFD, DL.sParFD, DL.sParDF, DL.sExt, DL.sPut, DL.sAug, DL.sCut, DL.sRaise, DL.sWhile, DL.fVar, DL.fC, DL.fOb, DL.fGts, DL.f2, DL.f1, DL.fCall, DL.fB, DL.fTru, DL.fAnd, DL.fOr, DL.fNot, DL.fIf, DL.tAndD, DL.tOrD, DL.tNotD, DL.fNil, DL.fCons, DL.fTup, DL.fLst, DL.fDnew, DL.fNew, DL.fIt, DL.fRng1, DL.fRng2, DL.fLc, DL.fAG, DL.fFn, DL.fFnX, DL.fFnK, DL.fSl, DL.fNone, DL.fPart, DL.fList, DL.fM0, DL.fM1, DL.tYesD, DL.gdN, DL.gdT_t, DL.gdNil_n, DL.gdCons_c, DL.op2, DL.op1, DL.opC, DL.c1, DL.isiP, DL.typeO, DL.tyIs, DL.inG, DL.isND, DL.rel, DL.wipeD, DL.le_s0, DL.le_s1, DL.le_s2, DL.le_s3, DL.le_s4, DL.le_s5, DL.le_s6, DL.le_s7, DL.le_s8, DL.le_s9, DL.le_s10, DL.le_s11, DL.le_s12, DL.le_s13, DL.le_s14, DL.le_s15, DL.le_s16, DL.le_s17, DL.le_s18, DL.le_s19, DL.le_s20, DL.le_s21, DL.le_s22, DL.le_s23, DL.le_s24, DL.le_s25, DL.le_s26, DL.le_s27, DL.le_s28, DL.le_s29, DL.le_s30, DL.le_s31, DL.le_s32, DL.le_s33, DL.le_s34, DL.le_s35, DL.le_s36, DL.le_s37, DL.le_s38, DL.le_s39, DL.le_s40, DL.le_s41, DL.le_s42, DL.le_s43, DL.le_s44, DL.le_s45, DL.le_s46, DL.le_s47, DL.le_s48, DL.le_s49, DL.le_s50, DL.le_s51, DL.le_s52, DL.le_s53, DL.le_s54, DL.le_s55, DL.le_s56, DL.le_s57, DL.le_s58, DL.le_s59, DL.le_s60, DL.le_s61, DL.le_s62, DL.le_s63, DL.le_s64, DL.start0, DL.asDat, DL.lend, DL.noOwn, DL.DV.isOwn, DL.pd_dat, DL.pd_own, DL.ocpd_lst, DL.ocpd_dk, DL.itemsOf, List.map_cons, List.map_nil, List.append_nil, List.cons_append, List.nil_append, List.length_cons, List.length_nil, List.replicate_succ, List.replicate_zero, List.getElem?_cons_zero, List.getElem?_cons_succ, List.set_cons_zero, List.set_cons_succ, Nat.reduceSub, Nat.reduceAdd, Nat.sub_self, Nat.zero_add, Option.some.injEq, DL.DV.dat.injEq, PyData.bool.injEq, PyData.int.injEq, PyData.str.injEq, PyData.tuple.injEq, PyData.list.injEq, DL.DV.ob.injEq, V.ty.injEq, DL.DV.own.injEq, DL.OC.lst.injEq, List.cons.injEq, Option.map_some, exists_eq_left', exists_eq_left, exists_eq_right, exists_eq_right', exists_and_left, and_true, true_and, Bool.not_true, Bool.not_false, Bool.and_true, Bool.true_and, true_or, Bool.not_eq_true', Bool.false_eq_true, if_true, if_false, reduceIte, reduceCtorEq])
    exact ⟨_, _, rfl, .inl rfl, by decide, by decide, fun e he => hq e (by simpa using he)⟩
  · show 0 + (rngD 0 r.toNat).length ≤ sizeLine
    rw [rngD_len, sizeLine_eq]
    omega
  · obtain ⟨zs, rfl, hz, hl⟩ := all2_bits hes
    rw [rngD_len] at hl
    obtain ⟨w1, w2⟩ := bits_join hz
    have e0 : ("" : Str).length = 0 := rfl
    have e1 := bits_sum hz
    exact ⟨zs, .inl rfl, by rw [e0, e1, Nat.mul_zero]; omega, h _ w1 (by omega)⟩
def F_lmach : FnD := fun ds K _ => ∃ n : Int, ds = [.deck, .dat (.int n)] ∧ 0 < n ∧ n ≤ 1000 ∧ ∀ xs, machB (.tuple xs) = true → (xs.length : Int) ≤ n → K (.tuple xs)
theorem ok_lmach {fd fdD fdP : FuncData} (T : TbL mg) (D : Df K mg "_law_machine" s__law_machine P__law_machine fd) (D__law_draw : Df K mg "_law_draw" s__law_draw KA.P__law_draw fdD) (G__law_draw : FnOk P w K mg base CX0 1 (He.fAd K ("_law_draw", none)) fdD KA.P__law_draw (spD (WP K Tl) F_draw)) (D__law_pick : Df K mg "_law_pick" s__law_pick DW.P__law_pick fdP) (G__law_pick : FnOk P w K mg base CX0 2 (He.fAd K ("_law_pick", none)) fdP DW.P__law_pick (spD (WP K Tl) F_pick)) :
    FnOk P w K mg base CX0 3 (He.fAd K ("_law_machine", none)) fd P__law_machine (spD (WP K Tl) F_lmach) := by
  refine okD D.F sc__law_machine (fun ds Kk KE h => by obtain ⟨n, rfl, _⟩ := h; rfl) (fun W cdv A outer s E hW hcd hr => ?_)
  have hK : W.K = K := hW.k
  refine ⟨_, (dss_cons (ds_par3DFD (by decide) (by decide) (ps_par3 (i := 2) (j := 3) (l := 4) (by rfl) sc__law_machine.nd rfl rfl rfl (by decide) (by decide) (by decide) rfl rfl rfl (pa_cons (de_op op_addD sn_add de_int (de_call (pe_call G__law_draw (hr.mono (by first | decide | omega)) (by rfl) D__law_draw.g D__law_draw.F.kp D__law_draw.b .nil pass0 (da_cons (dv 0) (da_cons (dv 1) da_nil))) hW)) (pa_cons (df_lst da_nil) (pa_cons (de_call (pe_call G__law_pick (hr.mono (by first | decide | omega)) (by rfl) D__law_pick.g D__law_pick.F.kp D__law_pick.b .nil pass0 (da_cons (dv 0) (da_cons (de_new (df_lst (da_cons de_int (da_cons de_int (da_cons de_int da_nil))))) da_nil))) hW) pa_nil))) (by rfl)))
      (dss_cons (ds_set (i := 5) sc__law_machine.nd rfl (.inl rfl) (de_new (df_lst (da_cons de_str (da_cons de_str (da_cons de_str (da_cons de_str (da_cons de_str (da_cons de_str da_nil)))))))))
      (dss_cut (ds_if (dt_cmp (op_eqX hr W.vol) sn_eq (de_call (pe_call G__law_draw (hr.mono (by first | decide | omega)) (by rfl) D__law_draw.g D__law_draw.F.kp D__law_draw.b .nil pass0 (da_cons (dv 0) (da_cons de_int da_nil))) hW) de_int) (dss_one (ds_set (i := 5) sc__law_machine.nd rfl (.inl rfl) (de_call (pe_call G__law_pick (hr.mono (by first | decide | omega)) (by rfl) D__law_pick.g D__law_pick.F.kp D__law_pick.b .nil pass0 (da_cons (dv 0) (da_cons (de_new (df_lst (da_cons (de_new (df_lst (da_cons de_str (da_cons de_str (da_cons de_str (da_cons de_str (da_cons de_str da_nil))))))) (da_cons (de_new (df_lst (da_cons de_str (da_cons de_str (da_cons de_str (da_cons de_str (da_cons de_str da_nil))))))) da_nil)))) da_nil))) hW))) dss_nil)
      (dss_cons (ds_for PassesOwn.never rfl (di_range1 (st := true) (by rfl) T.range (da_cons (dv 2) da_nil)) (pg_name (i := 6) sc__law_machine.nd rfl (.inl rfl)) (sg_name (i := 6) trivial) (dss_cons (ds_new (i := 7) sc__law_machine.nd rfl (.inl rfl) (df_lst da_nil))
          (dss_cons (ds_for PassesOwn.never rfl (di_range1 (st := true) (by rfl) T.range (da_cons de_int da_nil)) (pg_name (i := 8) sc__law_machine.nd rfl (.inl rfl)) (sg_name (i := 8) trivial) (dss_cons (ds_set (i := 9) sc__law_machine.nd rfl (.inl rfl) (de_if (dt_cmp (op_eqX hr W.vol) sn_eq (de_call (pe_call G__law_draw (hr.mono (by first | decide | omega)) (by rfl) D__law_draw.g D__law_draw.F.kp D__law_draw.b .nil pass0 (da_cons (dv 0) (da_cons (dv 4) da_nil))) hW) de_int) (dv 2) (de_call (pe_call G__law_draw (hr.mono (by first | decide | omega)) (by rfl) D__law_draw.g D__law_draw.F.kp D__law_draw.b .nil pass0 (da_cons (dv 0) (da_cons (dv 2) da_nil))) hW)))
              (dss_one (ds_append (pe_bm PySem.F.plainAttrs_list PySem.F.slot_list_append PySem.F.type_list_append mt_append (pv 7) (pa_cons (de_tup (da_cons (dv 9) (da_cons (de_call (pe_call G__law_pick (hr.mono (by first | decide | omega)) (by rfl) D__law_pick.g D__law_pick.F.kp D__law_pick.b .nil pass0 (da_cons (dv 0) (da_cons (dv 5) da_nil))) hW) da_nil))) pa_nil))))))
          (dss_one (ds_append (pe_bm PySem.F.plainAttrs_list PySem.F.slot_list_append PySem.F.type_list_append mt_append (pv 3) (pa_cons (de_cb (pe_callTy call_tuple_of (by rfl) T.tuple (by decide +kernel) (da_cons (dv 7) da_nil)) sn_tupc) pa_nil)))))))
      (dss_cons (ds_if (PW.pt (dw_and (dt_cmp op_gt sn_cmp (dv 2) de_int) (dw_and1 (dt_cmp (op_eqX hr W.vol) sn_eq (de_call (pe_call G__law_draw (hr.mono (by first | decide | omega)) (by rfl) D__law_draw.g D__law_draw.F.kp D__law_draw.b .nil pass0 (da_cons (dv 0) (da_cons de_int da_nil))) hW) de_int)))) (dss_cons (ds_put (ps_asg (de_tup (da_cons (de_tup (da_cons de_int (da_cons (de_call (pe_call G__law_pick (hr.mono (by first | decide | omega)) (by rfl) D__law_pick.g D__law_pick.F.kp D__law_pick.b .nil pass0 (da_cons (dv 0) (da_cons (de_new (df_lst (da_cons de_str (da_cons de_str (da_cons de_str (da_cons de_str da_nil)))))) da_nil))) hW) da_nil))) (da_cons (de_tup (da_cons de_int (da_cons de_str da_nil))) (da_cons (de_tup (da_cons de_int (da_cons de_str da_nil))) da_nil)))) (pg_sub (pv 3) de_int set_list)))
          (dss_one (ds_put (ps_asg (de_tup (da_cons (de_ix ix_all sn_ix (de_ix ix_all sn_ix (dv 3) de_int (fun _ _ => rfl)) de_int (fun _ _ => rfl)) (da_cons (de_tup (da_cons de_int (da_cons de_str da_nil))) (da_cons (de_tup (da_cons de_int (da_cons de_str da_nil))) da_nil)))) (pg_sub (pv 3) de_int set_list))))) dss_nil)
      (dss_one (ds_ret (de_cb (pe_callTy call_tuple_of (by rfl) T.tuple (by decide +kernel) (da_cons (dv 3) da_nil)) sn_tupc)))))))), fun ds Kk KE h => ?_⟩
  obtain ⟨n, rfl, n0, n1, h⟩ := h
  (try simp only [DL.iteB_true, DL.iteB_false, DL.sSeq, DL.sNext, DL.sRet, DL.sRetN, DL.sIf, DL.sAsg, DL.sNew, DL.sDrop, DL.sRel, DL.sApp, DL.sFor, DL.sBreak, DL.sCont, DL.sAsgT, DL.sPar, DL.sPar3, DL.sPar3DFD, DL.sParFD, DL.sParDF, DL.sExt, DL.sPut, DL.sAug, DL.sCut, DL.sRaise, DL.sWhile, DL.fVar, DL.fC, DL.fOb, DL.fGts, DL.f2, DL.f1, DL.fCall, DL.fB, DL.fTru, DL.fAnd, DL.fOr, DL.fNot, DL.fIf, DL.tAndD, DL.tOrD, DL.tNotD, DL.fNil, DL.fCons, DL.fTup, DL.fLst, DL.fDnew, DL.fNew, DL.fIt, DL.fRng1, DL.fRng2, DL.fLc, DL.fAG, DL.fFn, DL.fFnX, DL.fFnK, DL.fSl, DL.fNone, DL.fPart, DL.fList, DL.fM0, DL.fM1, DL.tYesD, DL.gdN, DL.gdT_t, DL.gdNil_n, DL.gdCons_c, DL.op2, DL.op1, DL.opC, DL.c1, DL.isiP, DL.typeO, DL.tyIs, DL.inG, DL.isND, DL.rel, DL.wipeD, DL.le_s0, DL.le_s1, DL.le_s2, DL.le_s3, DL.le_s4, DL.le_s5, DL.le_s6, DL.le_s7, DL.le_s8, DL.le_s9, DL.le_s10, DL.le_s11, DL.le_s12, DL.le_s13, DL.le_s14, DL.le_s15, DL.le_s16, DL.le_s17, DL.le_s18, DL.le_s19, DL.le_s20, DL.le_s21, DL.le_s22, DL.le_s23, DL.le_s24, DL.le_s25, DL.le_s26, DL.le_s27, DL.le_s28, DL.le_s29, DL.le_s30, DL.le_s31, DL.le_s32, DL.le_s33, DL.le_s34, DL.le_s35, DL.le_s36, DL.le_s37, DL.le_s38, DL.le_s39, DL.le_s40, DL.le_s41, DL.le_s42, DL.le_s43, DL.le_s44, DL.le_s45, DL.le_s46, DL.le_s47, DL.le_s48, DL.le_s49, DL.le_s50, DL.le_s51, DL.le_s52, DL.le_s53, DL.le_s54, DL.le_s55, DL.le_s56, DL.le_s57, DL.le_s58, DL.le_s59, DL.le_s60, DL.le_s61, DL.le_s62, DL.le_s63, DL.le_s64, DL.start0, DL.asDat, DL.lend, DL.noOwn, DL.DV.isOwn, DL.pd_dat, DL.pd_own, DL.ocpd_lst, DL.ocpd_dk, DL.itemsOf, List.map_cons, List.map_nil, List.append_nil, List.cons_append, List.nil_append, List.length_cons, List.length_nil, List.replicate_succ, List.replicate_zero, List.getElem?_cons_zero, List.getElem?_cons_succ, List.set_cons_zero, List.set_cons_succ, Nat.reduceSub, Nat.reduceAdd, Nat.sub_self, Nat.zero_add, Option.some.injEq, DL.DV.dat.injEq, PyData.bool.injEq, PyData.int.injEq, PyData.str.injEq, PyData.tuple.injEq, PyData.list.injEq, DL.DV.ob.injEq, V.ty.injEq, DL.DV.own.injEq, DL.OC.lst.injEq, List.cons.injEq, Option.map_some, exists_eq_left', exists_eq_left, exists_eq_right, exists_eq_right', exists_and_left, and_true, true_and, Bool.not_true, Bool.not_false, Bool.and_true, Bool.true_and, true_or, Bool.not_eq_true', Bool.false_eq_true, if_true, if_false, reduceIte, reduceCtorEq])
  refine ⟨_, rfl, n0, by omega, fun dr d0 d1 => ?_⟩
  (try simp only [DL.negP_i, DL.le_s0, DL.le_s1, DL.le_s2, DL.le_s3, DL.le_s4, DL.le_s5, DL.le_s6, DL.le_s7, DL.le_s8, DL.le_s9, DL.le_s10, DL.le_s11, DL.le_s12, DL.le_s13, DL.le_s14, DL.le_s15, DL.le_s16, DL.le_s17, DL.le_s18, DL.le_s19, DL.le_s20, DL.le_s21, DL.le_s22, DL.le_s23, DL.le_s24, DL.le_s25, DL.le_s26, DL.le_s27, DL.le_s28, DL.le_s29, DL.le_s30, DL.le_s31, DL.le_s32, DL.le_s33, DL.le_s34, DL.le_s35, DL.le_s36, DL.le_s37, DL.le_s38, DL.le_s39, DL.le_s40, DL.le_s41, DL.le_s42, DL.le_s43, DL.le_s44, DL.le_s45, DL.le_s46, DL.le_s47, DL.le_s48, DL.le_s49, DL.le_s50, DL.le_s51, DL.le_s52, DL.le_s53, DL.le_s54, DL.le_s55, DL.le_s56, DL.le_s57, DL.le_s58, DL.le_s59, DL.le_s60, DL.le_s61, DL.le_s62, DL.le_s63, DL.le_s64, DL.iteB_true, DL.iteB_false, DL.lenP_t, DL.lenP_l, DL.lenP_s, DL.eqP, DL.eqOk_int, DL.eqOk_str, DL.eqOk_emp, DL.eqOk_empL, DL.eqv_emp1, DL.eqv_empL1, DL.eqv_ii, DL.eqv_ss, DL.ixP_t, DL.ixP_l, DL.ixP_s, DL.slP_t, DL.slP_l, DL.slP_s, DL.intcP_i, DL.intcP_b, DL.intcP_s, DL.tupcP_l, DL.tupcP_t, DL.atI_z, DL.atI_o, DL.atI_t, DL.int0P_ii, DL.intP_ii, DL.addP_ii, DL.addP_ss, DL.addP_tt, DL.addP_ll, DL.isTup_t, DL.reprP, Bool.false_eq_true, if_true, if_false, reduceIte, Option.some.injEq, PyData.bool.injEq, exists_eq_left', exists_eq_left, exists_eq_right, exists_eq_right', true_and, and_true, Bool.true_eq_false, Bool.not_true, Bool.not_false, false_and, and_false, exists_and_left, reduceCtorEq, DL.DV.gts.injEq, exists_const])
  refine ⟨_, _, rfl, .inl rfl, by decide, by decide, fun rare hrare => ?_⟩
  obtain ⟨rare, rfl, hr0, hr1⟩ : ∃ r : Int, rare = .int r ∧ 0 < r ∧ r ≤ 100 := by
    simp only [List.mem_cons, List.not_mem_nil, or_false] at hrare
    rcases hrare with rfl | rfl | rfl
    · exact ⟨6, rfl, by decide, by decide⟩
    · exact ⟨3, rfl, by decide, by decide⟩
    · exact ⟨40, rfl, by decide, by decide⟩
  (try simp only [DL.iteB_true, DL.iteB_false, DL.sSeq, DL.sNext, DL.sRet, DL.sRetN, DL.sIf, DL.sAsg, DL.sNew, DL.sDrop, DL.sRel, DL.sApp, DL.sFor, DL.sBreak, DL.sCont, DL.sAsgT, DL.sPar, DL.sPar3, DL.sPar3DFD, DL.sParFD, DL.sParDF, DL.sExt, DL.sPut, DL.sAug, DL.sCut, DL.sRaise, DL.sWhile, DL.fVar, DL.fC, DL.fOb, DL.fGts, DL.f2, DL.f1, DL.fCall, DL.fB, DL.fTru, DL.fAnd, DL.fOr, DL.fNot, DL.fIf, DL.tAndD, DL.tOrD, DL.tNotD, DL.fNil, DL.fCons, DL.fTup, DL.fLst, DL.fDnew, DL.fNew, DL.fIt, DL.fRng1, DL.fRng2, DL.fLc, DL.fAG, DL.fFn, DL.fFnX, DL.fFnK, DL.fSl, DL.fNone, DL.fPart, DL.fList, DL.fM0, DL.fM1, DL.tYesD, DL.gdN, DL.gdT_t, DL.gdNil_n, DL.gdCons_c, DL.op2, DL.op1, DL.opC, DL.c1, DL.isiP, DL.typeO, DL.tyIs, DL.inG, DL.isND, DL.rel, DL.wipeD, DL.le_s0, DL.le_s1, DL.le_s2, DL.le_s3, DL.le_s4, DL.le_s5, DL.le_s6, DL.le_s7, DL.le_s8, DL.le_s9, DL.le_s10, DL.le_s11, DL.le_s12, DL.le_s13, DL.le_s14, DL.le_s15, DL.le_s16, DL.le_s17, DL.le_s18, DL.le_s19, DL.le_s20, DL.le_s21, DL.le_s22, DL.le_s23, DL.le_s24, DL.le_s25, DL.le_s26, DL.le_s27, DL.le_s28, DL.le_s29, DL.le_s30, DL.le_s31, DL.le_s32, DL.le_s33, DL.le_s34, DL.le_s35, DL.le_s36, DL.le_s37, DL.le_s38, DL.le_s39, DL.le_s40, DL.le_s41, DL.le_s42, DL.le_s43, DL.le_s44, DL.le_s45, DL.le_s46, DL.le_s47, DL.le_s48, DL.le_s49, DL.le_s50, DL.le_s51, DL.le_s52, DL.le_s53, DL.le_s54, DL.le_s55, DL.le_s56, DL.le_s57, DL.le_s58, DL.le_s59, DL.le_s60, DL.le_s61, DL.le_s62, DL.le_s63, DL.le_s64, DL.start0, DL.asDat, DL.lend, DL.noOwn, DL.DV.isOwn, DL.pd_dat, DL.pd_own, DL.ocpd_lst, DL.ocpd_dk, DL.itemsOf, List.map_cons, List.map_nil, List.append_nil, List.cons_append, List.nil_append, List.length_cons, List.length_nil, List.replicate_succ, List.replicate_zero, List.getElem?_cons_zero, List.getElem?_cons_succ, List.set_cons_zero, List.set_cons_succ, Nat.reduceSub, Nat.reduceAdd, Nat.sub_self, Nat.zero_add, Option.some.injEq, DL.DV.dat.injEq, PyData.bool.injEq, PyData.int.injEq, PyData.str.injEq, PyData.tuple.injEq, PyData.list.injEq, DL.DV.ob.injEq, V.ty.injEq, DL.DV.own.injEq, DL.OC.lst.injEq, List.cons.injEq, Option.map_some, exists_eq_left', exists_eq_left, exists_eq_right, exists_eq_right', exists_and_left, and_true, true_and, Bool.not_true, Bool.not_false, Bool.and_true, Bool.true_and, true_or, Bool.not_eq_true', Bool.false_eq_true, if_true, if_false, reduceIte, reduceCtorEq])
  have m0 : 0 < 1 + dr := by omega
  have m1 : 1 + dr ≤ n := by omega
  generalize 1 + dr = many at m0 m1
  refine ⟨fun ρ => ∃ dd : List PyData, (∀ d ∈ dd, isDeed d = true) ∧ 0 < dd.length ∧ dd.length ≤ 1000 ∧ ρ = [some .deck, some (.dat (.int n)), some (.dat (.int many)), some (.own (.lst [])), some (.dat (.int rare)), some (.dat (.list dd)), none, none, none, none], ?_, ?_⟩
  · refine ⟨_, rfl, by decide, by decide, fun c c0 c1 => ?_⟩
    (try simp only [DL.iteB_true, DL.iteB_false, DL.sSeq, DL.sNext, DL.sRet, DL.sRetN, DL.sIf, DL.sAsg, DL.sNew, DL.sDrop, DL.sRel, DL.sApp, DL.sFor, DL.sBreak, DL.sCont, DL.sAsgT, DL.sPar, DL.sPar3, DL.sPar3DFD, DL.sParFD, DL.sParDF, DL.sExt, DL.sPut, DL.sAug, DL.sCut, DL.sRaise, DL.sWhile, DL.fVar, DL.fC, DL.fOb, DL.fGts, DL.f2, DL.f1, DL.fCall, DL.fB, DL.fTru, DL.fAnd, DL.fOr, DL.fNot, DL.fIf, DL.tAndD, DL.tOrD, DL.tNotD, DL.fNil, DL.fCons, DL.fTup, DL.fLst, DL.fDnew, DL.fNew, DL.fIt, DL.fRng1, DL.fRng2, DL.fLc, DL.fAG, DL.fFn, DL.fFnX, DL.fFnK, DL.fSl, DL.fNone, DL.fPart, DL.fList, DL.fM0, DL.fM1, DL.tYesD, DL.gdN, DL.gdT_t, DL.gdNil_n, DL.gdCons_c, DL.op2, DL.op1, DL.opC, DL.c1, DL.isiP, DL.typeO, DL.tyIs, DL.inG, DL.isND, DL.rel, DL.wipeD, DL.le_s0, DL.le_s1, DL.le_s2, DL.le_s3, DL.le_s4, DL.le_s5, DL.le_s6, DL.le_s7, DL.le_s8, DL.le_s9, DL.le_s10, DL.le_s11, DL.le_s12, DL.le_s13, DL.le_s14, DL.le_s15, DL.le_s16, DL.le_s17, DL.le_s18, DL.le_s19, DL.le_s20, DL.le_s21, DL.le_s22, DL.le_s23, DL.le_s24, DL.le_s25, DL.le_s26, DL.le_s27, DL.le_s28, DL.le_s29, DL.le_s30, DL.le_s31, DL.le_s32, DL.le_s33, DL.le_s34, DL.le_s35, DL.le_s36, DL.le_s37, DL.le_s38, DL.le_s39, DL.le_s40, DL.le_s41, DL.le_s42, DL.le_s43, DL.le_s44, DL.le_s45, DL.le_s46, DL.le_s47, DL.le_s48, DL.le_s49, DL.le_s50, DL.le_s51, DL.le_s52, DL.le_s53, DL.le_s54, DL.le_s55, DL.le_s56, DL.le_s57, DL.le_s58, DL.le_s59, DL.le_s60, DL.le_s61, DL.le_s62, DL.le_s63, DL.le_s64, DL.start0, DL.asDat, DL.lend, DL.noOwn, DL.DV.isOwn, DL.pd_dat, DL.pd_own, DL.ocpd_lst, DL.ocpd_dk, DL.itemsOf, List.map_cons, List.map_nil, List.append_nil, List.cons_append, List.nil_append, List.length_cons, List.length_nil, List.replicate_succ, List.replicate_zero, List.getElem?_cons_zero, List.getElem?_cons_succ, List.set_cons_zero, List.set_cons_succ, Nat.reduceSub, Nat.reduceAdd, Nat.sub_self, Nat.zero_add, Option.some.injEq, DL.DV.dat.injEq, PyData.bool.injEq, PyData.int.injEq, PyData.str.injEq, PyData.tuple.injEq, PyData.list.injEq, DL.DV.ob.injEq, V.ty.injEq, DL.DV.own.injEq, DL.OC.lst.injEq, List.cons.injEq, Option.map_some, exists_eq_left', exists_eq_left, exists_eq_right, exists_eq_right', exists_and_left, and_true, true_and, Bool.not_true, Bool.not_false, Bool.and_true, Bool.true_and, true_or, Bool.not_eq_true', Bool.false_eq_true, if_true, if_false, reduceIte, reduceCtorEq])
    refine ⟨rfl, ?_⟩
    (try simp only [DL.negP_i, DL.le_s0, DL.le_s1, DL.le_s2, DL.le_s3, DL.le_s4, DL.le_s5, DL.le_s6, DL.le_s7, DL.le_s8, DL.le_s9, DL.le_s10, DL.le_s11, DL.le_s12, DL.le_s13, DL.le_s14, DL.le_s15, DL.le_s16, DL.le_s17, DL.le_s18, DL.le_s19, DL.le_s20, DL.le_s21, DL.le_s22, DL.le_s23, DL.le_s24, DL.le_s25, DL.le_s26, DL.le_s27, DL.le_s28, DL.le_s29, DL.le_s30, DL.le_s31, DL.le_s32, DL.le_s33, DL.le_s34, DL.le_s35, DL.le_s36, DL.le_s37, DL.le_s38, DL.le_s39, DL.le_s40, DL.le_s41, DL.le_s42, DL.le_s43, DL.le_s44, DL.le_s45, DL.le_s46, DL.le_s47, DL.le_s48, DL.le_s49, DL.le_s50, DL.le_s51, DL.le_s52, DL.le_s53, DL.le_s54, DL.le_s55, DL.le_s56, DL.le_s57, DL.le_s58, DL.le_s59, DL.le_s60, DL.le_s61, DL.le_s62, DL.le_s63, DL.le_s64, DL.iteB_true, DL.iteB_false, DL.lenP_t, DL.lenP_l, DL.lenP_s, DL.eqP, DL.eqOk_int, DL.eqOk_str, DL.eqOk_emp, DL.eqOk_empL, DL.eqv_emp1, DL.eqv_empL1, DL.eqv_ii, DL.eqv_ss, DL.ixP_t, DL.ixP_l, DL.ixP_s, DL.slP_t, DL.slP_l, DL.slP_s, DL.intcP_i, DL.intcP_b, DL.intcP_s, DL.tupcP_l, DL.tupcP_t, DL.atI_z, DL.atI_o, DL.atI_t, DL.int0P_ii, DL.intP_ii, DL.addP_ii, DL.addP_ss, DL.addP_tt, DL.addP_ll, DL.isTup_t, DL.reprP, Bool.false_eq_true, if_true, if_false, reduceIte, Option.some.injEq, PyData.bool.injEq, exists_eq_left', exists_eq_left, exists_eq_right, exists_eq_right', true_and, and_true, Bool.true_eq_false, Bool.not_true, Bool.not_false, false_and, and_false, exists_and_left, reduceCtorEq, DL.DV.gts.injEq, exists_const])
    cases hc : (c == 0) with
    | true =>
      refine ⟨_, _, rfl, .inl rfl, by decide, by decide, fun e he => ?_⟩
      simp only [List.mem_cons, List.not_mem_nil, or_false] at he
      rcases he with rfl | rfl
      · exact ⟨_, by decide +kernel, by decide, by decide, rfl⟩
      · exact ⟨_, by decide +kernel, by decide, by decide, rfl⟩
    | false => exact ⟨_, by decide +kernel, by decide, by decide, rfl⟩
  · rintro ρ ⟨dd, hd, dn, dm, rfl⟩
    (try simp only [DL.iteB_true, DL.iteB_false, DL.sSeq, DL.sNext, DL.sRet, DL.sRetN, DL.sIf, DL.sAsg, DL.sNew, DL.sDrop, DL.sRel, DL.sApp, DL.sFor, DL.sBreak, DL.sCont, DL.sAsgT, DL.sPar, DL.sPar3, DL.sPar3DFD, DL.sParFD, DL.sParDF, DL.sExt, DL.sPut, DL.sAug, DL.sCut, DL.sRaise, DL.sWhile, DL.fVar, DL.fC, DL.fOb, DL.fGts, DL.f2, DL.f1, DL.fCall, DL.fB, DL.fTru, DL.fAnd, DL.fOr, DL.fNot, DL.fIf, DL.tAndD, DL.tOrD, DL.tNotD, DL.fNil, DL.fCons, DL.fTup, DL.fLst, DL.fDnew, DL.fNew, DL.fIt, DL.fRng1, DL.fRng2, DL.fLc, DL.fAG, DL.fFn, DL.fFnX, DL.fFnK, DL.fSl, DL.fNone, DL.fPart, DL.fList, DL.fM0, DL.fM1, DL.tYesD, DL.gdN, DL.gdT_t, DL.gdNil_n, DL.gdCons_c, DL.op2, DL.op1, DL.opC, DL.c1, DL.isiP, DL.typeO, DL.tyIs, DL.inG, DL.isND, DL.rel, DL.wipeD, DL.le_s0, DL.le_s1, DL.le_s2, DL.le_s3, DL.le_s4, DL.le_s5, DL.le_s6, DL.le_s7, DL.le_s8, DL.le_s9, DL.le_s10, DL.le_s11, DL.le_s12, DL.le_s13, DL.le_s14, DL.le_s15, DL.le_s16, DL.le_s17, DL.le_s18, DL.le_s19, DL.le_s20, DL.le_s21, DL.le_s22, DL.le_s23, DL.le_s24, DL.le_s25, DL.le_s26, DL.le_s27, DL.le_s28, DL.le_s29, DL.le_s30, DL.le_s31, DL.le_s32, DL.le_s33, DL.le_s34, DL.le_s35, DL.le_s36, DL.le_s37, DL.le_s38, DL.le_s39, DL.le_s40, DL.le_s41, DL.le_s42, DL.le_s43, DL.le_s44, DL.le_s45, DL.le_s46, DL.le_s47, DL.le_s48, DL.le_s49, DL.le_s50, DL.le_s51, DL.le_s52, DL.le_s53, DL.le_s54, DL.le_s55, DL.le_s56, DL.le_s57, DL.le_s58, DL.le_s59, DL.le_s60, DL.le_s61, DL.le_s62, DL.le_s63, DL.le_s64, DL.start0, DL.asDat, DL.lend, DL.noOwn, DL.DV.isOwn, DL.pd_dat, DL.pd_own, DL.ocpd_lst, DL.ocpd_dk, DL.itemsOf, List.map_cons, List.map_nil, List.append_nil, List.cons_append, List.nil_append, List.length_cons, List.length_nil, List.replicate_succ, List.replicate_zero, List.getElem?_cons_zero, List.getElem?_cons_succ, List.set_cons_zero, List.set_cons_succ, Nat.reduceSub, Nat.reduceAdd, Nat.sub_self, Nat.zero_add, Option.some.injEq, DL.DV.dat.injEq, PyData.bool.injEq, PyData.int.injEq, PyData.str.injEq, PyData.tuple.injEq, PyData.list.injEq, DL.DV.ob.injEq, V.ty.injEq, DL.DV.own.injEq, DL.OC.lst.injEq, List.cons.injEq, Option.map_some, exists_eq_left', exists_eq_left, exists_eq_right, exists_eq_right', exists_and_left, and_true, true_and, Bool.not_true, Bool.not_false, Bool.and_true, Bool.true_and, true_or, Bool.not_eq_true', Bool.false_eq_true, if_true, if_false, reduceIte, reduceCtorEq])
    (try simp only [DL.negP_i, DL.le_s0, DL.le_s1, DL.le_s2, DL.le_s3, DL.le_s4, DL.le_s5, DL.le_s6, DL.le_s7, DL.le_s8, DL.le_s9, DL.le_s10, DL.le_s11, DL.le_s12, DL.le_s13, DL.le_s14, DL.le_s15, DL.le_s16, DL.le_s17, DL.le_s18, DL.le_s19, DL.le_s20, DL.le_s21, DL.le_s22, DL.le_s23, DL.le_s24, DL.le_s25, DL.le_s26, DL.le_s27, DL.le_s28, DL.le_s29, DL.le_s30, DL.le_s31, DL.le_s32, DL.le_s33, DL.le_s34, DL.le_s35, DL.le_s36, DL.le_s37, DL.le_s38, DL.le_s39, DL.le_s40, DL.le_s41, DL.le_s42, DL.le_s43, DL.le_s44, DL.le_s45, DL.le_s46, DL.le_s47, DL.le_s48, DL.le_s49, DL.le_s50, DL.le_s51, DL.le_s52, DL.le_s53, DL.le_s54, DL.le_s55, DL.le_s56, DL.le_s57, DL.le_s58, DL.le_s59, DL.le_s60, DL.le_s61, DL.le_s62, DL.le_s63, DL.le_s64, DL.iteB_true, DL.iteB_false, DL.lenP_t, DL.lenP_l, DL.lenP_s, DL.eqP, DL.eqOk_int, DL.eqOk_str, DL.eqOk_emp, DL.eqOk_empL, DL.eqv_emp1, DL.eqv_empL1, DL.eqv_ii, DL.eqv_ss, DL.ixP_t, DL.ixP_l, DL.ixP_s, DL.slP_t, DL.slP_l, DL.slP_s, DL.intcP_i, DL.intcP_b, DL.intcP_s, DL.tupcP_l, DL.tupcP_t, DL.atI_z, DL.atI_o, DL.atI_t, DL.int0P_ii, DL.intP_ii, DL.addP_ii, DL.addP_ss, DL.addP_tt, DL.addP_ll, DL.isTup_t, DL.reprP, Bool.false_eq_true, if_true, if_false, reduceIte, Option.some.injEq, PyData.bool.injEq, exists_eq_left', exists_eq_left, exists_eq_right, exists_eq_right', true_and, and_true, Bool.true_eq_false, Bool.not_true, Bool.not_false, false_and, and_false, exists_and_left, reduceCtorEq, DL.DV.gts.injEq, exists_const])
    refine ⟨by omega, by omega, ?_⟩
    refine for_inv (fun i ρ => ∃ ms x6 x7 x8 x9, ms.length = i ∧ (∀ s ∈ ms, stateB many s = true) ∧ ρ = [some .deck, some (.dat (.int n)), some (.dat (.int many)), some (.own (.lst ms)), some (.dat (.int rare)), some (.dat (.list dd)), x6, x7, x8, x9]) (fun i d ρ N hi hI hN => ?_) ⟨[], _, _, _, _, rfl, (fun s hs => by cases hs), rfl⟩ (fun ρ hI => ?_)
    · obtain ⟨ms, x6, x7, x8, x9, hl, hms, rfl⟩ := hI
      (try simp only [DL.iteB_true, DL.iteB_false, DL.sSeq, DL.sNext, DL.sRet, DL.sRetN, DL.sIf, DL.sAsg, DL.sNew, DL.sDrop, DL.sRel, DL.sApp, DL.sFor, DL.sBreak, DL.sCont, DL.sAsgT, DL.sPar, DL.sPar3, DL.sPar3DFD, DL.sParFD, DL.sParDF, DL.sExt, DL.sPut, DL.sAug, DL.sCut, DL.sRaise, DL.sWhile, DL.fVar, DL.fC, DL.fOb, DL.fGts, DL.f2, DL.f1, DL.fCall, DL.fB, DL.fTru, DL.fAnd, DL.fOr, DL.fNot, DL.fIf, DL.tAndD, DL.tOrD, DL.tNotD, DL.fNil, DL.fCons, DL.fTup, DL.fLst, DL.fDnew, DL.fNew, DL.fIt, DL.fRng1, DL.fRng2, DL.fLc, DL.fAG, DL.fFn, DL.fFnX, DL.fFnK, DL.fSl, DL.fNone, DL.fPart, DL.fList, DL.fM0, DL.fM1, DL.tYesD, DL.gdN, DL.gdT_t, DL.gdNil_n, DL.gdCons_c, DL.op2, DL.op1, DL.opC, DL.c1, DL.isiP, DL.typeO, DL.tyIs, DL.inG, DL.isND, DL.rel, DL.wipeD, DL.le_s0, DL.le_s1, DL.le_s2, DL.le_s3, DL.le_s4, DL.le_s5, DL.le_s6, DL.le_s7, DL.le_s8, DL.le_s9, DL.le_s10, DL.le_s11, DL.le_s12, DL.le_s13, DL.le_s14, DL.le_s15, DL.le_s16, DL.le_s17, DL.le_s18, DL.le_s19, DL.le_s20, DL.le_s21, DL.le_s22, DL.le_s23, DL.le_s24, DL.le_s25, DL.le_s26, DL.le_s27, DL.le_s28, DL.le_s29, DL.le_s30, DL.le_s31, DL.le_s32, DL.le_s33, DL.le_s34, DL.le_s35, DL.le_s36, DL.le_s37, DL.le_s38, DL.le_s39, DL.le_s40, DL.le_s41, DL.le_s42, DL.le_s43, DL.le_s44, DL.le_s45, DL.le_s46, DL.le_s47, DL.le_s48, DL.le_s49, DL.le_s50, DL.le_s51, DL.le_s52, DL.le_s53, DL.le_s54, DL.le_s55, DL.le_s56, DL.le_s57, DL.le_s58, DL.le_s59, DL.le_s60, DL.le_s61, DL.le_s62, DL.le_s63, DL.le_s64, DL.start0, DL.asDat, DL.lend, DL.noOwn, DL.DV.isOwn, DL.pd_dat, DL.pd_own, DL.ocpd_lst, DL.ocpd_dk, DL.itemsOf, List.map_cons, List.map_nil, List.append_nil, List.cons_append, List.nil_append, List.length_cons, List.length_nil, List.replicate_succ, List.replicate_zero, List.getElem?_cons_zero, List.getElem?_cons_succ, List.set_cons_zero, List.set_cons_succ, Nat.reduceSub, Nat.reduceAdd, Nat.sub_self, Nat.zero_add, Option.some.injEq, DL.DV.dat.injEq, PyData.bool.injEq, PyData.int.injEq, PyData.str.injEq, PyData.tuple.injEq, PyData.list.injEq, DL.DV.ob.injEq, V.ty.injEq, DL.DV.own.injEq, DL.OC.lst.injEq, List.cons.injEq, Option.map_some, exists_eq_left', exists_eq_left, exists_eq_right, exists_eq_right', exists_and_left, and_true, true_and, Bool.not_true, Bool.not_false, Bool.and_true, Bool.true_and, true_or, Bool.not_eq_true', Bool.false_eq_true, if_true, if_false, reduceIte, reduceCtorEq])
      refine ⟨by decide, by decide, ?_⟩
      refine for_inv (fun i ρ => ∃ rs x8 x9, rs.length = i ∧ (∀ r ∈ rs, ruleB many r = true) ∧ ρ = [some .deck, some (.dat (.int n)), some (.dat (.int many)), some (.own (.lst ms)), some (.dat (.int rare)), some (.dat (.list dd)), some (.dat d), some (.own (.lst rs)), x8, x9]) (fun j e ρ N2 hj hI hN2 => ?_) ⟨[], _, _, rfl, (fun s hs => by cases hs), rfl⟩ (fun ρ hI => ?_)
      · obtain ⟨rs, x8, x9, hl2, hrs, rfl⟩ := hI
        have hj3 : j < 3 := by
          have := (List.getElem?_eq_some_iff.mp hj).1
          simpa [rngD] using this
        have fin : ∀ to : Int, 0 ≤ to → to ≤ many → ∀ b ∈ dd, N2 [some .deck, some (.dat (.int n)), some (.dat (.int many)), some (.own (.lst ms)), some (.dat (.int rare)), some (.dat (.list dd)), some (.dat d), some (.own (.lst (rs ++ [.tuple [.int to, b]]))), some (.dat e), some (.dat (.int to))] := fun to t0 t1 b hb => by
          refine hN2 _ ⟨_, _, _, by simp [hl2], fun r hr => ?_, rfl⟩
          rcases List.mem_append.mp hr with hr | hr
          · exact hrs r hr
          · rw [List.mem_singleton.mp hr]
            exact rule_ok t0 t1 (hd b hb)
        (try simp only [DL.iteB_true, DL.iteB_false, DL.sSeq, DL.sNext, DL.sRet, DL.sRetN, DL.sIf, DL.sAsg, DL.sNew, DL.sDrop, DL.sRel, DL.sApp, DL.sFor, DL.sBreak, DL.sCont, DL.sAsgT, DL.sPar, DL.sPar3, DL.sPar3DFD, DL.sParFD, DL.sParDF, DL.sExt, DL.sPut, DL.sAug, DL.sCut, DL.sRaise, DL.sWhile, DL.fVar, DL.fC, DL.fOb, DL.fGts, DL.f2, DL.f1, DL.fCall, DL.fB, DL.fTru, DL.fAnd, DL.fOr, DL.fNot, DL.fIf, DL.tAndD, DL.tOrD, DL.tNotD, DL.fNil, DL.fCons, DL.fTup, DL.fLst, DL.fDnew, DL.fNew, DL.fIt, DL.fRng1, DL.fRng2, DL.fLc, DL.fAG, DL.fFn, DL.fFnX, DL.fFnK, DL.fSl, DL.fNone, DL.fPart, DL.fList, DL.fM0, DL.fM1, DL.tYesD, DL.gdN, DL.gdT_t, DL.gdNil_n, DL.gdCons_c, DL.op2, DL.op1, DL.opC, DL.c1, DL.isiP, DL.typeO, DL.tyIs, DL.inG, DL.isND, DL.rel, DL.wipeD, DL.le_s0, DL.le_s1, DL.le_s2, DL.le_s3, DL.le_s4, DL.le_s5, DL.le_s6, DL.le_s7, DL.le_s8, DL.le_s9, DL.le_s10, DL.le_s11, DL.le_s12, DL.le_s13, DL.le_s14, DL.le_s15, DL.le_s16, DL.le_s17, DL.le_s18, DL.le_s19, DL.le_s20, DL.le_s21, DL.le_s22, DL.le_s23, DL.le_s24, DL.le_s25, DL.le_s26, DL.le_s27, DL.le_s28, DL.le_s29, DL.le_s30, DL.le_s31, DL.le_s32, DL.le_s33, DL.le_s34, DL.le_s35, DL.le_s36, DL.le_s37, DL.le_s38, DL.le_s39, DL.le_s40, DL.le_s41, DL.le_s42, DL.le_s43, DL.le_s44, DL.le_s45, DL.le_s46, DL.le_s47, DL.le_s48, DL.le_s49, DL.le_s50, DL.le_s51, DL.le_s52, DL.le_s53, DL.le_s54, DL.le_s55, DL.le_s56, DL.le_s57, DL.le_s58, DL.le_s59, DL.le_s60, DL.le_s61, DL.le_s62, DL.le_s63, DL.le_s64, DL.start0, DL.asDat, DL.lend, DL.noOwn, DL.DV.isOwn, DL.pd_dat, DL.pd_own, DL.ocpd_lst, DL.ocpd_dk, DL.itemsOf, List.map_cons, List.map_nil, List.append_nil, List.cons_append, List.nil_append, List.length_cons, List.length_nil, List.replicate_succ, List.replicate_zero, List.getElem?_cons_zero, List.getElem?_cons_succ, List.set_cons_zero, List.set_cons_succ, Nat.reduceSub, Nat.reduceAdd, Nat.sub_self, Nat.zero_add, Option.some.injEq, DL.DV.dat.injEq, PyData.bool.injEq, PyData.int.injEq, PyData.str.injEq, PyData.tuple.injEq, PyData.list.injEq, DL.DV.ob.injEq, V.ty.injEq, DL.DV.own.injEq, DL.OC.lst.injEq, List.cons.injEq, Option.map_some, exists_eq_left', exists_eq_left, exists_eq_right, exists_eq_right', exists_and_left, and_true, true_and, Bool.not_true, Bool.not_false, Bool.and_true, Bool.true_and, true_or, Bool.not_eq_true', Bool.false_eq_true, if_true, if_false, reduceIte, reduceCtorEq])
        refine ⟨_, rfl, by omega, by omega, fun c c0 c1 => ?_⟩
        (try simp only [DL.negP_i, DL.le_s0, DL.le_s1, DL.le_s2, DL.le_s3, DL.le_s4, DL.le_s5, DL.le_s6, DL.le_s7, DL.le_s8, DL.le_s9, DL.le_s10, DL.le_s11, DL.le_s12, DL.le_s13, DL.le_s14, DL.le_s15, DL.le_s16, DL.le_s17, DL.le_s18, DL.le_s19, DL.le_s20, DL.le_s21, DL.le_s22, DL.le_s23, DL.le_s24, DL.le_s25, DL.le_s26, DL.le_s27, DL.le_s28, DL.le_s29, DL.le_s30, DL.le_s31, DL.le_s32, DL.le_s33, DL.le_s34, DL.le_s35, DL.le_s36, DL.le_s37, DL.le_s38, DL.le_s39, DL.le_s40, DL.le_s41, DL.le_s42, DL.le_s43, DL.le_s44, DL.le_s45, DL.le_s46, DL.le_s47, DL.le_s48, DL.le_s49, DL.le_s50, DL.le_s51, DL.le_s52, DL.le_s53, DL.le_s54, DL.le_s55, DL.le_s56, DL.le_s57, DL.le_s58, DL.le_s59, DL.le_s60, DL.le_s61, DL.le_s62, DL.le_s63, DL.le_s64, DL.iteB_true, DL.iteB_false, DL.lenP_t, DL.lenP_l, DL.lenP_s, DL.eqP, DL.eqOk_int, DL.eqOk_str, DL.eqOk_emp, DL.eqOk_empL, DL.eqv_emp1, DL.eqv_empL1, DL.eqv_ii, DL.eqv_ss, DL.ixP_t, DL.ixP_l, DL.ixP_s, DL.slP_t, DL.slP_l, DL.slP_s, DL.intcP_i, DL.intcP_b, DL.intcP_s, DL.tupcP_l, DL.tupcP_t, DL.atI_z, DL.atI_o, DL.atI_t, DL.int0P_ii, DL.intP_ii, DL.addP_ii, DL.addP_ss, DL.addP_tt, DL.addP_ll, DL.isTup_t, DL.reprP, Bool.false_eq_true, if_true, if_false, reduceIte, Option.some.injEq, PyData.bool.injEq, exists_eq_left', exists_eq_left, exists_eq_right, exists_eq_right', true_and, and_true, Bool.true_eq_false, Bool.not_true, Bool.not_false, false_and, and_false, exists_and_left, reduceCtorEq, DL.DV.gts.injEq, exists_const])
        cases hc : (c == 0) with
        | true => exact ⟨_, _, rfl, .inl rfl, dn, by omega, fun b hb => ⟨by rw [sizeLine_eq]; omega, fin many (by omega) (Int.le_refl _) b hb⟩⟩
        | false =>
          refine ⟨_, rfl, m0, by omega, fun t t0 t1 => ?_⟩
          exact ⟨_, _, rfl, .inl rfl, dn, by omega, fun b hb => ⟨by rw [sizeLine_eq]; omega, fin t t0 (by omega) b hb⟩⟩
      · obtain ⟨rs, x8, x9, hl2, hrs, rfl⟩ := hI
        have hi2 : i < many.toNat := by
          have := (List.getElem?_eq_some_iff.mp hi).1
          simpa [rngD] using this
        rw [rngD_len] at hl2
        have hl2 : rs.length = 3 := hl2
        (try simp only [DL.iteB_true, DL.iteB_false, DL.sSeq, DL.sNext, DL.sRet, DL.sRetN, DL.sIf, DL.sAsg, DL.sNew, DL.sDrop, DL.sRel, DL.sApp, DL.sFor, DL.sBreak, DL.sCont, DL.sAsgT, DL.sPar, DL.sPar3, DL.sPar3DFD, DL.sParFD, DL.sParDF, DL.sExt, DL.sPut, DL.sAug, DL.sCut, DL.sRaise, DL.sWhile, DL.fVar, DL.fC, DL.fOb, DL.fGts, DL.f2, DL.f1, DL.fCall, DL.fB, DL.fTru, DL.fAnd, DL.fOr, DL.fNot, DL.fIf, DL.tAndD, DL.tOrD, DL.tNotD, DL.fNil, DL.fCons, DL.fTup, DL.fLst, DL.fDnew, DL.fNew, DL.fIt, DL.fRng1, DL.fRng2, DL.fLc, DL.fAG, DL.fFn, DL.fFnX, DL.fFnK, DL.fSl, DL.fNone, DL.fPart, DL.fList, DL.fM0, DL.fM1, DL.tYesD, DL.gdN, DL.gdT_t, DL.gdNil_n, DL.gdCons_c, DL.op2, DL.op1, DL.opC, DL.c1, DL.isiP, DL.typeO, DL.tyIs, DL.inG, DL.isND, DL.rel, DL.wipeD, DL.le_s0, DL.le_s1, DL.le_s2, DL.le_s3, DL.le_s4, DL.le_s5, DL.le_s6, DL.le_s7, DL.le_s8, DL.le_s9, DL.le_s10, DL.le_s11, DL.le_s12, DL.le_s13, DL.le_s14, DL.le_s15, DL.le_s16, DL.le_s17, DL.le_s18, DL.le_s19, DL.le_s20, DL.le_s21, DL.le_s22, DL.le_s23, DL.le_s24, DL.le_s25, DL.le_s26, DL.le_s27, DL.le_s28, DL.le_s29, DL.le_s30, DL.le_s31, DL.le_s32, DL.le_s33, DL.le_s34, DL.le_s35, DL.le_s36, DL.le_s37, DL.le_s38, DL.le_s39, DL.le_s40, DL.le_s41, DL.le_s42, DL.le_s43, DL.le_s44, DL.le_s45, DL.le_s46, DL.le_s47, DL.le_s48, DL.le_s49, DL.le_s50, DL.le_s51, DL.le_s52, DL.le_s53, DL.le_s54, DL.le_s55, DL.le_s56, DL.le_s57, DL.le_s58, DL.le_s59, DL.le_s60, DL.le_s61, DL.le_s62, DL.le_s63, DL.le_s64, DL.start0, DL.asDat, DL.lend, DL.noOwn, DL.DV.isOwn, DL.pd_dat, DL.pd_own, DL.ocpd_lst, DL.ocpd_dk, DL.itemsOf, List.map_cons, List.map_nil, List.append_nil, List.cons_append, List.nil_append, List.length_cons, List.length_nil, List.replicate_succ, List.replicate_zero, List.getElem?_cons_zero, List.getElem?_cons_succ, List.set_cons_zero, List.set_cons_succ, Nat.reduceSub, Nat.reduceAdd, Nat.sub_self, Nat.zero_add, Option.some.injEq, DL.DV.dat.injEq, PyData.bool.injEq, PyData.int.injEq, PyData.str.injEq, PyData.tuple.injEq, PyData.list.injEq, DL.DV.ob.injEq, V.ty.injEq, DL.DV.own.injEq, DL.OC.lst.injEq, List.cons.injEq, Option.map_some, exists_eq_left', exists_eq_left, exists_eq_right, exists_eq_right', exists_and_left, and_true, true_and, Bool.not_true, Bool.not_false, Bool.and_true, Bool.true_and, true_or, Bool.not_eq_true', Bool.false_eq_true, if_true, if_false, reduceIte, reduceCtorEq])
        (try simp only [DL.negP_i, DL.le_s0, DL.le_s1, DL.le_s2, DL.le_s3, DL.le_s4, DL.le_s5, DL.le_s6, DL.le_s7, DL.le_s8, DL.le_s9, DL.le_s10, DL.le_s11, DL.le_s12, DL.le_s13, DL.le_s14, DL.le_s15, DL.le_s16, DL.le_s17, DL.le_s18, DL.le_s19, DL.le_s20, DL.le_s21, DL.le_s22, DL.le_s23, DL.le_s24, DL.le_s25, DL.le_s26, DL.le_s27, DL.le_s28, DL.le_s29, DL.le_s30, DL.le_s31, DL.le_s32, DL.le_s33, DL.le_s34, DL.le_s35, DL.le_s36, DL.le_s37, DL.le_s38, DL.le_s39, DL.le_s40, DL.le_s41, DL.le_s42, DL.le_s43, DL.le_s44, DL.le_s45, DL.le_s46, DL.le_s47, DL.le_s48, DL.le_s49, DL.le_s50, DL.le_s51, DL.le_s52, DL.le_s53, DL.le_s54, DL.le_s55, DL.le_s56, DL.le_s57, DL.le_s58, DL.le_s59, DL.le_s60, DL.le_s61, DL.le_s62, DL.le_s63, DL.le_s64, DL.iteB_true, DL.iteB_false, DL.lenP_t, DL.lenP_l, DL.lenP_s, DL.eqP, DL.eqOk_int, DL.eqOk_str, DL.eqOk_emp, DL.eqOk_empL, DL.eqv_emp1, DL.eqv_empL1, DL.eqv_ii, DL.eqv_ss, DL.ixP_t, DL.ixP_l, DL.ixP_s, DL.slP_t, DL.slP_l, DL.slP_s, DL.intcP_i, DL.intcP_b, DL.intcP_s, DL.tupcP_l, DL.tupcP_t, DL.atI_z, DL.atI_o, DL.atI_t, DL.int0P_ii, DL.intP_ii, DL.addP_ii, DL.addP_ss, DL.addP_tt, DL.addP_ll, DL.isTup_t, DL.reprP, Bool.false_eq_true, if_true, if_false, reduceIte, Option.some.injEq, PyData.bool.injEq, exists_eq_left', exists_eq_left, exists_eq_right, exists_eq_right', true_and, and_true, Bool.true_eq_false, Bool.not_true, Bool.not_false, false_and, and_false, exists_and_left, reduceCtorEq, DL.DV.gts.injEq, exists_const])
        refine ⟨by rw [sizeLine_eq]; omega, hN _ ⟨_, _, _, _, _, by simp [hl], fun s hs => ?_, rfl⟩⟩
        rcases List.mem_append.mp hs with hs | hs
        · exact hms s hs
        · rw [List.mem_singleton.mp hs]
          show (decide (rs.length = 3) && rs.all (ruleB many)) = true
          rw [decide_eq_true hl2, List.all_eq_true.mpr hrs]
          rfl
    · obtain ⟨ms, x6, x7, x8, x9, hl, hms, rfl⟩ := hI
      rw [rngD_len] at hl
      have hlm : (ms.length : Int) = many := by omega
      have fin : ∀ ts : List PyData, ts.length = ms.length → (∀ s ∈ ts, stateB many s = true) → Kk (.tuple ts) := fun ts h1 h2 => by
        refine h ts ?_ (by omega)
        show (decide (0 < ts.length) && ts.all (stateB ts.length)) = true
        rw [h1, hlm, decide_eq_true (by omega), Bool.true_and]
        exact List.all_eq_true.mpr h2
      (try simp only [DL.iteB_true, DL.iteB_false, DL.sSeq, DL.sNext, DL.sRet, DL.sRetN, DL.sIf, DL.sAsg, DL.sNew, DL.sDrop, DL.sRel, DL.sApp, DL.sFor, DL.sBreak, DL.sCont, DL.sAsgT, DL.sPar, DL.sPar3, DL.sPar3DFD, DL.sParFD, DL.sParDF, DL.sExt, DL.sPut, DL.sAug, DL.sCut, DL.sRaise, DL.sWhile, DL.fVar, DL.fC, DL.fOb, DL.fGts, DL.f2, DL.f1, DL.fCall, DL.fB, DL.fTru, DL.fAnd, DL.fOr, DL.fNot, DL.fIf, DL.tAndD, DL.tOrD, DL.tNotD, DL.fNil, DL.fCons, DL.fTup, DL.fLst, DL.fDnew, DL.fNew, DL.fIt, DL.fRng1, DL.fRng2, DL.fLc, DL.fAG, DL.fFn, DL.fFnX, DL.fFnK, DL.fSl, DL.fNone, DL.fPart, DL.fList, DL.fM0, DL.fM1, DL.tYesD, DL.gdN, DL.gdT_t, DL.gdNil_n, DL.gdCons_c, DL.op2, DL.op1, DL.opC, DL.c1, DL.isiP, DL.typeO, DL.tyIs, DL.inG, DL.isND, DL.rel, DL.wipeD, DL.le_s0, DL.le_s1, DL.le_s2, DL.le_s3, DL.le_s4, DL.le_s5, DL.le_s6, DL.le_s7, DL.le_s8, DL.le_s9, DL.le_s10, DL.le_s11, DL.le_s12, DL.le_s13, DL.le_s14, DL.le_s15, DL.le_s16, DL.le_s17, DL.le_s18, DL.le_s19, DL.le_s20, DL.le_s21, DL.le_s22, DL.le_s23, DL.le_s24, DL.le_s25, DL.le_s26, DL.le_s27, DL.le_s28, DL.le_s29, DL.le_s30, DL.le_s31, DL.le_s32, DL.le_s33, DL.le_s34, DL.le_s35, DL.le_s36, DL.le_s37, DL.le_s38, DL.le_s39, DL.le_s40, DL.le_s41, DL.le_s42, DL.le_s43, DL.le_s44, DL.le_s45, DL.le_s46, DL.le_s47, DL.le_s48, DL.le_s49, DL.le_s50, DL.le_s51, DL.le_s52, DL.le_s53, DL.le_s54, DL.le_s55, DL.le_s56, DL.le_s57, DL.le_s58, DL.le_s59, DL.le_s60, DL.le_s61, DL.le_s62, DL.le_s63, DL.le_s64, DL.start0, DL.asDat, DL.lend, DL.noOwn, DL.DV.isOwn, DL.pd_dat, DL.pd_own, DL.ocpd_lst, DL.ocpd_dk, DL.itemsOf, List.map_cons, List.map_nil, List.append_nil, List.cons_append, List.nil_append, List.length_cons, List.length_nil, List.replicate_succ, List.replicate_zero, List.getElem?_cons_zero, List.getElem?_cons_succ, List.set_cons_zero, List.set_cons_succ, Nat.reduceSub, Nat.reduceAdd, Nat.sub_self, Nat.zero_add, Option.some.injEq, DL.DV.dat.injEq, PyData.bool.injEq, PyData.int.injEq, PyData.str.injEq, PyData.tuple.injEq, PyData.list.injEq, DL.DV.ob.injEq, V.ty.injEq, DL.DV.own.injEq, DL.OC.lst.injEq, List.cons.injEq, Option.map_some, exists_eq_left', exists_eq_left, exists_eq_right, exists_eq_right', exists_and_left, and_true, true_and, Bool.not_true, Bool.not_false, Bool.and_true, Bool.true_and, true_or, Bool.not_eq_true', Bool.false_eq_true, if_true, if_false, reduceIte, reduceCtorEq])
      (try simp only [DL.negP_i, DL.le_s0, DL.le_s1, DL.le_s2, DL.le_s3, DL.le_s4, DL.le_s5, DL.le_s6, DL.le_s7, DL.le_s8, DL.le_s9, DL.le_s10, DL.le_s11, DL.le_s12, DL.le_s13, DL.le_s14, DL.le_s15, DL.le_s16, DL.le_s17, DL.le_s18, DL.le_s19, DL.le_s20, DL.le_s21, DL.le_s22, DL.le_s23, DL.le_s24, DL.le_s25, DL.le_s26, DL.le_s27, DL.le_s28, DL.le_s29, DL.le_s30, DL.le_s31, DL.le_s32, DL.le_s33, DL.le_s34, DL.le_s35, DL.le_s36, DL.le_s37, DL.le_s38, DL.le_s39, DL.le_s40, DL.le_s41, DL.le_s42, DL.le_s43, DL.le_s44, DL.le_s45, DL.le_s46, DL.le_s47, DL.le_s48, DL.le_s49, DL.le_s50, DL.le_s51, DL.le_s52, DL.le_s53, DL.le_s54, DL.le_s55, DL.le_s56, DL.le_s57, DL.le_s58, DL.le_s59, DL.le_s60, DL.le_s61, DL.le_s62, DL.le_s63, DL.le_s64, DL.iteB_true, DL.iteB_false, DL.lenP_t, DL.lenP_l, DL.lenP_s, DL.eqP, DL.eqOk_int, DL.eqOk_str, DL.eqOk_emp, DL.eqOk_empL, DL.eqv_emp1, DL.eqv_empL1, DL.eqv_ii, DL.eqv_ss, DL.ixP_t, DL.ixP_l, DL.ixP_s, DL.slP_t, DL.slP_l, DL.slP_s, DL.intcP_i, DL.intcP_b, DL.intcP_s, DL.tupcP_l, DL.tupcP_t, DL.atI_z, DL.atI_o, DL.atI_t, DL.int0P_ii, DL.intP_ii, DL.addP_ii, DL.addP_ss, DL.addP_tt, DL.addP_ll, DL.isTup_t, DL.reprP, Bool.false_eq_true, if_true, if_false, reduceIte, Option.some.injEq, PyData.bool.injEq, exists_eq_left', exists_eq_left, exists_eq_right, exists_eq_right', true_and, and_true, Bool.true_eq_false, Bool.not_true, Bool.not_false, false_and, and_false, exists_and_left, reduceCtorEq, DL.DV.gts.injEq, exists_const])
      by_cases h1 : 1 < many
      · rw [decide_eq_true h1]
        (try simp only [DL.negP_i, DL.le_s0, DL.le_s1, DL.le_s2, DL.le_s3, DL.le_s4, DL.le_s5, DL.le_s6, DL.le_s7, DL.le_s8, DL.le_s9, DL.le_s10, DL.le_s11, DL.le_s12, DL.le_s13, DL.le_s14, DL.le_s15, DL.le_s16, DL.le_s17, DL.le_s18, DL.le_s19, DL.le_s20, DL.le_s21, DL.le_s22, DL.le_s23, DL.le_s24, DL.le_s25, DL.le_s26, DL.le_s27, DL.le_s28, DL.le_s29, DL.le_s30, DL.le_s31, DL.le_s32, DL.le_s33, DL.le_s34, DL.le_s35, DL.le_s36, DL.le_s37, DL.le_s38, DL.le_s39, DL.le_s40, DL.le_s41, DL.le_s42, DL.le_s43, DL.le_s44, DL.le_s45, DL.le_s46, DL.le_s47, DL.le_s48, DL.le_s49, DL.le_s50, DL.le_s51, DL.le_s52, DL.le_s53, DL.le_s54, DL.le_s55, DL.le_s56, DL.le_s57, DL.le_s58, DL.le_s59, DL.le_s60, DL.le_s61, DL.le_s62, DL.le_s63, DL.le_s64, DL.iteB_true, DL.iteB_false, DL.lenP_t, DL.lenP_l, DL.lenP_s, DL.eqP, DL.eqOk_int, DL.eqOk_str, DL.eqOk_emp, DL.eqOk_empL, DL.eqv_emp1, DL.eqv_empL1, DL.eqv_ii, DL.eqv_ss, DL.ixP_t, DL.ixP_l, DL.ixP_s, DL.slP_t, DL.slP_l, DL.slP_s, DL.intcP_i, DL.intcP_b, DL.intcP_s, DL.tupcP_l, DL.tupcP_t, DL.atI_z, DL.atI_o, DL.atI_t, DL.int0P_ii, DL.intP_ii, DL.addP_ii, DL.addP_ss, DL.addP_tt, DL.addP_ll, DL.isTup_t, DL.reprP, Bool.false_eq_true, if_true, if_false, reduceIte, Option.some.injEq, PyData.bool.injEq, exists_eq_left', exists_eq_left, exists_eq_right, exists_eq_right', true_and, and_true, Bool.true_eq_false, Bool.not_true, Bool.not_false, false_and, and_false, exists_and_left, reduceCtorEq, DL.DV.gts.injEq, exists_const])
        refine ⟨_, rfl, by decide, by decide, fun c c0 c1 => ?_⟩
        (try simp only [DL.negP_i, DL.le_s0, DL.le_s1, DL.le_s2, DL.le_s3, DL.le_s4, DL.le_s5, DL.le_s6, DL.le_s7, DL.le_s8, DL.le_s9, DL.le_s10, DL.le_s11, DL.le_s12, DL.le_s13, DL.le_s14, DL.le_s15, DL.le_s16, DL.le_s17, DL.le_s18, DL.le_s19, DL.le_s20, DL.le_s21, DL.le_s22, DL.le_s23, DL.le_s24, DL.le_s25, DL.le_s26, DL.le_s27, DL.le_s28, DL.le_s29, DL.le_s30, DL.le_s31, DL.le_s32, DL.le_s33, DL.le_s34, DL.le_s35, DL.le_s36, DL.le_s37, DL.le_s38, DL.le_s39, DL.le_s40, DL.le_s41, DL.le_s42, DL.le_s43, DL.le_s44, DL.le_s45, DL.le_s46, DL.le_s47, DL.le_s48, DL.le_s49, DL.le_s50, DL.le_s51, DL.le_s52, DL.le_s53, DL.le_s54, DL.le_s55, DL.le_s56, DL.le_s57, DL.le_s58, DL.le_s59, DL.le_s60, DL.le_s61, DL.le_s62, DL.le_s63, DL.le_s64, DL.iteB_true, DL.iteB_false, DL.lenP_t, DL.lenP_l, DL.lenP_s, DL.eqP, DL.eqOk_int, DL.eqOk_str, DL.eqOk_emp, DL.eqOk_empL, DL.eqv_emp1, DL.eqv_empL1, DL.eqv_ii, DL.eqv_ss, DL.ixP_t, DL.ixP_l, DL.ixP_s, DL.slP_t, DL.slP_l, DL.slP_s, DL.intcP_i, DL.intcP_b, DL.intcP_s, DL.tupcP_l, DL.tupcP_t, DL.atI_z, DL.atI_o, DL.atI_t, DL.int0P_ii, DL.intP_ii, DL.addP_ii, DL.addP_ss, DL.addP_tt, DL.addP_ll, DL.isTup_t, DL.reprP, Bool.false_eq_true, if_true, if_false, reduceIte, Option.some.injEq, PyData.bool.injEq, exists_eq_left', exists_eq_left, exists_eq_right, exists_eq_right', true_and, and_true, Bool.true_eq_false, Bool.not_true, Bool.not_false, false_and, and_false, exists_and_left, reduceCtorEq, DL.DV.gts.injEq, exists_const])
        cases hc : (c == 0) with
        | true =>
          obtain ⟨s0, s1, mr, rfl⟩ : ∃ s0 s1 mr, ms = s0 :: s1 :: mr := by
            match ms, hlm with
            | s0 :: s1 :: mr, _ => exact ⟨s0, s1, mr, rfl⟩
            | [_], e => simp at e; omega
            | [], e => simp at e; omega
          obtain ⟨rs, rfl, r3, hrs⟩ := state_is (hms s1 (by simp))
          obtain ⟨r0, r1, r2, rfl⟩ := len3D r3
          refine ⟨_, _, rfl, .inl rfl, by decide, by decide, fun b hb => ?_⟩
          have hb : isDeed b = true := by
            simp only [List.mem_cons, List.not_mem_nil, or_false] at hb
            rcases hb with rfl | rfl | rfl | rfl <;> decide +kernel
          refine ⟨0, ixN_0 (by simp), ?_⟩
          rw [List.set_cons_zero]
          (try simp only [DL.negP_i, DL.le_s0, DL.le_s1, DL.le_s2, DL.le_s3, DL.le_s4, DL.le_s5, DL.le_s6, DL.le_s7, DL.le_s8, DL.le_s9, DL.le_s10, DL.le_s11, DL.le_s12, DL.le_s13, DL.le_s14, DL.le_s15, DL.le_s16, DL.le_s17, DL.le_s18, DL.le_s19, DL.le_s20, DL.le_s21, DL.le_s22, DL.le_s23, DL.le_s24, DL.le_s25, DL.le_s26, DL.le_s27, DL.le_s28, DL.le_s29, DL.le_s30, DL.le_s31, DL.le_s32, DL.le_s33, DL.le_s34, DL.le_s35, DL.le_s36, DL.le_s37, DL.le_s38, DL.le_s39, DL.le_s40, DL.le_s41, DL.le_s42, DL.le_s43, DL.le_s44, DL.le_s45, DL.le_s46, DL.le_s47, DL.le_s48, DL.le_s49, DL.le_s50, DL.le_s51, DL.le_s52, DL.le_s53, DL.le_s54, DL.le_s55, DL.le_s56, DL.le_s57, DL.le_s58, DL.le_s59, DL.le_s60, DL.le_s61, DL.le_s62, DL.le_s63, DL.le_s64, DL.iteB_true, DL.iteB_false, DL.lenP_t, DL.lenP_l, DL.lenP_s, DL.eqP, DL.eqOk_int, DL.eqOk_str, DL.eqOk_emp, DL.eqOk_empL, DL.eqv_emp1, DL.eqv_empL1, DL.eqv_ii, DL.eqv_ss, DL.ixP_t, DL.ixP_l, DL.ixP_s, DL.slP_t, DL.slP_l, DL.slP_s, DL.intcP_i, DL.intcP_b, DL.intcP_s, DL.tupcP_l, DL.tupcP_t, DL.atI_z, DL.atI_o, DL.atI_t, DL.int0P_ii, DL.intP_ii, DL.addP_ii, DL.addP_ss, DL.addP_tt, DL.addP_ll, DL.isTup_t, DL.reprP, Bool.false_eq_true, if_true, if_false, reduceIte, Option.some.injEq, PyData.bool.injEq, exists_eq_left', exists_eq_left, exists_eq_right, exists_eq_right', true_and, and_true, Bool.true_eq_false, Bool.not_true, Bool.not_false, false_and, and_false, exists_and_left, reduceCtorEq, DL.DV.gts.injEq, exists_const])
          refine ⟨1, ixN_1 (by simp), ?_⟩
          rw [List.set_cons_succ, List.set_cons_zero]
          refine fin _ (by simp) fun s hs => ?_
          have d1 : isDeed (.str "over") = true := by decide +kernel
          have d2 : isDeed (.str "back") = true := by decide +kernel
          simp only [List.mem_cons] at hs
          rcases hs with rfl | rfl | hs
          · exact state_ok (rule_ok (by omega) (by omega) hb) (rule_ok (by omega) (by omega) d1) (rule_ok (by omega) (by omega) d1)
          · exact state_ok (hrs r0 (by simp)) (rule_ok (by omega) (by omega) d2) (rule_ok (by omega) (by omega) d2)
          · exact hms s (by simp [hs])
        | false => exact fin ms rfl hms
      · rw [decide_eq_false h1]
        exact fin ms rfl hms
end
end PF


set_option Elab.async false
set_option linter.all false
set_option maxRecDepth 100000
set_option maxHeartbeats 1000000
/-! Pile machines: things bent. -/
namespace PG
open PySem PySem.Spec PyProof.Rows L2 KT KG KM KX KY KE0 KQ LK GxR DL KA DW PA PB PC PD QF WT LB
def nbB (s w : Nat) (d : PyData) : Bool := d.showable && (decide (d.depth ≤ s) && decide (wt d ≤ w))
theorem nb_of {s w : Nat} {d : PyData} (h : nbB s w d = true) : Nb s w d := by
  unfold nbB at h
  rw [Bool.and_eq_true, Bool.and_eq_true] at h
  exact ⟨h.1, of_decide_eq_true h.2.1, of_decide_eq_true h.2.2⟩
structure OddL (xs : List PyData) : Prop where
  pos : 0 < xs.length
  few : xs.length ≤ 100
  nb : ∀ d ∈ xs, Nb 5 300 d
theorem odd_of {xs : List PyData} (h : (decide (0 < xs.length) && (decide (xs.length ≤ 100) && xs.all (nbB 5 300))) = true) : OddL xs := by
  rw [Bool.and_eq_true, Bool.and_eq_true] at h
  exact ⟨of_decide_eq_true h.1, of_decide_eq_true h.2.1, fun d hd => nb_of (List.all_eq_true.mp h.2.2 d hd)⟩
section
variable {P : Program} {w : World} {K : PySem.W.Frag} {mg : Str → Option Value} {base : Heap} {Tl : List Addr}
def F_odd : FnD := fun ds K _ => ds = [] ∧ ∀ xs, OddL xs → K (.list xs)
theorem bent_top {t : PyData} {odd : List PyData} {Kk : PyData → Prop} (ho : OddL odd) (kb : ∀ b, Kk (.bool b)) (ko : ∀ e ∈ odd, Kk e) :
    inP t (.tuple [.int 0, .int 1]) fun r => ∃ c, r = .bool c ∧ iteB c (F_draw [.deck, .dat (.int 2)] (fun d => eqP false d (.int 0) fun r => ∃ c, r = .bool c ∧ iteB c (eqP false t (.int 1) fun r => Kk r) (F_pick [.deck, .dat (.list odd)] (fun r => Kk r) noKE)) noKE) (F_pick [.deck, .dat (.list odd)] (fun r => Kk r) noKE) := by
  have pick : F_pick [.deck, .dat (.list odd)] (fun r => Kk r) noKE := ⟨_, odd, rfl, .inl rfl, ho.pos, by have := ho.few; omega, ko⟩
  refine ⟨rfl, _, rfl, ?_⟩
  cases hi : inD t (.tuple [.int 0, .int 1]) with
  | false => exact pick
  | true =>
    refine ⟨_, rfl, by decide, by decide, fun c c0 c1 => ⟨rfl, _, rfl, ?_⟩⟩
    cases hc : (PyData.eqv (.int c) (.int 0)) with
    | false => exact pick
    | true =>
      cases t with
      | int i => exact ⟨rfl, kb _⟩
      | bool b => exact ⟨rfl, kb _⟩
      | _ => simp [inD, PyData.eqv] at hi
theorem cut_take {xs : List PyData} {j : Nat} (h : j ≤ xs.length) : DL.cutD xs none (some (j : Int)) = xs.take j := by
  unfold DL.cutD
  rw [HT.sIx_none, HT.sIx_nat, List.drop_zero, Nat.sub_zero, Nat.min_eq_left h]
theorem cut_drop {xs : List PyData} {j : Nat} (h : j ≤ xs.length) : DL.cutD xs (some (j : Int)) none = xs.drop j := by
  unfold DL.cutD
  rw [HT.sIx_none, HT.sIx_nat, Nat.min_eq_left h, List.take_of_length_le (by simp)]
def F_bent (n : Nat) : FnD := fun ds K _ => ∃ t odd s w, ds = [.deck, .dat t, .dat (.list odd)] ∧ OddL odd ∧ t.depth < n ∧ Nb s w t ∧ w ≤ 100000 ∧ ∀ d, Nb (s + 5) (2 * w + 300) d → K d
end
end PG


set_option Elab.async false
set_option linter.all false
set_option maxRecDepth 100000
set_option maxHeartbeats 4000000
/-! _law_tried: a lambda called within a try, its errors told by their kinds. -/
namespace PT
open PySem PySem.Spec PyProof.Rows L2 KT KG KX KY KZ KE0 KQ LK DL KA QY QZ QB QE QF QT LB
theorem takesN {X : Cx} {W : WX} {n : Nat} (tk : Takes X W) (hn : X.N.length = n) : Takes X (fun cls d σ H => σ.length = n → W cls d σ H) :=
  fun u s' ⟨a, B, sI, pins, σ, H, cls, d, e, I, gr, up, sky, na, os, ag, wish⟩ => tk u s' ⟨a, B, sI, pins, σ, H, cls, d, e, I, gr, up, sky, na, os, ag, wish (I.len.trans hn)⟩
/-- a reading, for any continuation that follows -/
def tUp (te : TE) : TE := fun σ H Q => ∃ Q0 : VK, te σ H Q0 ∧ ∀ y H1, Q0 y H1 → Q y H1
theorem pe_up {X : Cx} {e : Expr} {te : TE} (he : PE X e te) : PE X e (tUp te) := ⟨fun pins s σ H Q I ⟨Q0, h, k⟩ => wpAny_mono (he.run pins s σ H Q0 I h) (fun u s1 ⟨v, H1, I1, r1, q1⟩ => ⟨v, H1, I1, r1, k _ _ q1⟩) (fun _ _ x => x)⟩
structure TbT (mg : Str → Option Value) : Prop where
  isinstance : mg "isinstance" = none
  repr : mg "repr" = none
abbrev N__law_tried : List Str := ["_law_call", "e", "_law_found", "_law_kinds"]
abbrev P__law_tried : List Str := ["_law_call"]
theorem sc__law_tried : FnScope N__law_tried P__law_tried (defScope s__law_tried) := ⟨rfl, rfl, rfl, by decide +kernel, rfl, by decide +kernel, by decide +kernel⟩
def isE (K : PySem.W.Frag) (x : Str) : TE := tCB (rIsQ K) (tCons (tVar 1) (tCons (tC (.ref (He.ga K x))) tNil))
/-- the handler's reading -/
def readE (K : PySem.W.Frag) (M : Addr → Prop) : TS := tSeq (tAsg (tTup (tCons (isE K "BadMachine") (tCons (isE K "BadStanding") (tCons (isE K "BadWord") (tCons (isE K "BadNumber") tNil))))) (gName 3))
  (tRet (tTup (tCons (tC (.str "raised")) (tCons (tVar 3) (tCons (tIf (tTest (tOp (rIn K false) (tC (.bl true)) (tVar 3))) (tCB (rReprX M) (tCons (tQf K "thing" (tVar 1)) tNil)) (tC .non)) tNil)))))
def readT (M : Addr → Prop) : TS := tRet (tTup (tCons (tC (.str "returned")) (tCons (tCB (rReprX M) (tCons (tVar 2) tNil)) tNil)))
def clE (K : PySem.W.Frag) (M : Addr → Prop) : List Cl := [(.ref (He.ga K "QuickError"), 1, fun _ => readE K M)]
/-- what _law_tried makes of the lambda's reading -/
def TTr (K : PySem.W.Frag) (M : Addr → Prop) : (XK → Hp → VK → Prop) → Hp → VK → Prop := fun tl H Q =>
  tl (fun cls d H' => ∀ (D : Ends) (σ : L2.St), D.rt = Q → σ.length = 4 → wAll K (fun _ _ _ _ => False) D (clE K M) cls d σ H') H fun y H1 => ∀ (D : Ends) (σ : L2.St), D.rt = Q → σ[2]? = some (some y) → readT M D σ H1
section
open LamX
variable {X : Cx}
theorem gives_tried {g : Addr} {cdg : Value} {q : Str} {M : Addr → Prop} (T : TbT X.mg) (hm : HasMods X.base) (g_QuickError : X.mg "QuickError" = some (.ref (He.ga X.K "QuickError"))) (g_BadMachine : X.mg "BadMachine" = some (.ref (He.ga X.K "BadMachine"))) (g_BadStanding : X.mg "BadStanding" = some (.ref (He.ga X.K "BadStanding")))
    (g_BadWord : X.mg "BadWord" = some (.ref (He.ga X.K "BadWord"))) (g_BadNumber : X.mg "BadNumber" = some (.ref (He.ga X.K "BadNumber"))) (hA0 : X.A.guards = some []) (hu0 : X.A.units + 300 < cLine) : GivesTo X N__law_tried "_law_tried" (defScope s__law_tried) g cdg (defBody s__law_tried) "_law_call" q (TTr X.K M) := by
  intro f c' s H Q tl act hc h
  let K := X.K
  have hA : (cxOf C8.CX0 X.prog X.w X.K X.mg X.base N__law_tried "_law_tried" (defScope s__law_tried) g cdg X.A X.stack s H C8.E0).nox.A.guards = some [] := hA0
  have hu : (cxOf C8.CX0 X.prog X.w X.K X.mg X.base N__law_tried "_law_tried" (defScope s__law_tried) g cdg X.A X.stack s H C8.E0).nox.A.units + 200 < cLine := by
    show X.A.units + 3 + 200 < cLine
    omega
  refine ⟨_, pss_cons (ps_try_all (X := (cxOf C8.CX0 X.prog X.w X.K X.mg X.base N__law_tried "_law_tried" (defScope s__law_tried) g cdg X.A X.stack s H C8.E0).nox) (l := clE X.K M)
      (tb := fun W D σ H => ∃ Ech : XK, (∀ cls d H', Ech cls d H' → ∀ σ' : L2.St, σ'.length = 4 → W cls d σ' H') ∧ ∃ Q0 : VK, (σ[0]? = some (some (.ref f)) ∧ H c' = some (CodeO c' q) ∧ tl Ech H Q0) ∧ ∀ y H1, Q0 y H1 → D.nx (σ.set 2 (some y)) H1)
      rfl rfl sc__law_tried.nd L2.takes0 (fun W pn xe tk _ => ?_) (.cons (i := 1) rfl (by rfl) ⟨by rfl, by decide, .inl g_QuickError⟩ (fun a pn => ?_) .nil)) (?_ : PSs _ _ (readT M)), ?_⟩
  · refine ⟨fun pins s' σ H' D I h' => ?_⟩
    obtain ⟨Ech, hW, Q0, h1, h2⟩ := h'
    have call := fun p1 p2 => act (fun cls d σ H => σ.length = 4 → W cls d σ H) pn xe Ech p1 p2 (takesN tk rfl) (fun cls d σ' H' e l => hW cls d H' e σ' l)
    exact (pss_one (ps_set (i := 2) sc__law_tried.nd rfl (.inl rfl) (pe_up (call _ _)))).run pins s' σ H' D I ⟨Q0, h1, h2⟩
  · have hA : ((((cxOf C8.CX0 X.prog X.w X.K X.mg X.base N__law_tried "_law_tried" (defScope s__law_tried) g cdg X.A X.stack s H C8.E0).nox).suite a pn)).A.guards = some [] := hA0
    have hu : ((((cxOf C8.CX0 X.prog X.w X.K X.mg X.base N__law_tried "_law_tried" (defScope s__law_tried) g cdg X.A X.stack s H C8.E0).nox).suite a pn)).A.units + 200 < cLine := by
      show X.A.units + 3 + 200 < cLine
      omega
    exact (pss_cons (ps_set (i := 3) sc__law_tried.nd rfl (.inl rfl) (pe_tup (pa_cons (pe_callB call_isQ (by rfl) T.isinstance (by decide +kernel) (pa_cons (pv 1) (pa_cons (pe_glob (v := .ref (He.ga K "BadMachine")) (by rfl) g_BadMachine rfl) pa_nil))) (pa_cons (pe_callB call_isQ (by rfl) T.isinstance (by decide +kernel) (pa_cons (pv 1) (pa_cons (pe_glob (v := .ref (He.ga K "BadStanding")) (by rfl) g_BadStanding rfl) pa_nil))) (pa_cons (pe_callB call_isQ (by rfl) T.isinstance (by decide +kernel) (pa_cons (pv 1) (pa_cons (pe_glob (v := .ref (He.ga K "BadWord")) (by rfl) g_BadWord rfl) pa_nil))) (pa_cons (pe_callB call_isQ (by rfl) T.isinstance (by decide +kernel) (pa_cons (pv 1) (pa_cons (pe_glob (v := .ref (He.ga K "BadNumber")) (by rfl) g_BadNumber rfl) pa_nil))) pa_nil))))))
      (pss_one (ps_ret (pe_tup (pa_cons pe_str (pa_cons (pv 3) (pa_cons (pe_ifExp (pt_cmpR op_in_seq pe_bl (pv 3) (by rfl)) (pe_callB (call_reprU hu hA hm M) (by rfl) T.repr (by decide +kernel) (pa_cons (pe_qf (pv 1)) pa_nil)) pe_non) pa_nil)))))))
  · exact (pss_one (ps_ret (pe_tup (pa_cons pe_str (pa_cons (pe_callB (call_reprU hu hA hm M) (by rfl) T.repr (by decide +kernel) (pa_cons (pv 2) pa_nil)) pa_nil)))))
  · exact ⟨_, fun cls d H' e σ' l => e _ σ' rfl l, _, ⟨rfl, hc, h⟩, fun y H1 k => k _ _ rfl rfl⟩
end
end PT


set_option Elab.async false
set_option linter.all false
set_option maxRecDepth 100000
set_option maxHeartbeats 4000000
/-! _law_tried over data. -/
namespace PU
open PySem PySem.Spec PyProof.Rows L2 KT KG KX KY KZ KE0 KQ LK DL KA DW QY QZ QB QE QF QT LB PT
def fourL : List Str := ["BadMachine", "BadStanding", "BadWord", "BadNumber"]
def kindsD (x : Str) : PyData := .tuple (fourL.map fun y => .bool (x == y))
/-- what is known of the kinds of errors -/
structure Four (P : Program) (w : World) (K : PySem.W.Frag) (mg : Str → Option Value) (base : Heap) : Prop where
  e : ∀ x ∈ fourL, ∃ fd, Eq1 P w K mg base x "thing" fd
  ex : ∀ x ∈ fourL, PySem.W.exmOne K (.ref (He.ga K x)) (.ref (He.ga K "QuickError")) = some true
  kit : ∀ x ∈ fourL, ∀ y ∈ fourL, PySem.W.kitOne K (.ref (He.ga K x)) (.ref (He.ga K y)) = some (x == y)
section
variable {P : Program} {w : World} {K : PySem.W.Frag} {mg : Str → Option Value} {base : Heap}
theorem isE_ok {H : Hp} {a : Addr} {x y : Str} {v : V} {σ : L2.St} {Q : VK} (F : Four P w K mg base) (hx : x ∈ fourL) (hy : y ∈ fourL) (hσ : σ[1]? = some (some (.ref a))) (xo : Xo H a (He.ga K x) "thing" v) (q : Q (.bl (x == y)) H) : isE K y σ H Q := by
  obtain ⟨fd, E⟩ := F.e x hx
  exact ⟨_, hσ, a, _, _, _, v, _, _, _, rfl, xo, E.c, E.i, .own _, F.kit x hx y hy, q⟩
theorem hand {W : Wd} {M : Addr → Prop} {H H' : Hp} {x : Str} {v : V} {d : PyData} {dd : Addr} {Kk : DV → Prop} {Q : VK} (F : Four P w K mg base) (hx : x ∈ fourL) (gh : GoodH W M H) (stp : Stp W H H') (dx : Dx M H' v d) (hd : H' dd = some (.xd [("thing", v)])) (s1 : d.showable = true) (s2 : d.depth ≤ 150) (s3 : d.shown.length ≤ sizeLine)
    (c : Cont W M H Kk Q) (k : Kk (.dat (.tuple [.str "raised", kindsD x, .str d.shown]))) (D : Ends) (σ : L2.St) (hQ : D.rt = Q) (hl : σ.length = 4) : wAll K (fun _ _ _ _ => False) D (clE K W.vol) (.ref (He.ga K x)) (some dd) σ H' := by
  refine ⟨true, F.ex x hx, fun _ => ⟨He.ga K x, rfl, fun a ha => ?_⟩, fun z => by cases z⟩
  have n1 : dd ≠ a := ne_of_none hd ha
  have hσ : (σ.set 1 (some (V.ref a)))[1]? = some (some (V.ref a)) := List.getElem?_set_self (by omega)
  have xo : Xo (upd H' a (exq a (He.ga K x) (some dd))) a (He.ga K x) "thing" v := ⟨dd, [("thing", v)], .inr upd_same, .inr (by rw [upd_ne n1]; exact hd), rfl⟩
  have sa : Same H' (upd H' a (exq a (He.ga K x) (some dd))) := same_new ha
  generalize eH : upd H' a (exq a (He.ga K x) (some dd)) = H2 at xo sa
  show readE K W.vol (endsAs 1 D) (σ.set 1 (some (.ref a))) H2
  generalize eσ : σ.set 1 (some (V.ref a)) = σ1 at hσ
  have hl1 : σ1.length = 4 := by rw [← eσ]; simpa using hl
  obtain ⟨fd, E⟩ := F.e x hx
  refine isE_ok F hx (by simp [fourL]) hσ xo (isE_ok F hx (by simp [fourL]) hσ xo (isE_ok F hx (by simp [fourL]) hσ xo (isE_ok F hx (by simp [fourL]) hσ xo ?_)))
  refine ⟨by show 4 ≤ sizeLine; decide, fun p np => ?_⟩
  have hp3 : (σ1.set 3 (some (V.ref p)))[3]? = some (some (V.ref p)) := List.getElem?_set_self (by omega)
  have hp1 : (σ1.set 3 (some (V.ref p)))[1]? = some (some (V.ref a)) := by rw [List.getElem?_set_ne (by decide)]; exact hσ
  have sp : Same H2 (upd H2 p (.tup [.bl (x == "BadMachine"), .bl (x == "BadStanding"), .bl (x == "BadWord"), .bl (x == "BadNumber")])) := same_new np
  refine ⟨_, hp3, _, hp3, p, _, rfl, .inr (SqT.of upd_same), rfl, rfl, ?_⟩
  have hin : inV (.bl true) [.bl (x == "BadMachine"), .bl (x == "BadStanding"), .bl (x == "BadWord"), .bl (x == "BadNumber")] = true := by
    simp only [fourL, List.mem_cons, List.not_mem_nil, or_false] at hx
    rcases hx with rfl | rfl | rfl | rfl <;> decide +kernel
  refine ⟨_, congrArg V.bl hin, ?_⟩
  have s3' : Same H' (upd H2 p (.tup [.bl (x == "BadMachine"), .bl (x == "BadStanding"), .bl (x == "BadWord"), .bl (x == "BadNumber")])) := sa.trans sp
  have xo3 := xo.same sp
  have eT : upd H2 p (.tup [.bl (x == "BadMachine"), .bl (x == "BadStanding"), .bl (x == "BadWord"), .bl (x == "BadNumber")]) p = some (.tup [.bl (x == "BadMachine"), .bl (x == "BadStanding"), .bl (x == "BadWord"), .bl (x == "BadNumber")]) := upd_same
  generalize upd H2 p (.tup [.bl (x == "BadMachine"), .bl (x == "BadStanding"), .bl (x == "BadWord"), .bl (x == "BadNumber")]) = H3 at s3' xo3 eT
  dsimp only
  rw [if_pos rfl]
  refine ⟨_, hp1, a, _, _, v, rfl, E.c, xo3, ?_⟩
  refine ⟨v, d, rfl, Dx.kp (Kp.same s3') _ _ (Dx.re (fun b _ _ m => gh.vol b m) _ _ dx), s1, s2, s3, ?_⟩
  refine ⟨by show 3 ≤ sizeLine; decide, fun p2 np2 => ?_⟩
  show D.rt _ _
  rw [hQ]
  have sn : Same H3 (upd H3 p2 (.tup [.str "raised", .ref p, .str d.shown])) := same_new np2
  refine c _ k _ _ (stp.trans ((Stp.same s3').trans (.same sn))) ?_
  refine Dx.tup upd_same (.cons (Dx.str _) (.cons ?_ (.cons (Dx.str _) .nil)))
  exact Dx.tup (sn _ _ eT) (.cons (.bl _) (.cons (.bl _) (.cons (.bl _) (.cons (.bl _) .nil))))
/-- _law_tried(lambda: ..), over data -/
def fTried (fb : (Str → PyData → Prop) → FE) : FE := fun ρ K => fb (fun x d => x ∈ fourL ∧ (d.showable = true ∧ d.depth ≤ 150 ∧ d.shown.length ≤ sizeLine) ∧ K (.dat (.tuple [.str "raised", kindsD x, .str d.shown]))) ρ fun v => ∃ d, v = .dat d ∧ (d.showable = true ∧ d.depth ≤ 150 ∧ d.shown.length ≤ sizeLine) ∧ K (.dat (.tuple [.str "returned", .str d.shown]))
/-- a world that keeps the lambdas' table -/
structure LamW (P : Addr) (q : Str) (W : Wc) : Prop where
  no : P ∉ W.Tl
  tab : ∀ H, W.inv H → LamX.TabS H P q
  keep : ∀ H H', W.inv H → Rest P H H' → LamX.TabS H' P q → W.inv H'
theorem Rest.stp {W : Wc} {Pt : Addr} {q : Str} {H H1 : Hp} (L : LamW Pt q W) (h : W.inv H) (r : Rest Pt H H1) (t : LamX.TabS H1 Pt q) : Stp W H H1 := by
  obtain ⟨ps0, e0, _⟩ := L.tab H h
  have ne : ∀ b o, (∀ ps, o ≠ .tbl ps) → H b = some o → b ≠ Pt := fun b o n e z => by
    rw [z, e0] at e
    exact n _ (Option.some.inj e).symm
  refine ⟨fun a o _ n e => r a o (ne a o n e) e, fun a xs e => r a _ (ne a _ (fun _ z => by cases z) e) e, fun a e => ?_, fun ok => ⟨L.keep H H1 ok.1 r t, fun b hb => ?_⟩⟩
  · cases q : H a with
    | none => rfl
    | some o =>
      by_cases z : a = Pt
      · obtain ⟨ps, e1, _⟩ := t
        rw [z, e1] at e
        cases e
      · rw [r a o z q] at e
        cases e
  · obtain ⟨ps, e, tr⟩ := ok.2 b hb
    exact ⟨ps, r b _ (fun z => L.no (by rw [← z]; exact hb)) e, tr⟩
/-- the reading of the lambda's body in any such world -/
def tAny (WP : Wc → Prop) (fb : (Str → PyData → Prop) → FE) (E : XK) : TE := fun σ H Q => ∃ (W1 : Wd) (KE : Str → PyData → Prop), WP W1.toWc ∧ Lnk W1 KE E ∧ tD W1 (fb KE) σ H Q
theorem imp_tried {W : Wd} {WP : Wc → Prop} {Pt : Addr} {q : Str} {fb : (Str → PyData → Prop) → FE} {σ : L2.St} {H : Hp} {Q : VK} (F : Four P w K mg base) (hK : W.K = K) (hW : WP W.toWc) (L : LamW Pt q W.toWc) (h : tD W (fTried fb) σ H Q) : tLm Pt q (TTr K W.vol) (tAny WP fb) σ H Q := by
  obtain ⟨M, ρ, Kk, ge, k, c⟩ := h
  refine ⟨L.tab _ ge.h.ok.1, fun H1 r t => ?_⟩
  have st := Rest.stp L ge.h.ok.1 r t
  have ge1 := ge.stp st
  refine ⟨{ W with H0 := H1, M0 := M }, _, hW, fun x d hk v dd H' s dx hd => ?_, M, ρ, _, ⟨⟨ge1.h.ok, ge1.h.vol, ge1.h.all, .refl, fun _ z => z, ge1.h.all⟩, ge1.len, ge1.at_⟩, k, fun dv hk v H2 s2 rv D σ' hQ hσ => ?_⟩
  · obtain ⟨hx, ⟨s1, s2, s3⟩, hk⟩ := hk
    intro D σ' hQ hl
    have e : fld x = "thing" := by
      simp only [fourL, List.mem_cons, List.not_mem_nil, or_false] at hx
      rcases hx with rfl | rfl | rfl | rfl <;> decide +kernel
    rw [e] at hd
    rw [← hK]
    subst hK
    exact hand F hx ge1.h s dx hd s1 s2 s3 (c.stp st) hk D σ' hQ hl
  · obtain ⟨d, rfl, ⟨z1, z2, z3⟩, hk⟩ := hk
    have rv : Dx M H2 v d := rv
    refine ⟨_, hσ, v, d, rfl, Dx.re (fun b _ _ m => ge1.h.vol b m) _ _ rv, z1, z2, z3, by show 2 ≤ sizeLine; decide, fun p np => ?_⟩
    rw [hQ]
    have sn : Same H2 (upd H2 p (.tup [.str "returned", .str d.shown])) := same_new np
    exact c _ hk _ _ (st.trans (s2.trans (.same sn))) (Dx.tup upd_same (.cons (Dx.str _) (.cons (Dx.str _) .nil)))
end
section
open LamX
variable {X : Cx} {W : Wd} {WP : Wc → Prop}
theorem de_tried {fdT : FuncData} {c Pt : Addr} {q : Str} {k : Nat} {params : Arguments} {body : Expr} {scope : Scope} {p lpos pos : Pos} {fb : (Str → PyData → Prop) → FE} (F : Four X.prog X.w X.K X.mg X.base) (hK : W.K = X.K) (hW : WP W.toWc) (L : LamW Pt q W.toWc)
    (T : TbT X.mg) (hm : HasMods X.base) (g_QuickError : X.mg "QuickError" = some (.ref (He.ga X.K "QuickError"))) (hA : X.A.guards = some []) (hu : X.A.units + 300 < cLine) (hg : Gl X "_law_tried") (D : Df X.K X.mg "_law_tried" s__law_tried P__law_tried fdT) (hq : q = X.env.qual ++ "<lambda>")
    (TB : LamX.TabB X.base X.mg c Pt) (hcode : X.env.code = .ref c) (hr : Room (k + 2) X.A) (Ls : LamS X.env.scope scope) (hdef : defaultsOf params X.env = ([], [])) (hbind : ∀ (q : Str) (cl : List (Str × Addr)) (pm cv ctv : Value), bindArgs (PySem.W.kla_fn "<lambda>" q params body scope cl pm cv ctv) ⟨[], []⟩ = pure [])
    (hbody : ∀ (A : Around) (outer : List Env) (s : Shared) (H : Hp) (E : XK) (f c' : Addr) (W1 : Wd) (KE : Str → PyData → Prop), WP W1.toWc → Lnk W1 KE E → Room k (A.deeper (lamEnv X scope s.heap.objs.size f c')) → PE (lamCx X A outer s H E scope f c') body (tD W1 (fb KE))) :
    PE X (.Call (.Name "_law_tried" p) [.Lambda params body scope lpos] [] pos) (tD W (fTried fb)) := by
  have gg : ∀ x ∈ fourL, X.mg x = some (.ref (He.ga X.K x)) := fun x hx => by
    obtain ⟨fd, E⟩ := F.e x hx
    exact E.g
  exact (pe_lm (t := tAny WP fb) hg D.g D.F D.b sc__law_tried rfl (.inl rfl) hq (fun cdv => gives_tried T hm g_QuickError (gg _ (by simp [fourL])) (gg _ (by simp [fourL])) (gg _ (by simp [fourL])) (gg _ (by simp [fourL])) hA hu) TB hcode hr Ls hdef hbind
    (fun A outer s H E f c' hr2 => ⟨fun pins s' σ H' Q I ⟨W1, KE, h1, h2, h3⟩ => (hbody A outer s H E f c' W1 KE h1 h2 hr2).run pins s' σ H' Q I h3⟩)).imp fun σ H Q h => imp_tried F hK hW L h
end
end PU


set_option Elab.async false
set_option linter.all false
set_option maxRecDepth 100000
set_option maxHeartbeats 1000000
/-! Pile machines: the program's promises together; the law. -/
namespace PL
open PySem PySem.Spec PyProof.Rows L2 KT KG KM KX KY KE0 KQ LK GxR DL KA DW PA PB PC PD PE PF PG QF WT LB PT PU
/-- what the head says of the program -/
structure PileP (P : Program) (w : World) (K : PySem.W.Frag) (mg : Str → Option Value) (base : Heap) (Tl : List Addr) (fn : Str → FuncData) : Prop where
  t : TbP mg
  d_is_whole : Df K mg "is_whole" s_is_whole PA.P_is_whole (fn "is_whole")
  d_fits_rule : Df K mg "fits_rule" s_fits_rule PA.P_fits_rule (fn "fits_rule")
  d_fits_state : Df K mg "fits_state" s_fits_state PA.P_fits_state (fn "fits_state")
  d_is_machine : Df K mg "is_machine" s_is_machine PA.P_is_machine (fn "is_machine")
  d_is_word : Df K mg "is_word" s_is_word PB.P_is_word (fn "is_word")
  d_piles_after : Df K mg "piles_after" s_piles_after PB.P_piles_after (fn "piles_after")
  d_next_standing : Df K mg "next_standing" s_next_standing PB.P_next_standing (fn "next_standing")
  d_require_machine : Df K mg "require_machine" s_require_machine PB.P_require_machine (fn "require_machine")
  deeds : ∃ a, mg "DEEDS" = some (.ref a) ∧ ∀ H, SqT K H a (deedL.map V.str)
  t1 : (He.cT K ("fits_state", none)).2 ∈ Tl
  t2 : (He.cT K ("is_machine", none)).2 ∈ Tl
  b1 : GxR.TabB base mg (He.cT K ("fits_state", none)).1 (He.cT K ("fits_state", none)).2
  b2 : GxR.TabB base mg (He.cT K ("is_machine", none)).1 (He.cT K ("is_machine", none)).2
  f4 : Four P w K mg base
section
variable {P : Program} {w : World} {K : PySem.W.Frag} {mg : Str → Option Value} {base : Heap} {Tl : List Addr} {fn : Str → FuncData}
theorem PileP.mach (p : PileP P w K mg base Tl fn) : FnOk P w K mg base CX0 13 (He.fAd K ("is_machine", none)) (fn "is_machine") PA.P_is_machine (spD (WP K Tl) F_mach) := by
  obtain ⟨a, h1, h2⟩ := p.deeds
  exact ok_mach p.t p.d_is_machine p.d_fits_state (ok_state p.t p.d_fits_state p.d_fits_rule (ok_rule p.t p.d_fits_rule p.d_is_whole (ok_whole p.t p.d_is_whole) h1 h2) p.t1 p.b1) p.t2 p.b2
theorem PileP.next (p : PileP P w K mg base Tl fn) : FnOk P w K mg base CX0 5 (He.fAd K ("next_standing", none)) (fn "next_standing") PB.P_next_standing (spD (WP K Tl) F_next) :=
  ok_next p.t p.d_next_standing p.d_piles_after (ok_after p.t p.d_piles_after)
theorem PileP.req (p : PileP P w K mg base Tl fn) : FnOk P w K mg base (L2.CX P w) 15 (He.fAd K ("require_machine", none)) (fn "require_machine") PB.P_require_machine (spD (WP K Tl) F_req) := by
  obtain ⟨fd, E⟩ := p.f4.e "BadMachine" (by simp [fourL])
  exact ok_req E p.d_require_machine p.d_is_machine p.mach
end
/-! ### machines, shown -/
theorem nb_whole {k : Int} (h0 : 0 ≤ k) (h1 : k ≤ 6) : Nb 0 1 (.int k) := by
  have : k = 0 ∨ k = 1 ∨ k = 2 ∨ k = 3 ∨ k = 4 ∨ k = 5 ∨ k = 6 := by omega
  rcases this with rfl | rfl | rfl | rfl | rfl | rfl | rfl <;> exact nb_of (by decide +kernel)
theorem nb_deed {z : Str} (h : z ∈ deedL) : Nb 0 10 (.str z) := by
  simp only [deedL, List.mem_cons, List.not_mem_nil, or_false] at h
  rcases h with rfl | rfl | rfl | rfl | rfl | rfl <;> exact nb_of (by decide +kernel)
theorem nb_rule {n : Int} {d : PyData} (hn : n ≤ 6) (h : ruleB n d = true) : Nb 1 20 d := by
  obtain ⟨to, z, rfl, h0, h1, hz⟩ := rule_is h
  exact ((NbL.cons (nb_whole h0 (by omega)) (NbL.cons (nb_deed hz) (NbL.nil 0 0))).tup).mono (by omega) (by omega)
theorem nb_all {s w : Nat} : ∀ {xs : List PyData}, (∀ x ∈ xs, Nb s w x) → NbL s (xs.length * (w + 2)) xs
  | [], _ => NbL.nil s _
  | x :: r, h => (NbL.cons (h x List.mem_cons_self) (nb_all fun y hy => h y (List.mem_cons_of_mem _ hy))).mono (Nat.le_refl _) (by simp only [List.length_cons, Nat.add_mul, Nat.one_mul]; omega)
theorem nb_state {n : Int} {d : PyData} (hn : n ≤ 6) (h : stateB n d = true) : Nb 2 70 d := by
  obtain ⟨rs, rfl, hl, hr⟩ := state_is h
  have := (nb_all fun r hr2 => nb_rule hn (hr r hr2)).tup
  rw [hl] at this
  exact this.mono (by omega) (by omega)
theorem nb_mach {xs : List PyData} (h : machB (.tuple xs) = true) (hl : xs.length ≤ 6) : Nb 3 440 (.tuple xs) := by
  have h : (decide (0 < xs.length) && xs.all (stateB xs.length)) = true := h
  rw [Bool.and_eq_true] at h
  have := (nb_all fun s hs => nb_state (n := xs.length) (by omega) (List.all_eq_true.mp h.2 s hs)).tup
  exact this.mono (by omega) (by omega)
theorem mach_tup {d : PyData} (h : machB d = true) : ∃ xs, d = .tuple xs := by
  cases d with
  | tuple xs => exact ⟨xs, rfl⟩
  | _ => cases h
/-! ### words, standings, shown -/
theorem isW_mem {z : Str} (h : isW z = true) : ∀ c ∈ z.cps.toList, c = 48 ∨ c = 49 := fun c hc => by
  unfold isW at h
  have := List.all_eq_true.mp h c hc
  have e : ("01" : Str).cps.toList = [48, 49] := by decide +kernel
  rw [e] at this
  simpa using of_decide_eq_true this
theorem isW_of {z : Str} (h : ∀ c ∈ z.cps.toList, c = 48 ∨ c = 49) : isW z = true := by
  unfold isW
  refine List.all_eq_true.mpr fun c hc => decide_eq_true ?_
  have e : ("01" : Str).cps.toList = [48, 49] := by decide +kernel
  rw [e]
  simpa using h c hc
theorem isW_cut {z : Str} (h : isW z = true) (lo hi : Option Int) : isW (cutS z lo hi) = true := isW_of fun c hc => by
  unfold cutS at hc
  have hc : c ∈ ((z.cps.toList.drop _).take _).toArray.toList := hc
  rw [List.toList_toArray] at hc
  exact isW_mem h c (List.mem_of_mem_drop (List.mem_of_mem_take hc))
theorem nb_word {z : Str} {n : Nat} (h : isW z = true) (hl : z.length ≤ n) : Nb 0 (11 * n + 2) (.str z) := ⟨rfl, by simp [PyData.depth], by
  have := StrLaws.reprText_len z fun c hc => by
    rcases isW_mem h c hc with rfl | rfl <;> decide
  simp only [wt, PyData.shown_str]
  omega⟩
theorem initS_len (z : Str) : (initS z).length = z.length - 1 := by
  have e1 : HT.sIx z.length 0 none = 0 := rfl
  have e2 : HT.sIx z.length z.length (some (-1)) = z.length - 1 := by
    show (if (-1 : Int) < 0 then ((-1 : Int) + ((z.length : Nat) : Int)).toNat else min (-1 : Int).toNat z.length) = _
    rw [if_pos (by decide)]
    omega
  show Array.size _ = _
  unfold initS cutS
  rw [e1, e2]
  simp only [List.size_toArray, List.length_take, List.length_drop, Array.length_toList]
  show min (z.length - 1 - 0) (z.length - 0) = _
  omega
theorem lastS_len (z : Str) : (lastS z).length = z.length - (z.length - 1) := by
  have e1 : HT.sIx z.length z.length none = z.length := rfl
  have e2 : HT.sIx z.length 0 (some (-1)) = z.length - 1 := by
    show (if (-1 : Int) < 0 then ((-1 : Int) + ((z.length : Nat) : Int)).toNat else min (-1 : Int).toNat z.length) = _
    rw [if_pos (by decide)]
    omega
  show Array.size _ = _
  unfold lastS cutS
  rw [e1, e2]
  simp only [List.size_toArray, List.length_take, List.length_drop, Array.length_toList]
  show min (z.length - (z.length - 1)) (z.length - (z.length - 1)) = _
  omega
theorem pa_is {d l r : Str} (h1 : isW l = true) (h2 : isW r = true) : isW (pa d l r).1 = true ∧ isW (pa d l r).2 = true ∧ (pa d l r).1.length + (pa d l r).2.length ≤ l.length + r.length + 1 := by
  have b0 : isW "0" = true := by decide +kernel
  have b1 : isW "1" = true := by decide +kernel
  have z0 : ("0" : Str).length = 1 := rfl
  have z1 : ("1" : Str).length = 1 := rfl
  have i1 : isW (initS l) = true := isW_cut h1 _ _
  have i2 : isW (initS r) = true := isW_cut h2 _ _
  have j1 : isW (lastS l) = true := isW_cut h1 _ _
  have j2 : isW (lastS r) = true := isW_cut h2 _ _
  have l1 := initS_len l
  have l2 := initS_len r
  have m1 := lastS_len l
  have m2 := lastS_len r
  have ap := fun a b : Str => Str.length_append a b
  unfold pa
  cases d == "put0" with
  | true => exact ⟨isW_app h1 b0, h2, by dsimp only [cond_true]; rw [ap]; omega⟩
  | false =>
    cases d == "put1" with
    | true => exact ⟨isW_app h1 b1, h2, by dsimp only [cond_true, cond_false]; rw [ap]; omega⟩
    | false =>
      cases d == "cut" with
      | true => exact ⟨i1, h2, by dsimp only [cond_true, cond_false]; omega⟩
      | false =>
        cases d == "over" with
        | true => exact ⟨i1, isW_app h2 j1, by dsimp only [cond_true, cond_false]; rw [ap]; omega⟩
        | false =>
          cases d == "back" with
          | true => exact ⟨isW_app h1 j2, i2, by dsimp only [cond_true, cond_false]; rw [ap]; omega⟩
          | false => exact ⟨h1, h2, by dsimp only [cond_false]; omega⟩
theorem nextD_is {xs : List PyData} {n : Int} {l r : Str} (st : Stand xs n l r) : ∃ n' l' r', nextD xs n l r = .tuple [.int n', .str l', .str r'] ∧ 0 ≤ n' ∧ n' ≤ xs.length ∧ isW l' = true ∧ isW r' = true ∧ l'.length + r'.length ≤ l.length + r.length + 1 := by
  cases hn : n == (xs.length : Int) with
  | true =>
    refine ⟨n, l, r, ?_, st.n0, st.n1, st.wl, st.wr, by omega⟩
    unfold nextD
    rw [hn]
    rfl
  | false =>
    have hlt : n.toNat < xs.length := by
      have := beq_eq_false_iff_ne.mp hn
      have := st.n1
      have := st.n0
      omega
    obtain ⟨rs, to, z, e1, e2, t0, t1, hz, e3⟩ := mach_at st.m hlt (letS_lt st.wl)
    obtain ⟨w1, w2, w3⟩ := pa_is (d := z) st.wl st.wr
    refine ⟨to, _, _, ?_, t0, t1, w1, w2, w3⟩
    unfold nextD
    rw [hn, e3]
    rfl
theorem nb_stand {k : Int} {n : Int} {l r : Str} {m : Nat} (h0 : 0 ≤ n) (h1 : n ≤ k) (hk : k ≤ 6) (hl : isW l = true) (hr : isW r = true) (hm : l.length + r.length ≤ m) : Nb 1 (22 * m + 20) (.tuple [.int n, .str l, .str r]) :=
  ((NbL.cons (nb_whole h0 (by omega)) (NbL.cons (nb_word hl (n := m) (by omega)) (NbL.cons (nb_word hr (n := m) (by omega)) (NbL.nil 0 0)))).tup).mono (by omega) (by omega)
end PL


set_option Elab.async false
set_option linter.all false
set_option maxRecDepth 100000
set_option maxHeartbeats 1000000
/-! What a datum shows is a text of signs that there are, whatever it holds. -/
namespace SO
open PySem PySem.Spec PyProof.Rows L2 PySem.Builtin PySem.Builtin.Str
abbrev Ok (z : Str) : Prop := ∀ c ∈ z.cps.toList, c < 0x110000
theorem ok_app {a b : Str} (h : Ok a) (k : Ok b) : Ok (a ++ b) := fun c hc => by
  have e : (a ++ b).cps.toList = a.cps.toList ++ b.cps.toList := by
    show (a.cps ++ b.cps).toList = _
    simp
  rw [e] at hc
  rcases List.mem_append.mp hc with q | q
  · exact h c q
  · exact k c q
theorem char_lt (c : Char) : c.toNat < 0x110000 := by
  have := c.valid
  rcases this with h | h
  · have h : c.toNat < 0xd800 := h
    omega
  · exact h.2
theorem ok_of (s : String) : Ok (Str.ofString s) := fun c hc => by
  rw [Str.ofString_eq_toList] at hc
  have hc : c ∈ (s.toList.map Char.toNat).toArray.toList := hc
  rw [List.toList_toArray] at hc
  obtain ⟨d, _, rfl⟩ := List.mem_map.mp hc
  exact char_lt d
theorem within_lt : ∀ (l : List (Nat × Nat)) (c : Nat), l.all (fun p => decide (p.2 < 0x110000)) = true → Unicode.within l c = true → c < 0x110000
  | [], c, _, h => by cases h
  | (a, b) :: r, c, k, h => by
    rw [List.all_cons, Bool.and_eq_true] at k
    have k1 : b < 0x110000 := of_decide_eq_true k.1
    have h : (if c < a then false else decide (c ≤ b) || Unicode.within r c) = true := h
    split at h
    · cases h
    · rw [Bool.or_eq_true] at h
      rcases h with h | h
      · have := of_decide_eq_true h
        omega
      · exact within_lt r c k.2 h
theorem print_lt {c : Nat} (h : Unicode.isPrintable c = true) : c < 0x110000 := within_lt UnicodeData.printable c (by decide +kernel) h
theorem hex_ok (w c : Nat) : ∀ d ∈ List.replicate (w - ((Nat.toDigits 16 c).map Char.toNat).length) 48 ++ (Nat.toDigits 16 c).map Char.toNat, d < 0x110000 := fun d hd => by
  rcases List.mem_append.mp hd with h | h
  · rw [List.eq_of_mem_replicate h]
    decide
  · obtain ⟨e, _, rfl⟩ := List.mem_map.mp h
    exact char_lt e
theorem reprChar_ok {q c : Nat} (hq : q < 0x110000) : ∀ d ∈ reprChar q c, d < 0x110000 := fun d hd => by
  unfold reprChar at hd
  dsimp only at hd
  have pre : ∀ {a b w : Nat}, a < 0x110000 → b < 0x110000 → d ∈ [a, b] ++ (List.replicate (w - ((Nat.toDigits 16 c).map Char.toNat).length) 48 ++ (Nat.toDigits 16 c).map Char.toNat) → d < 0x110000 := fun {a b w} h1 h2 h => by
    rcases List.mem_append.mp h with h | h
    · simp only [List.mem_cons, List.not_mem_nil, or_false] at h
      rcases h with rfl | rfl
      · exact h1
      · exact h2
    · exact hex_ok w c d h
  split at hd
  · rename_i h
    simp only [List.mem_cons, List.not_mem_nil, or_false] at hd
    rw [Bool.or_eq_true, beq_iff_eq, beq_iff_eq] at h
    rcases hd with rfl | rfl
    · decide
    · rcases h with rfl | rfl
      · exact hq
      · decide
  split at hd
  · simp only [List.mem_cons, List.not_mem_nil, or_false] at hd
    rcases hd with rfl | rfl <;> decide
  split at hd
  · simp only [List.mem_cons, List.not_mem_nil, or_false] at hd
    rcases hd with rfl | rfl <;> decide
  split at hd
  · simp only [List.mem_cons, List.not_mem_nil, or_false] at hd
    rcases hd with rfl | rfl <;> decide
  split at hd
  · rename_i h
    simp only [List.mem_cons, List.not_mem_nil, or_false] at hd
    subst hd
    exact print_lt h
  split at hd
  · exact pre (by decide) (by decide) hd
  split at hd
  · exact pre (by decide) (by decide) hd
  · exact pre (by decide) (by decide) hd
theorem fold_ok {q : Nat} (hq : q < 0x110000) : ∀ (l : List Nat) (acc : Array Nat), (∀ c ∈ acc.toList, c < 0x110000) → ∀ c ∈ (l.foldl (fun out c => out ++ (reprChar q c).toArray) acc).toList, c < 0x110000
  | [], acc, h => h
  | x :: r, acc, h => fold_ok hq r _ fun c hc => by
    rw [Array.toList_append, List.toList_toArray] at hc
    rcases List.mem_append.mp hc with hc | hc
    · exact h c hc
    · exact reprChar_ok hq c hc
theorem quote_lt (x : Str) : reprQuote x < 0x110000 := by
  unfold reprQuote
  split <;> decide
theorem repr_ok (x : Str) : Ok (reprText x) := fun c hc => by
  unfold reprText at hc
  have hc : c ∈ ((x.cps.foldl (fun out c => out ++ (reprChar (reprQuote x) c).toArray) #[reprQuote x]).push (reprQuote x)).toList := hc
  rw [Array.toList_push, ← Array.foldl_toList] at hc
  rcases List.mem_append.mp hc with hc | hc
  · refine fold_ok (quote_lt x) _ _ (fun d hd => ?_) c hc
    have hd : d ∈ [reprQuote x] := hd
    rw [List.mem_singleton.mp hd]
    exact quote_lt x
  · rw [List.mem_singleton.mp hc]
    exact quote_lt x
theorem join_ok {s : Str} (hs : Ok s) : ∀ {ts : List Str}, (∀ t ∈ ts, Ok t) → Ok (Str.join s ts)
  | [], _ => fun c hc => by cases hc
  | [t], h => h t List.mem_cons_self
  | t :: u :: r, h => ok_app (ok_app (h t List.mem_cons_self) hs) (join_ok hs fun x hx => h x (List.mem_cons_of_mem _ hx))
mutual
theorem shown_ok : ∀ d : PyData, Ok d.shown
  | .none => by
    rw [PyData.shown_none]
    exact ok_of _
  | .bool b => by
    rw [PyData.shown_bool]
    cases b <;> exact ok_of _
  | .int i => by
    rw [PyData.shown_int]
    exact ok_of _
  | .str z => by
    rw [PyData.shown_str]
    exact repr_ok z
  | .list xs => by
    rw [PyData.shown_list]
    exact ok_app (ok_app (ok_of _) (join_ok (ok_of _) (shown_okL xs))) (ok_of _)
  | .tuple xs => by
    rw [PyData.shown_tuple]
    exact ok_app (ok_app (ok_of _) (join_ok (ok_of _) (shown_okL xs))) (ok_of _)
  | .dict kvs => by
    rw [PyData.shown_dict]
    exact ok_app (ok_app (ok_of _) (join_ok (ok_of _) (shown_okK kvs))) (ok_of _)
theorem shown_okL : ∀ xs : List PyData, ∀ t ∈ PyData.shownAll xs, Ok t
  | [], t, h => by cases h
  | x :: r, t, h => by
    rw [PyData.shownAll_cons] at h
    rcases List.mem_cons.mp h with rfl | h
    · exact shown_ok x
    · exact shown_okL r t h
theorem shown_okK : ∀ xs : List (PyData × PyData), ∀ t ∈ PyData.shownKv xs, Ok t
  | [], t, h => by cases h
  | (k, v) :: r, t, h => by
    rw [PyData.shownKv_cons] at h
    rcases List.mem_cons.mp h with rfl | h
    · exact ok_app (ok_app (shown_ok k) (ok_of _)) (shown_ok v)
    · exact shown_okK r t h
end
theorem shown_strOk (d : PyData) : PyData.strOk d.shown = true := by
  unfold PyData.strOk
  rw [← Array.all_toList]
  exact List.all_eq_true.mpr fun c hc => decide_eq_true (shown_ok d c hc)
end SO

set_option Elab.async false
set_option linter.all false
set_option maxRecDepth 100000
set_option maxHeartbeats 1000000
/-! The world of a law that makes lambdas; the start of such a law. -/
namespace PN
open PySem PySem.Spec PyProof.Rows L2 KT KG KM KX KY KE0 KQ LK GxR DL KA DW PA PB PC PD PE PF PG QF WT LB PT PU PL
def pm10 {α : Type} : List α → List α
  | [a, b] => [b, a]
  | l => l
theorem pm10_vals {vs : List V} {ws : List Value} (r : Vals vs ws) : Vals (pm10 vs) (pm10 ws) := by
  cases r with
  | nil => exact .nil
  | cons h t =>
    cases t with
    | nil => exact .cons h .nil
    | cons h2 t2 =>
      cases t2 with
      | nil => exact .cons h2 (.cons h .nil)
      | cons h3 t3 => exact .cons h (.cons h2 (.cons h3 t3))
theorem pm10_rel {W : Wc} {M : Addr → Prop} {H : Hp} {vs : List V} {ds : List DV} (r : RelAll W M H vs ds) : RelAll W M H (pm10 vs) (pm10 ds) := by
  match vs, ds, r with
  | [], [], r => exact r
  | [_], [_], r => exact r
  | [_, _], [_, _], r => exact ⟨r.2.1, r.1, trivial⟩
  | _ :: _ :: _ :: _, _ :: _ :: _ :: _, r => exact r
  | [], _ :: _, r => exact r.elim
  | _ :: _, [], r => exact r.elim
  | [_], _ :: _ :: _, r => exact r.2.elim
  | _ :: _ :: _, [_], r => exact r.2.elim
  | [_, _], _ :: _ :: _ :: _, r => exact r.2.2.elim
  | _ :: _ :: _ :: _, [_, _], r => exact r.2.2.elim
theorem rngD_int {lo : Int} {n i : Nat} {d : PyData} (h : (rngD lo n)[i]? = some d) : ∃ k : Int, d = .int k := by
  have := List.mem_of_getElem? h
  unfold rngD at this
  obtain ⟨j, _, rfl⟩ := List.mem_map.mp this
  exact ⟨_, rfl⟩
def grow : Nat → Nat
  | 0 => 440
  | n + 1 => 2 * grow n + 300
theorem kindsD_bm : kindsD "BadMachine" = .tuple [.bool true, .bool false, .bool false, .bool false] := by
  show PyData.tuple [.bool (("BadMachine" : Str) == "BadMachine"), .bool (("BadMachine" : Str) == "BadStanding"), .bool (("BadMachine" : Str) == "BadWord"), .bool (("BadMachine" : Str) == "BadNumber")] = _
  rw [show (("BadMachine" : Str) == "BadMachine") = true by decide +kernel, show (("BadMachine" : Str) == "BadStanding") = false by decide +kernel, show (("BadMachine" : Str) == "BadWord") = false by decide +kernel, show (("BadMachine" : Str) == "BadNumber") = false by decide +kernel]
theorem shp {d : PyData} (h1 : d.canLay0 = true) (h2 : d.depth ≤ 64) : eqOk d d = true := by
  unfold eqOk SeqAt.shaped
  rw [h1, decide_eq_true h2]
  rfl
/-- the world of a law that makes lambdas -/
def lamDeck (K : PySem.W.Frag) (Tl : List Addr) (d L Pt : Addr) (q : Str) (nt : Pt ∉ Tl) : Wc where
  K := K
  vol := fun a => a = d ∨ a = L
  inv := fun H => DK d L H ∧ LamX.TabS H Pt q
  deck := fun v => v = .ref d
  Tl := Tl
  keep := fun {H H'} k h => by
    obtain ⟨⟨ns, m, z, h1, h2, h3⟩, ps, e, tr, cs⟩ := h
    refine ⟨⟨ns, m, z, k _ _ (.inl (.inl rfl)) h1, k _ _ (.inl (.inr rfl)) h2, h3⟩, ps, k _ _ (.inr (.inr ⟨nt, _, rfl⟩)) e, tr, fun pos cv hc => ?_⟩
    obtain ⟨c, rfl, hco⟩ := cs pos cv hc
    exact ⟨c, rfl, k _ _ (.inr (.inl ⟨_, rfl⟩)) hco⟩
  there := fun {H a} h v => dk_here h.1 v
theorem tabS_keep {d L Pt : Addr} {q : Str} {H H' : Hp} (h : DK d L H) (t : LamX.TabS H Pt q) (s : ∀ a o, a ≠ d → a ≠ L → H a = some o → H' a = some o) : LamX.TabS H' Pt q := by
  obtain ⟨ns, m, z, h1, h2, h3⟩ := h
  obtain ⟨ps, e, tr, cs⟩ := t
  have ne : ∀ a o, H a = some o → (∀ kv, o ≠ .dK kv) → (∀ xs, o ≠ .lst xs) → a ≠ d ∧ a ≠ L := fun a o q n1 n2 => ⟨fun z => by
    rw [z, h1] at q
    exact n1 _ (Option.some.inj q).symm, fun z => by
    rw [z, h2] at q
    exact n2 _ (Option.some.inj q).symm⟩
  have ne1 := ne Pt _ e (fun _ z => by cases z) (fun _ z => by cases z)
  refine ⟨ps, s _ _ ne1.1 ne1.2 e, tr, fun pos cv hc => ?_⟩
  obtain ⟨c, rfl, hco⟩ := cs pos cv hc
  have ne2 := ne c _ hco (fun _ z => by unfold LamX.CodeO at z; cases z) (fun _ z => by unfold LamX.CodeO at z; cases z)
  exact ⟨c, rfl, s _ _ ne2.1 ne2.2 hco⟩
theorem lamDeck_ok {K : PySem.W.Frag} {Tl : List Addr} {d L Pt : Addr} {q : Str} (nt : Pt ∉ Tl) : WP K Tl (lamDeck K Tl d L Pt q nt) :=
  ⟨rfl, rfl, fun v h => ⟨d, L, h, fun H h => h.1, fun H H' h k s => ⟨k, tabS_keep h.1 h.2 s⟩, fun a => Iff.rfl⟩⟩
theorem lamDeck_lam {K : PySem.W.Frag} {Tl : List Addr} {d L Pt : Addr} {q : Str} (nt : Pt ∉ Tl) : LamW Pt q (lamDeck K Tl d L Pt q nt) := by
  refine ⟨nt, fun H h => h.2, fun H H' h r t => ⟨?_, t⟩⟩
  obtain ⟨⟨ns, m, z, h1, h2, h3⟩, ps, e, tr, cs⟩ := h
  exact ⟨ns, m, z, r _ _ (ne_of h1 e (by intro z; cases z)) h1, r _ _ (ne_of h2 e (by intro z; cases z)) h2, h3⟩
def spLaw (K : PySem.W.Frag) (Tl : List Addr) (Pt : Addr) : Sp := fun vs H Q _ => ∃ (a : Addr) (ns : List Int), vs = [.ref a] ∧ SqL K H a (ns.map V.int) ∧ Ts Tl H ∧ H Pt = some (.tbl #[]) ∧ ∀ H', Q (.bl true) H'
/-- over any such world -/
def tAnyW (c : Wd → Prop) (g : FS) : TS := fun D σ H => ∃ W : Wd, c W ∧ tDS W g D σ H
theorem pss_any {X : Cx} {sts : List Stmt} {c : Wd → Prop} {g : FS} (h : ∀ W : Wd, c W → PSs X sts (tDS W g)) : PSs X sts (tAnyW c g) := ⟨fun pins s σ H D I ⟨W, h1, h2⟩ => (h W h1).run pins s σ H D I h2⟩
theorem kindsD_bs : kindsD "BadStanding" = .tuple [.bool false, .bool true, .bool false, .bool false] := by
  show PyData.tuple [.bool (("BadStanding" : Str) == "BadMachine"), .bool (("BadStanding" : Str) == "BadStanding"), .bool (("BadStanding" : Str) == "BadWord"), .bool (("BadStanding" : Str) == "BadNumber")] = _
  rw [show (("BadStanding" : Str) == "BadMachine") = false by decide +kernel, show (("BadStanding" : Str) == "BadStanding") = true by decide +kernel, show (("BadStanding" : Str) == "BadWord") = false by decide +kernel, show (("BadStanding" : Str) == "BadNumber") = false by decide +kernel]
theorem good1 {K : PySem.W.Frag} {Tl : List Addr} {d L Pt : Addr} {q : Str} {H1 : Hp} {x : Option V} {n : Nat} (nt : Pt ∉ Tl) (dk : DK d L H1) (tab : LamX.TabS H1 Pt q) (ts1 : Ts Tl H1) :
    Good { lamDeck K Tl d L Pt q nt with H0 := H1, M0 := fun b => b = d ∨ b = L } [] (fun b => b = d ∨ b = L) H1 (x :: some (.ref d) :: List.replicate n none) (none :: some .deck :: List.replicate n none) := by
  have here : ∀ b, b = d ∨ b = L → H1 b ≠ none := fun b hb => by
    obtain ⟨o, e, _⟩ := dk_here dk hb
    rw [e]
    exact fun z => by cases z
  refine ⟨⟨⟨⟨⟨dk, tab⟩, ts1⟩, fun _ h => h, here, .refl, fun _ h => h, here⟩, by simp, fun i dv e => ?_⟩, (fun q hq => by cases hq), (fun i c b e _ => ?_), (fun i j c c' b _ e _ _ => ?_)⟩
  · match i, e with
    | 0, e => cases e
    | 1, e =>
      cases e
      exact ⟨_, rfl, rfl⟩
    | i + 2, e =>
      have := List.eq_of_mem_replicate (List.mem_of_getElem? (show (List.replicate n (none : Option DV))[i]? = some (some dv) from e))
      cases this
  · have := List.mem_of_getElem? e
    simp at this
  · have := List.mem_of_getElem? e
    simp at this
theorem rngD_at {lo : Int} {n i : Nat} {d : PyData} (h : (rngD lo n)[i]? = some d) : d = .int (lo + (i : Int)) ∧ i < n := by
  unfold rngD at h
  rw [List.getElem?_map] at h
  by_cases hi : i < n
  · rw [List.getElem?_range hi] at h
    exact ⟨(Option.some.inj h).symm, hi⟩
  · rw [List.getElem?_eq_none (by simpa using hi)] at h
    cases h
theorem parts_of {n : Int} {l r : Str} (h : roomy l r) : partsS (.tuple [.int n, .str l, .str r]) := fun zs ez x hx w ew => by
  cases ez
  subst ew
  unfold roomy at h
  simp only [List.mem_cons, List.not_mem_nil, or_false, PyData.str.injEq, reduceCtorEq, false_or] at hx
  rcases hx with rfl | rfl <;> omega
theorem standB_of {xs : List PyData} {n : Int} {l r : Str} (st : Stand xs n l r) : standB xs.length (.tuple [.int n, .str l, .str r]) = true := by
  show (decide (0 ≤ n) && (decide (n ≤ xs.length) && (isW l && isW r))) = true
  rw [decide_eq_true st.n0, decide_eq_true st.n1, st.wl, st.wr]
  rfl
theorem pst {xs : List PyData} {n : Int} {l r : Str} {Kk : PyData → Prop} {KE : Str → PyData → Prop} (st : Stand xs n l r) (hk : Kk (nextD xs n l r)) : F_pstep [.dat (.tuple xs), .dat (.tuple [.int n, .str l, .str r])] Kk KE := by
  refine ⟨_, _, rfl, fun hm => ?_, fun ys et hm => ⟨parts_of st.room, fun hb => ?_, fun _ n' l' r' e2 => ?_⟩⟩
  · rw [st.m] at hm
    cases hm
  · cases et
    rw [standB_of st] at hb
    cases hb
  · cases et
    cases e2
    exact ⟨st.room, hk⟩
theorem say_stand {k n : Int} {l r : Str} {m : Nat} (h0 : 0 ≤ n) (h1 : n ≤ k) (hk : k ≤ 6) (hl : isW l = true) (hr : isW r = true) (hm : l.length + r.length ≤ m) (hm2 : m ≤ 100000) : Say (.tuple [.int n, .str l, .str r]) :=
  (nb_stand h0 h1 hk hl hr hm).say (by decide) (by rw [sizeLine_eq]; omega)
theorem say_next {xs : List PyData} {n : Int} {l r : Str} (st : Stand xs n l r) (h6 : xs.length ≤ 6) (hm : l.length + r.length ≤ 50000) : Say (nextD xs n l r) := by
  obtain ⟨n', l', r', en, q0, q1, w1, w2, w3⟩ := nextD_is st
  rw [en]
  exact say_stand (m := 50001) q0 q1 (by omega) w1 w2 (by omega) (by omega)
theorem same_ok {d : PyData} {Kk : PyData → Prop} {KE : Str → PyData → Prop} (s : Say d) (k : Kk (.bool true)) : F_same [.dat d, .dat d] Kk KE := ⟨d, d, rfl, s, s, by
  rw [beq_self_eq_true]
  exact k⟩
def growN (a : Nat) : Nat → Nat
  | 0 => a
  | n + 1 => 2 * growN a n + 300
theorem room_of {l r : Str} (h : l.length + r.length ≤ 100000) : roomy l r := by
  unfold roomy
  rw [sizeLine_eq]
  omega
end PN


set_option Elab.async false
set_option linter.all false
set_option maxRecDepth 100000
set_option maxHeartbeats 1000000
/-! Pile machines: the law's own look at words and standings. -/
namespace PS
open PySem PySem.Spec PyProof.Rows L2 KT KG KM KX KY KE0 KQ LK GxR DL KA DW PA PB PC PD QF WT
theorem sign_is {z : Str} {d : PyData} (h : d ∈ DL.signs z) : ∃ c : Nat, d = .str ⟨#[c]⟩ := by
  unfold DL.signs at h
  obtain ⟨c, _, rfl⟩ := List.mem_map.mp h
  exact ⟨c, rfl⟩
theorem sign_in (c : Nat) : inD (.str ⟨#[c]⟩) (.tuple [.str "0", .str "1"]) = decide (c ∈ [48, 49]) := by
  have e0 : ("0" : Str) = ⟨#[48]⟩ := by decide +kernel
  have e1 : ("1" : Str) = ⟨#[49]⟩ := by decide +kernel
  show ((PyData.eqv (.str "0") (.str ⟨#[c]⟩)) || ((PyData.eqv (.str "1") (.str ⟨#[c]⟩)) || false)) = _
  rw [eqv_ss, eqv_ss, e0, e1]
  by_cases h0 : c = 48
  · subst h0
    decide +kernel
  · by_cases h1 : c = 49
    · subst h1
      decide +kernel
    · have n0 : ((⟨#[48]⟩ : Str) == ⟨#[c]⟩) = false := beq_eq_false_iff_ne.mpr fun z => by
        have := congrArg (fun s : Str => s.cps.toList) z
        simp at this
        exact h0 this.symm
      have n1 : ((⟨#[49]⟩ : Str) == ⟨#[c]⟩) = false := beq_eq_false_iff_ne.mpr fun z => by
        have := congrArg (fun s : Str => s.cps.toList) z
        simp at this
        exact h1 this.symm
      rw [n0, n1, decide_eq_false (by simp [h0, h1])]
      rfl
theorem signs_bits (z : Str) : ((DL.signs z).filter fun d => !inD d (.tuple [.str "0", .str "1"])).isEmpty = isW z := by
  have e : ("01" : Str).cps.toList = [48, 49] := by decide +kernel
  unfold DL.signs isW
  rw [e]
  induction z.cps.toList with
  | nil => rfl
  | cons c r ih =>
    rw [List.map_cons, List.filter_cons, sign_in, List.all_cons, ← ih]
    cases decide (c ∈ [48, 49]) with
    | true => rfl
    | false => rfl
abbrev N__law_is_word : List Str := ["_law_thing", "_law_sign"]
abbrev P__law_is_word : List Str := ["_law_thing"]
theorem sc__law_is_word : FnScope N__law_is_word P__law_is_word (defScope s__law_is_word) := ⟨rfl, rfl, rfl, by decide +kernel, rfl, by decide +kernel, by decide +kernel⟩
section
variable {P : Program} {w : World} {K : PySem.W.Frag} {mg : Str → Option Value} {base : Heap} {Tl : List Addr}
theorem ok_lisWord {fd : FuncData} (T : TbL mg) (D : Df K mg "_law_is_word" s__law_is_word P__law_is_word fd) : FnOk P w K mg base CX0 2 (He.fAd K ("_law_is_word", none)) fd P__law_is_word (spD (WP K Tl) F_word) := by
  refine okD D.F sc__law_is_word (fun ds Kk KE h => by obtain ⟨d, rfl, _⟩ := h; rfl) (fun W cdv A outer s E hW hcd hr => ?_)
  have hK : W.K = K := hW.k
  refine ⟨_, (dss_one (ds_ret (de_and (de_cb (pe_callB call_isi (by rfl) T.isinstance (by decide +kernel) (da_cons (dv 0) (da_cons (de_ob (pe_bltn (v := .ty "str") (by rfl) T.str (by decide +kernel) rfl)) da_nil))) (sn_isi kb_str)) (pe_one (de_cmp (op_eqX hr W.vol) sn_eq (de_new (df_lc (own := [("_law_sign", 1)]) (g := gName 1) rfl sc__law_is_word.nd (di_seq (st := false) (dv 0) hK) (blkOk_by (own := [("_law_sign", 1)]) (N := N__law_is_word) (sc := defScope s__law_is_word) (by decide +kernel)) (fun _ _ _ _ _ => (pg_name (i := 1) sc__law_is_word.nd rfl (.inl rfl))) (sg_name (i := 1) (by simp)) (fun _ _ _ _ _ => (pts_one (dt_cmp op_notIn_seq sn_notIn (dv 1) (de_tup (da_cons de_str (da_cons de_str da_nil))) (by rfl)))) (fun _ _ _ _ _ => (dv 1)))) (de_new (df_lst da_nil))))))), fun ds Kk KE h => ?_⟩
  obtain ⟨d, rfl, hs, h⟩ := h
  (try simp only [DL.iteB_true, DL.iteB_false, DL.sSeq, DL.sNext, DL.sRet, DL.sRetN, DL.sIf, DL.sAsg, DL.sNew, DL.sDrop, DL.sRel, DL.sApp, DL.sFor, DL.sBreak, DL.sCont, DL.sAsgT, DL.sPar, DL.sPar3, DL.sPar3DFD, DL.sParFD, DL.sParDF, DL.sExt, DL.sPut, DL.sAug, DL.sCut, DL.sRaise, DL.sWhile, DL.fVar, DL.fC, DL.fOb, DL.fGts, DL.f2, DL.f1, DL.fCall, DL.fB, DL.fTru, DL.fAnd, DL.fOr, DL.fNot, DL.fIf, DL.tAndD, DL.tOrD, DL.tNotD, DL.fNil, DL.fCons, DL.fTup, DL.fLst, DL.fDnew, DL.fNew, DL.fIt, DL.fRng1, DL.fRng2, DL.fLc, DL.fAG, DL.fFn, DL.fFnX, DL.fFnK, DL.fSl, DL.fNone, DL.fPart, DL.fList, DL.fM0, DL.fM1, DL.tYesD, DL.gdN, DL.gdT_t, DL.gdNil_n, DL.gdCons_c, DL.op2, DL.op1, DL.opC, DL.c1, DL.isiP, DL.typeO, DL.tyIs, DL.inG, DL.isND, DL.rel, DL.wipeD, DL.le_s0, DL.le_s1, DL.le_s2, DL.le_s3, DL.le_s4, DL.le_s5, DL.le_s6, DL.le_s7, DL.le_s8, DL.le_s9, DL.le_s10, DL.le_s11, DL.le_s12, DL.le_s13, DL.le_s14, DL.le_s15, DL.le_s16, DL.le_s17, DL.le_s18, DL.le_s19, DL.le_s20, DL.le_s21, DL.le_s22, DL.le_s23, DL.le_s24, DL.le_s25, DL.le_s26, DL.le_s27, DL.le_s28, DL.le_s29, DL.le_s30, DL.le_s31, DL.le_s32, DL.le_s33, DL.le_s34, DL.le_s35, DL.le_s36, DL.le_s37, DL.le_s38, DL.le_s39, DL.le_s40, DL.le_s41, DL.le_s42, DL.le_s43, DL.le_s44, DL.le_s45, DL.le_s46, DL.le_s47, DL.le_s48, DL.le_s49, DL.le_s50, DL.le_s51, DL.le_s52, DL.le_s53, DL.le_s54, DL.le_s55, DL.le_s56, DL.le_s57, DL.le_s58, DL.le_s59, DL.le_s60, DL.le_s61, DL.le_s62, DL.le_s63, DL.le_s64, DL.start0, DL.asDat, DL.lend, DL.noOwn, DL.DV.isOwn, DL.pd_dat, DL.pd_own, DL.ocpd_lst, DL.ocpd_dk, DL.itemsOf, List.map_cons, List.map_nil, List.append_nil, List.cons_append, List.nil_append, List.length_cons, List.length_nil, List.replicate_succ, List.replicate_zero, List.getElem?_cons_zero, List.getElem?_cons_succ, List.set_cons_zero, List.set_cons_succ, Nat.reduceSub, Nat.reduceAdd, Nat.sub_self, Nat.zero_add, Option.some.injEq, DL.DV.dat.injEq, PyData.bool.injEq, PyData.int.injEq, PyData.str.injEq, PyData.tuple.injEq, PyData.list.injEq, DL.DV.ob.injEq, V.ty.injEq, DL.DV.own.injEq, DL.OC.lst.injEq, List.cons.injEq, Option.map_some, exists_eq_left', exists_eq_left, exists_eq_right, exists_eq_right', exists_and_left, and_true, true_and, Bool.not_true, Bool.not_false, Bool.and_true, Bool.true_and, true_or, Bool.not_eq_true', Bool.false_eq_true, if_true, if_false, reduceIte, reduceCtorEq])
  cases d with
  | str z =>
    refine ⟨_, rfl, ?_⟩
    have hl : (DL.signs z).length ≤ sizeLine := by
      have e : (DL.signs z).length = z.length := by
        show (z.cps.toList.map _).length = z.cps.size
        simp
      rw [e]
      exact hs z rfl
    refine lc_fil (p := fun d => !inD d (.tuple [.str "0", .str "1"])) (q := id) (fun d hd Q hq => ?_) (by simpa using hl) ?_
    · obtain ⟨c, rfl⟩ := sign_is hd
      (try simp only [DL.iteB_true, DL.iteB_false, DL.sSeq, DL.sNext, DL.sRet, DL.sRetN, DL.sIf, DL.sAsg, DL.sNew, DL.sDrop, DL.sRel, DL.sApp, DL.sFor, DL.sBreak, DL.sCont, DL.sAsgT, DL.sPar, DL.sPar3, DL.sPar3DFD, DL.sParFD, DL.sParDF, DL.sExt, DL.sPut, DL.sAug, DL.sCut, DL.sRaise, DL.sWhile, DL.fVar, DL.fC, DL.fOb, DL.fGts, DL.f2, DL.f1, DL.fCall, DL.fB, DL.fTru, DL.fAnd, DL.fOr, DL.fNot, DL.fIf, DL.tAndD, DL.tOrD, DL.tNotD, DL.fNil, DL.fCons, DL.fTup, DL.fLst, DL.fDnew, DL.fNew, DL.fIt, DL.fRng1, DL.fRng2, DL.fLc, DL.fAG, DL.fFn, DL.fFnX, DL.fFnK, DL.fSl, DL.fNone, DL.fPart, DL.fList, DL.fM0, DL.fM1, DL.tYesD, DL.gdN, DL.gdT_t, DL.gdNil_n, DL.gdCons_c, DL.op2, DL.op1, DL.opC, DL.c1, DL.isiP, DL.typeO, DL.tyIs, DL.inG, DL.isND, DL.rel, DL.wipeD, DL.le_s0, DL.le_s1, DL.le_s2, DL.le_s3, DL.le_s4, DL.le_s5, DL.le_s6, DL.le_s7, DL.le_s8, DL.le_s9, DL.le_s10, DL.le_s11, DL.le_s12, DL.le_s13, DL.le_s14, DL.le_s15, DL.le_s16, DL.le_s17, DL.le_s18, DL.le_s19, DL.le_s20, DL.le_s21, DL.le_s22, DL.le_s23, DL.le_s24, DL.le_s25, DL.le_s26, DL.le_s27, DL.le_s28, DL.le_s29, DL.le_s30, DL.le_s31, DL.le_s32, DL.le_s33, DL.le_s34, DL.le_s35, DL.le_s36, DL.le_s37, DL.le_s38, DL.le_s39, DL.le_s40, DL.le_s41, DL.le_s42, DL.le_s43, DL.le_s44, DL.le_s45, DL.le_s46, DL.le_s47, DL.le_s48, DL.le_s49, DL.le_s50, DL.le_s51, DL.le_s52, DL.le_s53, DL.le_s54, DL.le_s55, DL.le_s56, DL.le_s57, DL.le_s58, DL.le_s59, DL.le_s60, DL.le_s61, DL.le_s62, DL.le_s63, DL.le_s64, DL.start0, DL.asDat, DL.lend, DL.noOwn, DL.DV.isOwn, DL.pd_dat, DL.pd_own, DL.ocpd_lst, DL.ocpd_dk, DL.itemsOf, List.map_cons, List.map_nil, List.append_nil, List.cons_append, List.nil_append, List.length_cons, List.length_nil, List.replicate_succ, List.replicate_zero, List.getElem?_cons_zero, List.getElem?_cons_succ, List.set_cons_zero, List.set_cons_succ, Nat.reduceSub, Nat.reduceAdd, Nat.sub_self, Nat.zero_add, Option.some.injEq, DL.DV.dat.injEq, PyData.bool.injEq, PyData.int.injEq, PyData.str.injEq, PyData.tuple.injEq, PyData.list.injEq, DL.DV.ob.injEq, V.ty.injEq, DL.DV.own.injEq, DL.OC.lst.injEq, List.cons.injEq, Option.map_some, exists_eq_left', exists_eq_left, exists_eq_right, exists_eq_right', exists_and_left, and_true, true_and, Bool.not_true, Bool.not_false, Bool.and_true, Bool.true_and, true_or, Bool.not_eq_true', Bool.false_eq_true, if_true, if_false, reduceIte, reduceCtorEq])
      refine ⟨⟨rfl, _, .inl rfl, rfl⟩, _, rfl, hq _ fun Q2 _ k => ?_⟩
      (try simp only [DL.iteB_true, DL.iteB_false, DL.sSeq, DL.sNext, DL.sRet, DL.sRetN, DL.sIf, DL.sAsg, DL.sNew, DL.sDrop, DL.sRel, DL.sApp, DL.sFor, DL.sBreak, DL.sCont, DL.sAsgT, DL.sPar, DL.sPar3, DL.sPar3DFD, DL.sParFD, DL.sParDF, DL.sExt, DL.sPut, DL.sAug, DL.sCut, DL.sRaise, DL.sWhile, DL.fVar, DL.fC, DL.fOb, DL.fGts, DL.f2, DL.f1, DL.fCall, DL.fB, DL.fTru, DL.fAnd, DL.fOr, DL.fNot, DL.fIf, DL.tAndD, DL.tOrD, DL.tNotD, DL.fNil, DL.fCons, DL.fTup, DL.fLst, DL.fDnew, DL.fNew, DL.fIt, DL.fRng1, DL.fRng2, DL.fLc, DL.fAG, DL.fFn, DL.fFnX, DL.fFnK, DL.fSl, DL.fNone, DL.fPart, DL.fList, DL.fM0, DL.fM1, DL.tYesD, DL.gdN, DL.gdT_t, DL.gdNil_n, DL.gdCons_c, DL.op2, DL.op1, DL.opC, DL.c1, DL.isiP, DL.typeO, DL.tyIs, DL.inG, DL.isND, DL.rel, DL.wipeD, DL.le_s0, DL.le_s1, DL.le_s2, DL.le_s3, DL.le_s4, DL.le_s5, DL.le_s6, DL.le_s7, DL.le_s8, DL.le_s9, DL.le_s10, DL.le_s11, DL.le_s12, DL.le_s13, DL.le_s14, DL.le_s15, DL.le_s16, DL.le_s17, DL.le_s18, DL.le_s19, DL.le_s20, DL.le_s21, DL.le_s22, DL.le_s23, DL.le_s24, DL.le_s25, DL.le_s26, DL.le_s27, DL.le_s28, DL.le_s29, DL.le_s30, DL.le_s31, DL.le_s32, DL.le_s33, DL.le_s34, DL.le_s35, DL.le_s36, DL.le_s37, DL.le_s38, DL.le_s39, DL.le_s40, DL.le_s41, DL.le_s42, DL.le_s43, DL.le_s44, DL.le_s45, DL.le_s46, DL.le_s47, DL.le_s48, DL.le_s49, DL.le_s50, DL.le_s51, DL.le_s52, DL.le_s53, DL.le_s54, DL.le_s55, DL.le_s56, DL.le_s57, DL.le_s58, DL.le_s59, DL.le_s60, DL.le_s61, DL.le_s62, DL.le_s63, DL.le_s64, DL.start0, DL.asDat, DL.lend, DL.noOwn, DL.DV.isOwn, DL.pd_dat, DL.pd_own, DL.ocpd_lst, DL.ocpd_dk, DL.itemsOf, List.map_cons, List.map_nil, List.append_nil, List.cons_append, List.nil_append, List.length_cons, List.length_nil, List.replicate_succ, List.replicate_zero, List.getElem?_cons_zero, List.getElem?_cons_succ, List.set_cons_zero, List.set_cons_succ, Nat.reduceSub, Nat.reduceAdd, Nat.sub_self, Nat.zero_add, Option.some.injEq, DL.DV.dat.injEq, PyData.bool.injEq, PyData.int.injEq, PyData.str.injEq, PyData.tuple.injEq, PyData.list.injEq, DL.DV.ob.injEq, V.ty.injEq, DL.DV.own.injEq, DL.OC.lst.injEq, List.cons.injEq, Option.map_some, exists_eq_left', exists_eq_left, exists_eq_right, exists_eq_right', exists_and_left, and_true, true_and, Bool.not_true, Bool.not_false, Bool.and_true, Bool.true_and, true_or, Bool.not_eq_true', Bool.false_eq_true, if_true, if_false, reduceIte, reduceCtorEq])
      exact k
    · (try simp only [DL.negP_i, DL.le_s0, DL.le_s1, DL.le_s2, DL.le_s3, DL.le_s4, DL.le_s5, DL.le_s6, DL.le_s7, DL.le_s8, DL.le_s9, DL.le_s10, DL.le_s11, DL.le_s12, DL.le_s13, DL.le_s14, DL.le_s15, DL.le_s16, DL.le_s17, DL.le_s18, DL.le_s19, DL.le_s20, DL.le_s21, DL.le_s22, DL.le_s23, DL.le_s24, DL.le_s25, DL.le_s26, DL.le_s27, DL.le_s28, DL.le_s29, DL.le_s30, DL.le_s31, DL.le_s32, DL.le_s33, DL.le_s34, DL.le_s35, DL.le_s36, DL.le_s37, DL.le_s38, DL.le_s39, DL.le_s40, DL.le_s41, DL.le_s42, DL.le_s43, DL.le_s44, DL.le_s45, DL.le_s46, DL.le_s47, DL.le_s48, DL.le_s49, DL.le_s50, DL.le_s51, DL.le_s52, DL.le_s53, DL.le_s54, DL.le_s55, DL.le_s56, DL.le_s57, DL.le_s58, DL.le_s59, DL.le_s60, DL.le_s61, DL.le_s62, DL.le_s63, DL.le_s64, DL.iteB_true, DL.iteB_false, DL.lenP_t, DL.lenP_l, DL.lenP_s, DL.eqP, DL.eqOk_int, DL.eqOk_str, DL.eqOk_emp, DL.eqOk_empL, DL.eqv_emp1, DL.eqv_empL1, DL.eqv_ii, DL.eqv_ss, DL.ixP_t, DL.ixP_l, DL.ixP_s, DL.slP_t, DL.slP_l, DL.slP_s, DL.intcP_i, DL.intcP_b, DL.intcP_s, DL.tupcP_l, DL.tupcP_t, DL.atI_z, DL.atI_o, DL.atI_t, DL.int0P_ii, DL.intP_ii, DL.addP_ii, DL.addP_ss, DL.addP_tt, DL.addP_ll, DL.isTup_t, DL.reprP, Bool.false_eq_true, if_true, if_false, reduceIte, Option.some.injEq, PyData.bool.injEq, exists_eq_left', exists_eq_left, exists_eq_right, exists_eq_right', true_and, and_true, Bool.true_eq_false, Bool.not_true, Bool.not_false, false_and, and_false, exists_and_left, reduceCtorEq, DL.DV.gts.injEq, exists_const])
      rw [List.nil_append, List.map_id, signs_bits]
      exact h
  | _ => exact h
end
end PS


set_option Elab.async false
set_option linter.all false
set_option maxRecDepth 100000
set_option maxHeartbeats 1000000
/-! Many steps: the iteration, later_standing, _law_after. -/
namespace PVL
open PySem PySem.Spec PyProof.Rows L2 KT KG KM KX KY KE0 KQ LK GxR DL KA DW PA PB PC PD PE PF PG QF WT LB PT PU PL PN
def pm120 {α : Type} : List α → List α
  | [a, b, c] => [b, c, a]
  | l => l
theorem pm120_rel {W : Wc} {M : Addr → Prop} {H : Hp} {vs : List V} {ds : List DV} (r : RelAll W M H vs ds) : RelAll W M H (pm120 vs) (pm120 ds) := by
  have hl := r.length
  match vs, ds, r with
  | [], [], r => exact r
  | [_], [_], r => exact r
  | [_, _], [_, _], r => exact r
  | [_, _, _], [_, _, _], r => exact ⟨r.2.1, r.2.2.1, r.1, trivial⟩
  | _ :: _ :: _ :: _ :: _, _ :: _ :: _ :: _ :: _, r => exact r
  | [], _ :: _, r => exact r.elim
  | _ :: _, [], r => exact r.elim
  | [_], _ :: _ :: _, r => exact r.2.elim
  | _ :: _ :: _, [_], r => exact r.2.elim
  | [_, _], _ :: _ :: _ :: _, r => exact r.2.2.elim
  | _ :: _ :: _ :: _, [_, _], r => exact r.2.2.elim
  | [_, _, _], _ :: _ :: _ :: _ :: _, r => exact r.2.2.2.elim
  | _ :: _ :: _ :: _ :: _, [_, _, _], r => exact r.2.2.2.elim
theorem pm120_vals {vs : List V} {ws : List Value} (r : Vals vs ws) : Vals (pm120 vs) (pm120 ws) := by
  cases r with
  | nil => exact .nil
  | cons h t =>
    cases t with
    | nil => exact .cons h .nil
    | cons h2 t2 =>
      cases t2 with
      | nil => exact .cons h (.cons h2 .nil)
      | cons h3 t3 =>
        cases t3 with
        | nil => exact .cons h2 (.cons h3 (.cons h .nil))
        | cons h4 t4 => exact .cons h (.cons h2 (.cons h3 (.cons h4 t4)))
theorem kindsD_bw : kindsD "BadWord" = .tuple [.bool false, .bool false, .bool true, .bool false] := by
  show PyData.tuple [.bool (("BadWord" : Str) == "BadMachine"), .bool (("BadWord" : Str) == "BadStanding"), .bool (("BadWord" : Str) == "BadWord"), .bool (("BadWord" : Str) == "BadNumber")] = _
  rw [show (("BadWord" : Str) == "BadMachine") = false by decide +kernel, show (("BadWord" : Str) == "BadStanding") = false by decide +kernel, show (("BadWord" : Str) == "BadWord") = true by decide +kernel, show (("BadWord" : Str) == "BadNumber") = false by decide +kernel]
theorem kindsD_bn : kindsD "BadNumber" = .tuple [.bool false, .bool false, .bool false, .bool true] := by
  show PyData.tuple [.bool (("BadNumber" : Str) == "BadMachine"), .bool (("BadNumber" : Str) == "BadStanding"), .bool (("BadNumber" : Str) == "BadWord"), .bool (("BadNumber" : Str) == "BadNumber")] = _
  rw [show (("BadNumber" : Str) == "BadMachine") = false by decide +kernel, show (("BadNumber" : Str) == "BadStanding") = false by decide +kernel, show (("BadNumber" : Str) == "BadWord") = false by decide +kernel, show (("BadNumber" : Str) == "BadNumber") = true by decide +kernel]
theorem nb_int {i : Int} (h0 : 0 ≤ i) (h1 : i ≤ 100000000) : Nb 0 12 (.int i) := ⟨by
  have : i.natAbs < 2 ^ 1920 := Nat.lt_of_le_of_lt (show i.natAbs ≤ 100000000 by omega) (by decide +kernel)
  show decide (i.natAbs.log2 < 1920) = true
  by_cases z : i.natAbs = 0
  · rw [z]
    decide
  · exact decide_eq_true ((Nat.log2_lt z).mpr this), by simp [PyData.depth], by
  have := int_text_length_le10 (k := 10) (by decide) (show i.natAbs < 10 ^ 10 by omega)
  simp only [wt, PyData.shown_int]
  rw [PySem.ofString_length]
  omega⟩
theorem say_st {n : Int} {l r : Str} (h0 : 0 ≤ n) (h1 : n ≤ 100000000) (hl : isW l = true) (hr : isW r = true) (hm : l.length + r.length ≤ 100000) : Say (.tuple [.int n, .str l, .str r]) :=
  (((NbL.cons (nb_int h0 h1) (NbL.cons (nb_word hl (n := 100000) (by omega)) (NbL.cons (nb_word hr (n := 100000) (by omega)) (NbL.nil 0 0)))).tup)).say (by decide) (by rw [sizeLine_eq]; decide)
def stepD (xs : List PyData) : PyData → PyData
  | .tuple [.int n, .str l, .str r] => nextD xs n l r
  | d => d
def afterD (xs : List PyData) : Nat → PyData → PyData
  | 0, d => d
  | k + 1, d => afterD xs k (stepD xs d)
theorem after_end {xs : List PyData} {n : Int} {l r : Str} (h : n = xs.length) : ∀ k, afterD xs k (.tuple [.int n, .str l, .str r]) = .tuple [.int n, .str l, .str r]
  | 0 => rfl
  | k + 1 => by
    have e : stepD xs (.tuple [.int n, .str l, .str r]) = .tuple [.int n, .str l, .str r] := by
      show nextD xs n l r = _
      unfold nextD
      rw [show (n == (xs.length : Int)) = true from beq_iff_eq.mpr h]
      rfl
    show afterD xs k (stepD xs _) = _
    rw [e]
    exact after_end h k
theorem after_step {xs : List PyData} : ∀ (k : Nat) (d : PyData), afterD xs (k + 1) d = stepD xs (afterD xs k d)
  | 0, d => rfl
  | k + 1, d => after_step k (stepD xs d)
theorem after_is {xs : List PyData} : ∀ (k : Nat) {n : Int} {l r : Str}, Stand xs n l r → l.length + r.length + k ≤ 100000 → ∃ n' l' r', afterD xs k (.tuple [.int n, .str l, .str r]) = .tuple [.int n', .str l', .str r'] ∧ Stand xs n' l' r' ∧ l'.length + r'.length ≤ l.length + r.length + k
  | 0, n, l, r, st, _ => ⟨n, l, r, rfl, st, Nat.le_refl _⟩
  | k + 1, n, l, r, st, h => by
    obtain ⟨n1, l1, r1, e1, q0, q1, w1, w2, w3⟩ := nextD_is st
    obtain ⟨n2, l2, r2, e2, s2, h2⟩ := after_is k (n := n1) (l := l1) (r := r1) ⟨st.m, q0, q1, w1, w2, room_of (by omega)⟩ (by omega)
    refine ⟨n2, l2, r2, ?_, s2, by omega⟩
    show afterD xs k (nextD xs n l r) = _
    rw [e1]
    exact e2
theorem whN_inv {t : FT} {fb : FS} {E : DEnds} (Inv : Nat → DEnv → Prop) (step : ∀ i ρ (N : DEnv → Prop), Inv i ρ → (∀ ρ', 0 < i → Inv (i - 1) ρ' → N ρ') → t ρ fun c => iteB c (fb { E with nx := N, ct := N, bk := E.nx } ρ) (E.nx ρ)) : ∀ i ρ, Inv i ρ → whN t fb E (i + 1) ρ
  | 0, ρ, h => step 0 ρ _ h fun _ z _ => absurd z (Nat.lt_irrefl 0)
  | i + 1, ρ, h => step (i + 1) ρ _ h fun ρ' _ h' => whN_inv Inv step i ρ' h'
abbrev N_later_standing : List Str := ["machine", "word", "many", "standing", "left"]
abbrev P_later_standing : List Str := ["machine", "word", "many"]
theorem sc_later_standing : FnScope N_later_standing P_later_standing (defScope s_later_standing) := ⟨rfl, rfl, rfl, by decide +kernel, rfl, by decide +kernel, by decide +kernel⟩
abbrev N__law_after : List Str := ["_law_machine_here", "_law_standing", "_law_many", "_law_turn"]
abbrev P__law_after : List Str := ["_law_machine_here", "_law_standing", "_law_many"]
theorem sc__law_after : FnScope N__law_after P__law_after (defScope s__law_after) := ⟨rfl, rfl, rfl, by decide +kernel, rfl, by decide +kernel, by decide +kernel⟩
section
variable {P : Program} {w : World} {K : PySem.W.Frag} {mg : Str → Option Value} {base : Heap} {Tl : List Addr} {fn : Str → FuncData}
def F_later : FnD := fun ds K _ => ∃ (xs : List PyData) (w : Str) (k : Int), ds = [.dat (.tuple xs), .dat (.str w), .dat (.int k)] ∧ Stand xs 0 w "" ∧ 0 ≤ k ∧ k ≤ 50000 ∧ w.length ≤ 10000 ∧ K (afterD xs k.toNat (.tuple [.int 0, .str w, .str ""]))
theorem ok_later {fd fdN : FuncData} (T : TbP mg) (D : Df K mg "later_standing" s_later_standing P_later_standing fd) (D_next_standing : Df K mg "next_standing" s_next_standing PB.P_next_standing fdN) (G_next_standing : FnOk P w K mg base CX0 5 (He.fAd K ("next_standing", none)) fdN PB.P_next_standing (spD (WP K Tl) F_next)) :
    FnOk P w K mg base CX0 7 (He.fAd K ("later_standing", none)) fd P_later_standing (spD (WP K Tl) F_later) := by
  refine okD D.F sc_later_standing (fun ds Kk KE h => by obtain ⟨xs, w, k, rfl, _⟩ := h; rfl) (fun W cdv A outer s E hW hcd hr => ?_)
  have hK : W.K = K := hW.k
  refine ⟨_, (dss_cons (ds_set (i := 3) sc_later_standing.nd rfl (.inl rfl) (de_tup (da_cons de_int (da_cons (dv 1) (da_cons de_str da_nil)))))
      (dss_cons (ds_set (i := 4) sc_later_standing.nd rfl (.inl rfl) (dv 2))
      (dss_cons (ds_while PassesOwn.never (PW.pt (dw_and (dt_cmp op_gt sn_cmp (dv 4) de_int) (dw_and1 (dt_cmp op_lt sn_cmp (de_ix ix_all sn_ix (dv 3) de_int (fun _ _ => rfl)) (de_cb (pe_callB call_len (by rfl) T.len (by decide +kernel) (da_cons (dv 0) da_nil)) sn_len))))) (dss_cons (ds_set (i := 3) sc_later_standing.nd rfl (.inl rfl) (de_call (pe_call G_next_standing (hr.mono (by first | decide | omega)) (by rfl) D_next_standing.g D_next_standing.F.kp D_next_standing.b .nil pass0 (da_cons (dv 0) (da_cons (dv 3) da_nil))) hW))
          (dss_one (ds_aug sn_ipsub (ps_aug (i := 4) sc_later_standing.nd rfl (.inl rfl) de_int ip_sub)))))
      (dss_one (ds_ret (dv 3)))))), fun ds Kk KE h => ?_⟩
  obtain ⟨xs, w, k, rfl, st, k0, k1, hw, h⟩ := h
  obtain ⟨j, rfl⟩ := Int.eq_ofNat_of_zero_le k0
  rw [Int.toNat_natCast] at h
  have z0 : ("" : Str).length = 0 := rfl
  (try simp only [DL.iteB_true, DL.iteB_false, DL.sSeq, DL.sNext, DL.sRet, DL.sRetN, DL.sIf, DL.sAsg, DL.sNew, DL.sDrop, DL.sRel, DL.sApp, DL.sFor, DL.sBreak, DL.sCont, DL.sAsgT, DL.sPar, DL.sPar3, DL.sPar3DFD, DL.sParFD, DL.sParDF, DL.sExt, DL.sPut, DL.sAug, DL.sCut, DL.sRaise, DL.sWhile, DL.fVar, DL.fC, DL.fOb, DL.fGts, DL.f2, DL.f1, DL.fCall, DL.fB, DL.fTru, DL.fAnd, DL.fOr, DL.fNot, DL.fIf, DL.tAndD, DL.tOrD, DL.tNotD, DL.fNil, DL.fCons, DL.fTup, DL.fLst, DL.fDnew, DL.fNew, DL.fIt, DL.fRng1, DL.fRng2, DL.fLc, DL.fAG, DL.fFn, DL.fFnX, DL.fFnK, DL.fSl, DL.fNone, DL.fPart, DL.fList, DL.fM0, DL.fM1, DL.tYesD, DL.gdN, DL.gdT_t, DL.gdNil_n, DL.gdCons_c, DL.op2, DL.op1, DL.opC, DL.c1, DL.isiP, DL.typeO, DL.tyIs, DL.inG, DL.isND, DL.rel, DL.wipeD, DL.le_s0, DL.le_s1, DL.le_s2, DL.le_s3, DL.le_s4, DL.le_s5, DL.le_s6, DL.le_s7, DL.le_s8, DL.le_s9, DL.le_s10, DL.le_s11, DL.le_s12, DL.le_s13, DL.le_s14, DL.le_s15, DL.le_s16, DL.le_s17, DL.le_s18, DL.le_s19, DL.le_s20, DL.le_s21, DL.le_s22, DL.le_s23, DL.le_s24, DL.le_s25, DL.le_s26, DL.le_s27, DL.le_s28, DL.le_s29, DL.le_s30, DL.le_s31, DL.le_s32, DL.le_s33, DL.le_s34, DL.le_s35, DL.le_s36, DL.le_s37, DL.le_s38, DL.le_s39, DL.le_s40, DL.le_s41, DL.le_s42, DL.le_s43, DL.le_s44, DL.le_s45, DL.le_s46, DL.le_s47, DL.le_s48, DL.le_s49, DL.le_s50, DL.le_s51, DL.le_s52, DL.le_s53, DL.le_s54, DL.le_s55, DL.le_s56, DL.le_s57, DL.le_s58, DL.le_s59, DL.le_s60, DL.le_s61, DL.le_s62, DL.le_s63, DL.le_s64, DL.start0, DL.asDat, DL.lend, DL.noOwn, DL.DV.isOwn, DL.pd_dat, DL.pd_own, DL.ocpd_lst, DL.ocpd_dk, DL.itemsOf, List.map_cons, List.map_nil, List.append_nil, List.cons_append, List.nil_append, List.length_cons, List.length_nil, List.replicate_succ, List.replicate_zero, List.getElem?_cons_zero, List.getElem?_cons_succ, List.set_cons_zero, List.set_cons_succ, Nat.reduceSub, Nat.reduceAdd, Nat.sub_self, Nat.zero_add, Option.some.injEq, DL.DV.dat.injEq, PyData.bool.injEq, PyData.int.injEq, PyData.str.injEq, PyData.tuple.injEq, PyData.list.injEq, DL.DV.ob.injEq, V.ty.injEq, DL.DV.own.injEq, DL.OC.lst.injEq, List.cons.injEq, Option.map_some, exists_eq_left', exists_eq_left, exists_eq_right, exists_eq_right', exists_and_left, and_true, true_and, Bool.not_true, Bool.not_false, Bool.and_true, Bool.true_and, true_or, Bool.not_eq_true', Bool.false_eq_true, if_true, if_false, reduceIte, reduceCtorEq])
  refine ⟨j + 1, whN_inv (fun i ρ => ∃ (n : Int) (l r : Str), ∃ x2, ρ = [some (.dat (.tuple xs)), some (.dat (.str w)), x2, some (.dat (.tuple [.int n, .str l, .str r])), some (.dat (.int (i : Int)))] ∧ Stand xs n l r ∧ l.length + r.length + i ≤ 100000 ∧ Kk (afterD xs i (.tuple [.int n, .str l, .str r]))) (fun i ρ N hI hN => ?_) j _ ⟨_, _, _, _, rfl, st, by omega, h⟩⟩
  obtain ⟨n, l, r, x2, rfl, st, hs, h⟩ := hI
  (try simp only [DL.iteB_true, DL.iteB_false, DL.sSeq, DL.sNext, DL.sRet, DL.sRetN, DL.sIf, DL.sAsg, DL.sNew, DL.sDrop, DL.sRel, DL.sApp, DL.sFor, DL.sBreak, DL.sCont, DL.sAsgT, DL.sPar, DL.sPar3, DL.sPar3DFD, DL.sParFD, DL.sParDF, DL.sExt, DL.sPut, DL.sAug, DL.sCut, DL.sRaise, DL.sWhile, DL.fVar, DL.fC, DL.fOb, DL.fGts, DL.f2, DL.f1, DL.fCall, DL.fB, DL.fTru, DL.fAnd, DL.fOr, DL.fNot, DL.fIf, DL.tAndD, DL.tOrD, DL.tNotD, DL.fNil, DL.fCons, DL.fTup, DL.fLst, DL.fDnew, DL.fNew, DL.fIt, DL.fRng1, DL.fRng2, DL.fLc, DL.fAG, DL.fFn, DL.fFnX, DL.fFnK, DL.fSl, DL.fNone, DL.fPart, DL.fList, DL.fM0, DL.fM1, DL.tYesD, DL.gdN, DL.gdT_t, DL.gdNil_n, DL.gdCons_c, DL.op2, DL.op1, DL.opC, DL.c1, DL.isiP, DL.typeO, DL.tyIs, DL.inG, DL.isND, DL.rel, DL.wipeD, DL.le_s0, DL.le_s1, DL.le_s2, DL.le_s3, DL.le_s4, DL.le_s5, DL.le_s6, DL.le_s7, DL.le_s8, DL.le_s9, DL.le_s10, DL.le_s11, DL.le_s12, DL.le_s13, DL.le_s14, DL.le_s15, DL.le_s16, DL.le_s17, DL.le_s18, DL.le_s19, DL.le_s20, DL.le_s21, DL.le_s22, DL.le_s23, DL.le_s24, DL.le_s25, DL.le_s26, DL.le_s27, DL.le_s28, DL.le_s29, DL.le_s30, DL.le_s31, DL.le_s32, DL.le_s33, DL.le_s34, DL.le_s35, DL.le_s36, DL.le_s37, DL.le_s38, DL.le_s39, DL.le_s40, DL.le_s41, DL.le_s42, DL.le_s43, DL.le_s44, DL.le_s45, DL.le_s46, DL.le_s47, DL.le_s48, DL.le_s49, DL.le_s50, DL.le_s51, DL.le_s52, DL.le_s53, DL.le_s54, DL.le_s55, DL.le_s56, DL.le_s57, DL.le_s58, DL.le_s59, DL.le_s60, DL.le_s61, DL.le_s62, DL.le_s63, DL.le_s64, DL.start0, DL.asDat, DL.lend, DL.noOwn, DL.DV.isOwn, DL.pd_dat, DL.pd_own, DL.ocpd_lst, DL.ocpd_dk, DL.itemsOf, List.map_cons, List.map_nil, List.append_nil, List.cons_append, List.nil_append, List.length_cons, List.length_nil, List.replicate_succ, List.replicate_zero, List.getElem?_cons_zero, List.getElem?_cons_succ, List.set_cons_zero, List.set_cons_succ, Nat.reduceSub, Nat.reduceAdd, Nat.sub_self, Nat.zero_add, Option.some.injEq, DL.DV.dat.injEq, PyData.bool.injEq, PyData.int.injEq, PyData.str.injEq, PyData.tuple.injEq, PyData.list.injEq, DL.DV.ob.injEq, V.ty.injEq, DL.DV.own.injEq, DL.OC.lst.injEq, List.cons.injEq, Option.map_some, exists_eq_left', exists_eq_left, exists_eq_right, exists_eq_right', exists_and_left, and_true, true_and, Bool.not_true, Bool.not_false, Bool.and_true, Bool.true_and, true_or, Bool.not_eq_true', Bool.false_eq_true, if_true, if_false, reduceIte, reduceCtorEq])
  (try simp only [DL.negP_i, DL.le_s0, DL.le_s1, DL.le_s2, DL.le_s3, DL.le_s4, DL.le_s5, DL.le_s6, DL.le_s7, DL.le_s8, DL.le_s9, DL.le_s10, DL.le_s11, DL.le_s12, DL.le_s13, DL.le_s14, DL.le_s15, DL.le_s16, DL.le_s17, DL.le_s18, DL.le_s19, DL.le_s20, DL.le_s21, DL.le_s22, DL.le_s23, DL.le_s24, DL.le_s25, DL.le_s26, DL.le_s27, DL.le_s28, DL.le_s29, DL.le_s30, DL.le_s31, DL.le_s32, DL.le_s33, DL.le_s34, DL.le_s35, DL.le_s36, DL.le_s37, DL.le_s38, DL.le_s39, DL.le_s40, DL.le_s41, DL.le_s42, DL.le_s43, DL.le_s44, DL.le_s45, DL.le_s46, DL.le_s47, DL.le_s48, DL.le_s49, DL.le_s50, DL.le_s51, DL.le_s52, DL.le_s53, DL.le_s54, DL.le_s55, DL.le_s56, DL.le_s57, DL.le_s58, DL.le_s59, DL.le_s60, DL.le_s61, DL.le_s62, DL.le_s63, DL.le_s64, DL.iteB_true, DL.iteB_false, DL.lenP_t, DL.lenP_l, DL.lenP_s, DL.eqP, DL.eqOk_int, DL.eqOk_str, DL.eqOk_emp, DL.eqOk_empL, DL.eqv_emp1, DL.eqv_empL1, DL.eqv_ii, DL.eqv_ss, DL.ixP_t, DL.ixP_l, DL.ixP_s, DL.slP_t, DL.slP_l, DL.slP_s, DL.intcP_i, DL.intcP_b, DL.intcP_s, DL.tupcP_l, DL.tupcP_t, DL.atI_z, DL.atI_o, DL.atI_t, DL.int0P_ii, DL.intP_ii, DL.addP_ii, DL.addP_ss, DL.addP_tt, DL.addP_ll, DL.isTup_t, DL.reprP, Bool.false_eq_true, if_true, if_false, reduceIte, Option.some.injEq, PyData.bool.injEq, exists_eq_left', exists_eq_left, exists_eq_right, exists_eq_right', true_and, and_true, Bool.true_eq_false, Bool.not_true, Bool.not_false, false_and, and_false, exists_and_left, reduceCtorEq, DL.DV.gts.injEq, exists_const])
  cases i with
  | zero => exact h
  | succ i =>
    rw [show decide ((0 : Int) < ((i + 1 : Nat) : Int)) = true from decide_eq_true (by omega)]
    show iteB (decide (n < (xs.length : Int))) _ _
    cases hn : decide (n < (xs.length : Int)) with
    | true =>
      obtain ⟨n1, l1, r1, e1, q0, q1, w1, w2, w3⟩ := nextD_is st
      refine ⟨xs, n, l, r, rfl, st, ?_⟩
      refine hN _ (Nat.succ_pos i) ⟨n1, l1, r1, x2, ?_, ⟨st.m, q0, q1, w1, w2, room_of (by omega)⟩, by omega, ?_⟩
      · rw [e1, show (((i + 1 : Nat) : Int) - 1) = ((i + 1 - 1 : Nat) : Int) from by omega]
      · have h : Kk (afterD xs i (nextD xs n l r)) := h
        rw [e1] at h
        exact h
    | false =>
      have e : n = xs.length := by
        have := of_decide_eq_false hn
        have := st.n1
        omega
      rw [after_end e] at h
      exact h
def F_after2 : FnD := fun ds K _ => ∃ (xs : List PyData) (n : Int) (l r : Str) (k : Int), ds = [.dat (.tuple xs), .dat (.tuple [.int n, .str l, .str r]), .dat (.int k)] ∧ Stand xs n l r ∧ 0 ≤ k ∧ k ≤ 50000 ∧ l.length + r.length ≤ 10000 ∧ K (afterD xs k.toNat (.tuple [.int n, .str l, .str r]))
theorem ok_lafter {fd fdN : FuncData} (T : TbL mg) (D : Df K mg "_law_after" s__law_after P__law_after fd) (D__law_pile_step : Df K mg "_law_pile_step" s__law_pile_step PE.P__law_pile_step fdN) (G__law_pile_step : FnOk P w K mg base CX0 3 (He.fAd K ("_law_pile_step", none)) fdN PE.P__law_pile_step (spD (WP K Tl) F_next)) :
    FnOk P w K mg base CX0 5 (He.fAd K ("_law_after", none)) fd P__law_after (spD (WP K Tl) F_after2) := by
  refine okD D.F sc__law_after (fun ds Kk KE h => by obtain ⟨xs, n, l, r, k, rfl, _⟩ := h; rfl) (fun W cdv A outer s E hW hcd hr => ?_)
  have hK : W.K = K := hW.k
  refine ⟨_, (dss_cons (ds_for PassesOwn.never rfl (di_range1 (st := true) (by rfl) T.range (da_cons (dv 2) da_nil)) (pg_name (i := 3) sc__law_after.nd rfl (.inl rfl)) (sg_name (i := 3) trivial) (dss_one (ds_set (i := 1) sc__law_after.nd rfl (.inl rfl) (de_call (pe_call G__law_pile_step (hr.mono (by first | decide | omega)) (by rfl) D__law_pile_step.g D__law_pile_step.F.kp D__law_pile_step.b .nil pass0 (da_cons (dv 0) (da_cons (dv 1) da_nil))) hW))))
      (dss_one (ds_ret (dv 1)))), fun ds Kk KE h => ?_⟩
  obtain ⟨xs, n, l, r, k, rfl, st, k0, k1, hs, h⟩ := h
  obtain ⟨j, rfl⟩ := Int.eq_ofNat_of_zero_le k0
  rw [Int.toNat_natCast] at h
  (try simp only [DL.iteB_true, DL.iteB_false, DL.sSeq, DL.sNext, DL.sRet, DL.sRetN, DL.sIf, DL.sAsg, DL.sNew, DL.sDrop, DL.sRel, DL.sApp, DL.sFor, DL.sBreak, DL.sCont, DL.sAsgT, DL.sPar, DL.sPar3, DL.sPar3DFD, DL.sParFD, DL.sParDF, DL.sExt, DL.sPut, DL.sAug, DL.sCut, DL.sRaise, DL.sWhile, DL.fVar, DL.fC, DL.fOb, DL.fGts, DL.f2, DL.f1, DL.fCall, DL.fB, DL.fTru, DL.fAnd, DL.fOr, DL.fNot, DL.fIf, DL.tAndD, DL.tOrD, DL.tNotD, DL.fNil, DL.fCons, DL.fTup, DL.fLst, DL.fDnew, DL.fNew, DL.fIt, DL.fRng1, DL.fRng2, DL.fLc, DL.fAG, DL.fFn, DL.fFnX, DL.fFnK, DL.fSl, DL.fNone, DL.fPart, DL.fList, DL.fM0, DL.fM1, DL.tYesD, DL.gdN, DL.gdT_t, DL.gdNil_n, DL.gdCons_c, DL.op2, DL.op1, DL.opC, DL.c1, DL.isiP, DL.typeO, DL.tyIs, DL.inG, DL.isND, DL.rel, DL.wipeD, DL.le_s0, DL.le_s1, DL.le_s2, DL.le_s3, DL.le_s4, DL.le_s5, DL.le_s6, DL.le_s7, DL.le_s8, DL.le_s9, DL.le_s10, DL.le_s11, DL.le_s12, DL.le_s13, DL.le_s14, DL.le_s15, DL.le_s16, DL.le_s17, DL.le_s18, DL.le_s19, DL.le_s20, DL.le_s21, DL.le_s22, DL.le_s23, DL.le_s24, DL.le_s25, DL.le_s26, DL.le_s27, DL.le_s28, DL.le_s29, DL.le_s30, DL.le_s31, DL.le_s32, DL.le_s33, DL.le_s34, DL.le_s35, DL.le_s36, DL.le_s37, DL.le_s38, DL.le_s39, DL.le_s40, DL.le_s41, DL.le_s42, DL.le_s43, DL.le_s44, DL.le_s45, DL.le_s46, DL.le_s47, DL.le_s48, DL.le_s49, DL.le_s50, DL.le_s51, DL.le_s52, DL.le_s53, DL.le_s54, DL.le_s55, DL.le_s56, DL.le_s57, DL.le_s58, DL.le_s59, DL.le_s60, DL.le_s61, DL.le_s62, DL.le_s63, DL.le_s64, DL.start0, DL.asDat, DL.lend, DL.noOwn, DL.DV.isOwn, DL.pd_dat, DL.pd_own, DL.ocpd_lst, DL.ocpd_dk, DL.itemsOf, List.map_cons, List.map_nil, List.append_nil, List.cons_append, List.nil_append, List.length_cons, List.length_nil, List.replicate_succ, List.replicate_zero, List.getElem?_cons_zero, List.getElem?_cons_succ, List.set_cons_zero, List.set_cons_succ, Nat.reduceSub, Nat.reduceAdd, Nat.sub_self, Nat.zero_add, Option.some.injEq, DL.DV.dat.injEq, PyData.bool.injEq, PyData.int.injEq, PyData.str.injEq, PyData.tuple.injEq, PyData.list.injEq, DL.DV.ob.injEq, V.ty.injEq, DL.DV.own.injEq, DL.OC.lst.injEq, List.cons.injEq, Option.map_some, exists_eq_left', exists_eq_left, exists_eq_right, exists_eq_right', exists_and_left, and_true, true_and, Bool.not_true, Bool.not_false, Bool.and_true, Bool.true_and, true_or, Bool.not_eq_true', Bool.false_eq_true, if_true, if_false, reduceIte, reduceCtorEq])
  refine ⟨by omega, by omega, ?_⟩
  refine for_inv (fun i ρ => ∃ x2 x3, ρ = [some (.dat (.tuple xs)), some (.dat (afterD xs i (.tuple [.int n, .str l, .str r]))), x2, x3]) (fun i dt ρ N hi hI hN => ?_) ⟨_, _, rfl⟩ (fun ρ hI => ?_)
  · obtain ⟨x2, x3, rfl⟩ := hI
    have hi := (rngD_at hi).2
    rw [Int.toNat_natCast] at hi
    obtain ⟨n1, l1, r1, e1, st1, h1⟩ := after_is i st (by omega)
    (try simp only [DL.iteB_true, DL.iteB_false, DL.sSeq, DL.sNext, DL.sRet, DL.sRetN, DL.sIf, DL.sAsg, DL.sNew, DL.sDrop, DL.sRel, DL.sApp, DL.sFor, DL.sBreak, DL.sCont, DL.sAsgT, DL.sPar, DL.sPar3, DL.sPar3DFD, DL.sParFD, DL.sParDF, DL.sExt, DL.sPut, DL.sAug, DL.sCut, DL.sRaise, DL.sWhile, DL.fVar, DL.fC, DL.fOb, DL.fGts, DL.f2, DL.f1, DL.fCall, DL.fB, DL.fTru, DL.fAnd, DL.fOr, DL.fNot, DL.fIf, DL.tAndD, DL.tOrD, DL.tNotD, DL.fNil, DL.fCons, DL.fTup, DL.fLst, DL.fDnew, DL.fNew, DL.fIt, DL.fRng1, DL.fRng2, DL.fLc, DL.fAG, DL.fFn, DL.fFnX, DL.fFnK, DL.fSl, DL.fNone, DL.fPart, DL.fList, DL.fM0, DL.fM1, DL.tYesD, DL.gdN, DL.gdT_t, DL.gdNil_n, DL.gdCons_c, DL.op2, DL.op1, DL.opC, DL.c1, DL.isiP, DL.typeO, DL.tyIs, DL.inG, DL.isND, DL.rel, DL.wipeD, DL.le_s0, DL.le_s1, DL.le_s2, DL.le_s3, DL.le_s4, DL.le_s5, DL.le_s6, DL.le_s7, DL.le_s8, DL.le_s9, DL.le_s10, DL.le_s11, DL.le_s12, DL.le_s13, DL.le_s14, DL.le_s15, DL.le_s16, DL.le_s17, DL.le_s18, DL.le_s19, DL.le_s20, DL.le_s21, DL.le_s22, DL.le_s23, DL.le_s24, DL.le_s25, DL.le_s26, DL.le_s27, DL.le_s28, DL.le_s29, DL.le_s30, DL.le_s31, DL.le_s32, DL.le_s33, DL.le_s34, DL.le_s35, DL.le_s36, DL.le_s37, DL.le_s38, DL.le_s39, DL.le_s40, DL.le_s41, DL.le_s42, DL.le_s43, DL.le_s44, DL.le_s45, DL.le_s46, DL.le_s47, DL.le_s48, DL.le_s49, DL.le_s50, DL.le_s51, DL.le_s52, DL.le_s53, DL.le_s54, DL.le_s55, DL.le_s56, DL.le_s57, DL.le_s58, DL.le_s59, DL.le_s60, DL.le_s61, DL.le_s62, DL.le_s63, DL.le_s64, DL.start0, DL.asDat, DL.lend, DL.noOwn, DL.DV.isOwn, DL.pd_dat, DL.pd_own, DL.ocpd_lst, DL.ocpd_dk, DL.itemsOf, List.map_cons, List.map_nil, List.append_nil, List.cons_append, List.nil_append, List.length_cons, List.length_nil, List.replicate_succ, List.replicate_zero, List.getElem?_cons_zero, List.getElem?_cons_succ, List.set_cons_zero, List.set_cons_succ, Nat.reduceSub, Nat.reduceAdd, Nat.sub_self, Nat.zero_add, Option.some.injEq, DL.DV.dat.injEq, PyData.bool.injEq, PyData.int.injEq, PyData.str.injEq, PyData.tuple.injEq, PyData.list.injEq, DL.DV.ob.injEq, V.ty.injEq, DL.DV.own.injEq, DL.OC.lst.injEq, List.cons.injEq, Option.map_some, exists_eq_left', exists_eq_left, exists_eq_right, exists_eq_right', exists_and_left, and_true, true_and, Bool.not_true, Bool.not_false, Bool.and_true, Bool.true_and, true_or, Bool.not_eq_true', Bool.false_eq_true, if_true, if_false, reduceIte, reduceCtorEq])
    rw [e1]
    refine ⟨xs, n1, l1, r1, rfl, st1, hN _ ⟨x2, some (.dat dt), ?_⟩⟩
    rw [after_step, e1]
    rfl
  · obtain ⟨x2, x3, rfl⟩ := hI
    rw [rngD_len, Int.toNat_natCast]
    (try simp only [DL.iteB_true, DL.iteB_false, DL.sSeq, DL.sNext, DL.sRet, DL.sRetN, DL.sIf, DL.sAsg, DL.sNew, DL.sDrop, DL.sRel, DL.sApp, DL.sFor, DL.sBreak, DL.sCont, DL.sAsgT, DL.sPar, DL.sPar3, DL.sPar3DFD, DL.sParFD, DL.sParDF, DL.sExt, DL.sPut, DL.sAug, DL.sCut, DL.sRaise, DL.sWhile, DL.fVar, DL.fC, DL.fOb, DL.fGts, DL.f2, DL.f1, DL.fCall, DL.fB, DL.fTru, DL.fAnd, DL.fOr, DL.fNot, DL.fIf, DL.tAndD, DL.tOrD, DL.tNotD, DL.fNil, DL.fCons, DL.fTup, DL.fLst, DL.fDnew, DL.fNew, DL.fIt, DL.fRng1, DL.fRng2, DL.fLc, DL.fAG, DL.fFn, DL.fFnX, DL.fFnK, DL.fSl, DL.fNone, DL.fPart, DL.fList, DL.fM0, DL.fM1, DL.tYesD, DL.gdN, DL.gdT_t, DL.gdNil_n, DL.gdCons_c, DL.op2, DL.op1, DL.opC, DL.c1, DL.isiP, DL.typeO, DL.tyIs, DL.inG, DL.isND, DL.rel, DL.wipeD, DL.le_s0, DL.le_s1, DL.le_s2, DL.le_s3, DL.le_s4, DL.le_s5, DL.le_s6, DL.le_s7, DL.le_s8, DL.le_s9, DL.le_s10, DL.le_s11, DL.le_s12, DL.le_s13, DL.le_s14, DL.le_s15, DL.le_s16, DL.le_s17, DL.le_s18, DL.le_s19, DL.le_s20, DL.le_s21, DL.le_s22, DL.le_s23, DL.le_s24, DL.le_s25, DL.le_s26, DL.le_s27, DL.le_s28, DL.le_s29, DL.le_s30, DL.le_s31, DL.le_s32, DL.le_s33, DL.le_s34, DL.le_s35, DL.le_s36, DL.le_s37, DL.le_s38, DL.le_s39, DL.le_s40, DL.le_s41, DL.le_s42, DL.le_s43, DL.le_s44, DL.le_s45, DL.le_s46, DL.le_s47, DL.le_s48, DL.le_s49, DL.le_s50, DL.le_s51, DL.le_s52, DL.le_s53, DL.le_s54, DL.le_s55, DL.le_s56, DL.le_s57, DL.le_s58, DL.le_s59, DL.le_s60, DL.le_s61, DL.le_s62, DL.le_s63, DL.le_s64, DL.start0, DL.asDat, DL.lend, DL.noOwn, DL.DV.isOwn, DL.pd_dat, DL.pd_own, DL.ocpd_lst, DL.ocpd_dk, DL.itemsOf, List.map_cons, List.map_nil, List.append_nil, List.cons_append, List.nil_append, List.length_cons, List.length_nil, List.replicate_succ, List.replicate_zero, List.getElem?_cons_zero, List.getElem?_cons_succ, List.set_cons_zero, List.set_cons_succ, Nat.reduceSub, Nat.reduceAdd, Nat.sub_self, Nat.zero_add, Option.some.injEq, DL.DV.dat.injEq, PyData.bool.injEq, PyData.int.injEq, PyData.str.injEq, PyData.tuple.injEq, PyData.list.injEq, DL.DV.ob.injEq, V.ty.injEq, DL.DV.own.injEq, DL.OC.lst.injEq, List.cons.injEq, Option.map_some, exists_eq_left', exists_eq_left, exists_eq_right, exists_eq_right', exists_and_left, and_true, true_and, Bool.not_true, Bool.not_false, Bool.and_true, Bool.true_and, true_or, Bool.not_eq_true', Bool.false_eq_true, if_true, if_false, reduceIte, reduceCtorEq])
    exact h
theorem nbAll {s w : Nat} {xs : List PyData} (h : xs.all (nbB s w) = true) : ∀ e ∈ xs, Nb s w e := fun e he => nb_of (List.all_eq_true.mp h e he)
def capB (n : Int) : PyData → Bool
  | .int k => decide (k ≤ n)
  | _ => true
theorem capAll {n : Int} {xs : List PyData} (h : xs.all (capB n) = true) : ∀ e ∈ xs, ∀ k, e = .int k → k ≤ n := fun e he k ek => by
  subst ek
  exact of_decide_eq_true (List.all_eq_true.mp h _ he)
end
end PVL


set_option Elab.async false
set_option linter.all false
set_option maxRecDepth 100000
set_option maxHeartbeats 1000000
/-! Clocks and outcomes, by the program and by the law. -/
namespace P90
open PySem PySem.Spec PyProof.Rows L2 KT KG KM KX KY KE0 KQ LK GxR DL KA DW PA PB PC PD PE PF PG QF WT LB PT PU PL PN PVL
def clockN (n c d : Int) : Int := n ^ c.toNat + d
def outD (xs : List PyData) (w : Str) (k : Nat) : PyData := match afterD xs k (.tuple [.int 0, .str w, .str ""]) with
  | .tuple [_, b, _] => b
  | d => d
structure TRg (mg : Str → Option Value) : Prop where
  range : mg "range" = none
theorem out_of {xs : List PyData} {w : Str} {k : Nat} {n : Int} {l r : Str} (h : afterD xs k (.tuple [.int 0, .str w, .str ""]) = .tuple [.int n, .str l, .str r]) : outD xs w k = .str l := by
  unfold outD
  rw [h]
abbrev N_clock_steps : List Str := ["length", "c", "d", "steps", "_"]
abbrev P_clock_steps : List Str := ["length", "c", "d"]
theorem sc_clock_steps : FnScope N_clock_steps P_clock_steps (defScope s_clock_steps) := ⟨rfl, rfl, rfl, by decide +kernel, rfl, by decide +kernel, by decide +kernel⟩
abbrev N_require_clock : List Str := ["c", "d", "thing"]
abbrev P_require_clock : List Str := ["c", "d"]
theorem sc_require_clock : FnScope N_require_clock P_require_clock (defScope s_require_clock) := ⟨rfl, rfl, rfl, by decide +kernel, rfl, by decide +kernel, by decide +kernel⟩
abbrev N_outcome : List Str := ["machine", "c", "d", "word"]
abbrev P_outcome : List Str := ["machine", "c", "d", "word"]
theorem sc_outcome : FnScope N_outcome P_outcome (defScope s_outcome) := ⟨rfl, rfl, rfl, by decide +kernel, rfl, by decide +kernel, by decide +kernel⟩
abbrev N__law_clock : List Str := ["_law_n", "_law_c", "_law_d", "_law_found", "_law_turn"]
abbrev P__law_clock : List Str := ["_law_n", "_law_c", "_law_d"]
theorem sc__law_clock : FnScope N__law_clock P__law_clock (defScope s__law_clock) := ⟨rfl, rfl, rfl, by decide +kernel, rfl, by decide +kernel, by decide +kernel⟩
abbrev N__law_outcome : List Str := ["_law_machine_here", "_law_c", "_law_d", "_law_word_here"]
abbrev P__law_outcome : List Str := ["_law_machine_here", "_law_c", "_law_d", "_law_word_here"]
theorem sc__law_outcome : FnScope N__law_outcome P__law_outcome (defScope s__law_outcome) := ⟨rfl, rfl, rfl, by decide +kernel, rfl, by decide +kernel, by decide +kernel⟩
section
variable {P : Program} {w : World} {K : PySem.W.Frag} {mg : Str → Option Value} {base : Heap} {Tl : List Addr} {fn : Str → FuncData}
def small (n c d : Int) : Prop := 0 ≤ n ∧ n ≤ 10 ∧ 0 ≤ c ∧ c ≤ 3 ∧ 0 ≤ d ∧ d ≤ 100
theorem pow_nat : ∀ m : Nat, m ≤ 10 → ∀ i : Nat, i ≤ 3 → m ^ i ≤ 1000 := by decide
theorem pow_int {n : Int} {i : Nat} (h0 : 0 ≤ n) (h1 : n ≤ 10) (hi : i ≤ 3) : 0 ≤ n ^ i ∧ n ^ i ≤ 1000 := by
  obtain ⟨m, rfl⟩ := Int.eq_ofNat_of_zero_le h0
  have := pow_nat m (by omega) i hi
  have e : (m : Int) ^ i = ((m ^ i : Nat) : Int) := (Int.natCast_pow m i).symm
  rw [e]
  omega
theorem clock_le {n c d : Int} (h : small n c d) : 0 ≤ clockN n c d ∧ clockN n c d ≤ 1100 := by
  obtain ⟨h1, h2, h3, h4, h5, h6⟩ := h
  have := pow_int (i := c.toNat) h1 h2 (by omega)
  unfold clockN
  omega
def F_clock : FnD := fun ds K _ => ∃ n c d : Int, ds = [.dat (.int n), .dat (.int c), .dat (.int d)] ∧ small n c d ∧ K (.int (clockN n c d))
theorem ok_clock {fd : FuncData} (hr_ : mg "range" = none) (D : Df K mg "clock_steps" s_clock_steps P_clock_steps fd) : FnOk P w K mg base CX0 1 (He.fAd K ("clock_steps", none)) fd P_clock_steps (spD (WP K Tl) F_clock) := by
  refine okD D.F sc_clock_steps (fun ds Kk KE h => by obtain ⟨n, c, d, rfl, _⟩ := h; rfl) (fun W cdv A outer s E hW hcd hr => ?_)
  have hK : W.K = K := hW.k
  have T : TRg mg := ⟨hr_⟩
  refine ⟨_, (dss_cons (ds_set (i := 3) sc_clock_steps.nd rfl (.inl rfl) de_int)
      (dss_cons (ds_for PassesOwn.never rfl (di_range1 (st := true) (by rfl) T.range (da_cons (dv 1) da_nil)) (pg_name (i := 4) sc_clock_steps.nd rfl (.inl rfl)) (sg_name (i := 4) trivial) (dss_one (ds_set (i := 3) sc_clock_steps.nd rfl (.inl rfl) (de_op op_mulW sn_int (dv 3) (dv 0)))))
      (dss_one (ds_ret (de_op op_addD sn_add (dv 3) (dv 2)))))), fun ds Kk KE h => ?_⟩
  obtain ⟨n, c, d, rfl, sm, h⟩ := h
  obtain ⟨h1, h2, h3, h4, h5, h6⟩ := sm
  (try simp only [DL.iteB_true, DL.iteB_false, DL.sSeq, DL.sNext, DL.sRet, DL.sRetN, DL.sIf, DL.sAsg, DL.sNew, DL.sDrop, DL.sRel, DL.sApp, DL.sFor, DL.sBreak, DL.sCont, DL.sAsgT, DL.sPar, DL.sPar3, DL.sPar3DFD, DL.sParFD, DL.sParDF, DL.sExt, DL.sPut, DL.sAug, DL.sCut, DL.sRaise, DL.sWhile, DL.fVar, DL.fC, DL.fOb, DL.fGts, DL.f2, DL.f1, DL.fCall, DL.fB, DL.fTru, DL.fAnd, DL.fOr, DL.fNot, DL.fIf, DL.tAndD, DL.tOrD, DL.tNotD, DL.fNil, DL.fCons, DL.fTup, DL.fLst, DL.fDnew, DL.fNew, DL.fIt, DL.fRng1, DL.fRng2, DL.fLc, DL.fAG, DL.fFn, DL.fFnX, DL.fFnK, DL.fSl, DL.fNone, DL.fPart, DL.fList, DL.fM0, DL.fM1, DL.tYesD, DL.gdN, DL.gdT_t, DL.gdNil_n, DL.gdCons_c, DL.op2, DL.op1, DL.opC, DL.c1, DL.isiP, DL.typeO, DL.tyIs, DL.inG, DL.isND, DL.rel, DL.wipeD, DL.le_s0, DL.le_s1, DL.le_s2, DL.le_s3, DL.le_s4, DL.le_s5, DL.le_s6, DL.le_s7, DL.le_s8, DL.le_s9, DL.le_s10, DL.le_s11, DL.le_s12, DL.le_s13, DL.le_s14, DL.le_s15, DL.le_s16, DL.le_s17, DL.le_s18, DL.le_s19, DL.le_s20, DL.le_s21, DL.le_s22, DL.le_s23, DL.le_s24, DL.le_s25, DL.le_s26, DL.le_s27, DL.le_s28, DL.le_s29, DL.le_s30, DL.le_s31, DL.le_s32, DL.le_s33, DL.le_s34, DL.le_s35, DL.le_s36, DL.le_s37, DL.le_s38, DL.le_s39, DL.le_s40, DL.le_s41, DL.le_s42, DL.le_s43, DL.le_s44, DL.le_s45, DL.le_s46, DL.le_s47, DL.le_s48, DL.le_s49, DL.le_s50, DL.le_s51, DL.le_s52, DL.le_s53, DL.le_s54, DL.le_s55, DL.le_s56, DL.le_s57, DL.le_s58, DL.le_s59, DL.le_s60, DL.le_s61, DL.le_s62, DL.le_s63, DL.le_s64, DL.start0, DL.asDat, DL.lend, DL.noOwn, DL.DV.isOwn, DL.pd_dat, DL.pd_own, DL.ocpd_lst, DL.ocpd_dk, DL.itemsOf, List.map_cons, List.map_nil, List.append_nil, List.cons_append, List.nil_append, List.length_cons, List.length_nil, List.replicate_succ, List.replicate_zero, List.getElem?_cons_zero, List.getElem?_cons_succ, List.set_cons_zero, List.set_cons_succ, Nat.reduceSub, Nat.reduceAdd, Nat.sub_self, Nat.zero_add, Option.some.injEq, DL.DV.dat.injEq, PyData.bool.injEq, PyData.int.injEq, PyData.str.injEq, PyData.tuple.injEq, PyData.list.injEq, DL.DV.ob.injEq, V.ty.injEq, DL.DV.own.injEq, DL.OC.lst.injEq, List.cons.injEq, Option.map_some, exists_eq_left', exists_eq_left, exists_eq_right, exists_eq_right', exists_and_left, and_true, true_and, Bool.not_true, Bool.not_false, Bool.and_true, Bool.true_and, true_or, Bool.not_eq_true', Bool.false_eq_true, if_true, if_false, reduceIte, reduceCtorEq])
  refine ⟨by omega, by omega, for_inv (fun i ρ => ∃ x4, ρ = [some (.dat (.int n)), some (.dat (.int c)), some (.dat (.int d)), some (.dat (.int (n ^ i))), x4]) (fun i dt ρ N hi hI hN => ?_) ⟨none, by rw [Int.pow_zero]⟩ (fun ρ hI => ?_)⟩
  · obtain ⟨x4, rfl⟩ := hI
    have hi := (rngD_at hi).2
    have pw := pow_int (i := i) h1 h2 (by omega)
    (try simp only [DL.iteB_true, DL.iteB_false, DL.sSeq, DL.sNext, DL.sRet, DL.sRetN, DL.sIf, DL.sAsg, DL.sNew, DL.sDrop, DL.sRel, DL.sApp, DL.sFor, DL.sBreak, DL.sCont, DL.sAsgT, DL.sPar, DL.sPar3, DL.sPar3DFD, DL.sParFD, DL.sParDF, DL.sExt, DL.sPut, DL.sAug, DL.sCut, DL.sRaise, DL.sWhile, DL.fVar, DL.fC, DL.fOb, DL.fGts, DL.f2, DL.f1, DL.fCall, DL.fB, DL.fTru, DL.fAnd, DL.fOr, DL.fNot, DL.fIf, DL.tAndD, DL.tOrD, DL.tNotD, DL.fNil, DL.fCons, DL.fTup, DL.fLst, DL.fDnew, DL.fNew, DL.fIt, DL.fRng1, DL.fRng2, DL.fLc, DL.fAG, DL.fFn, DL.fFnX, DL.fFnK, DL.fSl, DL.fNone, DL.fPart, DL.fList, DL.fM0, DL.fM1, DL.tYesD, DL.gdN, DL.gdT_t, DL.gdNil_n, DL.gdCons_c, DL.op2, DL.op1, DL.opC, DL.c1, DL.isiP, DL.typeO, DL.tyIs, DL.inG, DL.isND, DL.rel, DL.wipeD, DL.le_s0, DL.le_s1, DL.le_s2, DL.le_s3, DL.le_s4, DL.le_s5, DL.le_s6, DL.le_s7, DL.le_s8, DL.le_s9, DL.le_s10, DL.le_s11, DL.le_s12, DL.le_s13, DL.le_s14, DL.le_s15, DL.le_s16, DL.le_s17, DL.le_s18, DL.le_s19, DL.le_s20, DL.le_s21, DL.le_s22, DL.le_s23, DL.le_s24, DL.le_s25, DL.le_s26, DL.le_s27, DL.le_s28, DL.le_s29, DL.le_s30, DL.le_s31, DL.le_s32, DL.le_s33, DL.le_s34, DL.le_s35, DL.le_s36, DL.le_s37, DL.le_s38, DL.le_s39, DL.le_s40, DL.le_s41, DL.le_s42, DL.le_s43, DL.le_s44, DL.le_s45, DL.le_s46, DL.le_s47, DL.le_s48, DL.le_s49, DL.le_s50, DL.le_s51, DL.le_s52, DL.le_s53, DL.le_s54, DL.le_s55, DL.le_s56, DL.le_s57, DL.le_s58, DL.le_s59, DL.le_s60, DL.le_s61, DL.le_s62, DL.le_s63, DL.le_s64, DL.start0, DL.asDat, DL.lend, DL.noOwn, DL.DV.isOwn, DL.pd_dat, DL.pd_own, DL.ocpd_lst, DL.ocpd_dk, DL.itemsOf, List.map_cons, List.map_nil, List.append_nil, List.cons_append, List.nil_append, List.length_cons, List.length_nil, List.replicate_succ, List.replicate_zero, List.getElem?_cons_zero, List.getElem?_cons_succ, List.set_cons_zero, List.set_cons_succ, Nat.reduceSub, Nat.reduceAdd, Nat.sub_self, Nat.zero_add, Option.some.injEq, DL.DV.dat.injEq, PyData.bool.injEq, PyData.int.injEq, PyData.str.injEq, PyData.tuple.injEq, PyData.list.injEq, DL.DV.ob.injEq, V.ty.injEq, DL.DV.own.injEq, DL.OC.lst.injEq, List.cons.injEq, Option.map_some, exists_eq_left', exists_eq_left, exists_eq_right, exists_eq_right', exists_and_left, and_true, true_and, Bool.not_true, Bool.not_false, Bool.and_true, Bool.true_and, true_or, Bool.not_eq_true', Bool.false_eq_true, if_true, if_false, reduceIte, reduceCtorEq])
    (try simp only [DL.negP_i, DL.le_s0, DL.le_s1, DL.le_s2, DL.le_s3, DL.le_s4, DL.le_s5, DL.le_s6, DL.le_s7, DL.le_s8, DL.le_s9, DL.le_s10, DL.le_s11, DL.le_s12, DL.le_s13, DL.le_s14, DL.le_s15, DL.le_s16, DL.le_s17, DL.le_s18, DL.le_s19, DL.le_s20, DL.le_s21, DL.le_s22, DL.le_s23, DL.le_s24, DL.le_s25, DL.le_s26, DL.le_s27, DL.le_s28, DL.le_s29, DL.le_s30, DL.le_s31, DL.le_s32, DL.le_s33, DL.le_s34, DL.le_s35, DL.le_s36, DL.le_s37, DL.le_s38, DL.le_s39, DL.le_s40, DL.le_s41, DL.le_s42, DL.le_s43, DL.le_s44, DL.le_s45, DL.le_s46, DL.le_s47, DL.le_s48, DL.le_s49, DL.le_s50, DL.le_s51, DL.le_s52, DL.le_s53, DL.le_s54, DL.le_s55, DL.le_s56, DL.le_s57, DL.le_s58, DL.le_s59, DL.le_s60, DL.le_s61, DL.le_s62, DL.le_s63, DL.le_s64, DL.iteB_true, DL.iteB_false, DL.lenP_t, DL.lenP_l, DL.lenP_s, DL.eqP, DL.eqOk_int, DL.eqOk_str, DL.eqOk_emp, DL.eqOk_empL, DL.eqv_emp1, DL.eqv_empL1, DL.eqv_ii, DL.eqv_ss, DL.ixP_t, DL.ixP_l, DL.ixP_s, DL.slP_t, DL.slP_l, DL.slP_s, DL.intcP_i, DL.intcP_b, DL.intcP_s, DL.tupcP_l, DL.tupcP_t, DL.atI_z, DL.atI_o, DL.atI_t, DL.int0P_ii, DL.intP_ii, DL.addP_ii, DL.addP_ss, DL.addP_tt, DL.addP_ll, DL.isTup_t, DL.reprP, Bool.false_eq_true, if_true, if_false, reduceIte, Option.some.injEq, PyData.bool.injEq, exists_eq_left', exists_eq_left, exists_eq_right, exists_eq_right', true_and, and_true, Bool.true_eq_false, Bool.not_true, Bool.not_false, false_and, and_false, exists_and_left, reduceCtorEq, DL.DV.gts.injEq, exists_const])
    refine ⟨?_, hN _ ⟨some (.dat dt), by rw [Int.pow_succ]⟩⟩
    have a1 := Nat.log2_le_self (n ^ i).natAbs
    have a2 := Nat.log2_le_self n.natAbs
    unfold CMulW
    omega
  · obtain ⟨x4, rfl⟩ := hI
    rw [rngD_len]
    (try simp only [DL.iteB_true, DL.iteB_false, DL.sSeq, DL.sNext, DL.sRet, DL.sRetN, DL.sIf, DL.sAsg, DL.sNew, DL.sDrop, DL.sRel, DL.sApp, DL.sFor, DL.sBreak, DL.sCont, DL.sAsgT, DL.sPar, DL.sPar3, DL.sPar3DFD, DL.sParFD, DL.sParDF, DL.sExt, DL.sPut, DL.sAug, DL.sCut, DL.sRaise, DL.sWhile, DL.fVar, DL.fC, DL.fOb, DL.fGts, DL.f2, DL.f1, DL.fCall, DL.fB, DL.fTru, DL.fAnd, DL.fOr, DL.fNot, DL.fIf, DL.tAndD, DL.tOrD, DL.tNotD, DL.fNil, DL.fCons, DL.fTup, DL.fLst, DL.fDnew, DL.fNew, DL.fIt, DL.fRng1, DL.fRng2, DL.fLc, DL.fAG, DL.fFn, DL.fFnX, DL.fFnK, DL.fSl, DL.fNone, DL.fPart, DL.fList, DL.fM0, DL.fM1, DL.tYesD, DL.gdN, DL.gdT_t, DL.gdNil_n, DL.gdCons_c, DL.op2, DL.op1, DL.opC, DL.c1, DL.isiP, DL.typeO, DL.tyIs, DL.inG, DL.isND, DL.rel, DL.wipeD, DL.le_s0, DL.le_s1, DL.le_s2, DL.le_s3, DL.le_s4, DL.le_s5, DL.le_s6, DL.le_s7, DL.le_s8, DL.le_s9, DL.le_s10, DL.le_s11, DL.le_s12, DL.le_s13, DL.le_s14, DL.le_s15, DL.le_s16, DL.le_s17, DL.le_s18, DL.le_s19, DL.le_s20, DL.le_s21, DL.le_s22, DL.le_s23, DL.le_s24, DL.le_s25, DL.le_s26, DL.le_s27, DL.le_s28, DL.le_s29, DL.le_s30, DL.le_s31, DL.le_s32, DL.le_s33, DL.le_s34, DL.le_s35, DL.le_s36, DL.le_s37, DL.le_s38, DL.le_s39, DL.le_s40, DL.le_s41, DL.le_s42, DL.le_s43, DL.le_s44, DL.le_s45, DL.le_s46, DL.le_s47, DL.le_s48, DL.le_s49, DL.le_s50, DL.le_s51, DL.le_s52, DL.le_s53, DL.le_s54, DL.le_s55, DL.le_s56, DL.le_s57, DL.le_s58, DL.le_s59, DL.le_s60, DL.le_s61, DL.le_s62, DL.le_s63, DL.le_s64, DL.start0, DL.asDat, DL.lend, DL.noOwn, DL.DV.isOwn, DL.pd_dat, DL.pd_own, DL.ocpd_lst, DL.ocpd_dk, DL.itemsOf, List.map_cons, List.map_nil, List.append_nil, List.cons_append, List.nil_append, List.length_cons, List.length_nil, List.replicate_succ, List.replicate_zero, List.getElem?_cons_zero, List.getElem?_cons_succ, List.set_cons_zero, List.set_cons_succ, Nat.reduceSub, Nat.reduceAdd, Nat.sub_self, Nat.zero_add, Option.some.injEq, DL.DV.dat.injEq, PyData.bool.injEq, PyData.int.injEq, PyData.str.injEq, PyData.tuple.injEq, PyData.list.injEq, DL.DV.ob.injEq, V.ty.injEq, DL.DV.own.injEq, DL.OC.lst.injEq, List.cons.injEq, Option.map_some, exists_eq_left', exists_eq_left, exists_eq_right, exists_eq_right', exists_and_left, and_true, true_and, Bool.not_true, Bool.not_false, Bool.and_true, Bool.true_and, true_or, Bool.not_eq_true', Bool.false_eq_true, if_true, if_false, reduceIte, reduceCtorEq])
    (try simp only [DL.negP_i, DL.le_s0, DL.le_s1, DL.le_s2, DL.le_s3, DL.le_s4, DL.le_s5, DL.le_s6, DL.le_s7, DL.le_s8, DL.le_s9, DL.le_s10, DL.le_s11, DL.le_s12, DL.le_s13, DL.le_s14, DL.le_s15, DL.le_s16, DL.le_s17, DL.le_s18, DL.le_s19, DL.le_s20, DL.le_s21, DL.le_s22, DL.le_s23, DL.le_s24, DL.le_s25, DL.le_s26, DL.le_s27, DL.le_s28, DL.le_s29, DL.le_s30, DL.le_s31, DL.le_s32, DL.le_s33, DL.le_s34, DL.le_s35, DL.le_s36, DL.le_s37, DL.le_s38, DL.le_s39, DL.le_s40, DL.le_s41, DL.le_s42, DL.le_s43, DL.le_s44, DL.le_s45, DL.le_s46, DL.le_s47, DL.le_s48, DL.le_s49, DL.le_s50, DL.le_s51, DL.le_s52, DL.le_s53, DL.le_s54, DL.le_s55, DL.le_s56, DL.le_s57, DL.le_s58, DL.le_s59, DL.le_s60, DL.le_s61, DL.le_s62, DL.le_s63, DL.le_s64, DL.iteB_true, DL.iteB_false, DL.lenP_t, DL.lenP_l, DL.lenP_s, DL.eqP, DL.eqOk_int, DL.eqOk_str, DL.eqOk_emp, DL.eqOk_empL, DL.eqv_emp1, DL.eqv_empL1, DL.eqv_ii, DL.eqv_ss, DL.ixP_t, DL.ixP_l, DL.ixP_s, DL.slP_t, DL.slP_l, DL.slP_s, DL.intcP_i, DL.intcP_b, DL.intcP_s, DL.tupcP_l, DL.tupcP_t, DL.atI_z, DL.atI_o, DL.atI_t, DL.int0P_ii, DL.intP_ii, DL.addP_ii, DL.addP_ss, DL.addP_tt, DL.addP_ll, DL.isTup_t, DL.reprP, Bool.false_eq_true, if_true, if_false, reduceIte, Option.some.injEq, PyData.bool.injEq, exists_eq_left', exists_eq_left, exists_eq_right, exists_eq_right', true_and, and_true, Bool.true_eq_false, Bool.not_true, Bool.not_false, false_and, and_false, exists_and_left, reduceCtorEq, DL.DV.gts.injEq, exists_const])
    exact h
theorem ok_lclock {fd : FuncData} (T : TbL mg) (D : Df K mg "_law_clock" s__law_clock P__law_clock fd) : FnOk P w K mg base CX0 1 (He.fAd K ("_law_clock", none)) fd P__law_clock (spD (WP K Tl) F_clock) := by
  refine okD D.F sc__law_clock (fun ds Kk KE h => by obtain ⟨n, c, d, rfl, _⟩ := h; rfl) (fun W cdv A outer s E hW hcd hr => ?_)
  have hK : W.K = K := hW.k
  refine ⟨_, (dss_cons (ds_set (i := 3) sc__law_clock.nd rfl (.inl rfl) de_int)
      (dss_cons (ds_for PassesOwn.never rfl (di_range1 (st := true) (by rfl) T.range (da_cons (dv 1) da_nil)) (pg_name (i := 4) sc__law_clock.nd rfl (.inl rfl)) (sg_name (i := 4) trivial) (dss_one (ds_set (i := 3) sc__law_clock.nd rfl (.inl rfl) (de_op op_mulW sn_int (dv 3) (dv 0)))))
      (dss_one (ds_ret (de_op op_addD sn_add (dv 3) (dv 2)))))), fun ds Kk KE h => ?_⟩
  obtain ⟨n, c, d, rfl, sm, h⟩ := h
  obtain ⟨h1, h2, h3, h4, h5, h6⟩ := sm
  (try simp only [DL.iteB_true, DL.iteB_false, DL.sSeq, DL.sNext, DL.sRet, DL.sRetN, DL.sIf, DL.sAsg, DL.sNew, DL.sDrop, DL.sRel, DL.sApp, DL.sFor, DL.sBreak, DL.sCont, DL.sAsgT, DL.sPar, DL.sPar3, DL.sPar3DFD, DL.sParFD, DL.sParDF, DL.sExt, DL.sPut, DL.sAug, DL.sCut, DL.sRaise, DL.sWhile, DL.fVar, DL.fC, DL.fOb, DL.fGts, DL.f2, DL.f1, DL.fCall, DL.fB, DL.fTru, DL.fAnd, DL.fOr, DL.fNot, DL.fIf, DL.tAndD, DL.tOrD, DL.tNotD, DL.fNil, DL.fCons, DL.fTup, DL.fLst, DL.fDnew, DL.fNew, DL.fIt, DL.fRng1, DL.fRng2, DL.fLc, DL.fAG, DL.fFn, DL.fFnX, DL.fFnK, DL.fSl, DL.fNone, DL.fPart, DL.fList, DL.fM0, DL.fM1, DL.tYesD, DL.gdN, DL.gdT_t, DL.gdNil_n, DL.gdCons_c, DL.op2, DL.op1, DL.opC, DL.c1, DL.isiP, DL.typeO, DL.tyIs, DL.inG, DL.isND, DL.rel, DL.wipeD, DL.le_s0, DL.le_s1, DL.le_s2, DL.le_s3, DL.le_s4, DL.le_s5, DL.le_s6, DL.le_s7, DL.le_s8, DL.le_s9, DL.le_s10, DL.le_s11, DL.le_s12, DL.le_s13, DL.le_s14, DL.le_s15, DL.le_s16, DL.le_s17, DL.le_s18, DL.le_s19, DL.le_s20, DL.le_s21, DL.le_s22, DL.le_s23, DL.le_s24, DL.le_s25, DL.le_s26, DL.le_s27, DL.le_s28, DL.le_s29, DL.le_s30, DL.le_s31, DL.le_s32, DL.le_s33, DL.le_s34, DL.le_s35, DL.le_s36, DL.le_s37, DL.le_s38, DL.le_s39, DL.le_s40, DL.le_s41, DL.le_s42, DL.le_s43, DL.le_s44, DL.le_s45, DL.le_s46, DL.le_s47, DL.le_s48, DL.le_s49, DL.le_s50, DL.le_s51, DL.le_s52, DL.le_s53, DL.le_s54, DL.le_s55, DL.le_s56, DL.le_s57, DL.le_s58, DL.le_s59, DL.le_s60, DL.le_s61, DL.le_s62, DL.le_s63, DL.le_s64, DL.start0, DL.asDat, DL.lend, DL.noOwn, DL.DV.isOwn, DL.pd_dat, DL.pd_own, DL.ocpd_lst, DL.ocpd_dk, DL.itemsOf, List.map_cons, List.map_nil, List.append_nil, List.cons_append, List.nil_append, List.length_cons, List.length_nil, List.replicate_succ, List.replicate_zero, List.getElem?_cons_zero, List.getElem?_cons_succ, List.set_cons_zero, List.set_cons_succ, Nat.reduceSub, Nat.reduceAdd, Nat.sub_self, Nat.zero_add, Option.some.injEq, DL.DV.dat.injEq, PyData.bool.injEq, PyData.int.injEq, PyData.str.injEq, PyData.tuple.injEq, PyData.list.injEq, DL.DV.ob.injEq, V.ty.injEq, DL.DV.own.injEq, DL.OC.lst.injEq, List.cons.injEq, Option.map_some, exists_eq_left', exists_eq_left, exists_eq_right, exists_eq_right', exists_and_left, and_true, true_and, Bool.not_true, Bool.not_false, Bool.and_true, Bool.true_and, true_or, Bool.not_eq_true', Bool.false_eq_true, if_true, if_false, reduceIte, reduceCtorEq])
  refine ⟨by omega, by omega, for_inv (fun i ρ => ∃ x4, ρ = [some (.dat (.int n)), some (.dat (.int c)), some (.dat (.int d)), some (.dat (.int (n ^ i))), x4]) (fun i dt ρ N hi hI hN => ?_) ⟨none, by rw [Int.pow_zero]⟩ (fun ρ hI => ?_)⟩
  · obtain ⟨x4, rfl⟩ := hI
    have hi := (rngD_at hi).2
    have pw := pow_int (i := i) h1 h2 (by omega)
    (try simp only [DL.iteB_true, DL.iteB_false, DL.sSeq, DL.sNext, DL.sRet, DL.sRetN, DL.sIf, DL.sAsg, DL.sNew, DL.sDrop, DL.sRel, DL.sApp, DL.sFor, DL.sBreak, DL.sCont, DL.sAsgT, DL.sPar, DL.sPar3, DL.sPar3DFD, DL.sParFD, DL.sParDF, DL.sExt, DL.sPut, DL.sAug, DL.sCut, DL.sRaise, DL.sWhile, DL.fVar, DL.fC, DL.fOb, DL.fGts, DL.f2, DL.f1, DL.fCall, DL.fB, DL.fTru, DL.fAnd, DL.fOr, DL.fNot, DL.fIf, DL.tAndD, DL.tOrD, DL.tNotD, DL.fNil, DL.fCons, DL.fTup, DL.fLst, DL.fDnew, DL.fNew, DL.fIt, DL.fRng1, DL.fRng2, DL.fLc, DL.fAG, DL.fFn, DL.fFnX, DL.fFnK, DL.fSl, DL.fNone, DL.fPart, DL.fList, DL.fM0, DL.fM1, DL.tYesD, DL.gdN, DL.gdT_t, DL.gdNil_n, DL.gdCons_c, DL.op2, DL.op1, DL.opC, DL.c1, DL.isiP, DL.typeO, DL.tyIs, DL.inG, DL.isND, DL.rel, DL.wipeD, DL.le_s0, DL.le_s1, DL.le_s2, DL.le_s3, DL.le_s4, DL.le_s5, DL.le_s6, DL.le_s7, DL.le_s8, DL.le_s9, DL.le_s10, DL.le_s11, DL.le_s12, DL.le_s13, DL.le_s14, DL.le_s15, DL.le_s16, DL.le_s17, DL.le_s18, DL.le_s19, DL.le_s20, DL.le_s21, DL.le_s22, DL.le_s23, DL.le_s24, DL.le_s25, DL.le_s26, DL.le_s27, DL.le_s28, DL.le_s29, DL.le_s30, DL.le_s31, DL.le_s32, DL.le_s33, DL.le_s34, DL.le_s35, DL.le_s36, DL.le_s37, DL.le_s38, DL.le_s39, DL.le_s40, DL.le_s41, DL.le_s42, DL.le_s43, DL.le_s44, DL.le_s45, DL.le_s46, DL.le_s47, DL.le_s48, DL.le_s49, DL.le_s50, DL.le_s51, DL.le_s52, DL.le_s53, DL.le_s54, DL.le_s55, DL.le_s56, DL.le_s57, DL.le_s58, DL.le_s59, DL.le_s60, DL.le_s61, DL.le_s62, DL.le_s63, DL.le_s64, DL.start0, DL.asDat, DL.lend, DL.noOwn, DL.DV.isOwn, DL.pd_dat, DL.pd_own, DL.ocpd_lst, DL.ocpd_dk, DL.itemsOf, List.map_cons, List.map_nil, List.append_nil, List.cons_append, List.nil_append, List.length_cons, List.length_nil, List.replicate_succ, List.replicate_zero, List.getElem?_cons_zero, List.getElem?_cons_succ, List.set_cons_zero, List.set_cons_succ, Nat.reduceSub, Nat.reduceAdd, Nat.sub_self, Nat.zero_add, Option.some.injEq, DL.DV.dat.injEq, PyData.bool.injEq, PyData.int.injEq, PyData.str.injEq, PyData.tuple.injEq, PyData.list.injEq, DL.DV.ob.injEq, V.ty.injEq, DL.DV.own.injEq, DL.OC.lst.injEq, List.cons.injEq, Option.map_some, exists_eq_left', exists_eq_left, exists_eq_right, exists_eq_right', exists_and_left, and_true, true_and, Bool.not_true, Bool.not_false, Bool.and_true, Bool.true_and, true_or, Bool.not_eq_true', Bool.false_eq_true, if_true, if_false, reduceIte, reduceCtorEq])
    (try simp only [DL.negP_i, DL.le_s0, DL.le_s1, DL.le_s2, DL.le_s3, DL.le_s4, DL.le_s5, DL.le_s6, DL.le_s7, DL.le_s8, DL.le_s9, DL.le_s10, DL.le_s11, DL.le_s12, DL.le_s13, DL.le_s14, DL.le_s15, DL.le_s16, DL.le_s17, DL.le_s18, DL.le_s19, DL.le_s20, DL.le_s21, DL.le_s22, DL.le_s23, DL.le_s24, DL.le_s25, DL.le_s26, DL.le_s27, DL.le_s28, DL.le_s29, DL.le_s30, DL.le_s31, DL.le_s32, DL.le_s33, DL.le_s34, DL.le_s35, DL.le_s36, DL.le_s37, DL.le_s38, DL.le_s39, DL.le_s40, DL.le_s41, DL.le_s42, DL.le_s43, DL.le_s44, DL.le_s45, DL.le_s46, DL.le_s47, DL.le_s48, DL.le_s49, DL.le_s50, DL.le_s51, DL.le_s52, DL.le_s53, DL.le_s54, DL.le_s55, DL.le_s56, DL.le_s57, DL.le_s58, DL.le_s59, DL.le_s60, DL.le_s61, DL.le_s62, DL.le_s63, DL.le_s64, DL.iteB_true, DL.iteB_false, DL.lenP_t, DL.lenP_l, DL.lenP_s, DL.eqP, DL.eqOk_int, DL.eqOk_str, DL.eqOk_emp, DL.eqOk_empL, DL.eqv_emp1, DL.eqv_empL1, DL.eqv_ii, DL.eqv_ss, DL.ixP_t, DL.ixP_l, DL.ixP_s, DL.slP_t, DL.slP_l, DL.slP_s, DL.intcP_i, DL.intcP_b, DL.intcP_s, DL.tupcP_l, DL.tupcP_t, DL.atI_z, DL.atI_o, DL.atI_t, DL.int0P_ii, DL.intP_ii, DL.addP_ii, DL.addP_ss, DL.addP_tt, DL.addP_ll, DL.isTup_t, DL.reprP, Bool.false_eq_true, if_true, if_false, reduceIte, Option.some.injEq, PyData.bool.injEq, exists_eq_left', exists_eq_left, exists_eq_right, exists_eq_right', true_and, and_true, Bool.true_eq_false, Bool.not_true, Bool.not_false, false_and, and_false, exists_and_left, reduceCtorEq, DL.DV.gts.injEq, exists_const])
    refine ⟨?_, hN _ ⟨some (.dat dt), by rw [Int.pow_succ]⟩⟩
    have a1 := Nat.log2_le_self (n ^ i).natAbs
    have a2 := Nat.log2_le_self n.natAbs
    unfold CMulW
    omega
  · obtain ⟨x4, rfl⟩ := hI
    rw [rngD_len]
    (try simp only [DL.iteB_true, DL.iteB_false, DL.sSeq, DL.sNext, DL.sRet, DL.sRetN, DL.sIf, DL.sAsg, DL.sNew, DL.sDrop, DL.sRel, DL.sApp, DL.sFor, DL.sBreak, DL.sCont, DL.sAsgT, DL.sPar, DL.sPar3, DL.sPar3DFD, DL.sParFD, DL.sParDF, DL.sExt, DL.sPut, DL.sAug, DL.sCut, DL.sRaise, DL.sWhile, DL.fVar, DL.fC, DL.fOb, DL.fGts, DL.f2, DL.f1, DL.fCall, DL.fB, DL.fTru, DL.fAnd, DL.fOr, DL.fNot, DL.fIf, DL.tAndD, DL.tOrD, DL.tNotD, DL.fNil, DL.fCons, DL.fTup, DL.fLst, DL.fDnew, DL.fNew, DL.fIt, DL.fRng1, DL.fRng2, DL.fLc, DL.fAG, DL.fFn, DL.fFnX, DL.fFnK, DL.fSl, DL.fNone, DL.fPart, DL.fList, DL.fM0, DL.fM1, DL.tYesD, DL.gdN, DL.gdT_t, DL.gdNil_n, DL.gdCons_c, DL.op2, DL.op1, DL.opC, DL.c1, DL.isiP, DL.typeO, DL.tyIs, DL.inG, DL.isND, DL.rel, DL.wipeD, DL.le_s0, DL.le_s1, DL.le_s2, DL.le_s3, DL.le_s4, DL.le_s5, DL.le_s6, DL.le_s7, DL.le_s8, DL.le_s9, DL.le_s10, DL.le_s11, DL.le_s12, DL.le_s13, DL.le_s14, DL.le_s15, DL.le_s16, DL.le_s17, DL.le_s18, DL.le_s19, DL.le_s20, DL.le_s21, DL.le_s22, DL.le_s23, DL.le_s24, DL.le_s25, DL.le_s26, DL.le_s27, DL.le_s28, DL.le_s29, DL.le_s30, DL.le_s31, DL.le_s32, DL.le_s33, DL.le_s34, DL.le_s35, DL.le_s36, DL.le_s37, DL.le_s38, DL.le_s39, DL.le_s40, DL.le_s41, DL.le_s42, DL.le_s43, DL.le_s44, DL.le_s45, DL.le_s46, DL.le_s47, DL.le_s48, DL.le_s49, DL.le_s50, DL.le_s51, DL.le_s52, DL.le_s53, DL.le_s54, DL.le_s55, DL.le_s56, DL.le_s57, DL.le_s58, DL.le_s59, DL.le_s60, DL.le_s61, DL.le_s62, DL.le_s63, DL.le_s64, DL.start0, DL.asDat, DL.lend, DL.noOwn, DL.DV.isOwn, DL.pd_dat, DL.pd_own, DL.ocpd_lst, DL.ocpd_dk, DL.itemsOf, List.map_cons, List.map_nil, List.append_nil, List.cons_append, List.nil_append, List.length_cons, List.length_nil, List.replicate_succ, List.replicate_zero, List.getElem?_cons_zero, List.getElem?_cons_succ, List.set_cons_zero, List.set_cons_succ, Nat.reduceSub, Nat.reduceAdd, Nat.sub_self, Nat.zero_add, Option.some.injEq, DL.DV.dat.injEq, PyData.bool.injEq, PyData.int.injEq, PyData.str.injEq, PyData.tuple.injEq, PyData.list.injEq, DL.DV.ob.injEq, V.ty.injEq, DL.DV.own.injEq, DL.OC.lst.injEq, List.cons.injEq, Option.map_some, exists_eq_left', exists_eq_left, exists_eq_right, exists_eq_right', exists_and_left, and_true, true_and, Bool.not_true, Bool.not_false, Bool.and_true, Bool.true_and, true_or, Bool.not_eq_true', Bool.false_eq_true, if_true, if_false, reduceIte, reduceCtorEq])
    (try simp only [DL.negP_i, DL.le_s0, DL.le_s1, DL.le_s2, DL.le_s3, DL.le_s4, DL.le_s5, DL.le_s6, DL.le_s7, DL.le_s8, DL.le_s9, DL.le_s10, DL.le_s11, DL.le_s12, DL.le_s13, DL.le_s14, DL.le_s15, DL.le_s16, DL.le_s17, DL.le_s18, DL.le_s19, DL.le_s20, DL.le_s21, DL.le_s22, DL.le_s23, DL.le_s24, DL.le_s25, DL.le_s26, DL.le_s27, DL.le_s28, DL.le_s29, DL.le_s30, DL.le_s31, DL.le_s32, DL.le_s33, DL.le_s34, DL.le_s35, DL.le_s36, DL.le_s37, DL.le_s38, DL.le_s39, DL.le_s40, DL.le_s41, DL.le_s42, DL.le_s43, DL.le_s44, DL.le_s45, DL.le_s46, DL.le_s47, DL.le_s48, DL.le_s49, DL.le_s50, DL.le_s51, DL.le_s52, DL.le_s53, DL.le_s54, DL.le_s55, DL.le_s56, DL.le_s57, DL.le_s58, DL.le_s59, DL.le_s60, DL.le_s61, DL.le_s62, DL.le_s63, DL.le_s64, DL.iteB_true, DL.iteB_false, DL.lenP_t, DL.lenP_l, DL.lenP_s, DL.eqP, DL.eqOk_int, DL.eqOk_str, DL.eqOk_emp, DL.eqOk_empL, DL.eqv_emp1, DL.eqv_empL1, DL.eqv_ii, DL.eqv_ss, DL.ixP_t, DL.ixP_l, DL.ixP_s, DL.slP_t, DL.slP_l, DL.slP_s, DL.intcP_i, DL.intcP_b, DL.intcP_s, DL.tupcP_l, DL.tupcP_t, DL.atI_z, DL.atI_o, DL.atI_t, DL.int0P_ii, DL.intP_ii, DL.addP_ii, DL.addP_ss, DL.addP_tt, DL.addP_ll, DL.isTup_t, DL.reprP, Bool.false_eq_true, if_true, if_false, reduceIte, Option.some.injEq, PyData.bool.injEq, exists_eq_left', exists_eq_left, exists_eq_right, exists_eq_right', true_and, and_true, Bool.true_eq_false, Bool.not_true, Bool.not_false, false_and, and_false, exists_and_left, reduceCtorEq, DL.DV.gts.injEq, exists_const])
    exact h
def F_rclock : FnD := fun ds K KE => ∃ c d, ds = [.dat c, .dat d] ∧ (wholeD c = false → KE "BadNumber" c) ∧ (wholeD c = true → wholeD d = false → KE "BadNumber" d) ∧ (wholeD c = true → wholeD d = true → K .none)
theorem ok_rclock {fd fdW fdN : FuncData} (E_BadNumber : Eq1 P w K mg base "BadNumber" (fld "BadNumber") fdN) (D : Df K mg "require_clock" s_require_clock P_require_clock fd) (D_is_whole : Df K mg "is_whole" s_is_whole PA.P_is_whole fdW) (G_is_whole : FnOk P w K mg base CX0 1 (He.fAd K ("is_whole", none)) fdW PA.P_is_whole (spD (WP K Tl) F_whole)) :
    FnOk P w K mg base (L2.CX P w) 3 (He.fAd K ("require_clock", none)) fd P_require_clock (spD (WP K Tl) F_rclock) := by
  refine okDX D.F sc_require_clock (fun ds Kk KE h => by obtain ⟨c, d, rfl, _⟩ := h; rfl) (fun W cdv A outer s E KE hW hE hcd hr => ?_)
  have hK : W.K = K := hW.k
  refine ⟨_, (dss_one (ds_for (passes_of rfl) rfl (di_seq (st := true) (de_tup (da_cons (dv 0) (da_cons (dv 1) da_nil))) hK) (pg_name (i := 2) sc_require_clock.nd rfl (.inl rfl)) (sg_name (i := 2) trivial) (dss_one (ds_if (dt_not (dt_val (de_call (pe_call G_is_whole (hr.mono (by first | decide | omega)) (by rfl) D_is_whole.g D_is_whole.F.kp D_is_whole.b .nil pass0 (da_cons (dv 2) da_nil)) hW))) (dss_one (ds_raise E_BadNumber (hr.mono (by first | decide | omega)) hK rfl hE rfl rfl (takes_of rfl rfl rfl rfl) (dv 2) (by rfl))) dss_nil)))), fun ds Kk h => ?_⟩
  obtain ⟨c, d, rfl, h1, h2, h3⟩ := h
  (try simp only [DL.iteB_true, DL.iteB_false, DL.sSeq, DL.sNext, DL.sRet, DL.sRetN, DL.sIf, DL.sAsg, DL.sNew, DL.sDrop, DL.sRel, DL.sApp, DL.sFor, DL.sBreak, DL.sCont, DL.sAsgT, DL.sPar, DL.sPar3, DL.sPar3DFD, DL.sParFD, DL.sParDF, DL.sExt, DL.sPut, DL.sAug, DL.sCut, DL.sRaise, DL.sWhile, DL.fVar, DL.fC, DL.fOb, DL.fGts, DL.f2, DL.f1, DL.fCall, DL.fB, DL.fTru, DL.fAnd, DL.fOr, DL.fNot, DL.fIf, DL.tAndD, DL.tOrD, DL.tNotD, DL.fNil, DL.fCons, DL.fTup, DL.fLst, DL.fDnew, DL.fNew, DL.fIt, DL.fRng1, DL.fRng2, DL.fLc, DL.fAG, DL.fFn, DL.fFnX, DL.fFnK, DL.fSl, DL.fNone, DL.fPart, DL.fList, DL.fM0, DL.fM1, DL.tYesD, DL.gdN, DL.gdT_t, DL.gdNil_n, DL.gdCons_c, DL.op2, DL.op1, DL.opC, DL.c1, DL.isiP, DL.typeO, DL.tyIs, DL.inG, DL.isND, DL.rel, DL.wipeD, DL.le_s0, DL.le_s1, DL.le_s2, DL.le_s3, DL.le_s4, DL.le_s5, DL.le_s6, DL.le_s7, DL.le_s8, DL.le_s9, DL.le_s10, DL.le_s11, DL.le_s12, DL.le_s13, DL.le_s14, DL.le_s15, DL.le_s16, DL.le_s17, DL.le_s18, DL.le_s19, DL.le_s20, DL.le_s21, DL.le_s22, DL.le_s23, DL.le_s24, DL.le_s25, DL.le_s26, DL.le_s27, DL.le_s28, DL.le_s29, DL.le_s30, DL.le_s31, DL.le_s32, DL.le_s33, DL.le_s34, DL.le_s35, DL.le_s36, DL.le_s37, DL.le_s38, DL.le_s39, DL.le_s40, DL.le_s41, DL.le_s42, DL.le_s43, DL.le_s44, DL.le_s45, DL.le_s46, DL.le_s47, DL.le_s48, DL.le_s49, DL.le_s50, DL.le_s51, DL.le_s52, DL.le_s53, DL.le_s54, DL.le_s55, DL.le_s56, DL.le_s57, DL.le_s58, DL.le_s59, DL.le_s60, DL.le_s61, DL.le_s62, DL.le_s63, DL.le_s64, DL.start0, DL.asDat, DL.lend, DL.noOwn, DL.DV.isOwn, DL.pd_dat, DL.pd_own, DL.ocpd_lst, DL.ocpd_dk, DL.itemsOf, List.map_cons, List.map_nil, List.append_nil, List.cons_append, List.nil_append, List.length_cons, List.length_nil, List.replicate_succ, List.replicate_zero, List.getElem?_cons_zero, List.getElem?_cons_succ, List.set_cons_zero, List.set_cons_succ, Nat.reduceSub, Nat.reduceAdd, Nat.sub_self, Nat.zero_add, Option.some.injEq, DL.DV.dat.injEq, PyData.bool.injEq, PyData.int.injEq, PyData.str.injEq, PyData.tuple.injEq, PyData.list.injEq, DL.DV.ob.injEq, V.ty.injEq, DL.DV.own.injEq, DL.OC.lst.injEq, List.cons.injEq, Option.map_some, exists_eq_left', exists_eq_left, exists_eq_right, exists_eq_right', exists_and_left, and_true, true_and, Bool.not_true, Bool.not_false, Bool.and_true, Bool.true_and, true_or, Bool.not_eq_true', Bool.false_eq_true, if_true, if_false, reduceIte, reduceCtorEq])
  unfold forL
  (try simp only [DL.iteB_true, DL.iteB_false, DL.sSeq, DL.sNext, DL.sRet, DL.sRetN, DL.sIf, DL.sAsg, DL.sNew, DL.sDrop, DL.sRel, DL.sApp, DL.sFor, DL.sBreak, DL.sCont, DL.sAsgT, DL.sPar, DL.sPar3, DL.sPar3DFD, DL.sParFD, DL.sParDF, DL.sExt, DL.sPut, DL.sAug, DL.sCut, DL.sRaise, DL.sWhile, DL.fVar, DL.fC, DL.fOb, DL.fGts, DL.f2, DL.f1, DL.fCall, DL.fB, DL.fTru, DL.fAnd, DL.fOr, DL.fNot, DL.fIf, DL.tAndD, DL.tOrD, DL.tNotD, DL.fNil, DL.fCons, DL.fTup, DL.fLst, DL.fDnew, DL.fNew, DL.fIt, DL.fRng1, DL.fRng2, DL.fLc, DL.fAG, DL.fFn, DL.fFnX, DL.fFnK, DL.fSl, DL.fNone, DL.fPart, DL.fList, DL.fM0, DL.fM1, DL.tYesD, DL.gdN, DL.gdT_t, DL.gdNil_n, DL.gdCons_c, DL.op2, DL.op1, DL.opC, DL.c1, DL.isiP, DL.typeO, DL.tyIs, DL.inG, DL.isND, DL.rel, DL.wipeD, DL.le_s0, DL.le_s1, DL.le_s2, DL.le_s3, DL.le_s4, DL.le_s5, DL.le_s6, DL.le_s7, DL.le_s8, DL.le_s9, DL.le_s10, DL.le_s11, DL.le_s12, DL.le_s13, DL.le_s14, DL.le_s15, DL.le_s16, DL.le_s17, DL.le_s18, DL.le_s19, DL.le_s20, DL.le_s21, DL.le_s22, DL.le_s23, DL.le_s24, DL.le_s25, DL.le_s26, DL.le_s27, DL.le_s28, DL.le_s29, DL.le_s30, DL.le_s31, DL.le_s32, DL.le_s33, DL.le_s34, DL.le_s35, DL.le_s36, DL.le_s37, DL.le_s38, DL.le_s39, DL.le_s40, DL.le_s41, DL.le_s42, DL.le_s43, DL.le_s44, DL.le_s45, DL.le_s46, DL.le_s47, DL.le_s48, DL.le_s49, DL.le_s50, DL.le_s51, DL.le_s52, DL.le_s53, DL.le_s54, DL.le_s55, DL.le_s56, DL.le_s57, DL.le_s58, DL.le_s59, DL.le_s60, DL.le_s61, DL.le_s62, DL.le_s63, DL.le_s64, DL.start0, DL.asDat, DL.lend, DL.noOwn, DL.DV.isOwn, DL.pd_dat, DL.pd_own, DL.ocpd_lst, DL.ocpd_dk, DL.itemsOf, List.map_cons, List.map_nil, List.append_nil, List.cons_append, List.nil_append, List.length_cons, List.length_nil, List.replicate_succ, List.replicate_zero, List.getElem?_cons_zero, List.getElem?_cons_succ, List.set_cons_zero, List.set_cons_succ, Nat.reduceSub, Nat.reduceAdd, Nat.sub_self, Nat.zero_add, Option.some.injEq, DL.DV.dat.injEq, PyData.bool.injEq, PyData.int.injEq, PyData.str.injEq, PyData.tuple.injEq, PyData.list.injEq, DL.DV.ob.injEq, V.ty.injEq, DL.DV.own.injEq, DL.OC.lst.injEq, List.cons.injEq, Option.map_some, exists_eq_left', exists_eq_left, exists_eq_right, exists_eq_right', exists_and_left, and_true, true_and, Bool.not_true, Bool.not_false, Bool.and_true, Bool.true_and, true_or, Bool.not_eq_true', Bool.false_eq_true, if_true, if_false, reduceIte, reduceCtorEq])
  refine ⟨c, rfl, ?_⟩
  (try simp only [DL.iteB_true, DL.iteB_false, DL.sSeq, DL.sNext, DL.sRet, DL.sRetN, DL.sIf, DL.sAsg, DL.sNew, DL.sDrop, DL.sRel, DL.sApp, DL.sFor, DL.sBreak, DL.sCont, DL.sAsgT, DL.sPar, DL.sPar3, DL.sPar3DFD, DL.sParFD, DL.sParDF, DL.sExt, DL.sPut, DL.sAug, DL.sCut, DL.sRaise, DL.sWhile, DL.fVar, DL.fC, DL.fOb, DL.fGts, DL.f2, DL.f1, DL.fCall, DL.fB, DL.fTru, DL.fAnd, DL.fOr, DL.fNot, DL.fIf, DL.tAndD, DL.tOrD, DL.tNotD, DL.fNil, DL.fCons, DL.fTup, DL.fLst, DL.fDnew, DL.fNew, DL.fIt, DL.fRng1, DL.fRng2, DL.fLc, DL.fAG, DL.fFn, DL.fFnX, DL.fFnK, DL.fSl, DL.fNone, DL.fPart, DL.fList, DL.fM0, DL.fM1, DL.tYesD, DL.gdN, DL.gdT_t, DL.gdNil_n, DL.gdCons_c, DL.op2, DL.op1, DL.opC, DL.c1, DL.isiP, DL.typeO, DL.tyIs, DL.inG, DL.isND, DL.rel, DL.wipeD, DL.le_s0, DL.le_s1, DL.le_s2, DL.le_s3, DL.le_s4, DL.le_s5, DL.le_s6, DL.le_s7, DL.le_s8, DL.le_s9, DL.le_s10, DL.le_s11, DL.le_s12, DL.le_s13, DL.le_s14, DL.le_s15, DL.le_s16, DL.le_s17, DL.le_s18, DL.le_s19, DL.le_s20, DL.le_s21, DL.le_s22, DL.le_s23, DL.le_s24, DL.le_s25, DL.le_s26, DL.le_s27, DL.le_s28, DL.le_s29, DL.le_s30, DL.le_s31, DL.le_s32, DL.le_s33, DL.le_s34, DL.le_s35, DL.le_s36, DL.le_s37, DL.le_s38, DL.le_s39, DL.le_s40, DL.le_s41, DL.le_s42, DL.le_s43, DL.le_s44, DL.le_s45, DL.le_s46, DL.le_s47, DL.le_s48, DL.le_s49, DL.le_s50, DL.le_s51, DL.le_s52, DL.le_s53, DL.le_s54, DL.le_s55, DL.le_s56, DL.le_s57, DL.le_s58, DL.le_s59, DL.le_s60, DL.le_s61, DL.le_s62, DL.le_s63, DL.le_s64, DL.start0, DL.asDat, DL.lend, DL.noOwn, DL.DV.isOwn, DL.pd_dat, DL.pd_own, DL.ocpd_lst, DL.ocpd_dk, DL.itemsOf, List.map_cons, List.map_nil, List.append_nil, List.cons_append, List.nil_append, List.length_cons, List.length_nil, List.replicate_succ, List.replicate_zero, List.getElem?_cons_zero, List.getElem?_cons_succ, List.set_cons_zero, List.set_cons_succ, Nat.reduceSub, Nat.reduceAdd, Nat.sub_self, Nat.zero_add, Option.some.injEq, DL.DV.dat.injEq, PyData.bool.injEq, PyData.int.injEq, PyData.str.injEq, PyData.tuple.injEq, PyData.list.injEq, DL.DV.ob.injEq, V.ty.injEq, DL.DV.own.injEq, DL.OC.lst.injEq, List.cons.injEq, Option.map_some, exists_eq_left', exists_eq_left, exists_eq_right, exists_eq_right', exists_and_left, and_true, true_and, Bool.not_true, Bool.not_false, Bool.and_true, Bool.true_and, true_or, Bool.not_eq_true', Bool.false_eq_true, if_true, if_false, reduceIte, reduceCtorEq])
  cases hc : wholeD c with
  | false => exact h1 hc
  | true =>
    simp only [iteB_true, iteB_false, Bool.not_true]
    unfold forL
    (try simp only [DL.iteB_true, DL.iteB_false, DL.sSeq, DL.sNext, DL.sRet, DL.sRetN, DL.sIf, DL.sAsg, DL.sNew, DL.sDrop, DL.sRel, DL.sApp, DL.sFor, DL.sBreak, DL.sCont, DL.sAsgT, DL.sPar, DL.sPar3, DL.sPar3DFD, DL.sParFD, DL.sParDF, DL.sExt, DL.sPut, DL.sAug, DL.sCut, DL.sRaise, DL.sWhile, DL.fVar, DL.fC, DL.fOb, DL.fGts, DL.f2, DL.f1, DL.fCall, DL.fB, DL.fTru, DL.fAnd, DL.fOr, DL.fNot, DL.fIf, DL.tAndD, DL.tOrD, DL.tNotD, DL.fNil, DL.fCons, DL.fTup, DL.fLst, DL.fDnew, DL.fNew, DL.fIt, DL.fRng1, DL.fRng2, DL.fLc, DL.fAG, DL.fFn, DL.fFnX, DL.fFnK, DL.fSl, DL.fNone, DL.fPart, DL.fList, DL.fM0, DL.fM1, DL.tYesD, DL.gdN, DL.gdT_t, DL.gdNil_n, DL.gdCons_c, DL.op2, DL.op1, DL.opC, DL.c1, DL.isiP, DL.typeO, DL.tyIs, DL.inG, DL.isND, DL.rel, DL.wipeD, DL.le_s0, DL.le_s1, DL.le_s2, DL.le_s3, DL.le_s4, DL.le_s5, DL.le_s6, DL.le_s7, DL.le_s8, DL.le_s9, DL.le_s10, DL.le_s11, DL.le_s12, DL.le_s13, DL.le_s14, DL.le_s15, DL.le_s16, DL.le_s17, DL.le_s18, DL.le_s19, DL.le_s20, DL.le_s21, DL.le_s22, DL.le_s23, DL.le_s24, DL.le_s25, DL.le_s26, DL.le_s27, DL.le_s28, DL.le_s29, DL.le_s30, DL.le_s31, DL.le_s32, DL.le_s33, DL.le_s34, DL.le_s35, DL.le_s36, DL.le_s37, DL.le_s38, DL.le_s39, DL.le_s40, DL.le_s41, DL.le_s42, DL.le_s43, DL.le_s44, DL.le_s45, DL.le_s46, DL.le_s47, DL.le_s48, DL.le_s49, DL.le_s50, DL.le_s51, DL.le_s52, DL.le_s53, DL.le_s54, DL.le_s55, DL.le_s56, DL.le_s57, DL.le_s58, DL.le_s59, DL.le_s60, DL.le_s61, DL.le_s62, DL.le_s63, DL.le_s64, DL.start0, DL.asDat, DL.lend, DL.noOwn, DL.DV.isOwn, DL.pd_dat, DL.pd_own, DL.ocpd_lst, DL.ocpd_dk, DL.itemsOf, List.map_cons, List.map_nil, List.append_nil, List.cons_append, List.nil_append, List.length_cons, List.length_nil, List.replicate_succ, List.replicate_zero, List.getElem?_cons_zero, List.getElem?_cons_succ, List.set_cons_zero, List.set_cons_succ, Nat.reduceSub, Nat.reduceAdd, Nat.sub_self, Nat.zero_add, Option.some.injEq, DL.DV.dat.injEq, PyData.bool.injEq, PyData.int.injEq, PyData.str.injEq, PyData.tuple.injEq, PyData.list.injEq, DL.DV.ob.injEq, V.ty.injEq, DL.DV.own.injEq, DL.OC.lst.injEq, List.cons.injEq, Option.map_some, exists_eq_left', exists_eq_left, exists_eq_right, exists_eq_right', exists_and_left, and_true, true_and, Bool.not_true, Bool.not_false, Bool.and_true, Bool.true_and, true_or, Bool.not_eq_true', Bool.false_eq_true, if_true, if_false, reduceIte, reduceCtorEq])
    refine ⟨d, rfl, ?_⟩
    (try simp only [DL.iteB_true, DL.iteB_false, DL.sSeq, DL.sNext, DL.sRet, DL.sRetN, DL.sIf, DL.sAsg, DL.sNew, DL.sDrop, DL.sRel, DL.sApp, DL.sFor, DL.sBreak, DL.sCont, DL.sAsgT, DL.sPar, DL.sPar3, DL.sPar3DFD, DL.sParFD, DL.sParDF, DL.sExt, DL.sPut, DL.sAug, DL.sCut, DL.sRaise, DL.sWhile, DL.fVar, DL.fC, DL.fOb, DL.fGts, DL.f2, DL.f1, DL.fCall, DL.fB, DL.fTru, DL.fAnd, DL.fOr, DL.fNot, DL.fIf, DL.tAndD, DL.tOrD, DL.tNotD, DL.fNil, DL.fCons, DL.fTup, DL.fLst, DL.fDnew, DL.fNew, DL.fIt, DL.fRng1, DL.fRng2, DL.fLc, DL.fAG, DL.fFn, DL.fFnX, DL.fFnK, DL.fSl, DL.fNone, DL.fPart, DL.fList, DL.fM0, DL.fM1, DL.tYesD, DL.gdN, DL.gdT_t, DL.gdNil_n, DL.gdCons_c, DL.op2, DL.op1, DL.opC, DL.c1, DL.isiP, DL.typeO, DL.tyIs, DL.inG, DL.isND, DL.rel, DL.wipeD, DL.le_s0, DL.le_s1, DL.le_s2, DL.le_s3, DL.le_s4, DL.le_s5, DL.le_s6, DL.le_s7, DL.le_s8, DL.le_s9, DL.le_s10, DL.le_s11, DL.le_s12, DL.le_s13, DL.le_s14, DL.le_s15, DL.le_s16, DL.le_s17, DL.le_s18, DL.le_s19, DL.le_s20, DL.le_s21, DL.le_s22, DL.le_s23, DL.le_s24, DL.le_s25, DL.le_s26, DL.le_s27, DL.le_s28, DL.le_s29, DL.le_s30, DL.le_s31, DL.le_s32, DL.le_s33, DL.le_s34, DL.le_s35, DL.le_s36, DL.le_s37, DL.le_s38, DL.le_s39, DL.le_s40, DL.le_s41, DL.le_s42, DL.le_s43, DL.le_s44, DL.le_s45, DL.le_s46, DL.le_s47, DL.le_s48, DL.le_s49, DL.le_s50, DL.le_s51, DL.le_s52, DL.le_s53, DL.le_s54, DL.le_s55, DL.le_s56, DL.le_s57, DL.le_s58, DL.le_s59, DL.le_s60, DL.le_s61, DL.le_s62, DL.le_s63, DL.le_s64, DL.start0, DL.asDat, DL.lend, DL.noOwn, DL.DV.isOwn, DL.pd_dat, DL.pd_own, DL.ocpd_lst, DL.ocpd_dk, DL.itemsOf, List.map_cons, List.map_nil, List.append_nil, List.cons_append, List.nil_append, List.length_cons, List.length_nil, List.replicate_succ, List.replicate_zero, List.getElem?_cons_zero, List.getElem?_cons_succ, List.set_cons_zero, List.set_cons_succ, Nat.reduceSub, Nat.reduceAdd, Nat.sub_self, Nat.zero_add, Option.some.injEq, DL.DV.dat.injEq, PyData.bool.injEq, PyData.int.injEq, PyData.str.injEq, PyData.tuple.injEq, PyData.list.injEq, DL.DV.ob.injEq, V.ty.injEq, DL.DV.own.injEq, DL.OC.lst.injEq, List.cons.injEq, Option.map_some, exists_eq_left', exists_eq_left, exists_eq_right, exists_eq_right', exists_and_left, and_true, true_and, Bool.not_true, Bool.not_false, Bool.and_true, Bool.true_and, true_or, Bool.not_eq_true', Bool.false_eq_true, if_true, if_false, reduceIte, reduceCtorEq])
    cases hd : wholeD d with
    | false => exact h2 hc hd
    | true =>
      simp only [iteB_true, iteB_false, Bool.not_true]
      unfold forL
      exact h3 hc hd
def F_out : FnD := fun ds K KE => ∃ m c d w, ds = [.dat m, .dat c, .dat d, .dat w] ∧ shortP w ∧ (machB m = false → KE "BadMachine" m) ∧ (machB m = true → wholeD c = false → KE "BadNumber" c) ∧ (machB m = true → wholeD c = true → wholeD d = false → KE "BadNumber" d) ∧ (machB m = true → wholeD c = true → wholeD d = true → wordB w = false → KE "BadWord" w) ∧
  ∀ (xs : List PyData) (c' d' : Int) (w' : Str), m = .tuple xs → c = .int c' → d = .int d' → w = .str w' → machB m = true → wholeD c = true → wholeD d = true → wordB w = true → Stand xs 0 w' "" ∧ small w'.length c' d' ∧ K (outD xs w' (clockN w'.length c' d').toNat)
theorem ok_out {fd fdW fdN : FuncData} (E_BadWord : Eq1 P w K mg base "BadWord" (fld "BadWord") fdW) (E_BadNumber : Eq1 P w K mg base "BadNumber" (fld "BadNumber") fdN) (T : TbP mg) (hr_ : mg "range" = none) (D : Df K mg "outcome" s_outcome P_outcome fd) (D_require_machine : Df K mg "require_machine" s_require_machine PB.P_require_machine (fn "require_machine")) (G_require_machine : FnOk P w K mg base (L2.CX P w) 15 (He.fAd K ("require_machine", none)) (fn "require_machine") PB.P_require_machine (spD (WP K Tl) F_req))
    (D_require_clock : Df K mg "require_clock" s_require_clock P_require_clock (fn "require_clock")) (D_is_whole : Df K mg "is_whole" s_is_whole PA.P_is_whole (fn "is_whole")) (D_is_word : Df K mg "is_word" s_is_word PB.P_is_word (fn "is_word")) (D_clock_steps : Df K mg "clock_steps" s_clock_steps P_clock_steps (fn "clock_steps")) (D_later_standing : Df K mg "later_standing" s_later_standing PVL.P_later_standing (fn "later_standing"))
    (D_next_standing : Df K mg "next_standing" s_next_standing PB.P_next_standing (fn "next_standing")) (G_next_standing : FnOk P w K mg base CX0 5 (He.fAd K ("next_standing", none)) (fn "next_standing") PB.P_next_standing (spD (WP K Tl) F_next)) :
    FnOk P w K mg base (L2.CX P w) 17 (He.fAd K ("outcome", none)) fd P_outcome (spD (WP K Tl) F_out) := by
  have G_require_clock := ok_rclock (Tl := Tl) E_BadNumber D_require_clock D_is_whole (ok_whole T D_is_whole)
  have G_is_word := ok_word (P := P) (w := w) (base := base) (Tl := Tl) T D_is_word
  have G_clock_steps := ok_clock (P := P) (w := w) (base := base) (Tl := Tl) hr_ D_clock_steps
  have G_later_standing := ok_later T D_later_standing D_next_standing G_next_standing
  refine okDX D.F sc_outcome (fun ds Kk KE h => by obtain ⟨m, c, d, w, rfl, _⟩ := h; rfl) (fun W cdv A outer s E KE hW hE hcd hr => ?_)
  have hK : W.K = K := hW.k
  refine ⟨_, (dss_cons (ds_expr (de_callX (pe_call G_require_machine (hr.mono (by first | decide | omega)) (by rfl) D_require_machine.g D_require_machine.F.kp D_require_machine.b .nil (passes_call (takes_of rfl rfl rfl rfl) (fun _ _ _ _ h => h)) (da_cons (dv 0) da_nil)) hW hE))
      (dss_cons (ds_expr (de_callX (pe_call G_require_clock (hr.mono (by first | decide | omega)) (by rfl) D_require_clock.g D_require_clock.F.kp D_require_clock.b .nil (passes_call (takes_of rfl rfl rfl rfl) (fun _ _ _ _ h => h)) (da_cons (dv 1) (da_cons (dv 2) da_nil))) hW hE))
      (dss_cons (ds_if (dt_not (dt_val (de_call (pe_call G_is_word (hr.mono (by first | decide | omega)) (by rfl) D_is_word.g D_is_word.F.kp D_is_word.b .nil pass0 (da_cons (dv 3) da_nil)) hW))) (dss_one (ds_raise E_BadWord (hr.mono (by first | decide | omega)) hK rfl hE rfl rfl (takes_of rfl rfl rfl rfl) (dv 3) (by rfl))) dss_nil)
      (dss_one (ds_ret (de_ix ix_all sn_ix (de_call (pe_call G_later_standing (hr.mono (by first | decide | omega)) (by rfl) D_later_standing.g D_later_standing.F.kp D_later_standing.b .nil pass0 (da_cons (dv 0) (da_cons (dv 3) (da_cons (de_call (pe_call G_clock_steps (hr.mono (by first | decide | omega)) (by rfl) D_clock_steps.g D_clock_steps.F.kp D_clock_steps.b .nil pass0 (da_cons (de_cb (pe_callB call_len (by rfl) T.len (by decide +kernel) (da_cons (dv 3) da_nil)) sn_len) (da_cons (dv 1) (da_cons (dv 2) da_nil)))) hW) da_nil)))) hW) de_int (fun _ _ => rfl))))))), fun ds Kk h => ?_⟩
  obtain ⟨m, c, d, wd, rfl, hs, h1, h2, h3, h4, h5⟩ := h
  (try simp only [DL.iteB_true, DL.iteB_false, DL.sSeq, DL.sNext, DL.sRet, DL.sRetN, DL.sIf, DL.sAsg, DL.sNew, DL.sDrop, DL.sRel, DL.sApp, DL.sFor, DL.sBreak, DL.sCont, DL.sAsgT, DL.sPar, DL.sPar3, DL.sPar3DFD, DL.sParFD, DL.sParDF, DL.sExt, DL.sPut, DL.sAug, DL.sCut, DL.sRaise, DL.sWhile, DL.fVar, DL.fC, DL.fOb, DL.fGts, DL.f2, DL.f1, DL.fCall, DL.fB, DL.fTru, DL.fAnd, DL.fOr, DL.fNot, DL.fIf, DL.tAndD, DL.tOrD, DL.tNotD, DL.fNil, DL.fCons, DL.fTup, DL.fLst, DL.fDnew, DL.fNew, DL.fIt, DL.fRng1, DL.fRng2, DL.fLc, DL.fAG, DL.fFn, DL.fFnX, DL.fFnK, DL.fSl, DL.fNone, DL.fPart, DL.fList, DL.fM0, DL.fM1, DL.tYesD, DL.gdN, DL.gdT_t, DL.gdNil_n, DL.gdCons_c, DL.op2, DL.op1, DL.opC, DL.c1, DL.isiP, DL.typeO, DL.tyIs, DL.inG, DL.isND, DL.rel, DL.wipeD, DL.le_s0, DL.le_s1, DL.le_s2, DL.le_s3, DL.le_s4, DL.le_s5, DL.le_s6, DL.le_s7, DL.le_s8, DL.le_s9, DL.le_s10, DL.le_s11, DL.le_s12, DL.le_s13, DL.le_s14, DL.le_s15, DL.le_s16, DL.le_s17, DL.le_s18, DL.le_s19, DL.le_s20, DL.le_s21, DL.le_s22, DL.le_s23, DL.le_s24, DL.le_s25, DL.le_s26, DL.le_s27, DL.le_s28, DL.le_s29, DL.le_s30, DL.le_s31, DL.le_s32, DL.le_s33, DL.le_s34, DL.le_s35, DL.le_s36, DL.le_s37, DL.le_s38, DL.le_s39, DL.le_s40, DL.le_s41, DL.le_s42, DL.le_s43, DL.le_s44, DL.le_s45, DL.le_s46, DL.le_s47, DL.le_s48, DL.le_s49, DL.le_s50, DL.le_s51, DL.le_s52, DL.le_s53, DL.le_s54, DL.le_s55, DL.le_s56, DL.le_s57, DL.le_s58, DL.le_s59, DL.le_s60, DL.le_s61, DL.le_s62, DL.le_s63, DL.le_s64, DL.start0, DL.asDat, DL.lend, DL.noOwn, DL.DV.isOwn, DL.pd_dat, DL.pd_own, DL.ocpd_lst, DL.ocpd_dk, DL.itemsOf, List.map_cons, List.map_nil, List.append_nil, List.cons_append, List.nil_append, List.length_cons, List.length_nil, List.replicate_succ, List.replicate_zero, List.getElem?_cons_zero, List.getElem?_cons_succ, List.set_cons_zero, List.set_cons_succ, Nat.reduceSub, Nat.reduceAdd, Nat.sub_self, Nat.zero_add, Option.some.injEq, DL.DV.dat.injEq, PyData.bool.injEq, PyData.int.injEq, PyData.str.injEq, PyData.tuple.injEq, PyData.list.injEq, DL.DV.ob.injEq, V.ty.injEq, DL.DV.own.injEq, DL.OC.lst.injEq, List.cons.injEq, Option.map_some, exists_eq_left', exists_eq_left, exists_eq_right, exists_eq_right', exists_and_left, and_true, true_and, Bool.not_true, Bool.not_false, Bool.and_true, Bool.true_and, true_or, Bool.not_eq_true', Bool.false_eq_true, if_true, if_false, reduceIte, reduceCtorEq])
  refine ⟨m, rfl, fun hm => ⟨c, d, rfl, h2 hm, h3 hm, fun hc hd => ⟨wd, rfl, hs, _, rfl, ?_⟩⟩, h1⟩
  cases hw : wordB wd with
  | false => exact h4 hm hc hd hw
  | true =>
    obtain ⟨xs, rfl⟩ := mach_tup hm
    obtain ⟨z, rfl⟩ : ∃ z, wd = .str z := by
      cases wd with
      | str z => exact ⟨z, rfl⟩
      | _ => cases hw
    obtain ⟨c, rfl⟩ : ∃ k, c = .int k := by
      cases c with
      | int k => exact ⟨k, rfl⟩
      | _ => cases hc
    obtain ⟨d, rfl⟩ : ∃ k, d = .int k := by
      cases d with
      | int k => exact ⟨k, rfl⟩
      | _ => cases hd
    obtain ⟨st, sm, hk⟩ := h5 xs c d z rfl rfl rfl rfl hm hc hd hw
    have cl := clock_le sm
    have hl := sm.2.1
    have z0 : ("" : Str).length = 0 := rfl
    obtain ⟨n', l', r', en, st1, _⟩ := after_is (clockN z.length c d).toNat st (by omega)
    rw [out_of en] at hk
    simp only [iteB_true, iteB_false, Bool.not_true]
    rw [lenP_s]
    refine ⟨hs z rfl, _, c, d, rfl, sm, xs, z, _, rfl, st, cl.1, by omega, by omega, ?_⟩
    rw [en]
    show ixP _ _ _
    rw [ixP_t]
    exact ⟨_, atI_o _ _ _, hk⟩
def F_lout : FnD := fun ds K _ => ∃ (xs : List PyData) (c d : Int) (w : Str), ds = [.dat (.tuple xs), .dat (.int c), .dat (.int d), .dat (.str w)] ∧ Stand xs 0 w "" ∧ small w.length c d ∧ K (outD xs w (clockN w.length c d).toNat)
theorem ok_lout {fd fdC fdA : FuncData} (T : TbL mg) (D : Df K mg "_law_outcome" s__law_outcome P__law_outcome fd) (D__law_clock : Df K mg "_law_clock" s__law_clock P__law_clock fdC) (D__law_after : Df K mg "_law_after" s__law_after PVL.P__law_after fdA) (G__law_after : FnOk P w K mg base CX0 5 (He.fAd K ("_law_after", none)) fdA PVL.P__law_after (spD (WP K Tl) F_after2)) :
    FnOk P w K mg base CX0 7 (He.fAd K ("_law_outcome", none)) fd P__law_outcome (spD (WP K Tl) F_lout) := by
  have G__law_clock := ok_lclock (P := P) (w := w) (base := base) (Tl := Tl) T D__law_clock
  refine okD D.F sc__law_outcome (fun ds Kk KE h => by obtain ⟨xs, c, d, w, rfl, _⟩ := h; rfl) (fun W cdv A outer s E hW hcd hr => ?_)
  have hK : W.K = K := hW.k
  refine ⟨_, (dss_one (ds_ret (de_ix ix_all sn_ix (de_call (pe_call G__law_after (hr.mono (by first | decide | omega)) (by rfl) D__law_after.g D__law_after.F.kp D__law_after.b .nil pass0 (da_cons (dv 0) (da_cons (de_tup (da_cons de_int (da_cons (dv 3) (da_cons de_str da_nil)))) (da_cons (de_call (pe_call G__law_clock (hr.mono (by first | decide | omega)) (by rfl) D__law_clock.g D__law_clock.F.kp D__law_clock.b .nil pass0 (da_cons (de_cb (pe_callB call_len (by rfl) T.len (by decide +kernel) (da_cons (dv 3) da_nil)) sn_len) (da_cons (dv 1) (da_cons (dv 2) da_nil)))) hW) da_nil)))) hW) de_int (fun _ _ => rfl)))), fun ds Kk KE h => ?_⟩
  obtain ⟨xs, c, d, wd, rfl, st, sm, h⟩ := h
  have cl := clock_le sm
  have hl := sm.2.1
  have z0 : ("" : Str).length = 0 := rfl
  obtain ⟨n', l', r', en, st1, _⟩ := after_is (clockN wd.length c d).toNat st (by omega)
  rw [out_of en] at h
  (try simp only [DL.iteB_true, DL.iteB_false, DL.sSeq, DL.sNext, DL.sRet, DL.sRetN, DL.sIf, DL.sAsg, DL.sNew, DL.sDrop, DL.sRel, DL.sApp, DL.sFor, DL.sBreak, DL.sCont, DL.sAsgT, DL.sPar, DL.sPar3, DL.sPar3DFD, DL.sParFD, DL.sParDF, DL.sExt, DL.sPut, DL.sAug, DL.sCut, DL.sRaise, DL.sWhile, DL.fVar, DL.fC, DL.fOb, DL.fGts, DL.f2, DL.f1, DL.fCall, DL.fB, DL.fTru, DL.fAnd, DL.fOr, DL.fNot, DL.fIf, DL.tAndD, DL.tOrD, DL.tNotD, DL.fNil, DL.fCons, DL.fTup, DL.fLst, DL.fDnew, DL.fNew, DL.fIt, DL.fRng1, DL.fRng2, DL.fLc, DL.fAG, DL.fFn, DL.fFnX, DL.fFnK, DL.fSl, DL.fNone, DL.fPart, DL.fList, DL.fM0, DL.fM1, DL.tYesD, DL.gdN, DL.gdT_t, DL.gdNil_n, DL.gdCons_c, DL.op2, DL.op1, DL.opC, DL.c1, DL.isiP, DL.typeO, DL.tyIs, DL.inG, DL.isND, DL.rel, DL.wipeD, DL.le_s0, DL.le_s1, DL.le_s2, DL.le_s3, DL.le_s4, DL.le_s5, DL.le_s6, DL.le_s7, DL.le_s8, DL.le_s9, DL.le_s10, DL.le_s11, DL.le_s12, DL.le_s13, DL.le_s14, DL.le_s15, DL.le_s16, DL.le_s17, DL.le_s18, DL.le_s19, DL.le_s20, DL.le_s21, DL.le_s22, DL.le_s23, DL.le_s24, DL.le_s25, DL.le_s26, DL.le_s27, DL.le_s28, DL.le_s29, DL.le_s30, DL.le_s31, DL.le_s32, DL.le_s33, DL.le_s34, DL.le_s35, DL.le_s36, DL.le_s37, DL.le_s38, DL.le_s39, DL.le_s40, DL.le_s41, DL.le_s42, DL.le_s43, DL.le_s44, DL.le_s45, DL.le_s46, DL.le_s47, DL.le_s48, DL.le_s49, DL.le_s50, DL.le_s51, DL.le_s52, DL.le_s53, DL.le_s54, DL.le_s55, DL.le_s56, DL.le_s57, DL.le_s58, DL.le_s59, DL.le_s60, DL.le_s61, DL.le_s62, DL.le_s63, DL.le_s64, DL.start0, DL.asDat, DL.lend, DL.noOwn, DL.DV.isOwn, DL.pd_dat, DL.pd_own, DL.ocpd_lst, DL.ocpd_dk, DL.itemsOf, List.map_cons, List.map_nil, List.append_nil, List.cons_append, List.nil_append, List.length_cons, List.length_nil, List.replicate_succ, List.replicate_zero, List.getElem?_cons_zero, List.getElem?_cons_succ, List.set_cons_zero, List.set_cons_succ, Nat.reduceSub, Nat.reduceAdd, Nat.sub_self, Nat.zero_add, Option.some.injEq, DL.DV.dat.injEq, PyData.bool.injEq, PyData.int.injEq, PyData.str.injEq, PyData.tuple.injEq, PyData.list.injEq, DL.DV.ob.injEq, V.ty.injEq, DL.DV.own.injEq, DL.OC.lst.injEq, List.cons.injEq, Option.map_some, exists_eq_left', exists_eq_left, exists_eq_right, exists_eq_right', exists_and_left, and_true, true_and, Bool.not_true, Bool.not_false, Bool.and_true, Bool.true_and, true_or, Bool.not_eq_true', Bool.false_eq_true, if_true, if_false, reduceIte, reduceCtorEq])
  rw [lenP_s]
  refine ⟨by rw [sizeLine_eq]; omega, _, c, d, rfl, sm, xs, 0, wd, "", _, rfl, st, cl.1, by omega, by omega, ?_⟩
  rw [en]
  show ixP _ _ _
  rw [ixP_t]
  exact ⟨_, atI_o _ _ _, h⟩
theorem out_is {xs : List PyData} {w : Str} {k : Nat} (st : Stand xs 0 w "") (h : w.length + k ≤ 100000) : ∃ l, outD xs w k = .str l ∧ isW l = true ∧ l.length ≤ w.length + k := by
  have z0 : ("" : Str).length = 0 := rfl
  obtain ⟨n, l, r, e, s1, h1⟩ := after_is k st (by omega)
  exact ⟨l, out_of e, s1.wl, by omega⟩
theorem say_out {xs : List PyData} {w : Str} {k : Nat} (st : Stand xs 0 w "") (h : w.length + k ≤ 10000) : Say (outD xs w k) := by
  obtain ⟨l, e, h1, h2⟩ := out_is (k := k) st (by omega)
  rw [e]
  exact (nb_word h1 (n := 10000) (by omega)).say (by decide) (by rw [sizeLine_eq]; decide)
theorem out_ok {xs : List PyData} {wd : Str} {c d : Int} {Kk : PyData → Prop} {KE : Str → PyData → Prop} (st : Stand xs 0 wd "") (sm : small wd.length c d) (h : Kk (outD xs wd (clockN wd.length c d).toNat)) : F_out [.dat (.tuple xs), .dat (.int c), .dat (.int d), .dat (.str wd)] Kk KE := by
  refine ⟨_, _, _, _, rfl, fun z e => ?_, fun hm => ?_, fun _ hb => ?_, fun _ _ hb => ?_, fun _ _ _ hb => ?_, fun xs' c' d' w' e1 e2 e3 e4 _ _ _ _ => ?_⟩
  · cases e
    have := sm.2.1
    rw [sizeLine_eq]
    omega
  · rw [st.m] at hm
    cases hm
  · rw [show wholeD (.int c) = true from decide_eq_true sm.2.2.1] at hb
    cases hb
  · rw [show wholeD (.int d) = true from decide_eq_true sm.2.2.2.2.1] at hb
    cases hb
  · rw [show wordB (.str wd) = true from st.wl] at hb
    cases hb
  · cases e1
    cases e2
    cases e3
    cases e4
    exact ⟨st, sm, h⟩
def capS (n : Nat) : PyData → Bool
  | .str z => decide (z.length ≤ n)
  | _ => true
theorem capSAll {n : Nat} {xs : List PyData} (h : xs.all (capS n) = true) : ∀ e ∈ xs, ∀ z, e = .str z → z.length ≤ n := fun e he z ez => by
  subst ez
  exact of_decide_eq_true (List.all_eq_true.mp h _ he)
end
end P90


set_option Elab.async false
set_option linter.all false
set_option maxRecDepth 100000
set_option maxHeartbeats 1000000
/-! Times over data: ints, a text some times, a tuple some times; the greater, the lesser of two. -/
namespace DL
open PySem PySem.Spec PyProof.Rows L2 KT KG KX KY KE0 KQ LK GxR
section
variable {X : Cx} {W : Wd}
def rMulS : R2 := fun x y H Q => ∃ z k, x = V.str z ∧ y = V.int k ∧ MulOk z k ∧ Q (V.str (Txt.mul z k)) H
theorem op_mulS : OpR X (binaryOp .Mult) rMulS := by
  intro pins s σ H x y v u Q I rx ry h
  obtain ⟨z, k, rfl, rfl, ok, q⟩ := h
  obtain ⟨t, rfl⟩ := rx
  obtain ⟨t', rfl⟩ := ry
  exact SB.mul ok fun t2 k2 => ⟨.str _, H, I.kept (t' := k2) fun _ _ e => e, ⟨t2, rfl⟩, q⟩
theorem op_mulD : OpR X (binaryOp .Mult) (fun x y H Q => rI CMulW (fun i j => .int (i * j)) x y H Q ∨ rMulS x y H Q ∨ rRepT X.K x y H Q) := OpR.or op_mulW (OpR.or op_mulS op_repT)
def mulP : PyData → PyData → (PyData → Prop) → Prop
  | .int a, .int b, K => CMulW a b ∧ K (.int (a * b))
  | .str z, .int k, K => MulOk z k ∧ K (.str (Txt.mul z k))
  | .tuple xs, .int k, K => xs ≠ [] ∧ 2 ≤ k ∧ k ≤ 1000 ∧ xs.length ≤ 1000 ∧ K (.tuple (List.replicate k.toNat xs).flatten)
  | _, _, _ => False
theorem DxAll.rep {M : Addr → Prop} {H : Hp} {vs : List V} {ds : List PyData} (h : DxAll M H vs ds) : ∀ n : Nat, DxAll M H (List.replicate n vs).flatten (List.replicate n ds).flatten
  | 0 => .nil
  | n + 1 => by
    simp only [List.replicate_succ, List.flatten_cons]
    exact h.app (DxAll.rep h n)
theorem sn_mulD : Snd2 W (fun x y H Q => rI CMulW (fun i j => .int (i * j)) x y H Q ∨ rMulS x y H Q ∨ rRepT X.K x y H Q) (op2 mulP) := by
  intro M H x y dx dy K Q g rx ry h c
  obtain ⟨d, e, hd, he, h⟩ := h
  cases d with
  | int a =>
    cases e with
    | int b =>
      cases pd_int hd rx
      cases pd_int he ry
      exact .inl ⟨a, b, rfl, rfl, h.1, c _ h.2 _ H .refl (Dx.int _)⟩
    | _ => exact h.elim
  | str z =>
    cases e with
    | int b =>
      cases pd_str hd rx
      cases pd_int he ry
      exact .inr (.inl ⟨z, b, rfl, rfl, h.1, c _ h.2 _ H .refl (Dx.str _)⟩)
    | _ => exact h.elim
  | tuple xs =>
    cases e with
    | int b =>
      cases pd_int he ry
      obtain ⟨h1, h2, h3, h4, hk⟩ := h
      obtain ⟨a, vs, rfl, eb, rb⟩ := pd_tup hd rx
      refine .inr (.inr ⟨_, b, vs, rfl, rfl, SqT.of eb, fun z => ?_, h2, h3, by rw [DxAll.length rb]; exact h4, fun p np => ?_⟩)
      · subst z
        have := DxAll.length rb
        exact h1 (List.eq_nil_of_length_eq_zero this.symm)
      · exact c _ hk _ _ (.new np) (Dx.tup upd_same (Dx.kpAll (Kp.same (same_new np)) _ _ (DxAll.rep rb b.toNat)))
    | _ => exact h.elim
  | _ => exact h.elim
def max2P : List DV → (DV → Prop) → Prop := fun xs K => ∃ i j : Int, xs = [.dat (.int i), .dat (.int j)] ∧ K (.dat (.int (if j > i then j else i)))
def min2P : List DV → (DV → Prop) → Prop := fun xs K => ∃ i j : Int, xs = [.dat (.int i), .dat (.int j)] ∧ K (.dat (.int (if j < i then j else i)))
def max3P : List DV → (DV → Prop) → Prop := fun xs K => ∃ i j k : Int, xs = [.dat (.int i), .dat (.int j), .dat (.int k)] ∧ K (.dat (.int (if k > (if j > i then j else i) then k else (if j > i then j else i))))
theorem sn_max2 : SndC W (fun xs H Q => ∃ i j, xs = [V.int i, V.int j] ∧ Q (.int (if j > i then j else i)) H) max2P := by
  intro M H xs ds K Q g rs h c
  obtain ⟨i, j, rfl, hk⟩ := h
  obtain ⟨v, u, rfl, r1, r2⟩ := rel2 rs
  cases relI r1
  cases relI r2
  exact ⟨i, j, rfl, c _ hk _ H .refl (Dx.int _)⟩
theorem sn_min2 : SndC W (fun xs H Q => ∃ i j, xs = [V.int i, V.int j] ∧ Q (.int (if j < i then j else i)) H) min2P := by
  intro M H xs ds K Q g rs h c
  obtain ⟨i, j, rfl, hk⟩ := h
  obtain ⟨v, u, rfl, r1, r2⟩ := rel2 rs
  cases relI r1
  cases relI r2
  exact ⟨i, j, rfl, c _ hk _ H .refl (Dx.int _)⟩
theorem nu_max2 (i j : Int) : nuMax2 (.int i) (.int j) = some (.int (if j > i then j else i)) := by
  have e : nuLt (.int i) (.int j) = some (decide (i < j)) := rfl
  unfold nuMax2
  rw [e]
  by_cases h : i < j
  · simp [h]
  · simp [h]
theorem sn_max3 : SndC W (rNuC3 nuMax3) max3P := by
  intro M H xs ds K Q g rs h c
  obtain ⟨i, j, k, rfl, hk⟩ := h
  obtain ⟨v, u, z, rfl, r1, r2, r3⟩ := rel3 rs
  cases relI r1
  cases relI r2
  cases relI r3
  refine ⟨_, _, _, _, rfl, ?_, c _ hk _ H .refl (Dx.int _)⟩
  unfold nuMax3
  rw [nu_max2]
  exact nu_max2 _ _
theorem mulP_ii (K : PyData → Prop) (a b : Int) : mulP (.int a) (.int b) K = (CMulW a b ∧ K (.int (a * b))) := rfl
theorem mulP_si (K : PyData → Prop) (z : Str) (k : Int) : mulP (.str z) (.int k) K = (MulOk z k ∧ K (.str (Txt.mul z k))) := rfl
theorem mulP_ti (K : PyData → Prop) (xs : List PyData) (k : Int) : mulP (.tuple xs) (.int k) K = (xs ≠ [] ∧ 2 ≤ k ∧ k ≤ 1000 ∧ xs.length ≤ 1000 ∧ K (.tuple (List.replicate k.toNat xs).flatten)) := rfl
theorem mulOk_1 {z : Str} (h : z.length ≤ 1) {k : Int} (h0 : 0 ≤ k) (h1 : k ≤ 1000000) : MulOk z k := by
  refine ⟨?_, fun _ _ => ?_, fun _ _ => ?_⟩
  · rw [decide_eq_false (by omega), decide_eq_false (by omega)]
    rfl
  · have h3 : (1 : Int) ≤ (2 ^ 63 - 1) / k ∨ ¬ 0 < k := by
      by_cases z : 0 < k
      · left
        exact (Int.le_ediv_iff_mul_le z).mpr (by omega)
      · exact .inr z
    rcases h3 with h3 | h3
    · omega
    · have : k = 0 := by omega
      omega
  · have a1 : z.length * k.toNat ≤ 1 * 1000000 := Nat.mul_le_mul h (by omega)
    show decide (z.length * k.toNat > sizeLine) = false
    refine decide_eq_false ?_
    rw [sizeLine_eq]
    omega
theorem mulOk_s {z : Str} (h : z.length ≤ 1000) {k : Int} (h0 : 0 ≤ k) (h1 : k ≤ 1000) : MulOk z k := by
  refine ⟨?_, fun a _ => ?_, fun _ _ => ?_⟩
  · rw [decide_eq_false (by omega), decide_eq_false (by omega)]
    rfl
  · have h3 : (1000 : Int) ≤ (2 ^ 63 - 1) / k := (Int.le_ediv_iff_mul_le (by omega)).mpr (by omega)
    omega
  · have a1 : z.length * k.toNat ≤ 1000 * 1000 := Nat.mul_le_mul h (by omega)
    show decide (z.length * k.toNat > sizeLine) = false
    refine decide_eq_false ?_
    rw [sizeLine_eq]
    omega
end
end DL

set_option Elab.async false
set_option linter.all false
set_option maxRecDepth 100000
set_option maxHeartbeats 1000000
/-! Machines whose outcomes can be told. -/
namespace P91
open PySem PySem.Spec PyProof.Rows L2 KT KG KM KX KY KE0 KQ LK GxR DL KA DW PA PB PC PD PE PF PG QF WT LB PT PU PL PN PVL P90
def R (to : Int) (d : Str) : PyData := .tuple [.int to, .str d]
theorem same3 {xs : List PyData} {i : Nat} {to : Int} {d : Str} (h : xs[i]? = some (.tuple [R to d, R to d, R to d])) {j : Nat} (hj : j < 3) : ruleAt xs i j = (.int to, d) := by
  unfold ruleAt
  rw [h]
  match j, hj with
  | 0, _ => rfl
  | 1, _ => rfl
  | 2, _ => rfl
theorem next_of {xs : List PyData} {n : Int} {l r : Str} {to : Int} {d : Str} (hn : (n == (xs.length : Int)) = false) (h : ruleAt xs n.toNat (letS l) = (.int to, d)) : nextD xs n l r = .tuple [.int to, .str (pa d l r).1, .str (pa d l r).2] := by
  unfold nextD
  rw [hn, h]
  rfl
/-! ### a text some times -/
def fm (c : Str) (n : Nat) : Str := ⟨(List.replicate n c.cps).foldl (· ++ ·) #[]⟩
theorem fm_succ (c : Str) (n : Nat) : fm c (n + 1) = fm c n ++ c := by
  unfold fm
  rw [List.replicate_succ', List.foldl_append]
  rfl
theorem mul_fm {c : Str} (h : c.length ≠ 0) (n : Nat) : Txt.mul c (n : Int) = fm c n := by
  unfold Txt.mul
  match n with
  | 0 => rfl
  | 1 =>
    rw [if_neg (by decide), if_pos (by rfl)]
    show c = ⟨#[] ++ c.cps⟩
    simp
  | n + 2 =>
    rw [if_neg (by omega), if_neg (by
      have e : c.length ≠ 0 := h
      simp only [Bool.or_eq_true, beq_iff_eq, not_or]
      exact ⟨by omega, e⟩)]
    rfl
theorem app_assoc (a b c : Str) : a ++ b ++ c = a ++ (b ++ c) := Str.append_assoc a b c
/-! ### ways 0, 1, 2 -/
theorem way0 {c d : Str} (hd : ∀ l r, pa d l r = (l ++ c, r)) {w : Str} (hw : isW w = true) (hc : isW c = true) : ∀ k, afterD [.tuple [R 0 d, R 0 d, R 0 d]] k (.tuple [.int 0, .str w, .str ""]) = .tuple [.int 0, .str (w ++ fm c k), .str ""] ∧ isW (w ++ fm c k) = true
  | 0 => by
    have e : w ++ fm c 0 = w := app_nil w
    rw [e]
    exact ⟨rfl, hw⟩
  | k + 1 => by
    obtain ⟨h1, h2⟩ := way0 hd hw hc k
    rw [after_step, h1]
    refine ⟨?_, ?_⟩
    · show nextD _ 0 _ _ = _
      rw [next_of (to := 0) (d := d) rfl (same3 rfl (letS_lt h2)), hd, fm_succ, app_assoc]
    · rw [fm_succ, ← app_assoc]
      exact isW_app h2 hc
def takeS (w : Str) (i : Nat) : Str := ⟨(w.cps.toList.take i).toArray⟩
theorem takeS_all {w : Str} {i : Nat} (h : w.length ≤ i) : takeS w i = w := by
  unfold takeS
  rw [List.take_of_length_le (by simpa [Str.length] using h)]
theorem takeS_W {w : Str} (h : isW w = true) (i : Nat) : isW (takeS w i) = true := isW_of fun c hc => isW_mem h c (List.mem_of_mem_take (by
  have hc : c ∈ (w.cps.toList.take i).toArray.toList := hc
  rw [List.toList_toArray] at hc
  exact hc))
theorem takeS_init {w : Str} {i : Nat} (h : i ≤ w.length) : initS (takeS w i) = takeS w (i - 1) := by
  have hl : (takeS w i).length = i := by
    show Array.size _ = _
    unfold takeS
    simp only [List.size_toArray, List.length_take, Array.length_toList]
    exact Nat.min_eq_left h
  have e1 : HT.sIx (takeS w i).length 0 none = 0 := rfl
  have e2 : HT.sIx (takeS w i).length (takeS w i).length (some (-1)) = i - 1 := by
    rw [hl]
    show (if (-1 : Int) < 0 then ((-1 : Int) + ((i : Nat) : Int)).toNat else min (-1 : Int).toNat i) = _
    rw [if_pos (by decide)]
    omega
  unfold initS cutS
  rw [e1, e2]
  unfold takeS
  rw [List.toList_toArray, List.drop_zero, List.take_take, Nat.sub_zero, Nat.min_eq_left (by omega)]
theorem way1 {d : Str} (hd : ∀ l r, ∃ r', pa d l r = (initS l, r')) {w : Str} (hw : isW w = true) : ∀ k, ∃ r, afterD [.tuple [R 0 d, R 0 d, R 0 d]] k (.tuple [.int 0, .str w, .str ""]) = .tuple [.int 0, .str (takeS w (w.length - k)), .str r]
  | 0 => ⟨"", by rw [Nat.sub_zero, takeS_all (Nat.le_refl _)]; rfl⟩
  | k + 1 => by
    obtain ⟨r, h1⟩ := way1 hd hw k
    obtain ⟨r', h2⟩ := hd (takeS w (w.length - k)) r
    refine ⟨r', ?_⟩
    rw [after_step, h1]
    show nextD _ 0 _ _ = _
    rw [next_of (to := 0) (d := d) rfl (same3 rfl (letS_lt (takeS_W hw _))), h2, takeS_init (by omega), Nat.sub_sub]
theorem initS_app {w : Str} {c : Nat} : initS (w ++ ⟨#[c]⟩) = w := by
  have e : w ++ (⟨#[c]⟩ : Str) = ⟨(w.cps.toList ++ [c]).toArray⟩ := by
    show (⟨w.cps ++ #[c]⟩ : Str) = _
    congr 1
    apply Array.ext'
    simp
  have hl : (w ++ (⟨#[c]⟩ : Str)).length = w.length + 1 := Str.length_append _ _
  have e1 : HT.sIx (w ++ (⟨#[c]⟩ : Str)).length 0 none = 0 := rfl
  have e2 : HT.sIx (w ++ (⟨#[c]⟩ : Str)).length (w ++ (⟨#[c]⟩ : Str)).length (some (-1)) = w.length := by
    rw [hl]
    show (if (-1 : Int) < 0 then ((-1 : Int) + ((w.length + 1 : Nat) : Int)).toNat else min (-1 : Int).toNat (w.length + 1)) = _
    rw [if_pos (by decide)]
    omega
  unfold initS cutS
  rw [e1, e2, e]
  show (⟨((((w.cps.toList ++ [c]).toArray).toList.drop 0).take (w.length - 0)).toArray⟩ : Str) = w
  rw [List.toList_toArray, List.drop_zero, Nat.sub_zero]
  have : w.length = w.cps.toList.length := by simp [Str.length]
  rw [this, List.take_left]
theorem way2 {w : Str} (hw : isW w = true) : ∀ k, afterD [.tuple [R 1 "put1", R 1 "put1", R 1 "put1"], .tuple [R 0 "cut", R 0 "cut", R 0 "cut"]] k (.tuple [.int 0, .str w, .str ""]) = (if k % 2 = 0 then .tuple [.int 0, .str w, .str ""] else .tuple [.int 1, .str (w ++ "1"), .str ""])
  | 0 => rfl
  | k + 1 => by
    have b1 : isW "1" = true := by decide +kernel
    rw [after_step, way2 hw k]
    by_cases h : k % 2 = 0
    · rw [if_pos h, if_neg (by omega)]
      show nextD _ 0 _ _ = _
      rw [next_of (to := 1) (d := "put1") rfl (same3 rfl (letS_lt hw)), pa_put1]
    · rw [if_neg h, if_pos (by omega)]
      show nextD _ 1 _ _ = _
      rw [next_of (to := 0) (d := "cut") rfl (same3 rfl (letS_lt (isW_app hw b1))), pa_cut]
      have e1 : ("1" : Str) = ⟨#[49]⟩ := by decide +kernel
      rw [e1, initS_app]
/-! ### way 3: all over, then all back -/
def backS (w : Str) (i : Nat) : Str := ⟨(w.cps.toList.drop i).reverse.toArray⟩
theorem backS_all {w : Str} : backS w w.length = "" := by
  unfold backS
  rw [List.drop_of_length_le (by simp [Str.length])]
  rfl
theorem takeS_nil (w : Str) : takeS w 0 = "" := rfl
theorem takeS_snoc {w : Str} {i : Nat} (h : i < w.cps.toList.length) : takeS w (i + 1) = ⟨(w.cps.toList.take i ++ [w.cps.toList[i]]).toArray⟩ := by
  unfold takeS
  rw [List.take_succ_eq_append_getElem h]
theorem backS_snoc {w : Str} {i : Nat} (h : i < w.cps.toList.length) : backS w i = ⟨((w.cps.toList.drop (i + 1)).reverse ++ [w.cps.toList[i]]).toArray⟩ := by
  unfold backS
  rw [List.drop_eq_getElem_cons h, List.reverse_cons]
theorem snoc_app (xs : List Nat) (c : Nat) : (⟨xs.toArray⟩ : Str) ++ ⟨#[c]⟩ = ⟨(xs ++ [c]).toArray⟩ := by
  show (⟨xs.toArray ++ #[c]⟩ : Str) = _
  congr 1
  simp
theorem initS_snoc (xs : List Nat) (c : Nat) : initS ⟨(xs ++ [c]).toArray⟩ = ⟨xs.toArray⟩ := by
  rw [← snoc_app, initS_app]
theorem over1 {w : Str} {i : Nat} (h : i < w.length) : pa "over" (takeS w (i + 1)) (backS w (i + 1)) = (takeS w i, backS w i) := by
  have h : i < w.cps.toList.length := by simpa [Str.length] using h
  rw [pa_over, takeS_snoc h, initS_snoc, lastS_snoc, backS_snoc h]
  unfold backS
  rw [snoc_app]
  rfl
theorem back1 {w : Str} {i : Nat} (h : i < w.length) : pa "back" (takeS w i) (backS w i) = (takeS w (i + 1), backS w (i + 1)) := by
  have h : i < w.cps.toList.length := by simpa [Str.length] using h
  rw [pa_back, takeS_snoc h, backS_snoc h, initS_snoc, lastS_snoc]
  unfold takeS
  rw [snoc_app]
  rfl
def carried : List PyData := [.tuple [R 1 "stay", R 0 "over", R 0 "over"], .tuple [R 1 "back", R 1 "back", R 1 "back"]]
theorem takeS_len {w : Str} {i : Nat} (h : i ≤ w.length) : (takeS w i).length = i := by
  show Array.size _ = _
  unfold takeS
  simp only [List.size_toArray, List.length_take, Array.length_toList]
  exact Nat.min_eq_left h
theorem over_rule {l : Str} (hw : isW l = true) (h : l ≠ "") : ruleAt carried 0 (letS l) = ((PyData.int 0 : PyData), ("over" : Str)) := by
  have h3 := letS_lt hw
  have h0 : letS l ≠ 0 := by
    unfold letS
    rw [show (l == "") = false from beq_eq_false_iff_ne.mpr h]
    obtain ⟨xs, c, rfl⟩ := str_snoc h
    show lastC _ - 47 ≠ 0
    rw [lastC_snoc]
    rcases isW_last hw with rfl | rfl <;> decide
  have : letS l = 1 ∨ letS l = 2 := by omega
  rcases this with e | e <;> rw [e] <;> rfl
theorem way3 {w : Str} (hw : isW w = true) : ∀ k, afterD carried k (.tuple [.int 0, .str w, .str ""]) = (if k ≤ w.length then .tuple [.int 0, .str (takeS w (w.length - k)), .str (backS w (w.length - k))] else .tuple [.int 1, .str (takeS w (min w.length (k - w.length - 1))), .str (backS w (min w.length (k - w.length - 1)))])
  | 0 => by
    rw [if_pos (Nat.zero_le _), Nat.sub_zero, takeS_all (Nat.le_refl _), backS_all]
    rfl
  | k + 1 => by
    rw [after_step, way3 hw k]
    by_cases h : k ≤ w.length
    · rw [if_pos h]
      show nextD carried 0 _ _ = _
      by_cases h2 : k = w.length
      · subst h2
        rw [Nat.sub_self, if_neg (by omega), takeS_nil]
        rw [next_of (to := 1) (d := "stay") rfl rfl, pa_stay]
        have e : min w.length (w.length + 1 - w.length - 1) = 0 := by omega
        rw [e, takeS_nil]
      · have hlt : k < w.length := by omega
        rw [if_pos (show k + 1 ≤ w.length by omega)]
        have e : w.length - k = (w.length - (k + 1)) + 1 := by omega
        have ne : takeS w (w.length - k) ≠ "" := fun z => by
          have h1 := takeS_len (w := w) (i := w.length - k) (by omega)
          rw [z] at h1
          have z0 : ("" : Str).length = 0 := rfl
          omega
        rw [next_of (to := 0) (d := "over") rfl (over_rule (takeS_W hw _) ne), e, over1 (by omega)]
    · rw [if_neg h, if_neg (by omega)]
      show nextD carried 1 _ _ = _
      rw [next_of (to := 1) (d := "back") rfl (same3 (d := "back") rfl (letS_lt (takeS_W hw _)))]
      by_cases h2 : k - w.length - 1 < w.length
      · have e1 : min w.length (k - w.length - 1) = k - w.length - 1 := by omega
        have e2 : min w.length (k + 1 - w.length - 1) = k - w.length - 1 + 1 := by omega
        rw [e1, e2, back1 h2]
      · have e1 : min w.length (k - w.length - 1) = w.length := by omega
        have e2 : min w.length (k + 1 - w.length - 1) = w.length := by omega
        rw [e1, e2, backS_all, pa_back, lastS_nil, app_nil, initS_nil]
/-! ### way 4 -/
def putTwo : List PyData := [.tuple [R 2 "put1", R 1 "put0", R 1 "put0"], .tuple [R 2 "put1", R 2 "put1", R 2 "put1"]]
theorem put_rule {l : Str} (hw : isW l = true) (h : l ≠ "") : ruleAt putTwo 0 (letS l) = ((PyData.int 1 : PyData), ("put0" : Str)) := by
  have h3 := letS_lt hw
  have h0 : letS l ≠ 0 := by
    unfold letS
    rw [show (l == "") = false from beq_eq_false_iff_ne.mpr h]
    obtain ⟨xs, c, rfl⟩ := str_snoc h
    show lastC _ - 47 ≠ 0
    rw [lastC_snoc]
    rcases isW_last hw with rfl | rfl <;> decide
  have : letS l = 1 ∨ letS l = 2 := by omega
  rcases this with e | e <;> rw [e] <;> rfl
theorem way4e : ∀ k, afterD putTwo (k + 1) (.tuple [.int 0, .str "", .str ""]) = .tuple [.int 2, .str "1", .str ""] := fun k => by
  have e : afterD putTwo (k + 1) (.tuple [.int 0, .str "", .str ""]) = afterD putTwo k (nextD putTwo 0 "" "") := rfl
  rw [e, next_of (to := 2) (d := "put1") rfl rfl, pa_put1]
  exact after_end rfl k
theorem way4 {w : Str} (hw : isW w = true) (h : w ≠ "") : afterD putTwo 1 (.tuple [.int 0, .str w, .str ""]) = .tuple [.int 1, .str (w ++ "0"), .str ""] ∧ ∀ k, afterD putTwo (k + 2) (.tuple [.int 0, .str w, .str ""]) = .tuple [.int 2, .str (w ++ "01"), .str ""] := by
  have b0 : isW "0" = true := by decide +kernel
  have e1 : nextD putTwo 0 w "" = .tuple [.int 1, .str (w ++ "0"), .str ""] := by
    rw [next_of (to := 1) (d := "put0") rfl (put_rule hw h), pa_put0]
  refine ⟨e1, fun k => ?_⟩
  have e : afterD putTwo (k + 2) (.tuple [.int 0, .str w, .str ""]) = afterD putTwo k (stepD putTwo (nextD putTwo 0 w "")) := rfl
  have e2 : nextD putTwo 1 (w ++ "0") "" = .tuple [.int 2, .str (w ++ "0" ++ "1"), .str ""] := by
    rw [next_of (to := 2) (d := "put1") rfl (same3 (d := "put1") rfl (letS_lt (isW_app hw b0))), pa_put1]
  rw [e, e1]
  show afterD putTwo k (nextD putTwo 1 (w ++ "0") "") = _
  have e3 := after_end (xs := putTwo) (n := 2) (l := w ++ "0" ++ "1") (r := "") rfl k
  rw [e2, e3, app_assoc, show (("0" : Str) ++ "1") = "01" from by decide +kernel]
end P91


set_option Elab.async false
set_option linter.all false
set_option maxRecDepth 100000
set_option maxHeartbeats 1000000
/-! Machines whose outcomes can be told, drawn. -/
namespace P92
open PySem PySem.Spec PyProof.Rows L2 KT KG KM KX KY KE0 KQ LK GxR DL KA DW PA PB PC PD PE PF PG QF WT LB PT PU PL PN PVL P90 P91
theorem fm_len {c : Str} (h : c.length = 1) : ∀ n, (fm c n).length = n
  | 0 => rfl
  | n + 1 => by
    rw [fm_succ, Str.length_append, fm_len h n, h]
theorem cut_takeS {w : Str} {i : Nat} (h : i ≤ w.length) : cutS w none (some (i : Int)) = takeS w i := by
  unfold cutS takeS
  rw [HT.sIx_none, HT.sIx_nat, List.drop_zero, Nat.sub_zero, Nat.min_eq_left h]
structure TbM (mg : Str → Option Value) : Prop where
  int : mg "int" = none
  len : mg "len" = none
  max : mg "max" = none
  min : mg "min" = none
abbrev N__law_told_machine : List Str := ["_law_deck_here", "_law_word_here", "_law_many", "_law_way", "_law_letter", "_law_deed", "_law_carried"]
abbrev P__law_told_machine : List Str := ["_law_deck_here", "_law_word_here", "_law_many"]
theorem sc__law_told_machine : FnScope N__law_told_machine P__law_told_machine (defScope s__law_told_machine) := ⟨rfl, rfl, rfl, by decide +kernel, rfl, by decide +kernel, by decide +kernel⟩
section
variable {P : Program} {w : World} {K : PySem.W.Frag} {mg : Str → Option Value} {base : Heap} {Tl : List Addr} {fn : Str → FuncData}
def F_told : FnD := fun ds K _ => ∃ (w : Str) (k : Int), ds = [.deck, .dat (.str w), .dat (.int k)] ∧ isW w = true ∧ w.length ≤ 6 ∧ 0 ≤ k ∧ k ≤ 1100 ∧ ∀ xs z, machB (.tuple xs) = true → xs.length ≤ 6 → outD xs w k.toNat = .str z → K (.tuple [.tuple xs, .str z])
theorem ok_told {fd fdD fdP : FuncData} (T : TbM mg) (D : Df K mg "_law_told_machine" s__law_told_machine P__law_told_machine fd) (D__law_draw : Df K mg "_law_draw" s__law_draw KA.P__law_draw fdD) (G__law_draw : FnOk P w K mg base CX0 1 (He.fAd K ("_law_draw", none)) fdD KA.P__law_draw (spD (WP K Tl) F_draw)) (D__law_pick : Df K mg "_law_pick" s__law_pick DW.P__law_pick fdP) (G__law_pick : FnOk P w K mg base CX0 2 (He.fAd K ("_law_pick", none)) fdP DW.P__law_pick (spD (WP K Tl) F_pick)) :
    FnOk P w K mg base CX0 4 (He.fAd K ("_law_told_machine", none)) fd P__law_told_machine (spD (WP K Tl) F_told) := by
  refine okD D.F sc__law_told_machine (fun ds Kk KE h => by obtain ⟨w, k, rfl, _⟩ := h; rfl) (fun W cdv A outer s E hW hcd hr => ?_)
  have hK : W.K = K := hW.k
  refine ⟨_, (dss_cons (ds_set (i := 3) sc__law_told_machine.nd rfl (.inl rfl) (de_call (pe_call G__law_draw (hr.mono (by first | decide | omega)) (by rfl) D__law_draw.g D__law_draw.F.kp D__law_draw.b .nil pass0 (da_cons (dv 0) (da_cons de_int da_nil))) hW))
      (dss_cons (ds_if (dt_cmp (op_eqX hr W.vol) sn_eq (dv 3) de_int) (dss_cons (ds_set (i := 4) sc__law_told_machine.nd rfl (.inl rfl) (de_call (pe_call G__law_pick (hr.mono (by first | decide | omega)) (by rfl) D__law_pick.g D__law_pick.F.kp D__law_pick.b .nil pass0 (da_cons (dv 0) (da_cons (de_new (df_lst (da_cons de_str (da_cons de_str da_nil)))) da_nil))) hW))
          (dss_one (ds_ret (de_tup (da_cons (de_tup (da_cons (de_op op_mulD sn_mulD (de_tup (da_cons (de_tup (da_cons de_int (da_cons (de_op op_addD sn_add de_str (dv 4)) da_nil))) da_nil)) de_int) da_nil)) (da_cons (de_op op_addD sn_add (dv 1) (de_op op_mulD sn_mulD (dv 4) (dv 2))) da_nil)))))) dss_nil)
      (dss_cons (ds_if (dt_cmp (op_eqX hr W.vol) sn_eq (dv 3) de_int) (dss_cons (ds_set (i := 5) sc__law_told_machine.nd rfl (.inl rfl) (de_call (pe_call G__law_pick (hr.mono (by first | decide | omega)) (by rfl) D__law_pick.g D__law_pick.F.kp D__law_pick.b .nil pass0 (da_cons (dv 0) (da_cons (de_new (df_lst (da_cons de_str (da_cons de_str da_nil)))) da_nil))) hW))
          (dss_one (ds_ret (de_tup (da_cons (de_tup (da_cons (de_op op_mulD sn_mulD (de_tup (da_cons (de_tup (da_cons de_int (da_cons (dv 5) da_nil))) da_nil)) de_int) da_nil)) (da_cons (de_slice (dv 1) do_none (do_some (de_cb (pe_callB (call_max2 rfl) (by rfl) T.max (by decide +kernel) (da_cons de_int (da_cons (de_op op_sub sn_int0 (de_cb (pe_callB call_len (by rfl) T.len (by decide +kernel) (da_cons (dv 1) da_nil)) sn_len) (dv 2)) da_nil))) sn_max2))) da_nil)))))) dss_nil)
      (dss_cons (ds_if (dt_cmp (op_eqX hr W.vol) sn_eq (dv 3) de_int) (dss_one (ds_ret (de_tup (da_cons (de_tup (da_cons (de_op op_mulD sn_mulD (de_tup (da_cons (de_tup (da_cons de_int (da_cons de_str da_nil))) da_nil)) de_int) (da_cons (de_op op_mulD sn_mulD (de_tup (da_cons (de_tup (da_cons de_int (da_cons de_str da_nil))) da_nil)) de_int) da_nil))) (da_cons (de_op op_addD sn_add (dv 1) (de_op op_mulD sn_mulD de_str (de_cb (pe_callTy call_intD (by rfl) T.int (by decide +kernel) (da_cons (de_op op_and sn_int0 (dv 2) de_int) da_nil)) sn_intc))) da_nil))))) dss_nil)
      (dss_cons (ds_if (dt_cmp (op_eqX hr W.vol) sn_eq (dv 3) de_int) (dss_cons (ds_set (i := 6) sc__law_told_machine.nd rfl (.inl rfl) (de_tup (da_cons (de_tup (da_cons (de_tup (da_cons de_int (da_cons de_str da_nil))) (da_cons (de_tup (da_cons de_int (da_cons de_str da_nil))) (da_cons (de_tup (da_cons de_int (da_cons de_str da_nil))) da_nil)))) (da_cons (de_op op_mulD sn_mulD (de_tup (da_cons (de_tup (da_cons de_int (da_cons de_str da_nil))) da_nil)) de_int) da_nil))))
          (dss_one (ds_ret (de_tup (da_cons (dv 6) (da_cons (de_slice (dv 1) do_none (do_some (de_cb (pe_callB (call_max3Nu rfl) (by rfl) T.max (by decide +kernel) (da_cons de_int (da_cons (de_op op_sub sn_int0 (de_cb (pe_callB call_len (by rfl) T.len (by decide +kernel) (da_cons (dv 1) da_nil)) sn_len) (dv 2)) (da_cons (de_cb (pe_callB (call_min2 rfl) (by rfl) T.min (by decide +kernel) (da_cons (de_cb (pe_callB call_len (by rfl) T.len (by decide +kernel) (da_cons (dv 1) da_nil)) sn_len) (da_cons (de_op op_sub sn_int0 (de_op op_sub sn_int0 (dv 2) (de_cb (pe_callB call_len (by rfl) T.len (by decide +kernel) (da_cons (dv 1) da_nil)) sn_len)) de_int) da_nil))) sn_min2) da_nil)))) sn_max3))) da_nil)))))) dss_nil)
      (dss_one (ds_ret (de_tup (da_cons (de_tup (da_cons (de_tup (da_cons (de_tup (da_cons de_int (da_cons de_str da_nil))) (da_cons (de_tup (da_cons de_int (da_cons de_str da_nil))) (da_cons (de_tup (da_cons de_int (da_cons de_str da_nil))) da_nil)))) (da_cons (de_op op_mulD sn_mulD (de_tup (da_cons (de_tup (da_cons de_int (da_cons de_str da_nil))) da_nil)) de_int) da_nil))) (da_cons (de_op op_addD sn_add (dv 1) (de_op op_mulD sn_mulD (de_slice de_str (do_some (de_cb (pe_callTy call_intD (by rfl) T.int (by decide +kernel) (da_cons (de_cmp (op_eqX hr W.vol) sn_eq (dv 1) de_str) da_nil)) sn_intc)) (do_some (de_op op_addD sn_add de_int (de_cb (pe_callTy call_intD (by rfl) T.int (by decide +kernel) (da_cons (de_or (de_cmp op_gt sn_cmp (dv 2) de_int) (pe_one (de_cmp (op_eqX hr W.vol) sn_eq (dv 1) de_str))) da_nil)) sn_intc)))) (de_cb (pe_callTy call_intD (by rfl) T.int (by decide +kernel) (da_cons (de_cmp op_gt sn_cmp (dv 2) de_int) da_nil)) sn_intc))) da_nil)))))))))), fun ds Kk KE h => ?_⟩
  obtain ⟨wd, k, rfl, ww, lw, k0, k1, h⟩ := h
  (try simp only [DL.iteB_true, DL.iteB_false, DL.sSeq, DL.sNext, DL.sRet, DL.sRetN, DL.sIf, DL.sAsg, DL.sNew, DL.sDrop, DL.sRel, DL.sApp, DL.sFor, DL.sBreak, DL.sCont, DL.sAsgT, DL.sPar, DL.sPar3, DL.sPar3DFD, DL.sParFD, DL.sParDF, DL.sExt, DL.sPut, DL.sAug, DL.sCut, DL.sRaise, DL.sWhile, DL.fVar, DL.fC, DL.fOb, DL.fGts, DL.f2, DL.f1, DL.fCall, DL.fB, DL.fTru, DL.fAnd, DL.fOr, DL.fNot, DL.fIf, DL.tAndD, DL.tOrD, DL.tNotD, DL.fNil, DL.fCons, DL.fTup, DL.fLst, DL.fDnew, DL.fNew, DL.fIt, DL.fRng1, DL.fRng2, DL.fLc, DL.fAG, DL.fFn, DL.fFnX, DL.fFnK, DL.fSl, DL.fNone, DL.fPart, DL.fList, DL.fM0, DL.fM1, DL.tYesD, DL.gdN, DL.gdT_t, DL.gdNil_n, DL.gdCons_c, DL.op2, DL.op1, DL.opC, DL.c1, DL.isiP, DL.typeO, DL.tyIs, DL.inG, DL.isND, DL.rel, DL.wipeD, DL.le_s0, DL.le_s1, DL.le_s2, DL.le_s3, DL.le_s4, DL.le_s5, DL.le_s6, DL.le_s7, DL.le_s8, DL.le_s9, DL.le_s10, DL.le_s11, DL.le_s12, DL.le_s13, DL.le_s14, DL.le_s15, DL.le_s16, DL.le_s17, DL.le_s18, DL.le_s19, DL.le_s20, DL.le_s21, DL.le_s22, DL.le_s23, DL.le_s24, DL.le_s25, DL.le_s26, DL.le_s27, DL.le_s28, DL.le_s29, DL.le_s30, DL.le_s31, DL.le_s32, DL.le_s33, DL.le_s34, DL.le_s35, DL.le_s36, DL.le_s37, DL.le_s38, DL.le_s39, DL.le_s40, DL.le_s41, DL.le_s42, DL.le_s43, DL.le_s44, DL.le_s45, DL.le_s46, DL.le_s47, DL.le_s48, DL.le_s49, DL.le_s50, DL.le_s51, DL.le_s52, DL.le_s53, DL.le_s54, DL.le_s55, DL.le_s56, DL.le_s57, DL.le_s58, DL.le_s59, DL.le_s60, DL.le_s61, DL.le_s62, DL.le_s63, DL.le_s64, DL.start0, DL.asDat, DL.lend, DL.noOwn, DL.DV.isOwn, DL.pd_dat, DL.pd_own, DL.ocpd_lst, DL.ocpd_dk, DL.itemsOf, List.map_cons, List.map_nil, List.append_nil, List.cons_append, List.nil_append, List.length_cons, List.length_nil, List.replicate_succ, List.replicate_zero, List.getElem?_cons_zero, List.getElem?_cons_succ, List.set_cons_zero, List.set_cons_succ, Nat.reduceSub, Nat.reduceAdd, Nat.sub_self, Nat.zero_add, Option.some.injEq, DL.DV.dat.injEq, PyData.bool.injEq, PyData.int.injEq, PyData.str.injEq, PyData.tuple.injEq, PyData.list.injEq, DL.DV.ob.injEq, V.ty.injEq, DL.DV.own.injEq, DL.OC.lst.injEq, List.cons.injEq, Option.map_some, exists_eq_left', exists_eq_left, exists_eq_right, exists_eq_right', exists_and_left, and_true, true_and, Bool.not_true, Bool.not_false, Bool.and_true, Bool.true_and, true_or, Bool.not_eq_true', Bool.false_eq_true, if_true, if_false, reduceIte, reduceCtorEq])
  refine ⟨_, rfl, by decide, by decide, fun y y0 y1 => ?_⟩
  (try simp only [DL.negP_i, DL.le_s0, DL.le_s1, DL.le_s2, DL.le_s3, DL.le_s4, DL.le_s5, DL.le_s6, DL.le_s7, DL.le_s8, DL.le_s9, DL.le_s10, DL.le_s11, DL.le_s12, DL.le_s13, DL.le_s14, DL.le_s15, DL.le_s16, DL.le_s17, DL.le_s18, DL.le_s19, DL.le_s20, DL.le_s21, DL.le_s22, DL.le_s23, DL.le_s24, DL.le_s25, DL.le_s26, DL.le_s27, DL.le_s28, DL.le_s29, DL.le_s30, DL.le_s31, DL.le_s32, DL.le_s33, DL.le_s34, DL.le_s35, DL.le_s36, DL.le_s37, DL.le_s38, DL.le_s39, DL.le_s40, DL.le_s41, DL.le_s42, DL.le_s43, DL.le_s44, DL.le_s45, DL.le_s46, DL.le_s47, DL.le_s48, DL.le_s49, DL.le_s50, DL.le_s51, DL.le_s52, DL.le_s53, DL.le_s54, DL.le_s55, DL.le_s56, DL.le_s57, DL.le_s58, DL.le_s59, DL.le_s60, DL.le_s61, DL.le_s62, DL.le_s63, DL.le_s64, DL.iteB_true, DL.iteB_false, DL.lenP_t, DL.lenP_l, DL.lenP_s, DL.eqP, DL.eqOk_int, DL.eqOk_str, DL.eqOk_emp, DL.eqOk_empL, DL.eqv_emp1, DL.eqv_empL1, DL.eqv_ii, DL.eqv_ss, DL.ixP_t, DL.ixP_l, DL.ixP_s, DL.slP_t, DL.slP_l, DL.slP_s, DL.intcP_i, DL.intcP_b, DL.intcP_s, DL.tupcP_l, DL.tupcP_t, DL.atI_z, DL.atI_o, DL.atI_t, DL.int0P_ii, DL.intP_ii, DL.addP_ii, DL.addP_ss, DL.addP_tt, DL.addP_ll, DL.isTup_t, DL.reprP, Bool.false_eq_true, if_true, if_false, reduceIte, Option.some.injEq, PyData.bool.injEq, exists_eq_left', exists_eq_left, exists_eq_right, exists_eq_right', true_and, and_true, Bool.true_eq_false, Bool.not_true, Bool.not_false, false_and, and_false, exists_and_left, reduceCtorEq, DL.DV.gts.injEq, exists_const])
  obtain ⟨j, rfl⟩ := Int.eq_ofNat_of_zero_le k0
  rw [Int.toNat_natCast] at h
  have hy : y = 0 ∨ y = 1 ∨ y = 2 ∨ y = 3 ∨ y = 4 := by omega
  rcases hy with rfl | rfl | rfl | rfl | rfl
  all_goals
    simp only [show ((0 : Int) == 0) = true from rfl, show ((1 : Int) == 0) = false from rfl, show ((1 : Int) == 1) = true from rfl, show ((2 : Int) == 0) = false from rfl, show ((2 : Int) == 1) = false from rfl, show ((2 : Int) == 2) = true from rfl, show ((3 : Int) == 0) = false from rfl, show ((3 : Int) == 1) = false from rfl, show ((3 : Int) == 2) = false from rfl, show ((3 : Int) == 3) = true from rfl, show ((4 : Int) == 0) = false from rfl, show ((4 : Int) == 1) = false from rfl, show ((4 : Int) == 2) = false from rfl, show ((4 : Int) == 3) = false from rfl, iteB_true, iteB_false]
    try (try simp only [DL.iteB_true, DL.iteB_false, DL.sSeq, DL.sNext, DL.sRet, DL.sRetN, DL.sIf, DL.sAsg, DL.sNew, DL.sDrop, DL.sRel, DL.sApp, DL.sFor, DL.sBreak, DL.sCont, DL.sAsgT, DL.sPar, DL.sPar3, DL.sPar3DFD, DL.sParFD, DL.sParDF, DL.sExt, DL.sPut, DL.sAug, DL.sCut, DL.sRaise, DL.sWhile, DL.fVar, DL.fC, DL.fOb, DL.fGts, DL.f2, DL.f1, DL.fCall, DL.fB, DL.fTru, DL.fAnd, DL.fOr, DL.fNot, DL.fIf, DL.tAndD, DL.tOrD, DL.tNotD, DL.fNil, DL.fCons, DL.fTup, DL.fLst, DL.fDnew, DL.fNew, DL.fIt, DL.fRng1, DL.fRng2, DL.fLc, DL.fAG, DL.fFn, DL.fFnX, DL.fFnK, DL.fSl, DL.fNone, DL.fPart, DL.fList, DL.fM0, DL.fM1, DL.tYesD, DL.gdN, DL.gdT_t, DL.gdNil_n, DL.gdCons_c, DL.op2, DL.op1, DL.opC, DL.c1, DL.isiP, DL.typeO, DL.tyIs, DL.inG, DL.isND, DL.rel, DL.wipeD, DL.le_s0, DL.le_s1, DL.le_s2, DL.le_s3, DL.le_s4, DL.le_s5, DL.le_s6, DL.le_s7, DL.le_s8, DL.le_s9, DL.le_s10, DL.le_s11, DL.le_s12, DL.le_s13, DL.le_s14, DL.le_s15, DL.le_s16, DL.le_s17, DL.le_s18, DL.le_s19, DL.le_s20, DL.le_s21, DL.le_s22, DL.le_s23, DL.le_s24, DL.le_s25, DL.le_s26, DL.le_s27, DL.le_s28, DL.le_s29, DL.le_s30, DL.le_s31, DL.le_s32, DL.le_s33, DL.le_s34, DL.le_s35, DL.le_s36, DL.le_s37, DL.le_s38, DL.le_s39, DL.le_s40, DL.le_s41, DL.le_s42, DL.le_s43, DL.le_s44, DL.le_s45, DL.le_s46, DL.le_s47, DL.le_s48, DL.le_s49, DL.le_s50, DL.le_s51, DL.le_s52, DL.le_s53, DL.le_s54, DL.le_s55, DL.le_s56, DL.le_s57, DL.le_s58, DL.le_s59, DL.le_s60, DL.le_s61, DL.le_s62, DL.le_s63, DL.le_s64, DL.start0, DL.asDat, DL.lend, DL.noOwn, DL.DV.isOwn, DL.pd_dat, DL.pd_own, DL.ocpd_lst, DL.ocpd_dk, DL.itemsOf, List.map_cons, List.map_nil, List.append_nil, List.cons_append, List.nil_append, List.length_cons, List.length_nil, List.replicate_succ, List.replicate_zero, List.getElem?_cons_zero, List.getElem?_cons_succ, List.set_cons_zero, List.set_cons_succ, Nat.reduceSub, Nat.reduceAdd, Nat.sub_self, Nat.zero_add, Option.some.injEq, DL.DV.dat.injEq, PyData.bool.injEq, PyData.int.injEq, PyData.str.injEq, PyData.tuple.injEq, PyData.list.injEq, DL.DV.ob.injEq, V.ty.injEq, DL.DV.own.injEq, DL.OC.lst.injEq, List.cons.injEq, Option.map_some, exists_eq_left', exists_eq_left, exists_eq_right, exists_eq_right', exists_and_left, and_true, true_and, Bool.not_true, Bool.not_false, Bool.and_true, Bool.true_and, true_or, Bool.not_eq_true', Bool.false_eq_true, if_true, if_false, reduceIte, reduceCtorEq])
    try (try simp only [DL.negP_i, DL.le_s0, DL.le_s1, DL.le_s2, DL.le_s3, DL.le_s4, DL.le_s5, DL.le_s6, DL.le_s7, DL.le_s8, DL.le_s9, DL.le_s10, DL.le_s11, DL.le_s12, DL.le_s13, DL.le_s14, DL.le_s15, DL.le_s16, DL.le_s17, DL.le_s18, DL.le_s19, DL.le_s20, DL.le_s21, DL.le_s22, DL.le_s23, DL.le_s24, DL.le_s25, DL.le_s26, DL.le_s27, DL.le_s28, DL.le_s29, DL.le_s30, DL.le_s31, DL.le_s32, DL.le_s33, DL.le_s34, DL.le_s35, DL.le_s36, DL.le_s37, DL.le_s38, DL.le_s39, DL.le_s40, DL.le_s41, DL.le_s42, DL.le_s43, DL.le_s44, DL.le_s45, DL.le_s46, DL.le_s47, DL.le_s48, DL.le_s49, DL.le_s50, DL.le_s51, DL.le_s52, DL.le_s53, DL.le_s54, DL.le_s55, DL.le_s56, DL.le_s57, DL.le_s58, DL.le_s59, DL.le_s60, DL.le_s61, DL.le_s62, DL.le_s63, DL.le_s64, DL.iteB_true, DL.iteB_false, DL.lenP_t, DL.lenP_l, DL.lenP_s, DL.eqP, DL.eqOk_int, DL.eqOk_str, DL.eqOk_emp, DL.eqOk_empL, DL.eqv_emp1, DL.eqv_empL1, DL.eqv_ii, DL.eqv_ss, DL.ixP_t, DL.ixP_l, DL.ixP_s, DL.slP_t, DL.slP_l, DL.slP_s, DL.intcP_i, DL.intcP_b, DL.intcP_s, DL.tupcP_l, DL.tupcP_t, DL.atI_z, DL.atI_o, DL.atI_t, DL.int0P_ii, DL.intP_ii, DL.addP_ii, DL.addP_ss, DL.addP_tt, DL.addP_ll, DL.isTup_t, DL.reprP, Bool.false_eq_true, if_true, if_false, reduceIte, Option.some.injEq, PyData.bool.injEq, exists_eq_left', exists_eq_left, exists_eq_right, exists_eq_right', true_and, and_true, Bool.true_eq_false, Bool.not_true, Bool.not_false, false_and, and_false, exists_and_left, reduceCtorEq, DL.DV.gts.injEq, exists_const])
  · refine ⟨_, _, rfl, .inl rfl, by decide, by decide, fun e he => ?_⟩
    simp only [List.mem_cons, List.not_mem_nil, or_false] at he
    have b0 : isW "0" = true := by decide +kernel
    have b1 : isW "1" = true := by decide +kernel
    have p0 : ("put" : Str) ++ ("0" : Str) = "put0" := by decide +kernel
    have p1 : ("put" : Str) ++ ("1" : Str) = "put1" := by decide +kernel
    rcases he with rfl | rfl
    · rw [addP_ss, p0, mulP_ti, mulP_si, mul_fm (by decide), addP_ss]
      refine ⟨by decide, by simp, by decide, by decide, by decide, mulOk_1 (by decide) k0 (by omega), ?_, h _ _ (by decide +kernel) (by decide) (out_of (way0 pa_put0 ww b0 j).1)⟩
      rw [fm_len (by rfl), sizeLine_eq]
      omega
    · rw [addP_ss, p1, mulP_ti, mulP_si, mul_fm (by decide), addP_ss]
      refine ⟨by decide, by simp, by decide, by decide, by decide, mulOk_1 (by decide) k0 (by omega), ?_, h _ _ (by decide +kernel) (by decide) (out_of (way0 pa_put1 ww b1 j).1)⟩
      rw [fm_len (by rfl), sizeLine_eq]
      omega
  · refine ⟨_, _, rfl, .inl rfl, by decide, by decide, fun e he => ?_⟩
    simp only [List.mem_cons, List.not_mem_nil, or_false] at he
    have hs : wd.length ≤ sizeLine := by
      rw [sizeLine_eq]
      omega
    have ec : cutS wd none (some (if ((wd.length : Int) - (j : Int)) > 0 then ((wd.length : Int) - (j : Int)) else 0)) = takeS wd (wd.length - j) := by
      rw [show (if ((wd.length : Int) - (j : Int)) > 0 then ((wd.length : Int) - (j : Int)) else 0) = ((wd.length - j : Nat) : Int) from by split <;> omega]
      exact cut_takeS (by omega)
    rcases he with rfl | rfl
    · rw [mulP_ti]
      refine ⟨by simp, by decide, by decide, by decide, hs, _, _, rfl, _, rfl, hs, ?_⟩
      rw [ec]
      obtain ⟨r, er⟩ := way1 (d := "cut") (fun l r => ⟨r, pa_cut l r⟩) ww j
      exact h _ _ (by decide +kernel) (by decide) (out_of er)
    · rw [mulP_ti]
      refine ⟨by simp, by decide, by decide, by decide, hs, _, _, rfl, _, rfl, hs, ?_⟩
      rw [ec]
      obtain ⟨r, er⟩ := way1 (d := "over") (fun l r => ⟨_, pa_over l r⟩) ww j
      exact h _ _ (by decide +kernel) (by decide) (out_of er)
  · rw [mulP_ti]
    refine ⟨by simp, by decide, by decide, by decide, ?_⟩
    rw [mulP_ti]
    refine ⟨by simp, by decide, by decide, by decide, ?_⟩
    have eb : Builtin.bitAnd (j : Int) 1 = ((j % 2 : Nat) : Int) := by
      have := Bits.bitAnd_mask (x := (j : Int)) 1 (by omega)
      rw [show ((2 : Int) ^ 1 - 1) = 1 from rfl, show ((2 : Int) ^ 1) = 2 from rfl] at this
      rw [this]
      omega
    have w2 := way2 ww j
    have l1 : ("1" : Str).length = 1 := rfl
    rw [eb, mulP_si, mul_fm (by decide), addP_ss]
    refine ⟨mulOk_1 (by decide) (by omega) (by omega), ?_, ?_⟩
    · rw [fm_len (by rfl), sizeLine_eq]
      omega
    · by_cases hj : j % 2 = 0
      · rw [if_pos hj] at w2
        rw [hj, show wd ++ fm "1" 0 = wd from app_nil wd]
        exact h _ _ (by decide +kernel) (by decide) (out_of w2)
      · rw [if_neg hj] at w2
        rw [show j % 2 = 1 by omega, show fm "1" 1 = "1" by decide +kernel]
        exact h _ _ (by decide +kernel) (by decide) (out_of w2)
  · have hs : wd.length ≤ sizeLine := by
      rw [sizeLine_eq]
      omega
    rw [mulP_ti]
    refine ⟨by simp, by decide, by decide, by decide, hs, hs, hs, _, _, rfl, _, _, _, rfl, _, rfl, hs, ?_⟩
    have w3 := way3 ww j
    by_cases hj : j ≤ wd.length
    · rw [if_pos hj] at w3
      rw [show cutS wd none (some _) = takeS wd (wd.length - j) from by
        rw [← cut_takeS (w := wd) (i := wd.length - j) (by omega)]
        congr 2
        split <;> split <;> split <;> omega]
      exact h _ _ (by decide +kernel) (by decide) (out_of w3)
    · rw [if_neg hj] at w3
      rw [show cutS wd none (some _) = takeS wd (min wd.length (j - wd.length - 1)) from by
        rw [← cut_takeS (w := wd) (i := min wd.length (j - wd.length - 1)) (by omega)]
        congr 2
        split <;> split <;> split <;> omega]
      exact h _ _ (by decide +kernel) (by decide) (out_of w3)
  · rw [mulP_ti]
    refine ⟨by simp, by decide, by decide, by decide, ?_⟩
    have hz : ("01" : Str).length ≤ sizeLine := by decide
    have go : ∀ (lo hi : Option Int) (b : Int) (t : Str), cutS "01" lo hi = t → 0 ≤ b → b ≤ 1 → outD putTwo wd j = .str (wd ++ Txt.mul t b) → ("01" : Str).length ≤ sizeLine ∧ mulP (.str (cutS "01" lo hi)) (.int b) fun r => addP (.str wd) r fun r => Kk (.tuple [.tuple [.tuple [.tuple [.int 2, .str "put1"], .tuple [.int 1, .str "put0"], .tuple [.int 1, .str "put0"]], .tuple (List.replicate (Int.toNat 3) [PyData.tuple [.int 2, .str "put1"]]).flatten], r]) := fun lo hi b t et b0 b1 ho => by
      subst et
      have l2 : (cutS "01" lo hi).length ≤ 2 := Nat.le_trans (cutS_le _ _ _) (by decide)
      rw [mulP_si, addP_ss]
      refine ⟨hz, mulOk_s (by omega) b0 (by omega), ?_, h putTwo _ (by decide +kernel) (by decide) ho⟩
      have l3 : (Txt.mul (cutS "01" lo hi) b).length ≤ 2 := by
        have : b = 0 ∨ b = 1 := by omega
        rcases this with rfl | rfl
        · exact Nat.zero_le _
        · exact l2
      rw [sizeLine_eq]
      omega
    have m0 : ∀ t : Str, wd ++ Txt.mul t 0 = wd := fun t => app_nil wd
    have m1 : ∀ t : Str, Txt.mul t 1 = t := fun t => rfl
    by_cases hw : wd = ""
    · subst hw
      rcases j with _ | j
      · exact go _ _ 0 "1" (by decide +kernel) (by decide) (by decide) (by rw [m0]; rfl)
      · have e4 : outD putTwo "" (j + 1) = .str ("" ++ Txt.mul "1" 1) := out_of (way4e j)
        have hb : (if decide ((0 : Int) < ((j + 1 : Nat) : Int)) = true then (1 : Int) else 0) = 1 := by
          rw [if_pos (decide_eq_true (by omega))]
        rw [hb]
        cases decide ((1 : Int) < ((j + 1 : Nat) : Int)) with
        | true => exact go _ _ 1 "1" (by decide +kernel) (by decide) (by decide) e4
        | false => exact go _ _ 1 "1" (by decide +kernel) (by decide) (by decide) e4
    · have hw2 : (wd == "") = false := beq_eq_false_iff_ne.mpr hw
      rw [hw2]
      obtain ⟨f1, f2⟩ := way4 ww hw
      rcases j with _ | _ | j
      · exact go _ _ 0 "0" (by decide +kernel) (by decide) (by decide) (by rw [m0]; rfl)
      · exact go _ _ 1 "0" (by decide +kernel) (by decide) (by decide) (by rw [m1]; exact out_of f1)
      · have hb : (if decide ((0 : Int) < ((j + 1 + 1 : Nat) : Int)) = true then (1 : Int) else 0) = 1 := by
          rw [if_pos (decide_eq_true (by omega))]
        rw [hb, show decide ((1 : Int) < ((j + 1 + 1 : Nat) : Int)) = true from decide_eq_true (by omega)]
        exact go _ _ 1 "01" (by decide +kernel) (by decide) (by decide) (by rw [m1]; exact out_of (f2 j))
end
end P92


set_option Elab.async false
set_option linter.all false
set_option maxRecDepth 100000
set_option maxHeartbeats 1000000
/-! Clocks and outcomes: the law. -/
namespace PM
open PySem PySem.Spec PyProof.Rows L2 KT KG KM KX KY KE0 KQ LK GxR DL KA DW PA PB PC PD PE PF PG QF WT LB PT PU PL PN PS PVL P90 P91 P92
def pm3210 {α : Type} : List α → List α
  | [a, b, c, d] => [d, c, b, a]
  | l => l
theorem pm3210_rel {W : Wc} {M : Addr → Prop} {H : Hp} {vs : List V} {ds : List DV} (r : RelAll W M H vs ds) : RelAll W M H (pm3210 vs) (pm3210 ds) := by
  have hl := r.length
  match vs, ds, r, hl with
  | [], [], r, _ => exact r
  | [_], [_], r, _ => exact r
  | [_, _], [_, _], r, _ => exact r
  | [_, _, _], [_, _, _], r, _ => exact r
  | [_, _, _, _], [_, _, _, _], r, _ => exact ⟨r.2.2.2.1, r.2.2.1, r.2.1, r.1, trivial⟩
  | _ :: _ :: _ :: _ :: _ :: _, _ :: _ :: _ :: _ :: _ :: _, r, _ => exact r
theorem pm3210_vals {vs : List V} {ws : List Value} (r : Vals vs ws) : Vals (pm3210 vs) (pm3210 ws) := by
  cases r with
  | nil => exact .nil
  | cons h t =>
    cases t with
    | nil => exact .cons h .nil
    | cons h2 t2 =>
      cases t2 with
      | nil => exact .cons h (.cons h2 .nil)
      | cons h3 t3 =>
        cases t3 with
        | nil => exact .cons h (.cons h2 (.cons h3 .nil))
        | cons h4 t4 =>
          cases t4 with
          | nil => exact .cons h4 (.cons h3 (.cons h2 (.cons h .nil)))
          | cons h5 t5 => exact .cons h (.cons h2 (.cons h3 (.cons h4 (.cons h5 t5))))
def wrongD (m c d : PyData) : List PyData := bif machB m then ([c, d].filter fun x => !wholeD x).map (fun x => PyData.tuple [.int 3, x]) else [.tuple [.int 0, m]]
def wrong2 (m c d w : PyData) : List PyData := bif (wrongD m c d).isEmpty && !wordB w then [.tuple [.int 2, w]] else wrongD m c d
abbrev N_law : List Str := ["_law_script", "_law_deck_here", "_law_turn", "_law_word_here", "_law_machine_here", "_law_c", "_law_d", "_law_due", "_law_odd", "_law_wrong", "_law_thing", "_law_at"]
abbrev P_law : List Str := ["_law_script"]
theorem sc_law : FnScope N_law P_law (defScope s_law) := ⟨rfl, rfl, rfl, by decide +kernel, rfl, by decide +kernel, by decide +kernel⟩
section
variable {P : Program} {w : World} {K : PySem.W.Frag} {mg : Str → Option Value} {base : Heap} {Tl : List Addr} {fn : Str → FuncData}
theorem ok_law (p : PileP P w K mg base Tl fn) (T : TbL mg) (hm : HasMods base) (TD : KA.Tb mg) (TM : TbM mg) (g_QuickError : mg "QuickError" = some (.ref (He.ga K "QuickError"))) (D : Df K mg "law" s_law P_law (fn "law")) (D__law_deck : Df K mg "_law_deck" s__law_deck KA.P__law_deck (fn "_law_deck")) (D__law_draw : Df K mg "_law_draw" s__law_draw KA.P__law_draw (fn "_law_draw")) (D__law_pick : Df K mg "_law_pick" s__law_pick DW.P__law_pick (fn "_law_pick"))
    (D__law_word : Df K mg "_law_word" s__law_word PF.P__law_word (fn "_law_word")) (D__law_same : Df K mg "_law_same" s__law_same PF.P__law_same (fn "_law_same")) (D__law_is_integer : Df K mg "_law_is_integer" s__law_is_integer PD.P__law_is_integer (fn "_law_is_integer")) (D__law_is_number : Df K mg "_law_is_number" s__law_is_number PD.P__law_is_number (fn "_law_is_number"))
    (D__law_is_word : Df K mg "_law_is_word" s__law_is_word PS.P__law_is_word (fn "_law_is_word")) (D__law_machine : Df K mg "_law_machine" s__law_machine PF.P__law_machine (fn "_law_machine")) (D__law_is_machine : Df K mg "_law_is_machine" s__law_is_machine PD.P__law_is_machine (fn "_law_is_machine"))
    (D_later_standing : Df K mg "later_standing" s_later_standing PVL.P_later_standing (fn "later_standing")) (D_clock_steps : Df K mg "clock_steps" s_clock_steps P90.P_clock_steps (fn "clock_steps")) (D_require_clock : Df K mg "require_clock" s_require_clock P90.P_require_clock (fn "require_clock")) (D_outcome : Df K mg "outcome" s_outcome P90.P_outcome (fn "outcome"))
    (D__law_after : Df K mg "_law_after" s__law_after PVL.P__law_after (fn "_law_after")) (D__law_clock : Df K mg "_law_clock" s__law_clock P90.P__law_clock (fn "_law_clock")) (D__law_outcome : Df K mg "_law_outcome" s__law_outcome P90.P__law_outcome (fn "_law_outcome")) (D__law_told_machine : Df K mg "_law_told_machine" s__law_told_machine P92.P__law_told_machine (fn "_law_told_machine")) (D__law_pile_step : Df K mg "_law_pile_step" s__law_pile_step PE.P__law_pile_step (fn "_law_pile_step"))
    (D__law_tried : Df K mg "_law_tried" s__law_tried PT.P__law_tried (fn "_law_tried")) (kb_outcome : KB0 (fn "outcome") P90.P_outcome ["word", "d", "c", "machine"] PM.pm3210)
    (nt : (He.cT K ("law", none)).2 ∉ Tl) (TLaw : GxR.TabB base mg (He.cT K ("law", none)).1 (He.cT K ("law", none)).2) : FnG P w K mg base 230 (He.fAd K ("law", none)) (fn "law") P_law (spLaw K Tl (He.cT K ("law", none)).2) := by
  have G__law_deck : FnOk P w K mg base CX0 1 (He.fAd K ("_law_deck", none)) (fn "_law_deck") KA.P__law_deck (spDeck K) := ok_deck D__law_deck TD
  have G__law_draw := DW.ok_draw (P := P) (w := w) (base := base) (Tl := Tl) D__law_draw TD
  have G__law_pick := DW.ok_pick (P := P) (w := w) (base := base) (Tl := Tl) D__law_pick TD D__law_draw G__law_draw
  have G__law_word := ok_lword T D__law_word D__law_draw G__law_draw D__law_pick G__law_pick
  have G__law_same := ok_same (P := P) (w := w) (Tl := Tl) T hm D__law_same
  have G__law_is_number := ok_isNum (P := P) (w := w) (base := base) (Tl := Tl) T D__law_is_number D__law_is_integer (ok_isInt T D__law_is_integer)
  have G__law_is_word := ok_lisWord (P := P) (w := w) (base := base) (Tl := Tl) T D__law_is_word
  have G__law_machine := ok_lmach T D__law_machine D__law_draw G__law_draw D__law_pick G__law_pick
  have G__law_is_machine := ok_isMach T D__law_is_machine D__law_is_number G__law_is_number
  have G__law_pile_step := ok_lstep (P := P) (w := w) (base := base) (Tl := Tl) T D__law_pile_step
  have G__law_after := ok_lafter (P := P) (w := w) (base := base) (Tl := Tl) T D__law_after D__law_pile_step G__law_pile_step
  have G__law_clock := ok_lclock (P := P) (w := w) (base := base) (Tl := Tl) T D__law_clock
  have G__law_outcome := ok_lout T D__law_outcome D__law_clock D__law_after G__law_after
  have G__law_told_machine := ok_told TM D__law_told_machine D__law_draw G__law_draw D__law_pick G__law_pick
  obtain ⟨fdBW, EBW⟩ := p.f4.e "BadWord" (by simp [fourL])
  obtain ⟨fdBN, EBN⟩ := p.f4.e "BadNumber" (by simp [fourL])
  have G_outcome := ok_out (fn := fn) EBW EBN p.t T.range D_outcome p.d_require_machine p.req D_require_clock p.d_is_whole p.d_is_word D_clock_steps D_later_standing p.d_next_standing p.next
  refine okGC (fun_of D.F) sc_law (fun vs H Q E h => by obtain ⟨a, ns, rfl, _⟩ := h; rfl) (fun cdv A outer s H vs Q E hcd hA0 hr h => ?_)
  obtain ⟨a, ns, rfl, hS, hT, hE, hQ⟩ := h
  have hA : (cxOf CX0 P w K mg base N_law "law" (defScope s_law) (He.fAd K ("law", none)) cdv A outer s H E).nox.A.guards = some [] := hA0
  have hu : (cxOf CX0 P w K mg base N_law "law" (defScope s_law) (He.fAd K ("law", none)) cdv A outer s H E).nox.A.units + 300 < cLine := by
    have := hr.un
    show (A.deeper _).units + 300 < cLine
    omega
  have F4 : Four P w K mg base := p.f4
  have TT_ : TbT mg := ⟨T.isinstance, T.repr⟩
  have TL_ : LamX.TabB base mg (He.cT K ("law", none)).1 (He.cT K ("law", none)).2 := ⟨TLaw.code, TLaw.bm, TLaw.gP⟩
  refine ⟨_, pss_cons (ps_set (i := 1) sc_law.nd rfl (.inl rfl) (pe_call G__law_deck (hr.mono (by decide)) (by rfl) D__law_deck.g D__law_deck.F.kp D__law_deck.b .nil pass0 (pa_cons (pv 0) pa_nil))) (pss_any (c := fun W => WP K Tl W.toWc ∧ LamW (He.cT K ("law", none)).2 ("law.<locals>." ++ "<lambda>") W.toWc) fun W ⟨hW, hL⟩ => by
    have hK : W.K = K := hW.k
    exact (dss_cons (ds_for PassesOwn.never rfl (di_range1 (st := true) (by rfl) T.range (da_cons de_int da_nil)) (pg_name (i := 2) sc_law.nd rfl (.inl rfl)) (sg_name (i := 2) trivial) (dss_cons (ds_asg (de_tup (da_cons (de_call (pe_call G__law_machine (hr.mono (by first | decide | omega)) (by rfl) D__law_machine.g D__law_machine.F.kp D__law_machine.b .nil pass0 (da_cons (dv 1) (da_cons de_int da_nil))) hW) (da_cons (de_call (pe_call G__law_draw (hr.mono (by first | decide | omega)) (by rfl) D__law_draw.g D__law_draw.F.kp D__law_draw.b .nil pass0 (da_cons (dv 1) (da_cons de_int da_nil))) hW) (da_cons (de_call (pe_call G__law_draw (hr.mono (by first | decide | omega)) (by rfl) D__law_draw.g D__law_draw.F.kp D__law_draw.b .nil pass0 (da_cons (dv 1) (da_cons de_int da_nil))) hW) da_nil)))) (pg_tup rfl (pgs_cons (pg_name (i := 4) sc_law.nd rfl (.inr rfl)) (pgs_cons (pg_name (i := 5) sc_law.nd rfl (.inr rfl)) (pgs_cons (pg_name (i := 6) sc_law.nd rfl (.inr rfl)) pgs_nil)))) (sg_tup (n := 3) (sgs_cons (sg_name (i := 4) trivial) (sgs_cons (sg_name (i := 5) trivial) (sgs_cons (sg_name (i := 6) trivial) sgs_nil)))))
          (dss_cut (ds_set (i := 3) sc_law.nd rfl (.inr rfl) (de_call (pe_call G__law_word (hr.mono (by first | decide | omega)) (by rfl) D__law_word.g D__law_word.F.kp D__law_word.b .nil pass0 (da_cons (dv 1) (da_cons (de_if (dt_cmp (op_eqX hr W.vol) sn_eq (dv 5) de_int) de_int (de_call (pe_call G__law_pick (hr.mono (by first | decide | omega)) (by rfl) D__law_pick.g D__law_pick.F.kp D__law_pick.b .nil pass0 (da_cons (dv 1) (da_cons (de_new (df_lst (da_cons de_int (da_cons de_int (da_cons de_int da_nil))))) da_nil))) hW)) da_nil))) hW))
          (dss_cons (ds_if (dt_not (dt_val (de_call (pe_callG G__law_same hA (hr.mono (by first | decide | omega)) (by rfl) D__law_same.g D__law_same.F.kp D__law_same.b (da_cons (de_call (pe_call G_outcome (hr.mono (by first | decide | omega)) (by rfl) D_outcome.g D_outcome.F.kp D_outcome.b .nil passX0 (da_cons (dv 4) (da_cons (dv 5) (da_cons (dv 6) (da_cons (dv 3) da_nil))))) hW) (da_cons (de_call (pe_call G__law_outcome (hr.mono (by first | decide | omega)) (by rfl) D__law_outcome.g D__law_outcome.F.kp D__law_outcome.b .nil pass0 (da_cons (dv 4) (da_cons (dv 5) (da_cons (dv 6) (da_cons (dv 3) da_nil))))) hW) da_nil))) hW))) (dss_one (ds_ret de_bl)) dss_nil)
          (dss_cons (ds_asg (de_call (pe_call G__law_told_machine (hr.mono (by first | decide | omega)) (by rfl) D__law_told_machine.g D__law_told_machine.F.kp D__law_told_machine.b .nil pass0 (da_cons (dv 1) (da_cons (dv 3) (da_cons (de_call (pe_call G__law_clock (hr.mono (by first | decide | omega)) (by rfl) D__law_clock.g D__law_clock.F.kp D__law_clock.b .nil pass0 (da_cons (de_cb (pe_callB call_len (by rfl) T.len (by decide +kernel) (da_cons (dv 3) da_nil)) sn_len) (da_cons (dv 5) (da_cons (dv 6) da_nil)))) hW) da_nil)))) hW) (pg_tup rfl (pgs_cons (pg_name (i := 4) sc_law.nd rfl (.inr rfl)) (pgs_cons (pg_name (i := 7) sc_law.nd rfl (.inl rfl)) pgs_nil))) (sg_tup (n := 2) (sgs_cons (sg_name (i := 4) trivial) (sgs_cons (sg_name (i := 7) trivial) sgs_nil))))
          (dss_one (ds_if (dt_not (dt_val (de_call (pe_callG G__law_same hA (hr.mono (by first | decide | omega)) (by rfl) D__law_same.g D__law_same.F.kp D__law_same.b (da_cons (de_callK (pe_callK0 (g := pm3210) G_outcome (hr.mono (by first | decide | omega)) (by rfl) D_outcome.g D_outcome.F.kp kb_outcome passX0 (dk_cons (dv 3) (dk_cons (dv 6) (dk_cons (dv 5) (dk_cons (dv 4) dk_nil))))) pm3210_rel hW) (da_cons (dv 7) da_nil))) hW))) (dss_one (ds_ret de_bl)) dss_nil)))))))
      (dss_cons (ds_for PassesOwn.never rfl (di_range1 (st := true) (by rfl) T.range (da_cons de_int da_nil)) (pg_name (i := 2) sc_law.nd rfl (.inl rfl)) (sg_name (i := 2) trivial) (dss_cons (ds_asg (de_tup (da_cons (de_call (pe_call G__law_machine (hr.mono (by first | decide | omega)) (by rfl) D__law_machine.g D__law_machine.F.kp D__law_machine.b .nil pass0 (da_cons (dv 1) (da_cons de_int da_nil))) hW) (da_cons (de_call (pe_call G__law_draw (hr.mono (by first | decide | omega)) (by rfl) D__law_draw.g D__law_draw.F.kp D__law_draw.b .nil pass0 (da_cons (dv 1) (da_cons de_int da_nil))) hW) (da_cons (de_call (pe_call G__law_draw (hr.mono (by first | decide | omega)) (by rfl) D__law_draw.g D__law_draw.F.kp D__law_draw.b .nil pass0 (da_cons (dv 1) (da_cons de_int da_nil))) hW) (da_cons (de_call (pe_call G__law_word (hr.mono (by first | decide | omega)) (by rfl) D__law_word.g D__law_word.F.kp D__law_word.b .nil pass0 (da_cons (dv 1) (da_cons de_int da_nil))) hW) da_nil))))) (pg_tup rfl (pgs_cons (pg_name (i := 4) sc_law.nd rfl (.inr rfl)) (pgs_cons (pg_name (i := 5) sc_law.nd rfl (.inr rfl)) (pgs_cons (pg_name (i := 6) sc_law.nd rfl (.inr rfl)) (pgs_cons (pg_name (i := 3) sc_law.nd rfl (.inr rfl)) pgs_nil))))) (sg_tup (n := 4) (sgs_cons (sg_name (i := 4) trivial) (sgs_cons (sg_name (i := 5) trivial) (sgs_cons (sg_name (i := 6) trivial) (sgs_cons (sg_name (i := 3) trivial) sgs_nil))))))
          (dss_cons (ds_set (i := 8) sc_law.nd rfl (.inl rfl) (de_new (df_lst (da_cons de_non (da_cons de_bl (da_cons de_bl (da_cons (de_un un_neg sn_neg de_int) (da_cons de_str (da_cons de_str (da_cons (de_tup da_nil) (da_cons (de_tup (da_cons de_int da_nil)) (da_cons (de_new (df_lst (da_cons de_int da_nil))) (da_cons (de_new df_dnew) (da_cons (de_un un_neg sn_neg (de_op op_pow sn_int de_int de_int)) (da_cons de_str da_nil)))))))))))))))
          (dss_cut (ds_if (dt_cmp (op_eqX hr W.vol) sn_eq (de_call (pe_call G__law_draw (hr.mono (by first | decide | omega)) (by rfl) D__law_draw.g D__law_draw.F.kp D__law_draw.b .nil pass0 (da_cons (dv 1) (da_cons de_int da_nil))) hW) de_int) (dss_one (ds_set (i := 4) sc_law.nd rfl (.inr rfl) (de_call (pe_call G__law_pick (hr.mono (by first | decide | omega)) (by rfl) D__law_pick.g D__law_pick.F.kp D__law_pick.b .nil pass0 (da_cons (dv 1) (da_cons (de_new (df_lst (da_cons de_non (da_cons (de_tup da_nil) (da_cons de_int (da_cons (de_tup (da_cons (de_tup (da_cons (de_tup (da_cons de_int (da_cons de_str da_nil))) (da_cons (de_tup (da_cons de_int (da_cons de_str da_nil))) da_nil))) da_nil)) (da_cons (de_new (df_list (pe_callTy call_list_of (by rfl) T.list (by decide +kernel) (da_cons (dv 4) da_nil)))) (da_cons (de_ix ix_all sn_ix (dv 4) de_int (fun _ _ => rfl)) (da_cons (de_tup (da_cons (dv 4) da_nil)) (da_cons de_str da_nil)))))))))) da_nil))) hW))) dss_nil)
          (dss_cut (ds_if (dt_cmp (op_eqX hr W.vol) sn_eq (de_call (pe_call G__law_draw (hr.mono (by first | decide | omega)) (by rfl) D__law_draw.g D__law_draw.F.kp D__law_draw.b .nil pass0 (da_cons (dv 1) (da_cons de_int da_nil))) hW) de_int) (dss_one (ds_set (i := 5) sc_law.nd rfl (.inr rfl) (de_call (pe_call G__law_pick (hr.mono (by first | decide | omega)) (by rfl) D__law_pick.g D__law_pick.F.kp D__law_pick.b .nil pass0 (da_cons (dv 1) (da_cons (dv 8) da_nil))) hW))) dss_nil)
          (dss_cut (ds_if (dt_cmp (op_eqX hr W.vol) sn_eq (de_call (pe_call G__law_draw (hr.mono (by first | decide | omega)) (by rfl) D__law_draw.g D__law_draw.F.kp D__law_draw.b .nil pass0 (da_cons (dv 1) (da_cons de_int da_nil))) hW) de_int) (dss_one (ds_set (i := 6) sc_law.nd rfl (.inr rfl) (de_call (pe_call G__law_pick (hr.mono (by first | decide | omega)) (by rfl) D__law_pick.g D__law_pick.F.kp D__law_pick.b .nil pass0 (da_cons (dv 1) (da_cons (dv 8) da_nil))) hW))) dss_nil)
          (dss_cut (ds_if (dt_cmp (op_eqX hr W.vol) sn_eq (de_call (pe_call G__law_draw (hr.mono (by first | decide | omega)) (by rfl) D__law_draw.g D__law_draw.F.kp D__law_draw.b .nil pass0 (da_cons (dv 1) (da_cons de_int da_nil))) hW) de_int) (dss_one (ds_set (i := 3) sc_law.nd rfl (.inr rfl) (de_call (pe_call G__law_pick (hr.mono (by first | decide | omega)) (by rfl) D__law_pick.g D__law_pick.F.kp D__law_pick.b .nil pass0 (da_cons (dv 1) (da_cons (de_new (df_lst (da_cons de_non (da_cons de_int (da_cons de_bl (da_cons de_str (da_cons de_str (da_cons (de_tup (da_cons de_str da_nil)) (da_cons (de_new (df_lst da_nil)) (da_cons de_str (da_cons de_str (da_cons (de_new df_dnew) da_nil)))))))))))) da_nil))) hW))) dss_nil)
          (dss_cut (ds_set (i := 9) sc_law.nd rfl (.inr rfl) (de_if (dt_not (dt_val (de_call (pe_call G__law_is_machine (hr.mono (by first | decide | omega)) (by rfl) D__law_is_machine.g D__law_is_machine.F.kp D__law_is_machine.b .nil pass0 (da_cons (dv 4) da_nil)) hW))) (de_new (df_lst (da_cons (de_tup (da_cons de_int (da_cons (dv 4) da_nil))) da_nil))) (de_new (df_lc (own := [("_law_thing", 10)]) (g := gName 10) rfl sc_law.nd (di_seq (st := false) (de_tup (da_cons (dv 5) (da_cons (dv 6) da_nil))) hK) (blkOk_by (own := [("_law_thing", 10)]) (N := N_law) (sc := defScope s_law) (by decide +kernel)) (fun _ _ _ _ _ => (pg_name (i := 10) sc_law.nd rfl (.inl rfl))) (sg_name (i := 10) (by simp)) (fun _ _ _ _ _ => (pts_one (dt_not (dt_val (de_call (pe_call G__law_is_number (hr.mono (by first | decide | omega)) (by rfl) D__law_is_number.g D__law_is_number.F.kp D__law_is_number.b .nil pass0 (da_cons (dv 10) da_nil)) hW))))) (fun _ _ _ _ _ => (de_tup (da_cons de_int (da_cons (dv 10) da_nil))))))))
          (dss_cut (ds_if (PW.pt (dw_and (dt_cmp (op_eqX hr W.vol) sn_eq (dv 9) (de_new (df_lst da_nil))) (dw_and1 (dt_not (dt_val (de_call (pe_call G__law_is_word (hr.mono (by first | decide | omega)) (by rfl) D__law_is_word.g D__law_is_word.F.kp D__law_is_word.b .nil pass0 (da_cons (dv 3) da_nil)) hW)))))) (dss_one (ds_set (i := 9) sc_law.nd rfl (.inr rfl) (de_new (df_lst (da_cons (de_tup (da_cons de_int (da_cons (dv 3) da_nil))) da_nil))))) dss_nil)
          (dss_cut (ds_if (dt_cmp (op_eqX hr W.vol) sn_eq (dv 9) (de_new (df_lst da_nil))) (dss_one (ds_set (i := 7) sc_law.nd rfl (.inl rfl) (de_tup (da_cons de_str (da_cons (de_cb (pe_callB (call_reprX hr hA hm W.vol) (by rfl) T.repr (by decide +kernel) (da_cons (de_call (pe_call G__law_outcome (hr.mono (by first | decide | omega)) (by rfl) D__law_outcome.g D__law_outcome.F.kp D__law_outcome.b .nil pass0 (da_cons (dv 4) (da_cons (dv 5) (da_cons (dv 6) (da_cons (dv 3) da_nil))))) hW) da_nil)) sn_repr) da_nil))))) (dss_one (ds_set (i := 7) sc_law.nd rfl (.inl rfl) (de_tup (da_cons de_str (da_cons (de_cb (pe_callTy call_tuple_of (by rfl) T.tuple (by decide +kernel) (da_cons (de_new (df_lc (own := [("_law_at", 11)]) (g := gName 11) rfl sc_law.nd (di_range1 (st := false) (by rfl) T.range (da_cons de_int da_nil)) (blkOk_by (own := [("_law_at", 11)]) (N := N_law) (sc := defScope s_law) (by decide +kernel)) (fun _ _ _ _ _ => (pg_name (i := 11) sc_law.nd rfl (.inl rfl))) (sg_name (i := 11) (by simp)) (fun _ _ _ _ _ => dts_nil) (fun _ _ _ _ _ => (de_cmp (op_eqX hr W.vol) sn_eq (dv 11) (de_ix ix_all sn_ix (de_ix ix_all sn_ix (dv 9) de_int (fun _ _ => rfl)) de_int (fun _ _ => rfl)))))) da_nil)) sn_tupc) (da_cons (de_cb (pe_callB (call_reprX hr hA hm W.vol) (by rfl) T.repr (by decide +kernel) (da_cons (de_ix ix_all sn_ix (de_ix ix_all sn_ix (dv 9) de_int (fun _ _ => rfl)) de_int (fun _ _ => rfl)) da_nil)) sn_repr) da_nil)))))))
          (dss_one (ds_if (dt_cmp (op_neX hr W.vol) sn_ne (de_tried (k := 40) F4 hK hW hL TT_ hm g_QuickError hA hu (by rfl) D__law_tried (by rfl) TL_ hcd (hr.mono (by first | decide | omega)) (show LamX.LamS (defScope s_law) _ from LamX.lamS_by (by decide +kernel)) rfl (fun _ _ _ _ _ => rfl) (fun A9 outer9 s9 H9 E9 f9 c9 W9 KE9 hW hE hr9 => (de_callX (pe_call G_outcome (hr9.mono (by first | decide | omega)) (by rfl) D_outcome.g D_outcome.F.kp D_outcome.b .nil (passes_call (takes_of rfl rfl rfl rfl) (fun _ _ _ _ h => h)) (da_cons (dv 4) (da_cons (dv 5) (da_cons (dv 6) (da_cons (dv 3) da_nil))))) hW hE))) (dv 7)) (dss_one (ds_ret de_bl)) dss_nil))))))))))))
      (dss_one (ds_ret de_bl))))), ?_⟩
  refine ⟨_, rfl, a, ns, rfl, hS, fun d L H1 kept nd nL dk => ?_⟩
  have tab : LamX.TabS H1 (He.cT K ("law", none)).2 ("law.<locals>." ++ "<lambda>") := LamX.TabS.nil (kept _ _ hE)
  have ts1 : Ts Tl H1 := fun b hb => by
    obtain ⟨ps, e, tr⟩ := hT b hb
    exact ⟨ps, kept _ _ e, tr⟩
  refine ⟨{ lamDeck K Tl d L (He.cT K ("law", none)).2 ("law.<locals>." ++ "<lambda>") nt with H0 := H1, M0 := fun b => b = d ∨ b = L }, ⟨lamDeck_ok nt, lamDeck_lam nt⟩, [], fun b => b = d ∨ b = L, none :: some .deck :: List.replicate (N_law.length - 2) none, { nx := fun _ => False, rt := fun x => x = .bool true }, good1 nt dk tab ts1, ?_, ?_⟩
  · (try simp only [DL.iteB_true, DL.iteB_false, DL.sSeq, DL.sNext, DL.sRet, DL.sRetN, DL.sIf, DL.sAsg, DL.sNew, DL.sDrop, DL.sRel, DL.sApp, DL.sFor, DL.sBreak, DL.sCont, DL.sAsgT, DL.sPar, DL.sPar3, DL.sPar3DFD, DL.sParFD, DL.sParDF, DL.sExt, DL.sPut, DL.sAug, DL.sCut, DL.sRaise, DL.sWhile, DL.fVar, DL.fC, DL.fOb, DL.fGts, DL.f2, DL.f1, DL.fCall, DL.fB, DL.fTru, DL.fAnd, DL.fOr, DL.fNot, DL.fIf, DL.tAndD, DL.tOrD, DL.tNotD, DL.fNil, DL.fCons, DL.fTup, DL.fLst, DL.fDnew, DL.fNew, DL.fIt, DL.fRng1, DL.fRng2, DL.fLc, DL.fAG, DL.fFn, DL.fFnX, DL.fFnK, DL.fSl, DL.fNone, DL.fPart, DL.fList, DL.fM0, DL.fM1, DL.tYesD, DL.gdN, DL.gdT_t, DL.gdNil_n, DL.gdCons_c, DL.op2, DL.op1, DL.opC, DL.c1, DL.isiP, DL.typeO, DL.tyIs, DL.inG, DL.isND, DL.rel, DL.wipeD, DL.le_s0, DL.le_s1, DL.le_s2, DL.le_s3, DL.le_s4, DL.le_s5, DL.le_s6, DL.le_s7, DL.le_s8, DL.le_s9, DL.le_s10, DL.le_s11, DL.le_s12, DL.le_s13, DL.le_s14, DL.le_s15, DL.le_s16, DL.le_s17, DL.le_s18, DL.le_s19, DL.le_s20, DL.le_s21, DL.le_s22, DL.le_s23, DL.le_s24, DL.le_s25, DL.le_s26, DL.le_s27, DL.le_s28, DL.le_s29, DL.le_s30, DL.le_s31, DL.le_s32, DL.le_s33, DL.le_s34, DL.le_s35, DL.le_s36, DL.le_s37, DL.le_s38, DL.le_s39, DL.le_s40, DL.le_s41, DL.le_s42, DL.le_s43, DL.le_s44, DL.le_s45, DL.le_s46, DL.le_s47, DL.le_s48, DL.le_s49, DL.le_s50, DL.le_s51, DL.le_s52, DL.le_s53, DL.le_s54, DL.le_s55, DL.le_s56, DL.le_s57, DL.le_s58, DL.le_s59, DL.le_s60, DL.le_s61, DL.le_s62, DL.le_s63, DL.le_s64, DL.start0, DL.asDat, DL.lend, DL.noOwn, DL.DV.isOwn, DL.pd_dat, DL.pd_own, DL.ocpd_lst, DL.ocpd_dk, DL.itemsOf, List.map_cons, List.map_nil, List.append_nil, List.cons_append, List.nil_append, List.length_cons, List.length_nil, List.replicate_succ, List.replicate_zero, List.getElem?_cons_zero, List.getElem?_cons_succ, List.set_cons_zero, List.set_cons_succ, Nat.reduceSub, Nat.reduceAdd, Nat.sub_self, Nat.zero_add, Option.some.injEq, DL.DV.dat.injEq, PyData.bool.injEq, PyData.int.injEq, PyData.str.injEq, PyData.tuple.injEq, PyData.list.injEq, DL.DV.ob.injEq, V.ty.injEq, DL.DV.own.injEq, DL.OC.lst.injEq, List.cons.injEq, Option.map_some, exists_eq_left', exists_eq_left, exists_eq_right, exists_eq_right', exists_and_left, and_true, true_and, Bool.not_true, Bool.not_false, Bool.and_true, Bool.true_and, true_or, Bool.not_eq_true', Bool.false_eq_true, if_true, if_false, reduceIte, reduceCtorEq])
    have z0 : ("" : Str).length = 0 := rfl
    have we : isW "" = true := by decide +kernel
    refine ⟨by decide, by decide, for_inv (fun i ρ => ∃ x2 x3 x4 x5 x6 x7 x8 x9 x10 x11, ρ = [none, some .deck, x2, x3, x4, x5, x6, x7, x8, x9, x10, x11]) (fun i dt ρ N hi hI hN => ?_) ⟨_, _, _, _, _, _, _, _, _, _, rfl⟩ (fun ρ hI => ?_)⟩
    · obtain ⟨x2, x3, x4, x5, x6, x7, x8, x9, x10, x11, rfl⟩ := hI
      have hN : ∀ {x2 x3 x4 x5 x6 x7 x8 x9 x10 x11}, N [none, some .deck, x2, x3, x4, x5, x6, x7, x8, x9, x10, x11] := hN _ ⟨_, _, _, _, _, _, _, _, _, _, rfl⟩
      (try simp only [DL.iteB_true, DL.iteB_false, DL.sSeq, DL.sNext, DL.sRet, DL.sRetN, DL.sIf, DL.sAsg, DL.sNew, DL.sDrop, DL.sRel, DL.sApp, DL.sFor, DL.sBreak, DL.sCont, DL.sAsgT, DL.sPar, DL.sPar3, DL.sPar3DFD, DL.sParFD, DL.sParDF, DL.sExt, DL.sPut, DL.sAug, DL.sCut, DL.sRaise, DL.sWhile, DL.fVar, DL.fC, DL.fOb, DL.fGts, DL.f2, DL.f1, DL.fCall, DL.fB, DL.fTru, DL.fAnd, DL.fOr, DL.fNot, DL.fIf, DL.tAndD, DL.tOrD, DL.tNotD, DL.fNil, DL.fCons, DL.fTup, DL.fLst, DL.fDnew, DL.fNew, DL.fIt, DL.fRng1, DL.fRng2, DL.fLc, DL.fAG, DL.fFn, DL.fFnX, DL.fFnK, DL.fSl, DL.fNone, DL.fPart, DL.fList, DL.fM0, DL.fM1, DL.tYesD, DL.gdN, DL.gdT_t, DL.gdNil_n, DL.gdCons_c, DL.op2, DL.op1, DL.opC, DL.c1, DL.isiP, DL.typeO, DL.tyIs, DL.inG, DL.isND, DL.rel, DL.wipeD, DL.le_s0, DL.le_s1, DL.le_s2, DL.le_s3, DL.le_s4, DL.le_s5, DL.le_s6, DL.le_s7, DL.le_s8, DL.le_s9, DL.le_s10, DL.le_s11, DL.le_s12, DL.le_s13, DL.le_s14, DL.le_s15, DL.le_s16, DL.le_s17, DL.le_s18, DL.le_s19, DL.le_s20, DL.le_s21, DL.le_s22, DL.le_s23, DL.le_s24, DL.le_s25, DL.le_s26, DL.le_s27, DL.le_s28, DL.le_s29, DL.le_s30, DL.le_s31, DL.le_s32, DL.le_s33, DL.le_s34, DL.le_s35, DL.le_s36, DL.le_s37, DL.le_s38, DL.le_s39, DL.le_s40, DL.le_s41, DL.le_s42, DL.le_s43, DL.le_s44, DL.le_s45, DL.le_s46, DL.le_s47, DL.le_s48, DL.le_s49, DL.le_s50, DL.le_s51, DL.le_s52, DL.le_s53, DL.le_s54, DL.le_s55, DL.le_s56, DL.le_s57, DL.le_s58, DL.le_s59, DL.le_s60, DL.le_s61, DL.le_s62, DL.le_s63, DL.le_s64, DL.start0, DL.asDat, DL.lend, DL.noOwn, DL.DV.isOwn, DL.pd_dat, DL.pd_own, DL.ocpd_lst, DL.ocpd_dk, DL.itemsOf, List.map_cons, List.map_nil, List.append_nil, List.cons_append, List.nil_append, List.length_cons, List.length_nil, List.replicate_succ, List.replicate_zero, List.getElem?_cons_zero, List.getElem?_cons_succ, List.set_cons_zero, List.set_cons_succ, Nat.reduceSub, Nat.reduceAdd, Nat.sub_self, Nat.zero_add, Option.some.injEq, DL.DV.dat.injEq, PyData.bool.injEq, PyData.int.injEq, PyData.str.injEq, PyData.tuple.injEq, PyData.list.injEq, DL.DV.ob.injEq, V.ty.injEq, DL.DV.own.injEq, DL.OC.lst.injEq, List.cons.injEq, Option.map_some, exists_eq_left', exists_eq_left, exists_eq_right, exists_eq_right', exists_and_left, and_true, true_and, Bool.not_true, Bool.not_false, Bool.and_true, Bool.true_and, true_or, Bool.not_eq_true', Bool.false_eq_true, if_true, if_false, reduceIte, reduceCtorEq])
      refine ⟨_, rfl, by decide, by decide, fun xs hmB hl => ⟨_, rfl, by decide, by decide, fun c c0 c1 => ⟨_, rfl, by decide, by decide, fun d d0 d1 => ?_⟩⟩⟩
      (try simp only [DL.iteB_true, DL.iteB_false, DL.sSeq, DL.sNext, DL.sRet, DL.sRetN, DL.sIf, DL.sAsg, DL.sNew, DL.sDrop, DL.sRel, DL.sApp, DL.sFor, DL.sBreak, DL.sCont, DL.sAsgT, DL.sPar, DL.sPar3, DL.sPar3DFD, DL.sParFD, DL.sParDF, DL.sExt, DL.sPut, DL.sAug, DL.sCut, DL.sRaise, DL.sWhile, DL.fVar, DL.fC, DL.fOb, DL.fGts, DL.f2, DL.f1, DL.fCall, DL.fB, DL.fTru, DL.fAnd, DL.fOr, DL.fNot, DL.fIf, DL.tAndD, DL.tOrD, DL.tNotD, DL.fNil, DL.fCons, DL.fTup, DL.fLst, DL.fDnew, DL.fNew, DL.fIt, DL.fRng1, DL.fRng2, DL.fLc, DL.fAG, DL.fFn, DL.fFnX, DL.fFnK, DL.fSl, DL.fNone, DL.fPart, DL.fList, DL.fM0, DL.fM1, DL.tYesD, DL.gdN, DL.gdT_t, DL.gdNil_n, DL.gdCons_c, DL.op2, DL.op1, DL.opC, DL.c1, DL.isiP, DL.typeO, DL.tyIs, DL.inG, DL.isND, DL.rel, DL.wipeD, DL.le_s0, DL.le_s1, DL.le_s2, DL.le_s3, DL.le_s4, DL.le_s5, DL.le_s6, DL.le_s7, DL.le_s8, DL.le_s9, DL.le_s10, DL.le_s11, DL.le_s12, DL.le_s13, DL.le_s14, DL.le_s15, DL.le_s16, DL.le_s17, DL.le_s18, DL.le_s19, DL.le_s20, DL.le_s21, DL.le_s22, DL.le_s23, DL.le_s24, DL.le_s25, DL.le_s26, DL.le_s27, DL.le_s28, DL.le_s29, DL.le_s30, DL.le_s31, DL.le_s32, DL.le_s33, DL.le_s34, DL.le_s35, DL.le_s36, DL.le_s37, DL.le_s38, DL.le_s39, DL.le_s40, DL.le_s41, DL.le_s42, DL.le_s43, DL.le_s44, DL.le_s45, DL.le_s46, DL.le_s47, DL.le_s48, DL.le_s49, DL.le_s50, DL.le_s51, DL.le_s52, DL.le_s53, DL.le_s54, DL.le_s55, DL.le_s56, DL.le_s57, DL.le_s58, DL.le_s59, DL.le_s60, DL.le_s61, DL.le_s62, DL.le_s63, DL.le_s64, DL.start0, DL.asDat, DL.lend, DL.noOwn, DL.DV.isOwn, DL.pd_dat, DL.pd_own, DL.ocpd_lst, DL.ocpd_dk, DL.itemsOf, List.map_cons, List.map_nil, List.append_nil, List.cons_append, List.nil_append, List.length_cons, List.length_nil, List.replicate_succ, List.replicate_zero, List.getElem?_cons_zero, List.getElem?_cons_succ, List.set_cons_zero, List.set_cons_succ, Nat.reduceSub, Nat.reduceAdd, Nat.sub_self, Nat.zero_add, Option.some.injEq, DL.DV.dat.injEq, PyData.bool.injEq, PyData.int.injEq, PyData.str.injEq, PyData.tuple.injEq, PyData.list.injEq, DL.DV.ob.injEq, V.ty.injEq, DL.DV.own.injEq, DL.OC.lst.injEq, List.cons.injEq, Option.map_some, exists_eq_left', exists_eq_left, exists_eq_right, exists_eq_right', exists_and_left, and_true, true_and, Bool.not_true, Bool.not_false, Bool.and_true, Bool.true_and, true_or, Bool.not_eq_true', Bool.false_eq_true, if_true, if_false, reduceIte, reduceCtorEq])
      refine ⟨fun ρ => ∃ wd, isW wd = true ∧ wd.length ≤ 6 ∧ ρ = [none, some .deck, some (.dat dt), some (.dat (.str wd)), some (.dat (.tuple xs)), some (.dat (.int c)), some (.dat (.int d)), x7, x8, x9, x10, x11], ?_, ?_⟩
      · (try simp only [DL.iteB_true, DL.iteB_false, DL.sSeq, DL.sNext, DL.sRet, DL.sRetN, DL.sIf, DL.sAsg, DL.sNew, DL.sDrop, DL.sRel, DL.sApp, DL.sFor, DL.sBreak, DL.sCont, DL.sAsgT, DL.sPar, DL.sPar3, DL.sPar3DFD, DL.sParFD, DL.sParDF, DL.sExt, DL.sPut, DL.sAug, DL.sCut, DL.sRaise, DL.sWhile, DL.fVar, DL.fC, DL.fOb, DL.fGts, DL.f2, DL.f1, DL.fCall, DL.fB, DL.fTru, DL.fAnd, DL.fOr, DL.fNot, DL.fIf, DL.tAndD, DL.tOrD, DL.tNotD, DL.fNil, DL.fCons, DL.fTup, DL.fLst, DL.fDnew, DL.fNew, DL.fIt, DL.fRng1, DL.fRng2, DL.fLc, DL.fAG, DL.fFn, DL.fFnX, DL.fFnK, DL.fSl, DL.fNone, DL.fPart, DL.fList, DL.fM0, DL.fM1, DL.tYesD, DL.gdN, DL.gdT_t, DL.gdNil_n, DL.gdCons_c, DL.op2, DL.op1, DL.opC, DL.c1, DL.isiP, DL.typeO, DL.tyIs, DL.inG, DL.isND, DL.rel, DL.wipeD, DL.le_s0, DL.le_s1, DL.le_s2, DL.le_s3, DL.le_s4, DL.le_s5, DL.le_s6, DL.le_s7, DL.le_s8, DL.le_s9, DL.le_s10, DL.le_s11, DL.le_s12, DL.le_s13, DL.le_s14, DL.le_s15, DL.le_s16, DL.le_s17, DL.le_s18, DL.le_s19, DL.le_s20, DL.le_s21, DL.le_s22, DL.le_s23, DL.le_s24, DL.le_s25, DL.le_s26, DL.le_s27, DL.le_s28, DL.le_s29, DL.le_s30, DL.le_s31, DL.le_s32, DL.le_s33, DL.le_s34, DL.le_s35, DL.le_s36, DL.le_s37, DL.le_s38, DL.le_s39, DL.le_s40, DL.le_s41, DL.le_s42, DL.le_s43, DL.le_s44, DL.le_s45, DL.le_s46, DL.le_s47, DL.le_s48, DL.le_s49, DL.le_s50, DL.le_s51, DL.le_s52, DL.le_s53, DL.le_s54, DL.le_s55, DL.le_s56, DL.le_s57, DL.le_s58, DL.le_s59, DL.le_s60, DL.le_s61, DL.le_s62, DL.le_s63, DL.le_s64, DL.start0, DL.asDat, DL.lend, DL.noOwn, DL.DV.isOwn, DL.pd_dat, DL.pd_own, DL.ocpd_lst, DL.ocpd_dk, DL.itemsOf, List.map_cons, List.map_nil, List.append_nil, List.cons_append, List.nil_append, List.length_cons, List.length_nil, List.replicate_succ, List.replicate_zero, List.getElem?_cons_zero, List.getElem?_cons_succ, List.set_cons_zero, List.set_cons_succ, Nat.reduceSub, Nat.reduceAdd, Nat.sub_self, Nat.zero_add, Option.some.injEq, DL.DV.dat.injEq, PyData.bool.injEq, PyData.int.injEq, PyData.str.injEq, PyData.tuple.injEq, PyData.list.injEq, DL.DV.ob.injEq, V.ty.injEq, DL.DV.own.injEq, DL.OC.lst.injEq, List.cons.injEq, Option.map_some, exists_eq_left', exists_eq_left, exists_eq_right, exists_eq_right', exists_and_left, and_true, true_and, Bool.not_true, Bool.not_false, Bool.and_true, Bool.true_and, true_or, Bool.not_eq_true', Bool.false_eq_true, if_true, if_false, reduceIte, reduceCtorEq])
        (try simp only [DL.negP_i, DL.le_s0, DL.le_s1, DL.le_s2, DL.le_s3, DL.le_s4, DL.le_s5, DL.le_s6, DL.le_s7, DL.le_s8, DL.le_s9, DL.le_s10, DL.le_s11, DL.le_s12, DL.le_s13, DL.le_s14, DL.le_s15, DL.le_s16, DL.le_s17, DL.le_s18, DL.le_s19, DL.le_s20, DL.le_s21, DL.le_s22, DL.le_s23, DL.le_s24, DL.le_s25, DL.le_s26, DL.le_s27, DL.le_s28, DL.le_s29, DL.le_s30, DL.le_s31, DL.le_s32, DL.le_s33, DL.le_s34, DL.le_s35, DL.le_s36, DL.le_s37, DL.le_s38, DL.le_s39, DL.le_s40, DL.le_s41, DL.le_s42, DL.le_s43, DL.le_s44, DL.le_s45, DL.le_s46, DL.le_s47, DL.le_s48, DL.le_s49, DL.le_s50, DL.le_s51, DL.le_s52, DL.le_s53, DL.le_s54, DL.le_s55, DL.le_s56, DL.le_s57, DL.le_s58, DL.le_s59, DL.le_s60, DL.le_s61, DL.le_s62, DL.le_s63, DL.le_s64, DL.iteB_true, DL.iteB_false, DL.lenP_t, DL.lenP_l, DL.lenP_s, DL.eqP, DL.eqOk_int, DL.eqOk_str, DL.eqOk_emp, DL.eqOk_empL, DL.eqv_emp1, DL.eqv_empL1, DL.eqv_ii, DL.eqv_ss, DL.ixP_t, DL.ixP_l, DL.ixP_s, DL.slP_t, DL.slP_l, DL.slP_s, DL.intcP_i, DL.intcP_b, DL.intcP_s, DL.tupcP_l, DL.tupcP_t, DL.atI_z, DL.atI_o, DL.atI_t, DL.int0P_ii, DL.intP_ii, DL.addP_ii, DL.addP_ss, DL.addP_tt, DL.addP_ll, DL.isTup_t, DL.reprP, Bool.false_eq_true, if_true, if_false, reduceIte, Option.some.injEq, PyData.bool.injEq, exists_eq_left', exists_eq_left, exists_eq_right, exists_eq_right', true_and, and_true, Bool.true_eq_false, Bool.not_true, Bool.not_false, false_and, and_false, exists_and_left, reduceCtorEq, DL.DV.gts.injEq, exists_const])
        cases (c == 3) with
        | true => exact ⟨_, rfl, by decide, by decide, fun z wz lz => ⟨z, wz, by omega, rfl⟩⟩
        | false =>
          refine ⟨_, _, rfl, .inl rfl, by decide, by decide, fun e he => ?_⟩
          simp only [List.mem_cons, List.not_mem_nil, or_false] at he
          rcases he with rfl | rfl | rfl <;> exact ⟨_, rfl, by decide, by decide, fun z wz lz => ⟨z, wz, by omega, rfl⟩⟩
      · rintro ρ ⟨wd, ww, lw, rfl⟩
        have sm : small wd.length c d := ⟨by omega, by omega, c0, by omega, d0, by omega⟩
        have cl := clock_le sm
        have st : Stand xs 0 wd "" := ⟨hmB, Int.le_refl _, by omega, ww, we, room_of (by omega)⟩
        have so := say_out (k := (clockN wd.length c d).toNat) st (by omega)
        (try simp only [DL.iteB_true, DL.iteB_false, DL.sSeq, DL.sNext, DL.sRet, DL.sRetN, DL.sIf, DL.sAsg, DL.sNew, DL.sDrop, DL.sRel, DL.sApp, DL.sFor, DL.sBreak, DL.sCont, DL.sAsgT, DL.sPar, DL.sPar3, DL.sPar3DFD, DL.sParFD, DL.sParDF, DL.sExt, DL.sPut, DL.sAug, DL.sCut, DL.sRaise, DL.sWhile, DL.fVar, DL.fC, DL.fOb, DL.fGts, DL.f2, DL.f1, DL.fCall, DL.fB, DL.fTru, DL.fAnd, DL.fOr, DL.fNot, DL.fIf, DL.tAndD, DL.tOrD, DL.tNotD, DL.fNil, DL.fCons, DL.fTup, DL.fLst, DL.fDnew, DL.fNew, DL.fIt, DL.fRng1, DL.fRng2, DL.fLc, DL.fAG, DL.fFn, DL.fFnX, DL.fFnK, DL.fSl, DL.fNone, DL.fPart, DL.fList, DL.fM0, DL.fM1, DL.tYesD, DL.gdN, DL.gdT_t, DL.gdNil_n, DL.gdCons_c, DL.op2, DL.op1, DL.opC, DL.c1, DL.isiP, DL.typeO, DL.tyIs, DL.inG, DL.isND, DL.rel, DL.wipeD, DL.le_s0, DL.le_s1, DL.le_s2, DL.le_s3, DL.le_s4, DL.le_s5, DL.le_s6, DL.le_s7, DL.le_s8, DL.le_s9, DL.le_s10, DL.le_s11, DL.le_s12, DL.le_s13, DL.le_s14, DL.le_s15, DL.le_s16, DL.le_s17, DL.le_s18, DL.le_s19, DL.le_s20, DL.le_s21, DL.le_s22, DL.le_s23, DL.le_s24, DL.le_s25, DL.le_s26, DL.le_s27, DL.le_s28, DL.le_s29, DL.le_s30, DL.le_s31, DL.le_s32, DL.le_s33, DL.le_s34, DL.le_s35, DL.le_s36, DL.le_s37, DL.le_s38, DL.le_s39, DL.le_s40, DL.le_s41, DL.le_s42, DL.le_s43, DL.le_s44, DL.le_s45, DL.le_s46, DL.le_s47, DL.le_s48, DL.le_s49, DL.le_s50, DL.le_s51, DL.le_s52, DL.le_s53, DL.le_s54, DL.le_s55, DL.le_s56, DL.le_s57, DL.le_s58, DL.le_s59, DL.le_s60, DL.le_s61, DL.le_s62, DL.le_s63, DL.le_s64, DL.start0, DL.asDat, DL.lend, DL.noOwn, DL.DV.isOwn, DL.pd_dat, DL.pd_own, DL.ocpd_lst, DL.ocpd_dk, DL.itemsOf, List.map_cons, List.map_nil, List.append_nil, List.cons_append, List.nil_append, List.length_cons, List.length_nil, List.replicate_succ, List.replicate_zero, List.getElem?_cons_zero, List.getElem?_cons_succ, List.set_cons_zero, List.set_cons_succ, Nat.reduceSub, Nat.reduceAdd, Nat.sub_self, Nat.zero_add, Option.some.injEq, DL.DV.dat.injEq, PyData.bool.injEq, PyData.int.injEq, PyData.str.injEq, PyData.tuple.injEq, PyData.list.injEq, DL.DV.ob.injEq, V.ty.injEq, DL.DV.own.injEq, DL.OC.lst.injEq, List.cons.injEq, Option.map_some, exists_eq_left', exists_eq_left, exists_eq_right, exists_eq_right', exists_and_left, and_true, true_and, Bool.not_true, Bool.not_false, Bool.and_true, Bool.true_and, true_or, Bool.not_eq_true', Bool.false_eq_true, if_true, if_false, reduceIte, reduceCtorEq])
        refine out_ok st sm ?_
        refine ⟨xs, c, d, wd, rfl, st, sm, same_ok so ⟨_, rfl, ?_⟩⟩
        simp only [iteB_true, iteB_false, Bool.not_true]
        rw [lenP_s]
        refine ⟨by rw [sizeLine_eq]; omega, _, c, d, rfl, sm, wd, _, rfl, ww, lw, cl.1, cl.2, fun xs2 z hm2 h6 ho => ?_⟩
        have st2 : Stand xs2 0 wd "" := ⟨hm2, Int.le_refl _, by omega, ww, we, room_of (by omega)⟩
        have so2 := say_out (k := (clockN wd.length c d).toNat) st2 (by omega)
        (try simp only [DL.iteB_true, DL.iteB_false, DL.sSeq, DL.sNext, DL.sRet, DL.sRetN, DL.sIf, DL.sAsg, DL.sNew, DL.sDrop, DL.sRel, DL.sApp, DL.sFor, DL.sBreak, DL.sCont, DL.sAsgT, DL.sPar, DL.sPar3, DL.sPar3DFD, DL.sParFD, DL.sParDF, DL.sExt, DL.sPut, DL.sAug, DL.sCut, DL.sRaise, DL.sWhile, DL.fVar, DL.fC, DL.fOb, DL.fGts, DL.f2, DL.f1, DL.fCall, DL.fB, DL.fTru, DL.fAnd, DL.fOr, DL.fNot, DL.fIf, DL.tAndD, DL.tOrD, DL.tNotD, DL.fNil, DL.fCons, DL.fTup, DL.fLst, DL.fDnew, DL.fNew, DL.fIt, DL.fRng1, DL.fRng2, DL.fLc, DL.fAG, DL.fFn, DL.fFnX, DL.fFnK, DL.fSl, DL.fNone, DL.fPart, DL.fList, DL.fM0, DL.fM1, DL.tYesD, DL.gdN, DL.gdT_t, DL.gdNil_n, DL.gdCons_c, DL.op2, DL.op1, DL.opC, DL.c1, DL.isiP, DL.typeO, DL.tyIs, DL.inG, DL.isND, DL.rel, DL.wipeD, DL.le_s0, DL.le_s1, DL.le_s2, DL.le_s3, DL.le_s4, DL.le_s5, DL.le_s6, DL.le_s7, DL.le_s8, DL.le_s9, DL.le_s10, DL.le_s11, DL.le_s12, DL.le_s13, DL.le_s14, DL.le_s15, DL.le_s16, DL.le_s17, DL.le_s18, DL.le_s19, DL.le_s20, DL.le_s21, DL.le_s22, DL.le_s23, DL.le_s24, DL.le_s25, DL.le_s26, DL.le_s27, DL.le_s28, DL.le_s29, DL.le_s30, DL.le_s31, DL.le_s32, DL.le_s33, DL.le_s34, DL.le_s35, DL.le_s36, DL.le_s37, DL.le_s38, DL.le_s39, DL.le_s40, DL.le_s41, DL.le_s42, DL.le_s43, DL.le_s44, DL.le_s45, DL.le_s46, DL.le_s47, DL.le_s48, DL.le_s49, DL.le_s50, DL.le_s51, DL.le_s52, DL.le_s53, DL.le_s54, DL.le_s55, DL.le_s56, DL.le_s57, DL.le_s58, DL.le_s59, DL.le_s60, DL.le_s61, DL.le_s62, DL.le_s63, DL.le_s64, DL.start0, DL.asDat, DL.lend, DL.noOwn, DL.DV.isOwn, DL.pd_dat, DL.pd_own, DL.ocpd_lst, DL.ocpd_dk, DL.itemsOf, List.map_cons, List.map_nil, List.append_nil, List.cons_append, List.nil_append, List.length_cons, List.length_nil, List.replicate_succ, List.replicate_zero, List.getElem?_cons_zero, List.getElem?_cons_succ, List.set_cons_zero, List.set_cons_succ, Nat.reduceSub, Nat.reduceAdd, Nat.sub_self, Nat.zero_add, Option.some.injEq, DL.DV.dat.injEq, PyData.bool.injEq, PyData.int.injEq, PyData.str.injEq, PyData.tuple.injEq, PyData.list.injEq, DL.DV.ob.injEq, V.ty.injEq, DL.DV.own.injEq, DL.OC.lst.injEq, List.cons.injEq, Option.map_some, exists_eq_left', exists_eq_left, exists_eq_right, exists_eq_right', exists_and_left, and_true, true_and, Bool.not_true, Bool.not_false, Bool.and_true, Bool.true_and, true_or, Bool.not_eq_true', Bool.false_eq_true, if_true, if_false, reduceIte, reduceCtorEq])
        refine out_ok st2 sm ⟨.inl rfl, ?_⟩
        rw [ho] at so2 ⊢
        exact same_ok so2 ⟨_, rfl, hN⟩
    · obtain ⟨x2, x3, x4, x5, x6, x7, x8, x9, x10, x11, rfl⟩ := hI
      (try simp only [DL.iteB_true, DL.iteB_false, DL.sSeq, DL.sNext, DL.sRet, DL.sRetN, DL.sIf, DL.sAsg, DL.sNew, DL.sDrop, DL.sRel, DL.sApp, DL.sFor, DL.sBreak, DL.sCont, DL.sAsgT, DL.sPar, DL.sPar3, DL.sPar3DFD, DL.sParFD, DL.sParDF, DL.sExt, DL.sPut, DL.sAug, DL.sCut, DL.sRaise, DL.sWhile, DL.fVar, DL.fC, DL.fOb, DL.fGts, DL.f2, DL.f1, DL.fCall, DL.fB, DL.fTru, DL.fAnd, DL.fOr, DL.fNot, DL.fIf, DL.tAndD, DL.tOrD, DL.tNotD, DL.fNil, DL.fCons, DL.fTup, DL.fLst, DL.fDnew, DL.fNew, DL.fIt, DL.fRng1, DL.fRng2, DL.fLc, DL.fAG, DL.fFn, DL.fFnX, DL.fFnK, DL.fSl, DL.fNone, DL.fPart, DL.fList, DL.fM0, DL.fM1, DL.tYesD, DL.gdN, DL.gdT_t, DL.gdNil_n, DL.gdCons_c, DL.op2, DL.op1, DL.opC, DL.c1, DL.isiP, DL.typeO, DL.tyIs, DL.inG, DL.isND, DL.rel, DL.wipeD, DL.le_s0, DL.le_s1, DL.le_s2, DL.le_s3, DL.le_s4, DL.le_s5, DL.le_s6, DL.le_s7, DL.le_s8, DL.le_s9, DL.le_s10, DL.le_s11, DL.le_s12, DL.le_s13, DL.le_s14, DL.le_s15, DL.le_s16, DL.le_s17, DL.le_s18, DL.le_s19, DL.le_s20, DL.le_s21, DL.le_s22, DL.le_s23, DL.le_s24, DL.le_s25, DL.le_s26, DL.le_s27, DL.le_s28, DL.le_s29, DL.le_s30, DL.le_s31, DL.le_s32, DL.le_s33, DL.le_s34, DL.le_s35, DL.le_s36, DL.le_s37, DL.le_s38, DL.le_s39, DL.le_s40, DL.le_s41, DL.le_s42, DL.le_s43, DL.le_s44, DL.le_s45, DL.le_s46, DL.le_s47, DL.le_s48, DL.le_s49, DL.le_s50, DL.le_s51, DL.le_s52, DL.le_s53, DL.le_s54, DL.le_s55, DL.le_s56, DL.le_s57, DL.le_s58, DL.le_s59, DL.le_s60, DL.le_s61, DL.le_s62, DL.le_s63, DL.le_s64, DL.start0, DL.asDat, DL.lend, DL.noOwn, DL.DV.isOwn, DL.pd_dat, DL.pd_own, DL.ocpd_lst, DL.ocpd_dk, DL.itemsOf, List.map_cons, List.map_nil, List.append_nil, List.cons_append, List.nil_append, List.length_cons, List.length_nil, List.replicate_succ, List.replicate_zero, List.getElem?_cons_zero, List.getElem?_cons_succ, List.set_cons_zero, List.set_cons_succ, Nat.reduceSub, Nat.reduceAdd, Nat.sub_self, Nat.zero_add, Option.some.injEq, DL.DV.dat.injEq, PyData.bool.injEq, PyData.int.injEq, PyData.str.injEq, PyData.tuple.injEq, PyData.list.injEq, DL.DV.ob.injEq, V.ty.injEq, DL.DV.own.injEq, DL.OC.lst.injEq, List.cons.injEq, Option.map_some, exists_eq_left', exists_eq_left, exists_eq_right, exists_eq_right', exists_and_left, and_true, true_and, Bool.not_true, Bool.not_false, Bool.and_true, Bool.true_and, true_or, Bool.not_eq_true', Bool.false_eq_true, if_true, if_false, reduceIte, reduceCtorEq])
      refine ⟨by decide, by decide, for_inv (fun i ρ => ∃ x2 x3 x4 x5 x6 x7 x8 x9 x10 x11, ρ = [none, some .deck, x2, x3, x4, x5, x6, x7, x8, x9, x10, x11]) (fun i dt ρ N hi hI hN => ?_) ⟨_, _, _, _, _, _, _, _, _, _, rfl⟩ (fun ρ hI => ?_)⟩
      · obtain ⟨x2, x3, x4, x5, x6, x7, x8, x9, x10, x11, rfl⟩ := hI
        have hN : ∀ {x2 x3 x4 x5 x6 x7 x8 x9 x10 x11}, N [none, some .deck, x2, x3, x4, x5, x6, x7, x8, x9, x10, x11] := hN _ ⟨_, _, _, _, _, _, _, _, _, _, rfl⟩
        (try simp only [DL.iteB_true, DL.iteB_false, DL.sSeq, DL.sNext, DL.sRet, DL.sRetN, DL.sIf, DL.sAsg, DL.sNew, DL.sDrop, DL.sRel, DL.sApp, DL.sFor, DL.sBreak, DL.sCont, DL.sAsgT, DL.sPar, DL.sPar3, DL.sPar3DFD, DL.sParFD, DL.sParDF, DL.sExt, DL.sPut, DL.sAug, DL.sCut, DL.sRaise, DL.sWhile, DL.fVar, DL.fC, DL.fOb, DL.fGts, DL.f2, DL.f1, DL.fCall, DL.fB, DL.fTru, DL.fAnd, DL.fOr, DL.fNot, DL.fIf, DL.tAndD, DL.tOrD, DL.tNotD, DL.fNil, DL.fCons, DL.fTup, DL.fLst, DL.fDnew, DL.fNew, DL.fIt, DL.fRng1, DL.fRng2, DL.fLc, DL.fAG, DL.fFn, DL.fFnX, DL.fFnK, DL.fSl, DL.fNone, DL.fPart, DL.fList, DL.fM0, DL.fM1, DL.tYesD, DL.gdN, DL.gdT_t, DL.gdNil_n, DL.gdCons_c, DL.op2, DL.op1, DL.opC, DL.c1, DL.isiP, DL.typeO, DL.tyIs, DL.inG, DL.isND, DL.rel, DL.wipeD, DL.le_s0, DL.le_s1, DL.le_s2, DL.le_s3, DL.le_s4, DL.le_s5, DL.le_s6, DL.le_s7, DL.le_s8, DL.le_s9, DL.le_s10, DL.le_s11, DL.le_s12, DL.le_s13, DL.le_s14, DL.le_s15, DL.le_s16, DL.le_s17, DL.le_s18, DL.le_s19, DL.le_s20, DL.le_s21, DL.le_s22, DL.le_s23, DL.le_s24, DL.le_s25, DL.le_s26, DL.le_s27, DL.le_s28, DL.le_s29, DL.le_s30, DL.le_s31, DL.le_s32, DL.le_s33, DL.le_s34, DL.le_s35, DL.le_s36, DL.le_s37, DL.le_s38, DL.le_s39, DL.le_s40, DL.le_s41, DL.le_s42, DL.le_s43, DL.le_s44, DL.le_s45, DL.le_s46, DL.le_s47, DL.le_s48, DL.le_s49, DL.le_s50, DL.le_s51, DL.le_s52, DL.le_s53, DL.le_s54, DL.le_s55, DL.le_s56, DL.le_s57, DL.le_s58, DL.le_s59, DL.le_s60, DL.le_s61, DL.le_s62, DL.le_s63, DL.le_s64, DL.start0, DL.asDat, DL.lend, DL.noOwn, DL.DV.isOwn, DL.pd_dat, DL.pd_own, DL.ocpd_lst, DL.ocpd_dk, DL.itemsOf, List.map_cons, List.map_nil, List.append_nil, List.cons_append, List.nil_append, List.length_cons, List.length_nil, List.replicate_succ, List.replicate_zero, List.getElem?_cons_zero, List.getElem?_cons_succ, List.set_cons_zero, List.set_cons_succ, Nat.reduceSub, Nat.reduceAdd, Nat.sub_self, Nat.zero_add, Option.some.injEq, DL.DV.dat.injEq, PyData.bool.injEq, PyData.int.injEq, PyData.str.injEq, PyData.tuple.injEq, PyData.list.injEq, DL.DV.ob.injEq, V.ty.injEq, DL.DV.own.injEq, DL.OC.lst.injEq, List.cons.injEq, Option.map_some, exists_eq_left', exists_eq_left, exists_eq_right, exists_eq_right', exists_and_left, and_true, true_and, Bool.not_true, Bool.not_false, Bool.and_true, Bool.true_and, true_or, Bool.not_eq_true', Bool.false_eq_true, if_true, if_false, reduceIte, reduceCtorEq])
        refine ⟨_, rfl, by decide, by decide, fun xs hmB hl => ⟨_, rfl, by decide, by decide, fun c c0 c1 => ⟨_, rfl, by decide, by decide, fun d d0 d1 => ⟨_, rfl, by decide, by decide, fun wd ww lw => ?_⟩⟩⟩⟩
        have nbx := nb_mach hmB (by omega)
        have nbw := nb_word ww (n := 4) (by omega)
        have hpos : 0 < xs.length := by
          have h : (decide (0 < xs.length) && xs.all (stateB xs.length)) = true := hmB
          rw [Bool.and_eq_true] at h
          exact of_decide_eq_true h.1
        (try simp only [DL.iteB_true, DL.iteB_false, DL.sSeq, DL.sNext, DL.sRet, DL.sRetN, DL.sIf, DL.sAsg, DL.sNew, DL.sDrop, DL.sRel, DL.sApp, DL.sFor, DL.sBreak, DL.sCont, DL.sAsgT, DL.sPar, DL.sPar3, DL.sPar3DFD, DL.sParFD, DL.sParDF, DL.sExt, DL.sPut, DL.sAug, DL.sCut, DL.sRaise, DL.sWhile, DL.fVar, DL.fC, DL.fOb, DL.fGts, DL.f2, DL.f1, DL.fCall, DL.fB, DL.fTru, DL.fAnd, DL.fOr, DL.fNot, DL.fIf, DL.tAndD, DL.tOrD, DL.tNotD, DL.fNil, DL.fCons, DL.fTup, DL.fLst, DL.fDnew, DL.fNew, DL.fIt, DL.fRng1, DL.fRng2, DL.fLc, DL.fAG, DL.fFn, DL.fFnX, DL.fFnK, DL.fSl, DL.fNone, DL.fPart, DL.fList, DL.fM0, DL.fM1, DL.tYesD, DL.gdN, DL.gdT_t, DL.gdNil_n, DL.gdCons_c, DL.op2, DL.op1, DL.opC, DL.c1, DL.isiP, DL.typeO, DL.tyIs, DL.inG, DL.isND, DL.rel, DL.wipeD, DL.le_s0, DL.le_s1, DL.le_s2, DL.le_s3, DL.le_s4, DL.le_s5, DL.le_s6, DL.le_s7, DL.le_s8, DL.le_s9, DL.le_s10, DL.le_s11, DL.le_s12, DL.le_s13, DL.le_s14, DL.le_s15, DL.le_s16, DL.le_s17, DL.le_s18, DL.le_s19, DL.le_s20, DL.le_s21, DL.le_s22, DL.le_s23, DL.le_s24, DL.le_s25, DL.le_s26, DL.le_s27, DL.le_s28, DL.le_s29, DL.le_s30, DL.le_s31, DL.le_s32, DL.le_s33, DL.le_s34, DL.le_s35, DL.le_s36, DL.le_s37, DL.le_s38, DL.le_s39, DL.le_s40, DL.le_s41, DL.le_s42, DL.le_s43, DL.le_s44, DL.le_s45, DL.le_s46, DL.le_s47, DL.le_s48, DL.le_s49, DL.le_s50, DL.le_s51, DL.le_s52, DL.le_s53, DL.le_s54, DL.le_s55, DL.le_s56, DL.le_s57, DL.le_s58, DL.le_s59, DL.le_s60, DL.le_s61, DL.le_s62, DL.le_s63, DL.le_s64, DL.start0, DL.asDat, DL.lend, DL.noOwn, DL.DV.isOwn, DL.pd_dat, DL.pd_own, DL.ocpd_lst, DL.ocpd_dk, DL.itemsOf, List.map_cons, List.map_nil, List.append_nil, List.cons_append, List.nil_append, List.length_cons, List.length_nil, List.replicate_succ, List.replicate_zero, List.getElem?_cons_zero, List.getElem?_cons_succ, List.set_cons_zero, List.set_cons_succ, Nat.reduceSub, Nat.reduceAdd, Nat.sub_self, Nat.zero_add, Option.some.injEq, DL.DV.dat.injEq, PyData.bool.injEq, PyData.int.injEq, PyData.str.injEq, PyData.tuple.injEq, PyData.list.injEq, DL.DV.ob.injEq, V.ty.injEq, DL.DV.own.injEq, DL.OC.lst.injEq, List.cons.injEq, Option.map_some, exists_eq_left', exists_eq_left, exists_eq_right, exists_eq_right', exists_and_left, and_true, true_and, Bool.not_true, Bool.not_false, Bool.and_true, Bool.true_and, true_or, Bool.not_eq_true', Bool.false_eq_true, if_true, if_false, reduceIte, reduceCtorEq])
        (try simp only [DL.negP_i, DL.le_s0, DL.le_s1, DL.le_s2, DL.le_s3, DL.le_s4, DL.le_s5, DL.le_s6, DL.le_s7, DL.le_s8, DL.le_s9, DL.le_s10, DL.le_s11, DL.le_s12, DL.le_s13, DL.le_s14, DL.le_s15, DL.le_s16, DL.le_s17, DL.le_s18, DL.le_s19, DL.le_s20, DL.le_s21, DL.le_s22, DL.le_s23, DL.le_s24, DL.le_s25, DL.le_s26, DL.le_s27, DL.le_s28, DL.le_s29, DL.le_s30, DL.le_s31, DL.le_s32, DL.le_s33, DL.le_s34, DL.le_s35, DL.le_s36, DL.le_s37, DL.le_s38, DL.le_s39, DL.le_s40, DL.le_s41, DL.le_s42, DL.le_s43, DL.le_s44, DL.le_s45, DL.le_s46, DL.le_s47, DL.le_s48, DL.le_s49, DL.le_s50, DL.le_s51, DL.le_s52, DL.le_s53, DL.le_s54, DL.le_s55, DL.le_s56, DL.le_s57, DL.le_s58, DL.le_s59, DL.le_s60, DL.le_s61, DL.le_s62, DL.le_s63, DL.le_s64, DL.iteB_true, DL.iteB_false, DL.lenP_t, DL.lenP_l, DL.lenP_s, DL.eqP, DL.eqOk_int, DL.eqOk_str, DL.eqOk_emp, DL.eqOk_empL, DL.eqv_emp1, DL.eqv_empL1, DL.eqv_ii, DL.eqv_ss, DL.ixP_t, DL.ixP_l, DL.ixP_s, DL.slP_t, DL.slP_l, DL.slP_s, DL.intcP_i, DL.intcP_b, DL.intcP_s, DL.tupcP_l, DL.tupcP_t, DL.atI_z, DL.atI_o, DL.atI_t, DL.int0P_ii, DL.intP_ii, DL.addP_ii, DL.addP_ss, DL.addP_tt, DL.addP_ll, DL.isTup_t, DL.reprP, Bool.false_eq_true, if_true, if_false, reduceIte, Option.some.injEq, PyData.bool.injEq, exists_eq_left', exists_eq_left, exists_eq_right, exists_eq_right', true_and, and_true, Bool.true_eq_false, Bool.not_true, Bool.not_false, false_and, and_false, exists_and_left, reduceCtorEq, DL.DV.gts.injEq, exists_const])
        refine ⟨by unfold CPow; decide, fun ρ => ∃ (m : PyData) (odd : List PyData), Nb 5 600 m ∧ 0 < odd.length ∧ odd.length ≤ 1000 ∧ (∀ e ∈ odd, Nb 3 100 e) ∧ (∀ e ∈ odd, ∀ k, e = .int k → k ≤ 2) ∧ ρ = [none, some .deck, some (.dat dt), some (.dat (.str wd)), some (.dat m), some (.dat (.int c)), some (.dat (.int d)), x7, some (.dat (.list odd)), x9, x10, x11], ?_, ?_⟩
        · refine ⟨_, rfl, by decide, by decide, fun y y0 y1 => ⟨rfl, ?_⟩⟩
          cases PyData.eqv (.int y) (.int 0) with
          | true =>
            have hst : stateB xs.length xs[0] = true := by
              have h : (decide (0 < xs.length) && xs.all (stateB xs.length)) = true := hmB
              rw [Bool.and_eq_true] at h
              exact List.all_eq_true.mp h.2 _ (List.getElem_mem hpos)
            refine ⟨xs, .inr rfl, xs[0], atI_nat (j := 0) (List.getElem?_eq_getElem hpos), _, _, rfl, .inl rfl, by show 0 < 8; decide, by show 8 ≤ 1000000000; decide, fun e he => ?_⟩
            simp only [List.mem_cons, List.not_mem_nil, or_false] at he
            have fin : Nb 5 600 e → ∃ (m : PyData) (odd : List PyData), Nb 5 600 m ∧ 0 < odd.length ∧ odd.length ≤ 1000 ∧ (∀ e ∈ odd, Nb 3 100 e) ∧ (∀ e ∈ odd, ∀ k, e = .int k → k ≤ 2) ∧ ([none, some .deck, some (.dat dt), some (.dat (.str wd)), some (.dat e), some (.dat (.int c)), some (.dat (.int d)), x7, some (.dat (.list [.none, .bool true, .bool false, .int (-1), .str "1", .str "", .tuple [], .tuple [.int 1], .list [.int 1], .dict [], .int (-10 ^ Int.toNat 39), .str "c"])), x9, x10, x11] : DEnv) = [none, some .deck, some (.dat dt), some (.dat (.str wd)), some (.dat m), some (.dat (.int c)), some (.dat (.int d)), x7, some (.dat (.list odd)), x9, x10, x11] := fun h => ⟨_, _, h, by decide, by decide, nbAll (by decide +kernel), capAll (by decide +kernel), rfl⟩
            refine fin ?_
            rcases he with rfl | rfl | rfl | rfl | rfl | rfl | rfl | rfl
            · exact nb_of (by decide +kernel)
            · exact nb_of (by decide +kernel)
            · exact nb_of (by decide +kernel)
            · exact nb_of (by decide +kernel)
            · exact nbx.parts.1.lst.mono (by omega) (by omega)
            · exact (nb_state (n := xs.length) (by omega) hst).mono (by omega) (by omega)
            · exact ((NbL.cons nbx (NbL.nil 3 0)).tup).mono (by omega) (by omega)
            · exact nb_of (by decide +kernel)
          | false => exact ⟨_, _, nbx.mono (by omega) (by omega), by decide, by decide, nbAll (by decide +kernel), capAll (by decide +kernel), rfl⟩
        · rintro ρ ⟨m, odd, nm, o1, o2, o3, o4, rfl⟩
          refine ⟨fun ρ => ∃ c2, Nb 3 100 c2 ∧ (∀ k, c2 = .int k → k ≤ 2) ∧ ρ = [none, some .deck, some (.dat dt), some (.dat (.str wd)), some (.dat m), some (.dat c2), some (.dat (.int d)), x7, some (.dat (.list odd)), x9, x10, x11], ?_, ?_⟩
          · (try simp only [DL.iteB_true, DL.iteB_false, DL.sSeq, DL.sNext, DL.sRet, DL.sRetN, DL.sIf, DL.sAsg, DL.sNew, DL.sDrop, DL.sRel, DL.sApp, DL.sFor, DL.sBreak, DL.sCont, DL.sAsgT, DL.sPar, DL.sPar3, DL.sPar3DFD, DL.sParFD, DL.sParDF, DL.sExt, DL.sPut, DL.sAug, DL.sCut, DL.sRaise, DL.sWhile, DL.fVar, DL.fC, DL.fOb, DL.fGts, DL.f2, DL.f1, DL.fCall, DL.fB, DL.fTru, DL.fAnd, DL.fOr, DL.fNot, DL.fIf, DL.tAndD, DL.tOrD, DL.tNotD, DL.fNil, DL.fCons, DL.fTup, DL.fLst, DL.fDnew, DL.fNew, DL.fIt, DL.fRng1, DL.fRng2, DL.fLc, DL.fAG, DL.fFn, DL.fFnX, DL.fFnK, DL.fSl, DL.fNone, DL.fPart, DL.fList, DL.fM0, DL.fM1, DL.tYesD, DL.gdN, DL.gdT_t, DL.gdNil_n, DL.gdCons_c, DL.op2, DL.op1, DL.opC, DL.c1, DL.isiP, DL.typeO, DL.tyIs, DL.inG, DL.isND, DL.rel, DL.wipeD, DL.le_s0, DL.le_s1, DL.le_s2, DL.le_s3, DL.le_s4, DL.le_s5, DL.le_s6, DL.le_s7, DL.le_s8, DL.le_s9, DL.le_s10, DL.le_s11, DL.le_s12, DL.le_s13, DL.le_s14, DL.le_s15, DL.le_s16, DL.le_s17, DL.le_s18, DL.le_s19, DL.le_s20, DL.le_s21, DL.le_s22, DL.le_s23, DL.le_s24, DL.le_s25, DL.le_s26, DL.le_s27, DL.le_s28, DL.le_s29, DL.le_s30, DL.le_s31, DL.le_s32, DL.le_s33, DL.le_s34, DL.le_s35, DL.le_s36, DL.le_s37, DL.le_s38, DL.le_s39, DL.le_s40, DL.le_s41, DL.le_s42, DL.le_s43, DL.le_s44, DL.le_s45, DL.le_s46, DL.le_s47, DL.le_s48, DL.le_s49, DL.le_s50, DL.le_s51, DL.le_s52, DL.le_s53, DL.le_s54, DL.le_s55, DL.le_s56, DL.le_s57, DL.le_s58, DL.le_s59, DL.le_s60, DL.le_s61, DL.le_s62, DL.le_s63, DL.le_s64, DL.start0, DL.asDat, DL.lend, DL.noOwn, DL.DV.isOwn, DL.pd_dat, DL.pd_own, DL.ocpd_lst, DL.ocpd_dk, DL.itemsOf, List.map_cons, List.map_nil, List.append_nil, List.cons_append, List.nil_append, List.length_cons, List.length_nil, List.replicate_succ, List.replicate_zero, List.getElem?_cons_zero, List.getElem?_cons_succ, List.set_cons_zero, List.set_cons_succ, Nat.reduceSub, Nat.reduceAdd, Nat.sub_self, Nat.zero_add, Option.some.injEq, DL.DV.dat.injEq, PyData.bool.injEq, PyData.int.injEq, PyData.str.injEq, PyData.tuple.injEq, PyData.list.injEq, DL.DV.ob.injEq, V.ty.injEq, DL.DV.own.injEq, DL.OC.lst.injEq, List.cons.injEq, Option.map_some, exists_eq_left', exists_eq_left, exists_eq_right, exists_eq_right', exists_and_left, and_true, true_and, Bool.not_true, Bool.not_false, Bool.and_true, Bool.true_and, true_or, Bool.not_eq_true', Bool.false_eq_true, if_true, if_false, reduceIte, reduceCtorEq])
            (try simp only [DL.negP_i, DL.le_s0, DL.le_s1, DL.le_s2, DL.le_s3, DL.le_s4, DL.le_s5, DL.le_s6, DL.le_s7, DL.le_s8, DL.le_s9, DL.le_s10, DL.le_s11, DL.le_s12, DL.le_s13, DL.le_s14, DL.le_s15, DL.le_s16, DL.le_s17, DL.le_s18, DL.le_s19, DL.le_s20, DL.le_s21, DL.le_s22, DL.le_s23, DL.le_s24, DL.le_s25, DL.le_s26, DL.le_s27, DL.le_s28, DL.le_s29, DL.le_s30, DL.le_s31, DL.le_s32, DL.le_s33, DL.le_s34, DL.le_s35, DL.le_s36, DL.le_s37, DL.le_s38, DL.le_s39, DL.le_s40, DL.le_s41, DL.le_s42, DL.le_s43, DL.le_s44, DL.le_s45, DL.le_s46, DL.le_s47, DL.le_s48, DL.le_s49, DL.le_s50, DL.le_s51, DL.le_s52, DL.le_s53, DL.le_s54, DL.le_s55, DL.le_s56, DL.le_s57, DL.le_s58, DL.le_s59, DL.le_s60, DL.le_s61, DL.le_s62, DL.le_s63, DL.le_s64, DL.iteB_true, DL.iteB_false, DL.lenP_t, DL.lenP_l, DL.lenP_s, DL.eqP, DL.eqOk_int, DL.eqOk_str, DL.eqOk_emp, DL.eqOk_empL, DL.eqv_emp1, DL.eqv_empL1, DL.eqv_ii, DL.eqv_ss, DL.ixP_t, DL.ixP_l, DL.ixP_s, DL.slP_t, DL.slP_l, DL.slP_s, DL.intcP_i, DL.intcP_b, DL.intcP_s, DL.tupcP_l, DL.tupcP_t, DL.atI_z, DL.atI_o, DL.atI_t, DL.int0P_ii, DL.intP_ii, DL.addP_ii, DL.addP_ss, DL.addP_tt, DL.addP_ll, DL.isTup_t, DL.reprP, Bool.false_eq_true, if_true, if_false, reduceIte, Option.some.injEq, PyData.bool.injEq, exists_eq_left', exists_eq_left, exists_eq_right, exists_eq_right', true_and, and_true, Bool.true_eq_false, Bool.not_true, Bool.not_false, false_and, and_false, exists_and_left, reduceCtorEq, DL.DV.gts.injEq, exists_const])
            refine ⟨_, rfl, by decide, by decide, fun y y0 y1 => ⟨rfl, ?_⟩⟩
            cases PyData.eqv (.int y) (.int 0) with
            | true =>
              first
                | exact ⟨_, odd, rfl, .inl rfl, o1, by omega, fun e he => ⟨o3 e he, o4 e he⟩⟩
                | exact ⟨_, odd, rfl, .inl rfl, o1, by omega, fun e he => ⟨e, o3 e he, o4 e he, rfl⟩⟩
            | false =>
              first
                | exact ⟨(nb_int c0 (by omega)).mono (by omega) (by omega), fun k e => by cases e; omega⟩
                | exact ⟨_, (nb_int c0 (by omega)).mono (by omega) (by omega), (fun k e => by cases e; omega), rfl⟩
          · rintro ρ ⟨c2, nc, cc, rfl⟩
            refine ⟨fun ρ => ∃ d2, Nb 3 100 d2 ∧ (∀ k, d2 = .int k → k ≤ 100) ∧ ρ = [none, some .deck, some (.dat dt), some (.dat (.str wd)), some (.dat m), some (.dat c2), some (.dat d2), x7, some (.dat (.list odd)), x9, x10, x11], ?_, ?_⟩
            · (try simp only [DL.iteB_true, DL.iteB_false, DL.sSeq, DL.sNext, DL.sRet, DL.sRetN, DL.sIf, DL.sAsg, DL.sNew, DL.sDrop, DL.sRel, DL.sApp, DL.sFor, DL.sBreak, DL.sCont, DL.sAsgT, DL.sPar, DL.sPar3, DL.sPar3DFD, DL.sParFD, DL.sParDF, DL.sExt, DL.sPut, DL.sAug, DL.sCut, DL.sRaise, DL.sWhile, DL.fVar, DL.fC, DL.fOb, DL.fGts, DL.f2, DL.f1, DL.fCall, DL.fB, DL.fTru, DL.fAnd, DL.fOr, DL.fNot, DL.fIf, DL.tAndD, DL.tOrD, DL.tNotD, DL.fNil, DL.fCons, DL.fTup, DL.fLst, DL.fDnew, DL.fNew, DL.fIt, DL.fRng1, DL.fRng2, DL.fLc, DL.fAG, DL.fFn, DL.fFnX, DL.fFnK, DL.fSl, DL.fNone, DL.fPart, DL.fList, DL.fM0, DL.fM1, DL.tYesD, DL.gdN, DL.gdT_t, DL.gdNil_n, DL.gdCons_c, DL.op2, DL.op1, DL.opC, DL.c1, DL.isiP, DL.typeO, DL.tyIs, DL.inG, DL.isND, DL.rel, DL.wipeD, DL.le_s0, DL.le_s1, DL.le_s2, DL.le_s3, DL.le_s4, DL.le_s5, DL.le_s6, DL.le_s7, DL.le_s8, DL.le_s9, DL.le_s10, DL.le_s11, DL.le_s12, DL.le_s13, DL.le_s14, DL.le_s15, DL.le_s16, DL.le_s17, DL.le_s18, DL.le_s19, DL.le_s20, DL.le_s21, DL.le_s22, DL.le_s23, DL.le_s24, DL.le_s25, DL.le_s26, DL.le_s27, DL.le_s28, DL.le_s29, DL.le_s30, DL.le_s31, DL.le_s32, DL.le_s33, DL.le_s34, DL.le_s35, DL.le_s36, DL.le_s37, DL.le_s38, DL.le_s39, DL.le_s40, DL.le_s41, DL.le_s42, DL.le_s43, DL.le_s44, DL.le_s45, DL.le_s46, DL.le_s47, DL.le_s48, DL.le_s49, DL.le_s50, DL.le_s51, DL.le_s52, DL.le_s53, DL.le_s54, DL.le_s55, DL.le_s56, DL.le_s57, DL.le_s58, DL.le_s59, DL.le_s60, DL.le_s61, DL.le_s62, DL.le_s63, DL.le_s64, DL.start0, DL.asDat, DL.lend, DL.noOwn, DL.DV.isOwn, DL.pd_dat, DL.pd_own, DL.ocpd_lst, DL.ocpd_dk, DL.itemsOf, List.map_cons, List.map_nil, List.append_nil, List.cons_append, List.nil_append, List.length_cons, List.length_nil, List.replicate_succ, List.replicate_zero, List.getElem?_cons_zero, List.getElem?_cons_succ, List.set_cons_zero, List.set_cons_succ, Nat.reduceSub, Nat.reduceAdd, Nat.sub_self, Nat.zero_add, Option.some.injEq, DL.DV.dat.injEq, PyData.bool.injEq, PyData.int.injEq, PyData.str.injEq, PyData.tuple.injEq, PyData.list.injEq, DL.DV.ob.injEq, V.ty.injEq, DL.DV.own.injEq, DL.OC.lst.injEq, List.cons.injEq, Option.map_some, exists_eq_left', exists_eq_left, exists_eq_right, exists_eq_right', exists_and_left, and_true, true_and, Bool.not_true, Bool.not_false, Bool.and_true, Bool.true_and, true_or, Bool.not_eq_true', Bool.false_eq_true, if_true, if_false, reduceIte, reduceCtorEq])
              (try simp only [DL.negP_i, DL.le_s0, DL.le_s1, DL.le_s2, DL.le_s3, DL.le_s4, DL.le_s5, DL.le_s6, DL.le_s7, DL.le_s8, DL.le_s9, DL.le_s10, DL.le_s11, DL.le_s12, DL.le_s13, DL.le_s14, DL.le_s15, DL.le_s16, DL.le_s17, DL.le_s18, DL.le_s19, DL.le_s20, DL.le_s21, DL.le_s22, DL.le_s23, DL.le_s24, DL.le_s25, DL.le_s26, DL.le_s27, DL.le_s28, DL.le_s29, DL.le_s30, DL.le_s31, DL.le_s32, DL.le_s33, DL.le_s34, DL.le_s35, DL.le_s36, DL.le_s37, DL.le_s38, DL.le_s39, DL.le_s40, DL.le_s41, DL.le_s42, DL.le_s43, DL.le_s44, DL.le_s45, DL.le_s46, DL.le_s47, DL.le_s48, DL.le_s49, DL.le_s50, DL.le_s51, DL.le_s52, DL.le_s53, DL.le_s54, DL.le_s55, DL.le_s56, DL.le_s57, DL.le_s58, DL.le_s59, DL.le_s60, DL.le_s61, DL.le_s62, DL.le_s63, DL.le_s64, DL.iteB_true, DL.iteB_false, DL.lenP_t, DL.lenP_l, DL.lenP_s, DL.eqP, DL.eqOk_int, DL.eqOk_str, DL.eqOk_emp, DL.eqOk_empL, DL.eqv_emp1, DL.eqv_empL1, DL.eqv_ii, DL.eqv_ss, DL.ixP_t, DL.ixP_l, DL.ixP_s, DL.slP_t, DL.slP_l, DL.slP_s, DL.intcP_i, DL.intcP_b, DL.intcP_s, DL.tupcP_l, DL.tupcP_t, DL.atI_z, DL.atI_o, DL.atI_t, DL.int0P_ii, DL.intP_ii, DL.addP_ii, DL.addP_ss, DL.addP_tt, DL.addP_ll, DL.isTup_t, DL.reprP, Bool.false_eq_true, if_true, if_false, reduceIte, Option.some.injEq, PyData.bool.injEq, exists_eq_left', exists_eq_left, exists_eq_right, exists_eq_right', true_and, and_true, Bool.true_eq_false, Bool.not_true, Bool.not_false, false_and, and_false, exists_and_left, reduceCtorEq, DL.DV.gts.injEq, exists_const])
              refine ⟨_, rfl, by decide, by decide, fun y y0 y1 => ⟨rfl, ?_⟩⟩
              cases PyData.eqv (.int y) (.int 0) with
              | true =>
                first
                  | exact ⟨_, odd, rfl, .inl rfl, o1, by omega, fun e he => ⟨o3 e he, fun k ek => by have := o4 e he k ek; omega⟩⟩
                  | exact ⟨_, odd, rfl, .inl rfl, o1, by omega, fun e he => ⟨e, o3 e he, (fun k ek => by have := o4 e he k ek; omega), rfl⟩⟩
              | false =>
                first
                  | exact ⟨(nb_int d0 (by omega)).mono (by omega) (by omega), fun k e => by cases e; omega⟩
                  | exact ⟨_, (nb_int d0 (by omega)).mono (by omega) (by omega), (fun k e => by cases e; omega), rfl⟩
            · rintro ρ ⟨d2, nd, cd, rfl⟩
              refine ⟨fun ρ => ∃ near, Nb 3 100 near ∧ (∀ z, near = .str z → z.length ≤ 4) ∧ ρ = [none, some .deck, some (.dat dt), some (.dat near), some (.dat m), some (.dat c2), some (.dat d2), x7, some (.dat (.list odd)), x9, x10, x11], ?_, ?_⟩
              · (try simp only [DL.iteB_true, DL.iteB_false, DL.sSeq, DL.sNext, DL.sRet, DL.sRetN, DL.sIf, DL.sAsg, DL.sNew, DL.sDrop, DL.sRel, DL.sApp, DL.sFor, DL.sBreak, DL.sCont, DL.sAsgT, DL.sPar, DL.sPar3, DL.sPar3DFD, DL.sParFD, DL.sParDF, DL.sExt, DL.sPut, DL.sAug, DL.sCut, DL.sRaise, DL.sWhile, DL.fVar, DL.fC, DL.fOb, DL.fGts, DL.f2, DL.f1, DL.fCall, DL.fB, DL.fTru, DL.fAnd, DL.fOr, DL.fNot, DL.fIf, DL.tAndD, DL.tOrD, DL.tNotD, DL.fNil, DL.fCons, DL.fTup, DL.fLst, DL.fDnew, DL.fNew, DL.fIt, DL.fRng1, DL.fRng2, DL.fLc, DL.fAG, DL.fFn, DL.fFnX, DL.fFnK, DL.fSl, DL.fNone, DL.fPart, DL.fList, DL.fM0, DL.fM1, DL.tYesD, DL.gdN, DL.gdT_t, DL.gdNil_n, DL.gdCons_c, DL.op2, DL.op1, DL.opC, DL.c1, DL.isiP, DL.typeO, DL.tyIs, DL.inG, DL.isND, DL.rel, DL.wipeD, DL.le_s0, DL.le_s1, DL.le_s2, DL.le_s3, DL.le_s4, DL.le_s5, DL.le_s6, DL.le_s7, DL.le_s8, DL.le_s9, DL.le_s10, DL.le_s11, DL.le_s12, DL.le_s13, DL.le_s14, DL.le_s15, DL.le_s16, DL.le_s17, DL.le_s18, DL.le_s19, DL.le_s20, DL.le_s21, DL.le_s22, DL.le_s23, DL.le_s24, DL.le_s25, DL.le_s26, DL.le_s27, DL.le_s28, DL.le_s29, DL.le_s30, DL.le_s31, DL.le_s32, DL.le_s33, DL.le_s34, DL.le_s35, DL.le_s36, DL.le_s37, DL.le_s38, DL.le_s39, DL.le_s40, DL.le_s41, DL.le_s42, DL.le_s43, DL.le_s44, DL.le_s45, DL.le_s46, DL.le_s47, DL.le_s48, DL.le_s49, DL.le_s50, DL.le_s51, DL.le_s52, DL.le_s53, DL.le_s54, DL.le_s55, DL.le_s56, DL.le_s57, DL.le_s58, DL.le_s59, DL.le_s60, DL.le_s61, DL.le_s62, DL.le_s63, DL.le_s64, DL.start0, DL.asDat, DL.lend, DL.noOwn, DL.DV.isOwn, DL.pd_dat, DL.pd_own, DL.ocpd_lst, DL.ocpd_dk, DL.itemsOf, List.map_cons, List.map_nil, List.append_nil, List.cons_append, List.nil_append, List.length_cons, List.length_nil, List.replicate_succ, List.replicate_zero, List.getElem?_cons_zero, List.getElem?_cons_succ, List.set_cons_zero, List.set_cons_succ, Nat.reduceSub, Nat.reduceAdd, Nat.sub_self, Nat.zero_add, Option.some.injEq, DL.DV.dat.injEq, PyData.bool.injEq, PyData.int.injEq, PyData.str.injEq, PyData.tuple.injEq, PyData.list.injEq, DL.DV.ob.injEq, V.ty.injEq, DL.DV.own.injEq, DL.OC.lst.injEq, List.cons.injEq, Option.map_some, exists_eq_left', exists_eq_left, exists_eq_right, exists_eq_right', exists_and_left, and_true, true_and, Bool.not_true, Bool.not_false, Bool.and_true, Bool.true_and, true_or, Bool.not_eq_true', Bool.false_eq_true, if_true, if_false, reduceIte, reduceCtorEq])
                (try simp only [DL.negP_i, DL.le_s0, DL.le_s1, DL.le_s2, DL.le_s3, DL.le_s4, DL.le_s5, DL.le_s6, DL.le_s7, DL.le_s8, DL.le_s9, DL.le_s10, DL.le_s11, DL.le_s12, DL.le_s13, DL.le_s14, DL.le_s15, DL.le_s16, DL.le_s17, DL.le_s18, DL.le_s19, DL.le_s20, DL.le_s21, DL.le_s22, DL.le_s23, DL.le_s24, DL.le_s25, DL.le_s26, DL.le_s27, DL.le_s28, DL.le_s29, DL.le_s30, DL.le_s31, DL.le_s32, DL.le_s33, DL.le_s34, DL.le_s35, DL.le_s36, DL.le_s37, DL.le_s38, DL.le_s39, DL.le_s40, DL.le_s41, DL.le_s42, DL.le_s43, DL.le_s44, DL.le_s45, DL.le_s46, DL.le_s47, DL.le_s48, DL.le_s49, DL.le_s50, DL.le_s51, DL.le_s52, DL.le_s53, DL.le_s54, DL.le_s55, DL.le_s56, DL.le_s57, DL.le_s58, DL.le_s59, DL.le_s60, DL.le_s61, DL.le_s62, DL.le_s63, DL.le_s64, DL.iteB_true, DL.iteB_false, DL.lenP_t, DL.lenP_l, DL.lenP_s, DL.eqP, DL.eqOk_int, DL.eqOk_str, DL.eqOk_emp, DL.eqOk_empL, DL.eqv_emp1, DL.eqv_empL1, DL.eqv_ii, DL.eqv_ss, DL.ixP_t, DL.ixP_l, DL.ixP_s, DL.slP_t, DL.slP_l, DL.slP_s, DL.intcP_i, DL.intcP_b, DL.intcP_s, DL.tupcP_l, DL.tupcP_t, DL.atI_z, DL.atI_o, DL.atI_t, DL.int0P_ii, DL.intP_ii, DL.addP_ii, DL.addP_ss, DL.addP_tt, DL.addP_ll, DL.isTup_t, DL.reprP, Bool.false_eq_true, if_true, if_false, reduceIte, Option.some.injEq, PyData.bool.injEq, exists_eq_left', exists_eq_left, exists_eq_right, exists_eq_right', true_and, and_true, Bool.true_eq_false, Bool.not_true, Bool.not_false, false_and, and_false, exists_and_left, reduceCtorEq, DL.DV.gts.injEq, exists_const])
                refine ⟨_, rfl, by decide, by decide, fun y y0 y1 => ⟨rfl, ?_⟩⟩
                cases PyData.eqv (.int y) (.int 0) with
                | true =>
                  first
                    | exact ⟨_, _, rfl, .inl rfl, by decide, by decide, fun e he => ⟨nbAll (by decide +kernel) e he, capSAll (by decide +kernel) e he⟩⟩
                    | exact ⟨_, _, rfl, .inl rfl, by decide, by decide, fun e he => ⟨e, nbAll (by decide +kernel) e he, capSAll (by decide +kernel) e he, rfl⟩⟩
                | false =>
                  first
                    | exact ⟨nbw.mono (by omega) (by omega), fun k e => by cases e; omega⟩
                    | exact ⟨_, nbw.mono (by omega) (by omega), (fun k e => by cases e; omega), rfl⟩
              · rintro ρ ⟨near, nn, cn, rfl⟩
                have sayT := nm.say (by decide) (by rw [sizeLine_eq]; decide)
                have sayR := nn.say (by decide) (by rw [sizeLine_eq]; decide)
                have sayC := nc.say (by decide) (by rw [sizeLine_eq]; decide)
                have sayD := nd.say (by decide) (by rw [sizeLine_eq]; decide)
                refine ⟨fun ρ => ρ = [none, some .deck, some (.dat dt), some (.dat near), some (.dat m), some (.dat c2), some (.dat d2), x7, some (.dat (.list odd)), some (.dat (.list (wrongD m c2 d2))), x10, x11], ?_, ?_⟩
                · (try simp only [DL.iteB_true, DL.iteB_false, DL.sSeq, DL.sNext, DL.sRet, DL.sRetN, DL.sIf, DL.sAsg, DL.sNew, DL.sDrop, DL.sRel, DL.sApp, DL.sFor, DL.sBreak, DL.sCont, DL.sAsgT, DL.sPar, DL.sPar3, DL.sPar3DFD, DL.sParFD, DL.sParDF, DL.sExt, DL.sPut, DL.sAug, DL.sCut, DL.sRaise, DL.sWhile, DL.fVar, DL.fC, DL.fOb, DL.fGts, DL.f2, DL.f1, DL.fCall, DL.fB, DL.fTru, DL.fAnd, DL.fOr, DL.fNot, DL.fIf, DL.tAndD, DL.tOrD, DL.tNotD, DL.fNil, DL.fCons, DL.fTup, DL.fLst, DL.fDnew, DL.fNew, DL.fIt, DL.fRng1, DL.fRng2, DL.fLc, DL.fAG, DL.fFn, DL.fFnX, DL.fFnK, DL.fSl, DL.fNone, DL.fPart, DL.fList, DL.fM0, DL.fM1, DL.tYesD, DL.gdN, DL.gdT_t, DL.gdNil_n, DL.gdCons_c, DL.op2, DL.op1, DL.opC, DL.c1, DL.isiP, DL.typeO, DL.tyIs, DL.inG, DL.isND, DL.rel, DL.wipeD, DL.le_s0, DL.le_s1, DL.le_s2, DL.le_s3, DL.le_s4, DL.le_s5, DL.le_s6, DL.le_s7, DL.le_s8, DL.le_s9, DL.le_s10, DL.le_s11, DL.le_s12, DL.le_s13, DL.le_s14, DL.le_s15, DL.le_s16, DL.le_s17, DL.le_s18, DL.le_s19, DL.le_s20, DL.le_s21, DL.le_s22, DL.le_s23, DL.le_s24, DL.le_s25, DL.le_s26, DL.le_s27, DL.le_s28, DL.le_s29, DL.le_s30, DL.le_s31, DL.le_s32, DL.le_s33, DL.le_s34, DL.le_s35, DL.le_s36, DL.le_s37, DL.le_s38, DL.le_s39, DL.le_s40, DL.le_s41, DL.le_s42, DL.le_s43, DL.le_s44, DL.le_s45, DL.le_s46, DL.le_s47, DL.le_s48, DL.le_s49, DL.le_s50, DL.le_s51, DL.le_s52, DL.le_s53, DL.le_s54, DL.le_s55, DL.le_s56, DL.le_s57, DL.le_s58, DL.le_s59, DL.le_s60, DL.le_s61, DL.le_s62, DL.le_s63, DL.le_s64, DL.start0, DL.asDat, DL.lend, DL.noOwn, DL.DV.isOwn, DL.pd_dat, DL.pd_own, DL.ocpd_lst, DL.ocpd_dk, DL.itemsOf, List.map_cons, List.map_nil, List.append_nil, List.cons_append, List.nil_append, List.length_cons, List.length_nil, List.replicate_succ, List.replicate_zero, List.getElem?_cons_zero, List.getElem?_cons_succ, List.set_cons_zero, List.set_cons_succ, Nat.reduceSub, Nat.reduceAdd, Nat.sub_self, Nat.zero_add, Option.some.injEq, DL.DV.dat.injEq, PyData.bool.injEq, PyData.int.injEq, PyData.str.injEq, PyData.tuple.injEq, PyData.list.injEq, DL.DV.ob.injEq, V.ty.injEq, DL.DV.own.injEq, DL.OC.lst.injEq, List.cons.injEq, Option.map_some, exists_eq_left', exists_eq_left, exists_eq_right, exists_eq_right', exists_and_left, and_true, true_and, Bool.not_true, Bool.not_false, Bool.and_true, Bool.true_and, true_or, Bool.not_eq_true', Bool.false_eq_true, if_true, if_false, reduceIte, reduceCtorEq])
                  refine ⟨m, rfl, _, rfl, ?_⟩
                  unfold wrongD
                  cases hm2 : machB m with
                  | false => rfl
                  | true =>
                    refine lc_fil (p := fun x => !wholeD x) (q := fun x => .tuple [.int 3, x]) (fun x hx Q hq => ?_) (by show 0 + 2 ≤ sizeLine; decide) rfl
                    (try simp only [DL.iteB_true, DL.iteB_false, DL.sSeq, DL.sNext, DL.sRet, DL.sRetN, DL.sIf, DL.sAsg, DL.sNew, DL.sDrop, DL.sRel, DL.sApp, DL.sFor, DL.sBreak, DL.sCont, DL.sAsgT, DL.sPar, DL.sPar3, DL.sPar3DFD, DL.sParFD, DL.sParDF, DL.sExt, DL.sPut, DL.sAug, DL.sCut, DL.sRaise, DL.sWhile, DL.fVar, DL.fC, DL.fOb, DL.fGts, DL.f2, DL.f1, DL.fCall, DL.fB, DL.fTru, DL.fAnd, DL.fOr, DL.fNot, DL.fIf, DL.tAndD, DL.tOrD, DL.tNotD, DL.fNil, DL.fCons, DL.fTup, DL.fLst, DL.fDnew, DL.fNew, DL.fIt, DL.fRng1, DL.fRng2, DL.fLc, DL.fAG, DL.fFn, DL.fFnX, DL.fFnK, DL.fSl, DL.fNone, DL.fPart, DL.fList, DL.fM0, DL.fM1, DL.tYesD, DL.gdN, DL.gdT_t, DL.gdNil_n, DL.gdCons_c, DL.op2, DL.op1, DL.opC, DL.c1, DL.isiP, DL.typeO, DL.tyIs, DL.inG, DL.isND, DL.rel, DL.wipeD, DL.le_s0, DL.le_s1, DL.le_s2, DL.le_s3, DL.le_s4, DL.le_s5, DL.le_s6, DL.le_s7, DL.le_s8, DL.le_s9, DL.le_s10, DL.le_s11, DL.le_s12, DL.le_s13, DL.le_s14, DL.le_s15, DL.le_s16, DL.le_s17, DL.le_s18, DL.le_s19, DL.le_s20, DL.le_s21, DL.le_s22, DL.le_s23, DL.le_s24, DL.le_s25, DL.le_s26, DL.le_s27, DL.le_s28, DL.le_s29, DL.le_s30, DL.le_s31, DL.le_s32, DL.le_s33, DL.le_s34, DL.le_s35, DL.le_s36, DL.le_s37, DL.le_s38, DL.le_s39, DL.le_s40, DL.le_s41, DL.le_s42, DL.le_s43, DL.le_s44, DL.le_s45, DL.le_s46, DL.le_s47, DL.le_s48, DL.le_s49, DL.le_s50, DL.le_s51, DL.le_s52, DL.le_s53, DL.le_s54, DL.le_s55, DL.le_s56, DL.le_s57, DL.le_s58, DL.le_s59, DL.le_s60, DL.le_s61, DL.le_s62, DL.le_s63, DL.le_s64, DL.start0, DL.asDat, DL.lend, DL.noOwn, DL.DV.isOwn, DL.pd_dat, DL.pd_own, DL.ocpd_lst, DL.ocpd_dk, DL.itemsOf, List.map_cons, List.map_nil, List.append_nil, List.cons_append, List.nil_append, List.length_cons, List.length_nil, List.replicate_succ, List.replicate_zero, List.getElem?_cons_zero, List.getElem?_cons_succ, List.set_cons_zero, List.set_cons_succ, Nat.reduceSub, Nat.reduceAdd, Nat.sub_self, Nat.zero_add, Option.some.injEq, DL.DV.dat.injEq, PyData.bool.injEq, PyData.int.injEq, PyData.str.injEq, PyData.tuple.injEq, PyData.list.injEq, DL.DV.ob.injEq, V.ty.injEq, DL.DV.own.injEq, DL.OC.lst.injEq, List.cons.injEq, Option.map_some, exists_eq_left', exists_eq_left, exists_eq_right, exists_eq_right', exists_and_left, and_true, true_and, Bool.not_true, Bool.not_false, Bool.and_true, Bool.true_and, true_or, Bool.not_eq_true', Bool.false_eq_true, if_true, if_false, reduceIte, reduceCtorEq])
                    refine ⟨x, rfl, _, rfl, hq _ fun Q2 _ k => ?_⟩
                    (try simp only [DL.iteB_true, DL.iteB_false, DL.sSeq, DL.sNext, DL.sRet, DL.sRetN, DL.sIf, DL.sAsg, DL.sNew, DL.sDrop, DL.sRel, DL.sApp, DL.sFor, DL.sBreak, DL.sCont, DL.sAsgT, DL.sPar, DL.sPar3, DL.sPar3DFD, DL.sParFD, DL.sParDF, DL.sExt, DL.sPut, DL.sAug, DL.sCut, DL.sRaise, DL.sWhile, DL.fVar, DL.fC, DL.fOb, DL.fGts, DL.f2, DL.f1, DL.fCall, DL.fB, DL.fTru, DL.fAnd, DL.fOr, DL.fNot, DL.fIf, DL.tAndD, DL.tOrD, DL.tNotD, DL.fNil, DL.fCons, DL.fTup, DL.fLst, DL.fDnew, DL.fNew, DL.fIt, DL.fRng1, DL.fRng2, DL.fLc, DL.fAG, DL.fFn, DL.fFnX, DL.fFnK, DL.fSl, DL.fNone, DL.fPart, DL.fList, DL.fM0, DL.fM1, DL.tYesD, DL.gdN, DL.gdT_t, DL.gdNil_n, DL.gdCons_c, DL.op2, DL.op1, DL.opC, DL.c1, DL.isiP, DL.typeO, DL.tyIs, DL.inG, DL.isND, DL.rel, DL.wipeD, DL.le_s0, DL.le_s1, DL.le_s2, DL.le_s3, DL.le_s4, DL.le_s5, DL.le_s6, DL.le_s7, DL.le_s8, DL.le_s9, DL.le_s10, DL.le_s11, DL.le_s12, DL.le_s13, DL.le_s14, DL.le_s15, DL.le_s16, DL.le_s17, DL.le_s18, DL.le_s19, DL.le_s20, DL.le_s21, DL.le_s22, DL.le_s23, DL.le_s24, DL.le_s25, DL.le_s26, DL.le_s27, DL.le_s28, DL.le_s29, DL.le_s30, DL.le_s31, DL.le_s32, DL.le_s33, DL.le_s34, DL.le_s35, DL.le_s36, DL.le_s37, DL.le_s38, DL.le_s39, DL.le_s40, DL.le_s41, DL.le_s42, DL.le_s43, DL.le_s44, DL.le_s45, DL.le_s46, DL.le_s47, DL.le_s48, DL.le_s49, DL.le_s50, DL.le_s51, DL.le_s52, DL.le_s53, DL.le_s54, DL.le_s55, DL.le_s56, DL.le_s57, DL.le_s58, DL.le_s59, DL.le_s60, DL.le_s61, DL.le_s62, DL.le_s63, DL.le_s64, DL.start0, DL.asDat, DL.lend, DL.noOwn, DL.DV.isOwn, DL.pd_dat, DL.pd_own, DL.ocpd_lst, DL.ocpd_dk, DL.itemsOf, List.map_cons, List.map_nil, List.append_nil, List.cons_append, List.nil_append, List.length_cons, List.length_nil, List.replicate_succ, List.replicate_zero, List.getElem?_cons_zero, List.getElem?_cons_succ, List.set_cons_zero, List.set_cons_succ, Nat.reduceSub, Nat.reduceAdd, Nat.sub_self, Nat.zero_add, Option.some.injEq, DL.DV.dat.injEq, PyData.bool.injEq, PyData.int.injEq, PyData.str.injEq, PyData.tuple.injEq, PyData.list.injEq, DL.DV.ob.injEq, V.ty.injEq, DL.DV.own.injEq, DL.OC.lst.injEq, List.cons.injEq, Option.map_some, exists_eq_left', exists_eq_left, exists_eq_right, exists_eq_right', exists_and_left, and_true, true_and, Bool.not_true, Bool.not_false, Bool.and_true, Bool.true_and, true_or, Bool.not_eq_true', Bool.false_eq_true, if_true, if_false, reduceIte, reduceCtorEq])
                    exact k
                · rintro ρ rfl
                  have hsh : shortP near := fun z e => by
                    have := cn z e
                    rw [sizeLine_eq]
                    omega
                  refine ⟨fun ρ => ρ = [none, some .deck, some (.dat dt), some (.dat near), some (.dat m), some (.dat c2), some (.dat d2), x7, some (.dat (.list odd)), some (.dat (.list (wrong2 m c2 d2 near))), x10, x11], ?_, ?_⟩
                  · (try simp only [DL.iteB_true, DL.iteB_false, DL.sSeq, DL.sNext, DL.sRet, DL.sRetN, DL.sIf, DL.sAsg, DL.sNew, DL.sDrop, DL.sRel, DL.sApp, DL.sFor, DL.sBreak, DL.sCont, DL.sAsgT, DL.sPar, DL.sPar3, DL.sPar3DFD, DL.sParFD, DL.sParDF, DL.sExt, DL.sPut, DL.sAug, DL.sCut, DL.sRaise, DL.sWhile, DL.fVar, DL.fC, DL.fOb, DL.fGts, DL.f2, DL.f1, DL.fCall, DL.fB, DL.fTru, DL.fAnd, DL.fOr, DL.fNot, DL.fIf, DL.tAndD, DL.tOrD, DL.tNotD, DL.fNil, DL.fCons, DL.fTup, DL.fLst, DL.fDnew, DL.fNew, DL.fIt, DL.fRng1, DL.fRng2, DL.fLc, DL.fAG, DL.fFn, DL.fFnX, DL.fFnK, DL.fSl, DL.fNone, DL.fPart, DL.fList, DL.fM0, DL.fM1, DL.tYesD, DL.gdN, DL.gdT_t, DL.gdNil_n, DL.gdCons_c, DL.op2, DL.op1, DL.opC, DL.c1, DL.isiP, DL.typeO, DL.tyIs, DL.inG, DL.isND, DL.rel, DL.wipeD, DL.le_s0, DL.le_s1, DL.le_s2, DL.le_s3, DL.le_s4, DL.le_s5, DL.le_s6, DL.le_s7, DL.le_s8, DL.le_s9, DL.le_s10, DL.le_s11, DL.le_s12, DL.le_s13, DL.le_s14, DL.le_s15, DL.le_s16, DL.le_s17, DL.le_s18, DL.le_s19, DL.le_s20, DL.le_s21, DL.le_s22, DL.le_s23, DL.le_s24, DL.le_s25, DL.le_s26, DL.le_s27, DL.le_s28, DL.le_s29, DL.le_s30, DL.le_s31, DL.le_s32, DL.le_s33, DL.le_s34, DL.le_s35, DL.le_s36, DL.le_s37, DL.le_s38, DL.le_s39, DL.le_s40, DL.le_s41, DL.le_s42, DL.le_s43, DL.le_s44, DL.le_s45, DL.le_s46, DL.le_s47, DL.le_s48, DL.le_s49, DL.le_s50, DL.le_s51, DL.le_s52, DL.le_s53, DL.le_s54, DL.le_s55, DL.le_s56, DL.le_s57, DL.le_s58, DL.le_s59, DL.le_s60, DL.le_s61, DL.le_s62, DL.le_s63, DL.le_s64, DL.start0, DL.asDat, DL.lend, DL.noOwn, DL.DV.isOwn, DL.pd_dat, DL.pd_own, DL.ocpd_lst, DL.ocpd_dk, DL.itemsOf, List.map_cons, List.map_nil, List.append_nil, List.cons_append, List.nil_append, List.length_cons, List.length_nil, List.replicate_succ, List.replicate_zero, List.getElem?_cons_zero, List.getElem?_cons_succ, List.set_cons_zero, List.set_cons_succ, Nat.reduceSub, Nat.reduceAdd, Nat.sub_self, Nat.zero_add, Option.some.injEq, DL.DV.dat.injEq, PyData.bool.injEq, PyData.int.injEq, PyData.str.injEq, PyData.tuple.injEq, PyData.list.injEq, DL.DV.ob.injEq, V.ty.injEq, DL.DV.own.injEq, DL.OC.lst.injEq, List.cons.injEq, Option.map_some, exists_eq_left', exists_eq_left, exists_eq_right, exists_eq_right', exists_and_left, and_true, true_and, Bool.not_true, Bool.not_false, Bool.and_true, Bool.true_and, true_or, Bool.not_eq_true', Bool.false_eq_true, if_true, if_false, reduceIte, reduceCtorEq])
                    (try simp only [DL.negP_i, DL.le_s0, DL.le_s1, DL.le_s2, DL.le_s3, DL.le_s4, DL.le_s5, DL.le_s6, DL.le_s7, DL.le_s8, DL.le_s9, DL.le_s10, DL.le_s11, DL.le_s12, DL.le_s13, DL.le_s14, DL.le_s15, DL.le_s16, DL.le_s17, DL.le_s18, DL.le_s19, DL.le_s20, DL.le_s21, DL.le_s22, DL.le_s23, DL.le_s24, DL.le_s25, DL.le_s26, DL.le_s27, DL.le_s28, DL.le_s29, DL.le_s30, DL.le_s31, DL.le_s32, DL.le_s33, DL.le_s34, DL.le_s35, DL.le_s36, DL.le_s37, DL.le_s38, DL.le_s39, DL.le_s40, DL.le_s41, DL.le_s42, DL.le_s43, DL.le_s44, DL.le_s45, DL.le_s46, DL.le_s47, DL.le_s48, DL.le_s49, DL.le_s50, DL.le_s51, DL.le_s52, DL.le_s53, DL.le_s54, DL.le_s55, DL.le_s56, DL.le_s57, DL.le_s58, DL.le_s59, DL.le_s60, DL.le_s61, DL.le_s62, DL.le_s63, DL.le_s64, DL.iteB_true, DL.iteB_false, DL.lenP_t, DL.lenP_l, DL.lenP_s, DL.eqP, DL.eqOk_int, DL.eqOk_str, DL.eqOk_emp, DL.eqOk_empL, DL.eqv_emp1, DL.eqv_empL1, DL.eqv_ii, DL.eqv_ss, DL.ixP_t, DL.ixP_l, DL.ixP_s, DL.slP_t, DL.slP_l, DL.slP_s, DL.intcP_i, DL.intcP_b, DL.intcP_s, DL.tupcP_l, DL.tupcP_t, DL.atI_z, DL.atI_o, DL.atI_t, DL.int0P_ii, DL.intP_ii, DL.addP_ii, DL.addP_ss, DL.addP_tt, DL.addP_ll, DL.isTup_t, DL.reprP, Bool.false_eq_true, if_true, if_false, reduceIte, Option.some.injEq, PyData.bool.injEq, exists_eq_left', exists_eq_left, exists_eq_right, exists_eq_right', true_and, and_true, Bool.true_eq_false, Bool.not_true, Bool.not_false, false_and, and_false, exists_and_left, reduceCtorEq, DL.DV.gts.injEq, exists_const])
                    unfold wrong2
                    cases he : (wrongD m c2 d2).isEmpty with
                    | false => rfl
                    | true =>
                      refine ⟨near, rfl, hsh, _, rfl, ?_⟩
                      cases wordB near <;> rfl
                  · rintro ρ rfl
                    (try simp only [DL.iteB_true, DL.iteB_false, DL.sSeq, DL.sNext, DL.sRet, DL.sRetN, DL.sIf, DL.sAsg, DL.sNew, DL.sDrop, DL.sRel, DL.sApp, DL.sFor, DL.sBreak, DL.sCont, DL.sAsgT, DL.sPar, DL.sPar3, DL.sPar3DFD, DL.sParFD, DL.sParDF, DL.sExt, DL.sPut, DL.sAug, DL.sCut, DL.sRaise, DL.sWhile, DL.fVar, DL.fC, DL.fOb, DL.fGts, DL.f2, DL.f1, DL.fCall, DL.fB, DL.fTru, DL.fAnd, DL.fOr, DL.fNot, DL.fIf, DL.tAndD, DL.tOrD, DL.tNotD, DL.fNil, DL.fCons, DL.fTup, DL.fLst, DL.fDnew, DL.fNew, DL.fIt, DL.fRng1, DL.fRng2, DL.fLc, DL.fAG, DL.fFn, DL.fFnX, DL.fFnK, DL.fSl, DL.fNone, DL.fPart, DL.fList, DL.fM0, DL.fM1, DL.tYesD, DL.gdN, DL.gdT_t, DL.gdNil_n, DL.gdCons_c, DL.op2, DL.op1, DL.opC, DL.c1, DL.isiP, DL.typeO, DL.tyIs, DL.inG, DL.isND, DL.rel, DL.wipeD, DL.le_s0, DL.le_s1, DL.le_s2, DL.le_s3, DL.le_s4, DL.le_s5, DL.le_s6, DL.le_s7, DL.le_s8, DL.le_s9, DL.le_s10, DL.le_s11, DL.le_s12, DL.le_s13, DL.le_s14, DL.le_s15, DL.le_s16, DL.le_s17, DL.le_s18, DL.le_s19, DL.le_s20, DL.le_s21, DL.le_s22, DL.le_s23, DL.le_s24, DL.le_s25, DL.le_s26, DL.le_s27, DL.le_s28, DL.le_s29, DL.le_s30, DL.le_s31, DL.le_s32, DL.le_s33, DL.le_s34, DL.le_s35, DL.le_s36, DL.le_s37, DL.le_s38, DL.le_s39, DL.le_s40, DL.le_s41, DL.le_s42, DL.le_s43, DL.le_s44, DL.le_s45, DL.le_s46, DL.le_s47, DL.le_s48, DL.le_s49, DL.le_s50, DL.le_s51, DL.le_s52, DL.le_s53, DL.le_s54, DL.le_s55, DL.le_s56, DL.le_s57, DL.le_s58, DL.le_s59, DL.le_s60, DL.le_s61, DL.le_s62, DL.le_s63, DL.le_s64, DL.start0, DL.asDat, DL.lend, DL.noOwn, DL.DV.isOwn, DL.pd_dat, DL.pd_own, DL.ocpd_lst, DL.ocpd_dk, DL.itemsOf, List.map_cons, List.map_nil, List.append_nil, List.cons_append, List.nil_append, List.length_cons, List.length_nil, List.replicate_succ, List.replicate_zero, List.getElem?_cons_zero, List.getElem?_cons_succ, List.set_cons_zero, List.set_cons_succ, Nat.reduceSub, Nat.reduceAdd, Nat.sub_self, Nat.zero_add, Option.some.injEq, DL.DV.dat.injEq, PyData.bool.injEq, PyData.int.injEq, PyData.str.injEq, PyData.tuple.injEq, PyData.list.injEq, DL.DV.ob.injEq, V.ty.injEq, DL.DV.own.injEq, DL.OC.lst.injEq, List.cons.injEq, Option.map_some, exists_eq_left', exists_eq_left, exists_eq_right, exists_eq_right', exists_and_left, and_true, true_and, Bool.not_true, Bool.not_false, Bool.and_true, Bool.true_and, true_or, Bool.not_eq_true', Bool.false_eq_true, if_true, if_false, reduceIte, reduceCtorEq])
                    (try simp only [DL.negP_i, DL.le_s0, DL.le_s1, DL.le_s2, DL.le_s3, DL.le_s4, DL.le_s5, DL.le_s6, DL.le_s7, DL.le_s8, DL.le_s9, DL.le_s10, DL.le_s11, DL.le_s12, DL.le_s13, DL.le_s14, DL.le_s15, DL.le_s16, DL.le_s17, DL.le_s18, DL.le_s19, DL.le_s20, DL.le_s21, DL.le_s22, DL.le_s23, DL.le_s24, DL.le_s25, DL.le_s26, DL.le_s27, DL.le_s28, DL.le_s29, DL.le_s30, DL.le_s31, DL.le_s32, DL.le_s33, DL.le_s34, DL.le_s35, DL.le_s36, DL.le_s37, DL.le_s38, DL.le_s39, DL.le_s40, DL.le_s41, DL.le_s42, DL.le_s43, DL.le_s44, DL.le_s45, DL.le_s46, DL.le_s47, DL.le_s48, DL.le_s49, DL.le_s50, DL.le_s51, DL.le_s52, DL.le_s53, DL.le_s54, DL.le_s55, DL.le_s56, DL.le_s57, DL.le_s58, DL.le_s59, DL.le_s60, DL.le_s61, DL.le_s62, DL.le_s63, DL.le_s64, DL.iteB_true, DL.iteB_false, DL.lenP_t, DL.lenP_l, DL.lenP_s, DL.eqP, DL.eqOk_int, DL.eqOk_str, DL.eqOk_emp, DL.eqOk_empL, DL.eqv_emp1, DL.eqv_empL1, DL.eqv_ii, DL.eqv_ss, DL.ixP_t, DL.ixP_l, DL.ixP_s, DL.slP_t, DL.slP_l, DL.slP_s, DL.intcP_i, DL.intcP_b, DL.intcP_s, DL.tupcP_l, DL.tupcP_t, DL.atI_z, DL.atI_o, DL.atI_t, DL.int0P_ii, DL.intP_ii, DL.addP_ii, DL.addP_ss, DL.addP_tt, DL.addP_ll, DL.isTup_t, DL.reprP, Bool.false_eq_true, if_true, if_false, reduceIte, Option.some.injEq, PyData.bool.injEq, exists_eq_left', exists_eq_left, exists_eq_right, exists_eq_right', true_and, and_true, Bool.true_eq_false, Bool.not_true, Bool.not_false, false_and, and_false, exists_and_left, reduceCtorEq, DL.DV.gts.injEq, exists_const])
                    have W0 : machB m = false → wrong2 m c2 d2 near = [.tuple [.int 0, m]] := fun h => by
                      unfold wrong2 wrongD
                      rw [h]
                      rfl
                    have W1 : machB m = true → wholeD c2 = false → ∃ r, wrong2 m c2 d2 near = .tuple [.int 3, c2] :: r := fun h h2 => by
                      unfold wrong2 wrongD
                      rw [h]
                      simp [List.filter_cons, h2]
                    have W2 : machB m = true → wholeD c2 = true → wholeD d2 = false → wrong2 m c2 d2 near = [.tuple [.int 3, d2]] := fun h h2 h3 => by
                      unfold wrong2 wrongD
                      rw [h]
                      simp [List.filter_cons, h2, h3]
                    have W3 : machB m = true → wholeD c2 = true → wholeD d2 = true → wordB near = false → wrong2 m c2 d2 near = [.tuple [.int 2, near]] := fun h h2 h3 h4 => by
                      unfold wrong2 wrongD
                      rw [h]
                      simp [List.filter_cons, h2, h3, h4]
                    have W4 : machB m = true → wholeD c2 = true → wholeD d2 = true → wordB near = true → wrong2 m c2 d2 near = [] := fun h h2 h3 h4 => by
                      unfold wrong2 wrongD
                      rw [h]
                      simp [List.filter_cons, h2, h3, h4]
                    have good : machB m = true → wholeD c2 = true → wholeD d2 = true → wordB near = true → ∃ ys a b z, m = .tuple ys ∧ c2 = .int a ∧ d2 = .int b ∧ near = .str z ∧ Stand ys 0 z "" ∧ small z.length a b ∧ Say (outD ys z (clockN z.length a b).toNat) := fun h h2 h3 h4 => by
                      obtain ⟨ys, rfl⟩ := mach_tup h
                      obtain ⟨z, rfl⟩ : ∃ z, near = .str z := by
                        cases near with
                        | str z => exact ⟨z, rfl⟩
                        | _ => cases h4
                      obtain ⟨a, rfl⟩ : ∃ k, c2 = .int k := by
                        cases c2 with
                        | int k => exact ⟨k, rfl⟩
                        | _ => cases h2
                      obtain ⟨b, rfl⟩ : ∃ k, d2 = .int k := by
                        cases d2 with
                        | int k => exact ⟨k, rfl⟩
                        | _ => cases h3
                      have lz := cn z rfl
                      have la := cc a rfl
                      have lb := cd b rfl
                      have a0 : 0 ≤ a := of_decide_eq_true h2
                      have b0 : 0 ≤ b := of_decide_eq_true h3
                      have sm : small z.length a b := ⟨by omega, by omega, a0, by omega, b0, by omega⟩
                      have cl := clock_le sm
                      have st : Stand ys 0 z "" := ⟨h, Int.le_refl _, by omega, h4, we, room_of (by omega)⟩
                      exact ⟨ys, a, b, z, rfl, rfl, rfl, rfl, st, sm, say_out st (by omega)⟩
                    have cases5 : (wrong2 m c2 d2 near = [] ∧ machB m = true ∧ wholeD c2 = true ∧ wholeD d2 = true ∧ wordB near = true) ∨ ∃ (i : Int) (v : PyData) (r : List PyData), wrong2 m c2 d2 near = .tuple [.int i, v] :: r ∧ Say v := by
                      cases h : machB m with
                      | false => exact .inr ⟨_, _, _, W0 h, sayT⟩
                      | true =>
                        cases h2 : wholeD c2 with
                        | false =>
                          obtain ⟨r, e⟩ := W1 h h2
                          exact .inr ⟨_, _, _, e, sayC⟩
                        | true =>
                          cases h3 : wholeD d2 with
                          | false => exact .inr ⟨_, _, _, W2 h h2 h3, sayD⟩
                          | true =>
                            cases h4 : wordB near with
                            | false => exact .inr ⟨_, _, _, W3 h h2 h3 h4, sayR⟩
                            | true => exact .inl ⟨W4 h h2 h3 h4, rfl, rfl, rfl, rfl⟩
                    refine ⟨fun ρ => ∃ due, ρ = [none, some .deck, some (.dat dt), some (.dat near), some (.dat m), some (.dat c2), some (.dat d2), some (.dat due), some (.dat (.list odd)), some (.dat (.list (wrong2 m c2 d2 near))), x10, x11] ∧ (∀ (i : Int) (v : PyData) (r : List PyData), wrong2 m c2 d2 near = .tuple [.int i, v] :: r → due = .tuple [.str "raised", .tuple [.bool ((0 : Int) == i), .bool ((1 : Int) == i), .bool ((2 : Int) == i), .bool ((3 : Int) == i)], .str v.shown]) ∧
                      (∀ ys a b z, m = .tuple ys → c2 = .int a → d2 = .int b → near = .str z → wrong2 m c2 d2 near = [] → due = .tuple [.str "returned", .str (outD ys z (clockN z.length a b).toNat).shown]), ?_, ?_⟩
                    · rcases cases5 with ⟨e, h, h2, h3, h4⟩ | ⟨i, v, r, e, sv⟩
                      · rw [e]
                        obtain ⟨ys, a, b, z, rfl, rfl, rfl, rfl, st, sm, so⟩ := good h h2 h3 h4
                        exact ⟨ys, a, b, z, rfl, st, sm, so, _, rfl, (fun i v r z => by cases z), fun ys2 a2 b2 z2 e1 e2 e3 e4 _ => by
                          cases e1
                          cases e2
                          cases e3
                          cases e4
                          rfl⟩
                      · rw [e]
                        refine ⟨by decide, by decide, lc_fun (q := fun x => .bool (PyData.eqv x (.int i))) (fun x hx Q hq => ?_) (by show 0 + 4 ≤ sizeLine; decide) ?_⟩
                        · obtain ⟨k, hk⟩ := List.mem_iff_getElem?.mp hx
                          obtain ⟨rfl, _⟩ := rngD_at hk
                          (try simp only [DL.iteB_true, DL.iteB_false, DL.sSeq, DL.sNext, DL.sRet, DL.sRetN, DL.sIf, DL.sAsg, DL.sNew, DL.sDrop, DL.sRel, DL.sApp, DL.sFor, DL.sBreak, DL.sCont, DL.sAsgT, DL.sPar, DL.sPar3, DL.sPar3DFD, DL.sParFD, DL.sParDF, DL.sExt, DL.sPut, DL.sAug, DL.sCut, DL.sRaise, DL.sWhile, DL.fVar, DL.fC, DL.fOb, DL.fGts, DL.f2, DL.f1, DL.fCall, DL.fB, DL.fTru, DL.fAnd, DL.fOr, DL.fNot, DL.fIf, DL.tAndD, DL.tOrD, DL.tNotD, DL.fNil, DL.fCons, DL.fTup, DL.fLst, DL.fDnew, DL.fNew, DL.fIt, DL.fRng1, DL.fRng2, DL.fLc, DL.fAG, DL.fFn, DL.fFnX, DL.fFnK, DL.fSl, DL.fNone, DL.fPart, DL.fList, DL.fM0, DL.fM1, DL.tYesD, DL.gdN, DL.gdT_t, DL.gdNil_n, DL.gdCons_c, DL.op2, DL.op1, DL.opC, DL.c1, DL.isiP, DL.typeO, DL.tyIs, DL.inG, DL.isND, DL.rel, DL.wipeD, DL.le_s0, DL.le_s1, DL.le_s2, DL.le_s3, DL.le_s4, DL.le_s5, DL.le_s6, DL.le_s7, DL.le_s8, DL.le_s9, DL.le_s10, DL.le_s11, DL.le_s12, DL.le_s13, DL.le_s14, DL.le_s15, DL.le_s16, DL.le_s17, DL.le_s18, DL.le_s19, DL.le_s20, DL.le_s21, DL.le_s22, DL.le_s23, DL.le_s24, DL.le_s25, DL.le_s26, DL.le_s27, DL.le_s28, DL.le_s29, DL.le_s30, DL.le_s31, DL.le_s32, DL.le_s33, DL.le_s34, DL.le_s35, DL.le_s36, DL.le_s37, DL.le_s38, DL.le_s39, DL.le_s40, DL.le_s41, DL.le_s42, DL.le_s43, DL.le_s44, DL.le_s45, DL.le_s46, DL.le_s47, DL.le_s48, DL.le_s49, DL.le_s50, DL.le_s51, DL.le_s52, DL.le_s53, DL.le_s54, DL.le_s55, DL.le_s56, DL.le_s57, DL.le_s58, DL.le_s59, DL.le_s60, DL.le_s61, DL.le_s62, DL.le_s63, DL.le_s64, DL.start0, DL.asDat, DL.lend, DL.noOwn, DL.DV.isOwn, DL.pd_dat, DL.pd_own, DL.ocpd_lst, DL.ocpd_dk, DL.itemsOf, List.map_cons, List.map_nil, List.append_nil, List.cons_append, List.nil_append, List.length_cons, List.length_nil, List.replicate_succ, List.replicate_zero, List.getElem?_cons_zero, List.getElem?_cons_succ, List.set_cons_zero, List.set_cons_succ, Nat.reduceSub, Nat.reduceAdd, Nat.sub_self, Nat.zero_add, Option.some.injEq, DL.DV.dat.injEq, PyData.bool.injEq, PyData.int.injEq, PyData.str.injEq, PyData.tuple.injEq, PyData.list.injEq, DL.DV.ob.injEq, V.ty.injEq, DL.DV.own.injEq, DL.OC.lst.injEq, List.cons.injEq, Option.map_some, exists_eq_left', exists_eq_left, exists_eq_right, exists_eq_right', exists_and_left, and_true, true_and, Bool.not_true, Bool.not_false, Bool.and_true, Bool.true_and, true_or, Bool.not_eq_true', Bool.false_eq_true, if_true, if_false, reduceIte, reduceCtorEq])
                          (try simp only [DL.negP_i, DL.le_s0, DL.le_s1, DL.le_s2, DL.le_s3, DL.le_s4, DL.le_s5, DL.le_s6, DL.le_s7, DL.le_s8, DL.le_s9, DL.le_s10, DL.le_s11, DL.le_s12, DL.le_s13, DL.le_s14, DL.le_s15, DL.le_s16, DL.le_s17, DL.le_s18, DL.le_s19, DL.le_s20, DL.le_s21, DL.le_s22, DL.le_s23, DL.le_s24, DL.le_s25, DL.le_s26, DL.le_s27, DL.le_s28, DL.le_s29, DL.le_s30, DL.le_s31, DL.le_s32, DL.le_s33, DL.le_s34, DL.le_s35, DL.le_s36, DL.le_s37, DL.le_s38, DL.le_s39, DL.le_s40, DL.le_s41, DL.le_s42, DL.le_s43, DL.le_s44, DL.le_s45, DL.le_s46, DL.le_s47, DL.le_s48, DL.le_s49, DL.le_s50, DL.le_s51, DL.le_s52, DL.le_s53, DL.le_s54, DL.le_s55, DL.le_s56, DL.le_s57, DL.le_s58, DL.le_s59, DL.le_s60, DL.le_s61, DL.le_s62, DL.le_s63, DL.le_s64, DL.iteB_true, DL.iteB_false, DL.lenP_t, DL.lenP_l, DL.lenP_s, DL.eqP, DL.eqOk_int, DL.eqOk_str, DL.eqOk_emp, DL.eqOk_empL, DL.eqv_emp1, DL.eqv_empL1, DL.eqv_ii, DL.eqv_ss, DL.ixP_t, DL.ixP_l, DL.ixP_s, DL.slP_t, DL.slP_l, DL.slP_s, DL.intcP_i, DL.intcP_b, DL.intcP_s, DL.tupcP_l, DL.tupcP_t, DL.atI_z, DL.atI_o, DL.atI_t, DL.int0P_ii, DL.intP_ii, DL.addP_ii, DL.addP_ss, DL.addP_tt, DL.addP_ll, DL.isTup_t, DL.reprP, Bool.false_eq_true, if_true, if_false, reduceIte, Option.some.injEq, PyData.bool.injEq, exists_eq_left', exists_eq_left, exists_eq_right, exists_eq_right', true_and, and_true, Bool.true_eq_false, Bool.not_true, Bool.not_false, false_and, and_false, exists_and_left, reduceCtorEq, DL.DV.gts.injEq, exists_const])
                          exact hq
                        · refine ⟨_, atI_z _ _, ?_⟩
                          rw [ixP_t]
                          refine ⟨v, atI_o _ _ _, sv, _, rfl, (fun i2 v2 r2 e2 => ?_), fun _ _ _ _ _ _ _ _ z => by cases z⟩
                          cases e2
                          rfl
                    · rintro ρ ⟨due, rfl, k1, k2⟩
                      have last : ∀ d : PyData, d = due → d.canLay0 = true → d.depth ≤ 64 → eqOk d due = true ∧ iteB (!d.eqv due) False (N [none, some .deck, some (.dat dt), some (.dat near), some (.dat m), some (.dat c2), some (.dat d2), some (.dat due), some (.dat (.list odd)), some (.dat (.list (wrong2 m c2 d2 near))), x10, x11]) := fun d e h1 h2 => by
                        subst e
                        refine ⟨shp h1 h2, ?_⟩
                        rw [SeqAt.eqv_refl d h1]
                        exact hN
                      have raise : ∀ (x : Str) (d : PyData), due = .tuple [.str "raised", kindsD x, .str d.shown] → eqOk (.tuple [.str "raised", kindsD x, .str d.shown]) due = true ∧ iteB (!(PyData.tuple [.str "raised", kindsD x, .str d.shown]).eqv due) False (N [none, some .deck, some (.dat dt), some (.dat near), some (.dat m), some (.dat c2), some (.dat d2), some (.dat due), some (.dat (.list odd)), some (.dat (.list (wrong2 m c2 d2 near))), x10, x11]) := fun x d e =>
                        last _ e.symm (by simp [PyData.canLay0, PyData.canLayAll0, kindsD, fourL, SO.shown_strOk]; decide +kernel) (by simp [kindsD, fourL, PyData.depth, PyData.depthAll])
                      unfold fTried
                      (try simp only [DL.iteB_true, DL.iteB_false, DL.sSeq, DL.sNext, DL.sRet, DL.sRetN, DL.sIf, DL.sAsg, DL.sNew, DL.sDrop, DL.sRel, DL.sApp, DL.sFor, DL.sBreak, DL.sCont, DL.sAsgT, DL.sPar, DL.sPar3, DL.sPar3DFD, DL.sParFD, DL.sParDF, DL.sExt, DL.sPut, DL.sAug, DL.sCut, DL.sRaise, DL.sWhile, DL.fVar, DL.fC, DL.fOb, DL.fGts, DL.f2, DL.f1, DL.fCall, DL.fB, DL.fTru, DL.fAnd, DL.fOr, DL.fNot, DL.fIf, DL.tAndD, DL.tOrD, DL.tNotD, DL.fNil, DL.fCons, DL.fTup, DL.fLst, DL.fDnew, DL.fNew, DL.fIt, DL.fRng1, DL.fRng2, DL.fLc, DL.fAG, DL.fFn, DL.fFnX, DL.fFnK, DL.fSl, DL.fNone, DL.fPart, DL.fList, DL.fM0, DL.fM1, DL.tYesD, DL.gdN, DL.gdT_t, DL.gdNil_n, DL.gdCons_c, DL.op2, DL.op1, DL.opC, DL.c1, DL.isiP, DL.typeO, DL.tyIs, DL.inG, DL.isND, DL.rel, DL.wipeD, DL.le_s0, DL.le_s1, DL.le_s2, DL.le_s3, DL.le_s4, DL.le_s5, DL.le_s6, DL.le_s7, DL.le_s8, DL.le_s9, DL.le_s10, DL.le_s11, DL.le_s12, DL.le_s13, DL.le_s14, DL.le_s15, DL.le_s16, DL.le_s17, DL.le_s18, DL.le_s19, DL.le_s20, DL.le_s21, DL.le_s22, DL.le_s23, DL.le_s24, DL.le_s25, DL.le_s26, DL.le_s27, DL.le_s28, DL.le_s29, DL.le_s30, DL.le_s31, DL.le_s32, DL.le_s33, DL.le_s34, DL.le_s35, DL.le_s36, DL.le_s37, DL.le_s38, DL.le_s39, DL.le_s40, DL.le_s41, DL.le_s42, DL.le_s43, DL.le_s44, DL.le_s45, DL.le_s46, DL.le_s47, DL.le_s48, DL.le_s49, DL.le_s50, DL.le_s51, DL.le_s52, DL.le_s53, DL.le_s54, DL.le_s55, DL.le_s56, DL.le_s57, DL.le_s58, DL.le_s59, DL.le_s60, DL.le_s61, DL.le_s62, DL.le_s63, DL.le_s64, DL.start0, DL.asDat, DL.lend, DL.noOwn, DL.DV.isOwn, DL.pd_dat, DL.pd_own, DL.ocpd_lst, DL.ocpd_dk, DL.itemsOf, List.map_cons, List.map_nil, List.append_nil, List.cons_append, List.nil_append, List.length_cons, List.length_nil, List.replicate_succ, List.replicate_zero, List.getElem?_cons_zero, List.getElem?_cons_succ, List.set_cons_zero, List.set_cons_succ, Nat.reduceSub, Nat.reduceAdd, Nat.sub_self, Nat.zero_add, Option.some.injEq, DL.DV.dat.injEq, PyData.bool.injEq, PyData.int.injEq, PyData.str.injEq, PyData.tuple.injEq, PyData.list.injEq, DL.DV.ob.injEq, V.ty.injEq, DL.DV.own.injEq, DL.OC.lst.injEq, List.cons.injEq, Option.map_some, exists_eq_left', exists_eq_left, exists_eq_right, exists_eq_right', exists_and_left, and_true, true_and, Bool.not_true, Bool.not_false, Bool.and_true, Bool.true_and, true_or, Bool.not_eq_true', Bool.false_eq_true, if_true, if_false, reduceIte, reduceCtorEq])
                      refine ⟨m, c2, d2, near, rfl, hsh, fun h => ?_, fun h h2 => ?_, fun h h2 h3 => ?_, fun h h2 h3 h4 => ?_, fun ys a b z e1 e2 e3 e4 h h2 h3 h4 => ?_⟩
                      · exact ⟨by simp [fourL], sayT, raise _ _ (by rw [k1 _ _ _ (W0 h), kindsD_bm]; rfl)⟩
                      · obtain ⟨r, e⟩ := W1 h h2
                        exact ⟨by simp [fourL], sayC, raise _ _ (by rw [k1 _ _ _ e, kindsD_bn]; rfl)⟩
                      · exact ⟨by simp [fourL], sayD, raise _ _ (by rw [k1 _ _ _ (W2 h h2 h3), kindsD_bn]; rfl)⟩
                      · exact ⟨by simp [fourL], sayR, raise _ _ (by rw [k1 _ _ _ (W3 h h2 h3 h4), kindsD_bw]; rfl)⟩
                      · obtain ⟨ys2, a2, b2, z2, f1, f2, f3, f4, st, sm, so⟩ := good h h2 h3 h4
                        have ek := k2 ys a b z e1 e2 e3 e4 (W4 h h2 h3 h4)
                        rw [e1] at f1
                        rw [e2] at f2
                        rw [e3] at f3
                        rw [e4] at f4
                        cases f1
                        cases f2
                        cases f3
                        cases f4
                        refine ⟨st, sm, so, last _ ek.symm ?_ ?_⟩
                        · simp [PyData.canLay0, PyData.canLayAll0, SO.shown_strOk]
                          decide +kernel
                        · simp [PyData.depth, PyData.depthAll]
      · obtain ⟨x2, x3, x4, x5, x6, x7, x8, x9, x10, x11, rfl⟩ := hI
        (try simp only [DL.iteB_true, DL.iteB_false, DL.sSeq, DL.sNext, DL.sRet, DL.sRetN, DL.sIf, DL.sAsg, DL.sNew, DL.sDrop, DL.sRel, DL.sApp, DL.sFor, DL.sBreak, DL.sCont, DL.sAsgT, DL.sPar, DL.sPar3, DL.sPar3DFD, DL.sParFD, DL.sParDF, DL.sExt, DL.sPut, DL.sAug, DL.sCut, DL.sRaise, DL.sWhile, DL.fVar, DL.fC, DL.fOb, DL.fGts, DL.f2, DL.f1, DL.fCall, DL.fB, DL.fTru, DL.fAnd, DL.fOr, DL.fNot, DL.fIf, DL.tAndD, DL.tOrD, DL.tNotD, DL.fNil, DL.fCons, DL.fTup, DL.fLst, DL.fDnew, DL.fNew, DL.fIt, DL.fRng1, DL.fRng2, DL.fLc, DL.fAG, DL.fFn, DL.fFnX, DL.fFnK, DL.fSl, DL.fNone, DL.fPart, DL.fList, DL.fM0, DL.fM1, DL.tYesD, DL.gdN, DL.gdT_t, DL.gdNil_n, DL.gdCons_c, DL.op2, DL.op1, DL.opC, DL.c1, DL.isiP, DL.typeO, DL.tyIs, DL.inG, DL.isND, DL.rel, DL.wipeD, DL.le_s0, DL.le_s1, DL.le_s2, DL.le_s3, DL.le_s4, DL.le_s5, DL.le_s6, DL.le_s7, DL.le_s8, DL.le_s9, DL.le_s10, DL.le_s11, DL.le_s12, DL.le_s13, DL.le_s14, DL.le_s15, DL.le_s16, DL.le_s17, DL.le_s18, DL.le_s19, DL.le_s20, DL.le_s21, DL.le_s22, DL.le_s23, DL.le_s24, DL.le_s25, DL.le_s26, DL.le_s27, DL.le_s28, DL.le_s29, DL.le_s30, DL.le_s31, DL.le_s32, DL.le_s33, DL.le_s34, DL.le_s35, DL.le_s36, DL.le_s37, DL.le_s38, DL.le_s39, DL.le_s40, DL.le_s41, DL.le_s42, DL.le_s43, DL.le_s44, DL.le_s45, DL.le_s46, DL.le_s47, DL.le_s48, DL.le_s49, DL.le_s50, DL.le_s51, DL.le_s52, DL.le_s53, DL.le_s54, DL.le_s55, DL.le_s56, DL.le_s57, DL.le_s58, DL.le_s59, DL.le_s60, DL.le_s61, DL.le_s62, DL.le_s63, DL.le_s64, DL.start0, DL.asDat, DL.lend, DL.noOwn, DL.DV.isOwn, DL.pd_dat, DL.pd_own, DL.ocpd_lst, DL.ocpd_dk, DL.itemsOf, List.map_cons, List.map_nil, List.append_nil, List.cons_append, List.nil_append, List.length_cons, List.length_nil, List.replicate_succ, List.replicate_zero, List.getElem?_cons_zero, List.getElem?_cons_succ, List.set_cons_zero, List.set_cons_succ, Nat.reduceSub, Nat.reduceAdd, Nat.sub_self, Nat.zero_add, Option.some.injEq, DL.DV.dat.injEq, PyData.bool.injEq, PyData.int.injEq, PyData.str.injEq, PyData.tuple.injEq, PyData.list.injEq, DL.DV.ob.injEq, V.ty.injEq, DL.DV.own.injEq, DL.OC.lst.injEq, List.cons.injEq, Option.map_some, exists_eq_left', exists_eq_left, exists_eq_right, exists_eq_right', exists_and_left, and_true, true_and, Bool.not_true, Bool.not_false, Bool.and_true, Bool.true_and, true_or, Bool.not_eq_true', Bool.false_eq_true, if_true, if_false, reduceIte, reduceCtorEq])
  · exact ⟨fun _ h => h.elim, fun _ h => h.elim, fun _ h => h.elim, fun {v H d} _ dx h => by
      have h : d = .bool true := h
      subst h
      cases dx
      exact hQ _⟩
end
end PM


set_option Elab.async false
set_option linter.all false
set_option maxRecDepth 100000
set_option maxHeartbeats 0
/-! The end of the row. -/
namespace PZ
open PySem PySem.Spec PyProof.Rows L2 KT KG KM KX KY KE0 KQ LK GxR DL KA DW PA PB PC PD PE PF PG QF QB QX QY QZ QE WT LB PT PU PL PN PS PVL P90 P91 P92 PM
def fourB (K : PySem.W.Frag) : Bool := fourL.all fun x => qB K x "thing" && (decide (PySem.W.exmOne K (.ref (He.ga K x)) (.ref (He.ga K "QuickError")) = some true) && fourL.all fun y => decide (PySem.W.kitOne K (.ref (He.ga K x)) (.ref (He.ga K y)) = some (x == y)))
def exB (K : PySem.W.Frag) : Bool := He.tupB K "DEEDS" (deedL.map He.Dv.str) && (fourB K && (decide ((He.cT K ("law", none)).2 ≠ (He.cT K ("fits_state", none)).2) && decide ((He.cT K ("law", none)).2 ≠ (He.cT K ("is_machine", none)).2)))
def hdFa : List He.Fa := [.glo "is_whole", .glo "is_word", .glo "is_machine", .glo "outcome", .glo "require_machine", .glo "require_clock", .glo "fits_state", .glo "fits_rule", .glo "clock_steps", .glo "later_standing", .glo "next_standing", .glo "piles_after", .glo "_law_deck", .glo "_law_draw", .glo "_law_pick", .glo "_law_word", .glo "_law_same", .glo "_law_is_integer", .glo "_law_is_number", .glo "_law_is_word", .glo "_law_machine", .glo "_law_is_machine", .glo "_law_pile_step", .glo "_law_after", .glo "_law_clock", .glo "_law_outcome", .glo "_law_tried", .glo "_law_told_machine", .glo "law", .free "Exception", .free "all", .free "bool", .free "int", .free "isinstance", .free "len", .free "list", .free "max", .free "min", .free "range", .free "repr", .free "str", .free "tuple", .free "type", .glo "DEEDS", .glo "QuickError", .glo "BadWord", .glo "BadNumber", .glo "BadStanding", .glo "BadMachine"]
def dd_is_whole : He.DefD := ⟨("is_whole", none), "is_whole", "is_whole", defArgs s_is_whole, defBody s_is_whole, defScope s_is_whole, [], []⟩
def dd_is_word : He.DefD := ⟨("is_word", none), "is_word", "is_word", defArgs s_is_word, defBody s_is_word, defScope s_is_word, [], []⟩
def dd_is_machine : He.DefD := ⟨("is_machine", none), "is_machine", "is_machine", defArgs s_is_machine, defBody s_is_machine, defScope s_is_machine, [], []⟩
def dd_outcome : He.DefD := ⟨("outcome", none), "outcome", "outcome", defArgs s_outcome, defBody s_outcome, defScope s_outcome, [], []⟩
def dd_require_machine : He.DefD := ⟨("require_machine", none), "require_machine", "require_machine", defArgs s_require_machine, defBody s_require_machine, defScope s_require_machine, [], []⟩
def dd_require_clock : He.DefD := ⟨("require_clock", none), "require_clock", "require_clock", defArgs s_require_clock, defBody s_require_clock, defScope s_require_clock, [], []⟩
def dd_fits_state : He.DefD := ⟨("fits_state", none), "fits_state", "fits_state", defArgs s_fits_state, defBody s_fits_state, defScope s_fits_state, [], []⟩
def dd_fits_rule : He.DefD := ⟨("fits_rule", none), "fits_rule", "fits_rule", defArgs s_fits_rule, defBody s_fits_rule, defScope s_fits_rule, [], []⟩
def dd_clock_steps : He.DefD := ⟨("clock_steps", none), "clock_steps", "clock_steps", defArgs s_clock_steps, defBody s_clock_steps, defScope s_clock_steps, [], []⟩
def dd_later_standing : He.DefD := ⟨("later_standing", none), "later_standing", "later_standing", defArgs s_later_standing, defBody s_later_standing, defScope s_later_standing, [], []⟩
def dd_next_standing : He.DefD := ⟨("next_standing", none), "next_standing", "next_standing", defArgs s_next_standing, defBody s_next_standing, defScope s_next_standing, [], []⟩
def dd_piles_after : He.DefD := ⟨("piles_after", none), "piles_after", "piles_after", defArgs s_piles_after, defBody s_piles_after, defScope s_piles_after, [], []⟩
def dd__law_deck : He.DefD := ⟨("_law_deck", none), "_law_deck", "_law_deck", defArgs s__law_deck, defBody s__law_deck, defScope s__law_deck, [], []⟩
def dd__law_draw : He.DefD := ⟨("_law_draw", none), "_law_draw", "_law_draw", defArgs s__law_draw, defBody s__law_draw, defScope s__law_draw, [], []⟩
def dd__law_pick : He.DefD := ⟨("_law_pick", none), "_law_pick", "_law_pick", defArgs s__law_pick, defBody s__law_pick, defScope s__law_pick, [], []⟩
def dd__law_word : He.DefD := ⟨("_law_word", none), "_law_word", "_law_word", defArgs s__law_word, defBody s__law_word, defScope s__law_word, [], []⟩
def dd__law_same : He.DefD := ⟨("_law_same", none), "_law_same", "_law_same", defArgs s__law_same, defBody s__law_same, defScope s__law_same, [], []⟩
def dd__law_is_integer : He.DefD := ⟨("_law_is_integer", none), "_law_is_integer", "_law_is_integer", defArgs s__law_is_integer, defBody s__law_is_integer, defScope s__law_is_integer, [], []⟩
def dd__law_is_number : He.DefD := ⟨("_law_is_number", none), "_law_is_number", "_law_is_number", defArgs s__law_is_number, defBody s__law_is_number, defScope s__law_is_number, [], []⟩
def dd__law_is_word : He.DefD := ⟨("_law_is_word", none), "_law_is_word", "_law_is_word", defArgs s__law_is_word, defBody s__law_is_word, defScope s__law_is_word, [], []⟩
def dd__law_machine : He.DefD := ⟨("_law_machine", none), "_law_machine", "_law_machine", defArgs s__law_machine, defBody s__law_machine, defScope s__law_machine, [], []⟩
def dd__law_is_machine : He.DefD := ⟨("_law_is_machine", none), "_law_is_machine", "_law_is_machine", defArgs s__law_is_machine, defBody s__law_is_machine, defScope s__law_is_machine, [], []⟩
def dd__law_pile_step : He.DefD := ⟨("_law_pile_step", none), "_law_pile_step", "_law_pile_step", defArgs s__law_pile_step, defBody s__law_pile_step, defScope s__law_pile_step, [], []⟩
def dd__law_after : He.DefD := ⟨("_law_after", none), "_law_after", "_law_after", defArgs s__law_after, defBody s__law_after, defScope s__law_after, [], []⟩
def dd__law_clock : He.DefD := ⟨("_law_clock", none), "_law_clock", "_law_clock", defArgs s__law_clock, defBody s__law_clock, defScope s__law_clock, [], []⟩
def dd__law_outcome : He.DefD := ⟨("_law_outcome", none), "_law_outcome", "_law_outcome", defArgs s__law_outcome, defBody s__law_outcome, defScope s__law_outcome, [], []⟩
def dd__law_tried : He.DefD := ⟨("_law_tried", none), "_law_tried", "_law_tried", defArgs s__law_tried, defBody s__law_tried, defScope s__law_tried, [], []⟩
def dd__law_told_machine : He.DefD := ⟨("_law_told_machine", none), "_law_told_machine", "_law_told_machine", defArgs s__law_told_machine, defBody s__law_told_machine, defScope s__law_told_machine, [], []⟩
def dd_law : He.DefD := ⟨("law", none), "law", "law", defArgs s_law, defBody s_law, defScope s_law, [], []⟩
def dd_BadWord___init__ : He.DefD := ⟨("BadWord", some "__init__"), "__init__", "BadWord.__init__", defArgs m_BadWord___init__, defBody m_BadWord___init__, defScope m_BadWord___init__, [], []⟩
def dd_BadNumber___init__ : He.DefD := ⟨("BadNumber", some "__init__"), "__init__", "BadNumber.__init__", defArgs m_BadNumber___init__, defBody m_BadNumber___init__, defScope m_BadNumber___init__, [], []⟩
def dd_BadStanding___init__ : He.DefD := ⟨("BadStanding", some "__init__"), "__init__", "BadStanding.__init__", defArgs m_BadStanding___init__, defBody m_BadStanding___init__, defScope m_BadStanding___init__, [], []⟩
def dd_BadMachine___init__ : He.DefD := ⟨("BadMachine", some "__init__"), "__init__", "BadMachine.__init__", defArgs m_BadMachine___init__, defBody m_BadMachine___init__, defScope m_BadMachine___init__, [], []⟩
def hdFn : List He.DefD := [dd_is_whole, dd_is_word, dd_is_machine, dd_outcome, dd_require_machine, dd_require_clock, dd_fits_state, dd_fits_rule, dd_clock_steps, dd_later_standing, dd_next_standing, dd_piles_after, dd__law_deck, dd__law_draw, dd__law_pick, dd__law_word, dd__law_same, dd__law_is_integer, dd__law_is_number, dd__law_is_word, dd__law_machine, dd__law_is_machine, dd__law_pile_step, dd__law_after, dd__law_clock, dd__law_outcome, dd__law_tried, dd__law_told_machine, dd_law, dd_BadWord___init__, dd_BadNumber___init__, dd_BadStanding___init__, dd_BadMachine___init__]
def hdTf : List He.Defn := [("fits_state", none), ("is_machine", none), ("law", none)]
def hdEx (K : PySem.W.Frag) : Bool := PZ.exB K 
def hdLoose : List Str := [("QuickError" : Str), ("BadWord" : Str), ("BadNumber" : Str), ("BadStanding" : Str), ("BadMachine" : Str), ("is_whole" : Str), ("is_word" : Str), ("DEEDS" : Str), ("is_machine" : Str), ("outcome" : Str), ("require_machine" : Str), ("require_clock" : Str), ("fits_state" : Str), ("fits_rule" : Str), ("clock_steps" : Str), ("later_standing" : Str), ("next_standing" : Str), ("piles_after" : Str), ("_law_deck" : Str), ("_law_draw" : Str), ("_law_pick" : Str), ("_law_word" : Str), ("_law_same" : Str), ("_law_is_integer" : Str), ("_law_is_number" : Str), ("_law_is_word" : Str), ("_law_machine" : Str), ("_law_is_machine" : Str), ("_law_pile_step" : Str), ("_law_after" : Str), ("_law_clock" : Str), ("_law_outcome" : Str), ("_law_tried" : Str), ("_law_told_machine" : Str)]
abbrev hdR : PySem.W.OpenRow := PySem.W.OpenLaw.row PySem.Challenge.rw_quicktongue_k90_clocks_and_outcomes
abbrev hdK : PySem.W.Hook := He.hookX 5 hdFa hdFn [] hdTf hdEx
def hdOb (s : PySem.W.SharedT) : He.AlX := He.obsX 5 hdFa hdFn [] hdTf hdEx (HandSHeadRun.getT s)
theorem hdOb_eq (s : PySem.W.SharedT) : hdOb s = hdK.obs s.abs := He.obsX_eq (HandSHeadRun.getT_eq s)
theorem hdRun (w : World) : HandSHeadRun.RunEq hdR (PySem.W.view hdR.prog [39]) hdK hdOb 8000 hdLoose w := by
  intro os
  kernel_rfl
abbrev P_is_whole : List Str := ["thing"]
abbrev P_is_word : List Str := ["thing"]
abbrev P_is_machine : List Str := ["thing"]
abbrev P_outcome : List Str := ["machine", "c", "d", "word"]
abbrev P_require_machine : List Str := ["thing"]
abbrev P_require_clock : List Str := ["c", "d"]
abbrev P_fits_state : List Str := ["thing", "many"]
abbrev P_fits_rule : List Str := ["thing", "many"]
abbrev P_clock_steps : List Str := ["length", "c", "d"]
abbrev P_later_standing : List Str := ["machine", "word", "many"]
abbrev P_next_standing : List Str := ["machine", "standing"]
abbrev P_piles_after : List Str := ["deed", "left", "right"]
abbrev P__law_deck : List Str := ["_law_script"]
abbrev P__law_draw : List Str := ["_law_deck_here", "_law_many"]
abbrev P__law_pick : List Str := ["_law_deck_here", "_law_some"]
abbrev P__law_word : List Str := ["_law_deck_here", "_law_most"]
abbrev P__law_same : List Str := ["_law_told", "_law_due"]
abbrev P__law_is_integer : List Str := ["_law_thing"]
abbrev P__law_is_number : List Str := ["_law_thing"]
abbrev P__law_is_word : List Str := ["_law_thing"]
abbrev P__law_machine : List Str := ["_law_deck_here", "_law_most"]
abbrev P__law_is_machine : List Str := ["_law_thing"]
abbrev P__law_pile_step : List Str := ["_law_machine_here", "_law_standing"]
abbrev P__law_after : List Str := ["_law_machine_here", "_law_standing", "_law_many"]
abbrev P__law_clock : List Str := ["_law_n", "_law_c", "_law_d"]
abbrev P__law_outcome : List Str := ["_law_machine_here", "_law_c", "_law_d", "_law_word_here"]
abbrev P__law_tried : List Str := ["_law_call"]
abbrev P__law_told_machine : List Str := ["_law_deck_here", "_law_word_here", "_law_many"]
abbrev P_law : List Str := ["_law_script"]
theorem df_is_whole {K : PySem.W.Frag} {h : Heap} {mg : Str → Option Value} (X : K.In h) (G : h.Ns mainGlobals mg) (c : He.SaysD hdFa hdFn K) : ∃ fd, Df K mg "is_whole" s_is_whole P_is_whole fd := by
  obtain ⟨fd, F⟩ := c.def_ 0 (d := dd_is_whole) rfl
  exact ⟨fd, F, He.glo_ok X G (c.fact 0 (f := .glo "is_whole") rfl), F.bindsN fun _ _ _ _ _ _ us hl => match us, hl with | [_], _ => rfl⟩
theorem df_is_word {K : PySem.W.Frag} {h : Heap} {mg : Str → Option Value} (X : K.In h) (G : h.Ns mainGlobals mg) (c : He.SaysD hdFa hdFn K) : ∃ fd, Df K mg "is_word" s_is_word P_is_word fd := by
  obtain ⟨fd, F⟩ := c.def_ 1 (d := dd_is_word) rfl
  exact ⟨fd, F, He.glo_ok X G (c.fact 1 (f := .glo "is_word") rfl), F.bindsN fun _ _ _ _ _ _ us hl => match us, hl with | [_], _ => rfl⟩
theorem df_is_machine {K : PySem.W.Frag} {h : Heap} {mg : Str → Option Value} (X : K.In h) (G : h.Ns mainGlobals mg) (c : He.SaysD hdFa hdFn K) : ∃ fd, Df K mg "is_machine" s_is_machine P_is_machine fd := by
  obtain ⟨fd, F⟩ := c.def_ 2 (d := dd_is_machine) rfl
  exact ⟨fd, F, He.glo_ok X G (c.fact 2 (f := .glo "is_machine") rfl), F.bindsN fun _ _ _ _ _ _ us hl => match us, hl with | [_], _ => rfl⟩
theorem df_outcome {K : PySem.W.Frag} {h : Heap} {mg : Str → Option Value} (X : K.In h) (G : h.Ns mainGlobals mg) (c : He.SaysD hdFa hdFn K) : ∃ fd, Df K mg "outcome" s_outcome P_outcome fd := by
  obtain ⟨fd, F⟩ := c.def_ 3 (d := dd_outcome) rfl
  exact ⟨fd, F, He.glo_ok X G (c.fact 3 (f := .glo "outcome") rfl), F.bindsN fun _ _ _ _ _ _ us hl => match us, hl with | [_, _, _, _], _ => rfl⟩
theorem df_require_machine {K : PySem.W.Frag} {h : Heap} {mg : Str → Option Value} (X : K.In h) (G : h.Ns mainGlobals mg) (c : He.SaysD hdFa hdFn K) : ∃ fd, Df K mg "require_machine" s_require_machine P_require_machine fd := by
  obtain ⟨fd, F⟩ := c.def_ 4 (d := dd_require_machine) rfl
  exact ⟨fd, F, He.glo_ok X G (c.fact 4 (f := .glo "require_machine") rfl), F.bindsN fun _ _ _ _ _ _ us hl => match us, hl with | [_], _ => rfl⟩
theorem df_require_clock {K : PySem.W.Frag} {h : Heap} {mg : Str → Option Value} (X : K.In h) (G : h.Ns mainGlobals mg) (c : He.SaysD hdFa hdFn K) : ∃ fd, Df K mg "require_clock" s_require_clock P_require_clock fd := by
  obtain ⟨fd, F⟩ := c.def_ 5 (d := dd_require_clock) rfl
  exact ⟨fd, F, He.glo_ok X G (c.fact 5 (f := .glo "require_clock") rfl), F.bindsN fun _ _ _ _ _ _ us hl => match us, hl with | [_, _], _ => rfl⟩
theorem df_fits_state {K : PySem.W.Frag} {h : Heap} {mg : Str → Option Value} (X : K.In h) (G : h.Ns mainGlobals mg) (c : He.SaysD hdFa hdFn K) : ∃ fd, Df K mg "fits_state" s_fits_state P_fits_state fd := by
  obtain ⟨fd, F⟩ := c.def_ 6 (d := dd_fits_state) rfl
  exact ⟨fd, F, He.glo_ok X G (c.fact 6 (f := .glo "fits_state") rfl), F.bindsN fun _ _ _ _ _ _ us hl => match us, hl with | [_, _], _ => rfl⟩
theorem df_fits_rule {K : PySem.W.Frag} {h : Heap} {mg : Str → Option Value} (X : K.In h) (G : h.Ns mainGlobals mg) (c : He.SaysD hdFa hdFn K) : ∃ fd, Df K mg "fits_rule" s_fits_rule P_fits_rule fd := by
  obtain ⟨fd, F⟩ := c.def_ 7 (d := dd_fits_rule) rfl
  exact ⟨fd, F, He.glo_ok X G (c.fact 7 (f := .glo "fits_rule") rfl), F.bindsN fun _ _ _ _ _ _ us hl => match us, hl with | [_, _], _ => rfl⟩
theorem df_clock_steps {K : PySem.W.Frag} {h : Heap} {mg : Str → Option Value} (X : K.In h) (G : h.Ns mainGlobals mg) (c : He.SaysD hdFa hdFn K) : ∃ fd, Df K mg "clock_steps" s_clock_steps P_clock_steps fd := by
  obtain ⟨fd, F⟩ := c.def_ 8 (d := dd_clock_steps) rfl
  exact ⟨fd, F, He.glo_ok X G (c.fact 8 (f := .glo "clock_steps") rfl), F.bindsN fun _ _ _ _ _ _ us hl => match us, hl with | [_, _, _], _ => rfl⟩
theorem df_later_standing {K : PySem.W.Frag} {h : Heap} {mg : Str → Option Value} (X : K.In h) (G : h.Ns mainGlobals mg) (c : He.SaysD hdFa hdFn K) : ∃ fd, Df K mg "later_standing" s_later_standing P_later_standing fd := by
  obtain ⟨fd, F⟩ := c.def_ 9 (d := dd_later_standing) rfl
  exact ⟨fd, F, He.glo_ok X G (c.fact 9 (f := .glo "later_standing") rfl), F.bindsN fun _ _ _ _ _ _ us hl => match us, hl with | [_, _, _], _ => rfl⟩
theorem df_next_standing {K : PySem.W.Frag} {h : Heap} {mg : Str → Option Value} (X : K.In h) (G : h.Ns mainGlobals mg) (c : He.SaysD hdFa hdFn K) : ∃ fd, Df K mg "next_standing" s_next_standing P_next_standing fd := by
  obtain ⟨fd, F⟩ := c.def_ 10 (d := dd_next_standing) rfl
  exact ⟨fd, F, He.glo_ok X G (c.fact 10 (f := .glo "next_standing") rfl), F.bindsN fun _ _ _ _ _ _ us hl => match us, hl with | [_, _], _ => rfl⟩
theorem df_piles_after {K : PySem.W.Frag} {h : Heap} {mg : Str → Option Value} (X : K.In h) (G : h.Ns mainGlobals mg) (c : He.SaysD hdFa hdFn K) : ∃ fd, Df K mg "piles_after" s_piles_after P_piles_after fd := by
  obtain ⟨fd, F⟩ := c.def_ 11 (d := dd_piles_after) rfl
  exact ⟨fd, F, He.glo_ok X G (c.fact 11 (f := .glo "piles_after") rfl), F.bindsN fun _ _ _ _ _ _ us hl => match us, hl with | [_, _, _], _ => rfl⟩
theorem df__law_deck {K : PySem.W.Frag} {h : Heap} {mg : Str → Option Value} (X : K.In h) (G : h.Ns mainGlobals mg) (c : He.SaysD hdFa hdFn K) : ∃ fd, Df K mg "_law_deck" s__law_deck P__law_deck fd := by
  obtain ⟨fd, F⟩ := c.def_ 12 (d := dd__law_deck) rfl
  exact ⟨fd, F, He.glo_ok X G (c.fact 12 (f := .glo "_law_deck") rfl), F.bindsN fun _ _ _ _ _ _ us hl => match us, hl with | [_], _ => rfl⟩
theorem df__law_draw {K : PySem.W.Frag} {h : Heap} {mg : Str → Option Value} (X : K.In h) (G : h.Ns mainGlobals mg) (c : He.SaysD hdFa hdFn K) : ∃ fd, Df K mg "_law_draw" s__law_draw P__law_draw fd := by
  obtain ⟨fd, F⟩ := c.def_ 13 (d := dd__law_draw) rfl
  exact ⟨fd, F, He.glo_ok X G (c.fact 13 (f := .glo "_law_draw") rfl), F.bindsN fun _ _ _ _ _ _ us hl => match us, hl with | [_, _], _ => rfl⟩
theorem df__law_pick {K : PySem.W.Frag} {h : Heap} {mg : Str → Option Value} (X : K.In h) (G : h.Ns mainGlobals mg) (c : He.SaysD hdFa hdFn K) : ∃ fd, Df K mg "_law_pick" s__law_pick P__law_pick fd := by
  obtain ⟨fd, F⟩ := c.def_ 14 (d := dd__law_pick) rfl
  exact ⟨fd, F, He.glo_ok X G (c.fact 14 (f := .glo "_law_pick") rfl), F.bindsN fun _ _ _ _ _ _ us hl => match us, hl with | [_, _], _ => rfl⟩
theorem df__law_word {K : PySem.W.Frag} {h : Heap} {mg : Str → Option Value} (X : K.In h) (G : h.Ns mainGlobals mg) (c : He.SaysD hdFa hdFn K) : ∃ fd, Df K mg "_law_word" s__law_word P__law_word fd := by
  obtain ⟨fd, F⟩ := c.def_ 15 (d := dd__law_word) rfl
  exact ⟨fd, F, He.glo_ok X G (c.fact 15 (f := .glo "_law_word") rfl), F.bindsN fun _ _ _ _ _ _ us hl => match us, hl with | [_, _], _ => rfl⟩
theorem df__law_same {K : PySem.W.Frag} {h : Heap} {mg : Str → Option Value} (X : K.In h) (G : h.Ns mainGlobals mg) (c : He.SaysD hdFa hdFn K) : ∃ fd, Df K mg "_law_same" s__law_same P__law_same fd := by
  obtain ⟨fd, F⟩ := c.def_ 16 (d := dd__law_same) rfl
  exact ⟨fd, F, He.glo_ok X G (c.fact 16 (f := .glo "_law_same") rfl), F.bindsN fun _ _ _ _ _ _ us hl => match us, hl with | [_, _], _ => rfl⟩
theorem df__law_is_integer {K : PySem.W.Frag} {h : Heap} {mg : Str → Option Value} (X : K.In h) (G : h.Ns mainGlobals mg) (c : He.SaysD hdFa hdFn K) : ∃ fd, Df K mg "_law_is_integer" s__law_is_integer P__law_is_integer fd := by
  obtain ⟨fd, F⟩ := c.def_ 17 (d := dd__law_is_integer) rfl
  exact ⟨fd, F, He.glo_ok X G (c.fact 17 (f := .glo "_law_is_integer") rfl), F.bindsN fun _ _ _ _ _ _ us hl => match us, hl with | [_], _ => rfl⟩
theorem df__law_is_number {K : PySem.W.Frag} {h : Heap} {mg : Str → Option Value} (X : K.In h) (G : h.Ns mainGlobals mg) (c : He.SaysD hdFa hdFn K) : ∃ fd, Df K mg "_law_is_number" s__law_is_number P__law_is_number fd := by
  obtain ⟨fd, F⟩ := c.def_ 18 (d := dd__law_is_number) rfl
  exact ⟨fd, F, He.glo_ok X G (c.fact 18 (f := .glo "_law_is_number") rfl), F.bindsN fun _ _ _ _ _ _ us hl => match us, hl with | [_], _ => rfl⟩
theorem df__law_is_word {K : PySem.W.Frag} {h : Heap} {mg : Str → Option Value} (X : K.In h) (G : h.Ns mainGlobals mg) (c : He.SaysD hdFa hdFn K) : ∃ fd, Df K mg "_law_is_word" s__law_is_word P__law_is_word fd := by
  obtain ⟨fd, F⟩ := c.def_ 19 (d := dd__law_is_word) rfl
  exact ⟨fd, F, He.glo_ok X G (c.fact 19 (f := .glo "_law_is_word") rfl), F.bindsN fun _ _ _ _ _ _ us hl => match us, hl with | [_], _ => rfl⟩
theorem df__law_machine {K : PySem.W.Frag} {h : Heap} {mg : Str → Option Value} (X : K.In h) (G : h.Ns mainGlobals mg) (c : He.SaysD hdFa hdFn K) : ∃ fd, Df K mg "_law_machine" s__law_machine P__law_machine fd := by
  obtain ⟨fd, F⟩ := c.def_ 20 (d := dd__law_machine) rfl
  exact ⟨fd, F, He.glo_ok X G (c.fact 20 (f := .glo "_law_machine") rfl), F.bindsN fun _ _ _ _ _ _ us hl => match us, hl with | [_, _], _ => rfl⟩
theorem df__law_is_machine {K : PySem.W.Frag} {h : Heap} {mg : Str → Option Value} (X : K.In h) (G : h.Ns mainGlobals mg) (c : He.SaysD hdFa hdFn K) : ∃ fd, Df K mg "_law_is_machine" s__law_is_machine P__law_is_machine fd := by
  obtain ⟨fd, F⟩ := c.def_ 21 (d := dd__law_is_machine) rfl
  exact ⟨fd, F, He.glo_ok X G (c.fact 21 (f := .glo "_law_is_machine") rfl), F.bindsN fun _ _ _ _ _ _ us hl => match us, hl with | [_], _ => rfl⟩
theorem df__law_pile_step {K : PySem.W.Frag} {h : Heap} {mg : Str → Option Value} (X : K.In h) (G : h.Ns mainGlobals mg) (c : He.SaysD hdFa hdFn K) : ∃ fd, Df K mg "_law_pile_step" s__law_pile_step P__law_pile_step fd := by
  obtain ⟨fd, F⟩ := c.def_ 22 (d := dd__law_pile_step) rfl
  exact ⟨fd, F, He.glo_ok X G (c.fact 22 (f := .glo "_law_pile_step") rfl), F.bindsN fun _ _ _ _ _ _ us hl => match us, hl with | [_, _], _ => rfl⟩
theorem df__law_after {K : PySem.W.Frag} {h : Heap} {mg : Str → Option Value} (X : K.In h) (G : h.Ns mainGlobals mg) (c : He.SaysD hdFa hdFn K) : ∃ fd, Df K mg "_law_after" s__law_after P__law_after fd := by
  obtain ⟨fd, F⟩ := c.def_ 23 (d := dd__law_after) rfl
  exact ⟨fd, F, He.glo_ok X G (c.fact 23 (f := .glo "_law_after") rfl), F.bindsN fun _ _ _ _ _ _ us hl => match us, hl with | [_, _, _], _ => rfl⟩
theorem df__law_clock {K : PySem.W.Frag} {h : Heap} {mg : Str → Option Value} (X : K.In h) (G : h.Ns mainGlobals mg) (c : He.SaysD hdFa hdFn K) : ∃ fd, Df K mg "_law_clock" s__law_clock P__law_clock fd := by
  obtain ⟨fd, F⟩ := c.def_ 24 (d := dd__law_clock) rfl
  exact ⟨fd, F, He.glo_ok X G (c.fact 24 (f := .glo "_law_clock") rfl), F.bindsN fun _ _ _ _ _ _ us hl => match us, hl with | [_, _, _], _ => rfl⟩
theorem df__law_outcome {K : PySem.W.Frag} {h : Heap} {mg : Str → Option Value} (X : K.In h) (G : h.Ns mainGlobals mg) (c : He.SaysD hdFa hdFn K) : ∃ fd, Df K mg "_law_outcome" s__law_outcome P__law_outcome fd := by
  obtain ⟨fd, F⟩ := c.def_ 25 (d := dd__law_outcome) rfl
  exact ⟨fd, F, He.glo_ok X G (c.fact 25 (f := .glo "_law_outcome") rfl), F.bindsN fun _ _ _ _ _ _ us hl => match us, hl with | [_, _, _, _], _ => rfl⟩
theorem df__law_tried {K : PySem.W.Frag} {h : Heap} {mg : Str → Option Value} (X : K.In h) (G : h.Ns mainGlobals mg) (c : He.SaysD hdFa hdFn K) : ∃ fd, Df K mg "_law_tried" s__law_tried P__law_tried fd := by
  obtain ⟨fd, F⟩ := c.def_ 26 (d := dd__law_tried) rfl
  exact ⟨fd, F, He.glo_ok X G (c.fact 26 (f := .glo "_law_tried") rfl), F.bindsN fun _ _ _ _ _ _ us hl => match us, hl with | [_], _ => rfl⟩
theorem df__law_told_machine {K : PySem.W.Frag} {h : Heap} {mg : Str → Option Value} (X : K.In h) (G : h.Ns mainGlobals mg) (c : He.SaysD hdFa hdFn K) : ∃ fd, Df K mg "_law_told_machine" s__law_told_machine P__law_told_machine fd := by
  obtain ⟨fd, F⟩ := c.def_ 27 (d := dd__law_told_machine) rfl
  exact ⟨fd, F, He.glo_ok X G (c.fact 27 (f := .glo "_law_told_machine") rfl), F.bindsN fun _ _ _ _ _ _ us hl => match us, hl with | [_, _, _], _ => rfl⟩
theorem df_law {K : PySem.W.Frag} {h : Heap} {mg : Str → Option Value} (X : K.In h) (G : h.Ns mainGlobals mg) (c : He.SaysD hdFa hdFn K) : ∃ fd, Df K mg "law" s_law P_law fd := by
  obtain ⟨fd, F⟩ := c.def_ 28 (d := dd_law) rfl
  exact ⟨fd, F, He.glo_ok X G (c.fact 28 (f := .glo "law") rfl), F.bindsN fun _ _ _ _ _ _ us hl => match us, hl with | [_], _ => rfl⟩
theorem dm_BadWord___init__ {K : PySem.W.Frag} (c : He.SaysD hdFa hdFn K) : ∃ fd, FunD K "__init__" "BadWord.__init__" (defArgs m_BadWord___init__) (defBody m_BadWord___init__) (defScope m_BadWord___init__) [] [] (He.fAd K ("BadWord", some "__init__")) fd ∧ Binds K fd (["self", "thing"] : List Str) [] ∧ KB1 fd (["self", "thing"] : List Str) (["thing"] : List Str) := by
  obtain ⟨fd, F⟩ := c.def_ 29 (d := dd_BadWord___init__) rfl
  exact ⟨fd, F, F.bindsN fun _ _ _ _ _ _ us hl => match us, hl with | [_, _], _ => rfl, kb1_of F fun _ _ _ _ _ _ ws _ hl => match ws, hl with | [_], _ => rfl⟩
theorem dm_BadNumber___init__ {K : PySem.W.Frag} (c : He.SaysD hdFa hdFn K) : ∃ fd, FunD K "__init__" "BadNumber.__init__" (defArgs m_BadNumber___init__) (defBody m_BadNumber___init__) (defScope m_BadNumber___init__) [] [] (He.fAd K ("BadNumber", some "__init__")) fd ∧ Binds K fd (["self", "thing"] : List Str) [] ∧ KB1 fd (["self", "thing"] : List Str) (["thing"] : List Str) := by
  obtain ⟨fd, F⟩ := c.def_ 30 (d := dd_BadNumber___init__) rfl
  exact ⟨fd, F, F.bindsN fun _ _ _ _ _ _ us hl => match us, hl with | [_, _], _ => rfl, kb1_of F fun _ _ _ _ _ _ ws _ hl => match ws, hl with | [_], _ => rfl⟩
theorem dm_BadStanding___init__ {K : PySem.W.Frag} (c : He.SaysD hdFa hdFn K) : ∃ fd, FunD K "__init__" "BadStanding.__init__" (defArgs m_BadStanding___init__) (defBody m_BadStanding___init__) (defScope m_BadStanding___init__) [] [] (He.fAd K ("BadStanding", some "__init__")) fd ∧ Binds K fd (["self", "thing"] : List Str) [] ∧ KB1 fd (["self", "thing"] : List Str) (["thing"] : List Str) := by
  obtain ⟨fd, F⟩ := c.def_ 31 (d := dd_BadStanding___init__) rfl
  exact ⟨fd, F, F.bindsN fun _ _ _ _ _ _ us hl => match us, hl with | [_, _], _ => rfl, kb1_of F fun _ _ _ _ _ _ ws _ hl => match ws, hl with | [_], _ => rfl⟩
theorem dm_BadMachine___init__ {K : PySem.W.Frag} (c : He.SaysD hdFa hdFn K) : ∃ fd, FunD K "__init__" "BadMachine.__init__" (defArgs m_BadMachine___init__) (defBody m_BadMachine___init__) (defScope m_BadMachine___init__) [] [] (He.fAd K ("BadMachine", some "__init__")) fd ∧ Binds K fd (["self", "thing"] : List Str) [] ∧ KB1 fd (["self", "thing"] : List Str) (["thing"] : List Str) := by
  obtain ⟨fd, F⟩ := c.def_ 32 (d := dd_BadMachine___init__) rfl
  exact ⟨fd, F, F.bindsN fun _ _ _ _ _ _ us hl => match us, hl with | [_, _], _ => rfl, kb1_of F fun _ _ _ _ _ _ ws _ hl => match ws, hl with | [_], _ => rfl⟩
theorem fa_Exception {K : PySem.W.Frag} {h : Heap} {mg : Str → Option Value} (X : K.In h) (G : h.Ns mainGlobals mg) (c : He.SaysD hdFa hdFn K) : mg "Exception" = none := He.free_ok X G (c.fact 29 (f := .free "Exception") rfl)
theorem fa_all {K : PySem.W.Frag} {h : Heap} {mg : Str → Option Value} (X : K.In h) (G : h.Ns mainGlobals mg) (c : He.SaysD hdFa hdFn K) : mg "all" = none := He.free_ok X G (c.fact 30 (f := .free "all") rfl)
theorem fa_bool {K : PySem.W.Frag} {h : Heap} {mg : Str → Option Value} (X : K.In h) (G : h.Ns mainGlobals mg) (c : He.SaysD hdFa hdFn K) : mg "bool" = none := He.free_ok X G (c.fact 31 (f := .free "bool") rfl)
theorem fa_int {K : PySem.W.Frag} {h : Heap} {mg : Str → Option Value} (X : K.In h) (G : h.Ns mainGlobals mg) (c : He.SaysD hdFa hdFn K) : mg "int" = none := He.free_ok X G (c.fact 32 (f := .free "int") rfl)
theorem fa_isinstance {K : PySem.W.Frag} {h : Heap} {mg : Str → Option Value} (X : K.In h) (G : h.Ns mainGlobals mg) (c : He.SaysD hdFa hdFn K) : mg "isinstance" = none := He.free_ok X G (c.fact 33 (f := .free "isinstance") rfl)
theorem fa_len {K : PySem.W.Frag} {h : Heap} {mg : Str → Option Value} (X : K.In h) (G : h.Ns mainGlobals mg) (c : He.SaysD hdFa hdFn K) : mg "len" = none := He.free_ok X G (c.fact 34 (f := .free "len") rfl)
theorem fa_list {K : PySem.W.Frag} {h : Heap} {mg : Str → Option Value} (X : K.In h) (G : h.Ns mainGlobals mg) (c : He.SaysD hdFa hdFn K) : mg "list" = none := He.free_ok X G (c.fact 35 (f := .free "list") rfl)
theorem fa_max {K : PySem.W.Frag} {h : Heap} {mg : Str → Option Value} (X : K.In h) (G : h.Ns mainGlobals mg) (c : He.SaysD hdFa hdFn K) : mg "max" = none := He.free_ok X G (c.fact 36 (f := .free "max") rfl)
theorem fa_min {K : PySem.W.Frag} {h : Heap} {mg : Str → Option Value} (X : K.In h) (G : h.Ns mainGlobals mg) (c : He.SaysD hdFa hdFn K) : mg "min" = none := He.free_ok X G (c.fact 37 (f := .free "min") rfl)
theorem fa_range {K : PySem.W.Frag} {h : Heap} {mg : Str → Option Value} (X : K.In h) (G : h.Ns mainGlobals mg) (c : He.SaysD hdFa hdFn K) : mg "range" = none := He.free_ok X G (c.fact 38 (f := .free "range") rfl)
theorem fa_repr {K : PySem.W.Frag} {h : Heap} {mg : Str → Option Value} (X : K.In h) (G : h.Ns mainGlobals mg) (c : He.SaysD hdFa hdFn K) : mg "repr" = none := He.free_ok X G (c.fact 39 (f := .free "repr") rfl)
theorem fa_str {K : PySem.W.Frag} {h : Heap} {mg : Str → Option Value} (X : K.In h) (G : h.Ns mainGlobals mg) (c : He.SaysD hdFa hdFn K) : mg "str" = none := He.free_ok X G (c.fact 40 (f := .free "str") rfl)
theorem fa_tuple {K : PySem.W.Frag} {h : Heap} {mg : Str → Option Value} (X : K.In h) (G : h.Ns mainGlobals mg) (c : He.SaysD hdFa hdFn K) : mg "tuple" = none := He.free_ok X G (c.fact 41 (f := .free "tuple") rfl)
theorem fa_type {K : PySem.W.Frag} {h : Heap} {mg : Str → Option Value} (X : K.In h) (G : h.Ns mainGlobals mg) (c : He.SaysD hdFa hdFn K) : mg "type" = none := He.free_ok X G (c.fact 42 (f := .free "type") rfl)
theorem fa_DEEDS {K : PySem.W.Frag} {h : Heap} {mg : Str → Option Value} (X : K.In h) (G : h.Ns mainGlobals mg) (c : He.SaysD hdFa hdFn K) : mg "DEEDS" = some (.ref (He.ga K "DEEDS")) := He.glo_ok X G (c.fact 43 (f := .glo "DEEDS") rfl)
theorem fa_QuickError {K : PySem.W.Frag} {h : Heap} {mg : Str → Option Value} (X : K.In h) (G : h.Ns mainGlobals mg) (c : He.SaysD hdFa hdFn K) : mg "QuickError" = some (.ref (He.ga K "QuickError")) := He.glo_ok X G (c.fact 44 (f := .glo "QuickError") rfl)
theorem fa_BadWord {K : PySem.W.Frag} {h : Heap} {mg : Str → Option Value} (X : K.In h) (G : h.Ns mainGlobals mg) (c : He.SaysD hdFa hdFn K) : mg "BadWord" = some (.ref (He.ga K "BadWord")) := He.glo_ok X G (c.fact 45 (f := .glo "BadWord") rfl)
theorem fa_BadNumber {K : PySem.W.Frag} {h : Heap} {mg : Str → Option Value} (X : K.In h) (G : h.Ns mainGlobals mg) (c : He.SaysD hdFa hdFn K) : mg "BadNumber" = some (.ref (He.ga K "BadNumber")) := He.glo_ok X G (c.fact 46 (f := .glo "BadNumber") rfl)
theorem fa_BadStanding {K : PySem.W.Frag} {h : Heap} {mg : Str → Option Value} (X : K.In h) (G : h.Ns mainGlobals mg) (c : He.SaysD hdFa hdFn K) : mg "BadStanding" = some (.ref (He.ga K "BadStanding")) := He.glo_ok X G (c.fact 47 (f := .glo "BadStanding") rfl)
theorem fa_BadMachine {K : PySem.W.Frag} {h : Heap} {mg : Str → Option Value} (X : K.In h) (G : h.Ns mainGlobals mg) (c : He.SaysD hdFa hdFn K) : mg "BadMachine" = some (.ref (He.ga K "BadMachine")) := He.glo_ok X G (c.fact 48 (f := .glo "BadMachine") rfl)
section
variable {P : Program} {w : World} {K : PySem.W.Frag} {mg : Str → Option Value} {base : Heap}
theorem scm_BadWord : FnScope (["self", "thing"] : List Str) (["self", "thing"] : List Str) (defScope m_BadWord___init__) := ⟨rfl, rfl, rfl, by decide +kernel, rfl, by decide +kernel, by decide +kernel⟩
theorem oi_BadWord {f0 : Addr} {fd : FuncData} (F : FunD K "__init__" "BadWord.__init__" (defArgs m_BadWord___init__) (defBody m_BadWord___init__) (defScope m_BadWord___init__) [] [] f0 fd) : FnOk P w K mg base CX0 1 f0 fd ["self", "thing"] (spI K "thing") := by
  refine (fun_ofM F).ok scm_BadWord (fun vs H Q E h => ?_) (fun cdv A outer s H vs Q E hr h => ?_)
  · obtain ⟨a, C, fI, y, rfl, _⟩ := h
    rfl
  · obtain ⟨a, C, fI, y, rfl, T, e, q⟩ := h
    refine ⟨_, pss_one (ps_qst (pv 0) (pv 1)), ?_⟩
    exact ⟨_, rfl, _, rfl, a, C, fI, rfl, T, e, q⟩
theorem scm_BadNumber : FnScope (["self", "thing"] : List Str) (["self", "thing"] : List Str) (defScope m_BadNumber___init__) := ⟨rfl, rfl, rfl, by decide +kernel, rfl, by decide +kernel, by decide +kernel⟩
theorem oi_BadNumber {f0 : Addr} {fd : FuncData} (F : FunD K "__init__" "BadNumber.__init__" (defArgs m_BadNumber___init__) (defBody m_BadNumber___init__) (defScope m_BadNumber___init__) [] [] f0 fd) : FnOk P w K mg base CX0 1 f0 fd ["self", "thing"] (spI K "thing") := by
  refine (fun_ofM F).ok scm_BadNumber (fun vs H Q E h => ?_) (fun cdv A outer s H vs Q E hr h => ?_)
  · obtain ⟨a, C, fI, y, rfl, _⟩ := h
    rfl
  · obtain ⟨a, C, fI, y, rfl, T, e, q⟩ := h
    refine ⟨_, pss_one (ps_qst (pv 0) (pv 1)), ?_⟩
    exact ⟨_, rfl, _, rfl, a, C, fI, rfl, T, e, q⟩
theorem scm_BadStanding : FnScope (["self", "thing"] : List Str) (["self", "thing"] : List Str) (defScope m_BadStanding___init__) := ⟨rfl, rfl, rfl, by decide +kernel, rfl, by decide +kernel, by decide +kernel⟩
theorem oi_BadStanding {f0 : Addr} {fd : FuncData} (F : FunD K "__init__" "BadStanding.__init__" (defArgs m_BadStanding___init__) (defBody m_BadStanding___init__) (defScope m_BadStanding___init__) [] [] f0 fd) : FnOk P w K mg base CX0 1 f0 fd ["self", "thing"] (spI K "thing") := by
  refine (fun_ofM F).ok scm_BadStanding (fun vs H Q E h => ?_) (fun cdv A outer s H vs Q E hr h => ?_)
  · obtain ⟨a, C, fI, y, rfl, _⟩ := h
    rfl
  · obtain ⟨a, C, fI, y, rfl, T, e, q⟩ := h
    refine ⟨_, pss_one (ps_qst (pv 0) (pv 1)), ?_⟩
    exact ⟨_, rfl, _, rfl, a, C, fI, rfl, T, e, q⟩
theorem scm_BadMachine : FnScope (["self", "thing"] : List Str) (["self", "thing"] : List Str) (defScope m_BadMachine___init__) := ⟨rfl, rfl, rfl, by decide +kernel, rfl, by decide +kernel, by decide +kernel⟩
theorem oi_BadMachine {f0 : Addr} {fd : FuncData} (F : FunD K "__init__" "BadMachine.__init__" (defArgs m_BadMachine___init__) (defBody m_BadMachine___init__) (defScope m_BadMachine___init__) [] [] f0 fd) : FnOk P w K mg base CX0 1 f0 fd ["self", "thing"] (spI K "thing") := by
  refine (fun_ofM F).ok scm_BadMachine (fun vs H Q E h => ?_) (fun cdv A outer s H vs Q E hr h => ?_)
  · obtain ⟨a, C, fI, y, rfl, _⟩ := h
    rfl
  · obtain ⟨a, C, fI, y, rfl, T, e, q⟩ := h
    refine ⟨_, pss_one (ps_qst (pv 0) (pv 1)), ?_⟩
    exact ⟨_, rfl, _, rfl, a, C, fI, rfl, T, e, q⟩
end
theorem four_of {P : Program} {w : World} {K : PySem.W.Frag} {h base : Heap} {mg : Str → Option Value} (X : K.In h) (G : h.Ns mainGlobals mg) (c : He.SaysD hdFa hdFn K) (k : fourB K = true) : Four P w K mg base := by
  have at_ : ∀ x ∈ fourL, qB K x "thing" = true ∧ PySem.W.exmOne K (.ref (He.ga K x)) (.ref (He.ga K "QuickError")) = some true ∧ ∀ y ∈ fourL, PySem.W.kitOne K (.ref (He.ga K x)) (.ref (He.ga K y)) = some (x == y) := fun x hx => by
    obtain ⟨h1, h2⟩ := and2 (List.all_eq_true.mp k x hx)
    obtain ⟨h2, h3⟩ := and2 h2
    exact ⟨h1, of_decide_eq_true h2, fun y hy => of_decide_eq_true (List.all_eq_true.mp h3 y hy)⟩
  refine ⟨fun x hx => ?_, fun x hx => (at_ x hx).2.1, fun x hx => (at_ x hx).2.2⟩
  obtain ⟨q1, q2⟩ := qB_ok (at_ x hx).1
  simp only [fourL, List.mem_cons, List.not_mem_nil, or_false] at hx
  rcases hx with rfl | rfl | rfl | rfl
  · obtain ⟨fd, F, b, kb⟩ := dm_BadMachine___init__ c
    exact ⟨fd, q1, q2, fa_BadMachine X G c, oi_BadMachine F, b⟩
  · obtain ⟨fd, F, b, kb⟩ := dm_BadStanding___init__ c
    exact ⟨fd, q1, q2, fa_BadStanding X G c, oi_BadStanding F, b⟩
  · obtain ⟨fd, F, b, kb⟩ := dm_BadWord___init__ c
    exact ⟨fd, q1, q2, fa_BadWord X G c, oi_BadWord F, b⟩
  · obtain ⟨fd, F, b, kb⟩ := dm_BadNumber___init__ c
    exact ⟨fd, q1, q2, fa_BadNumber X G c, oi_BadNumber F, b⟩
section
variable {K : PySem.W.Frag} {x qual : Str} {params : Arguments} {body : List Stmt} {scope : Scope} {f : Addr} {fd : FuncData} {ps ks : List Str}
theorem kb0_of (F : FunD K x qual params body scope [] [] f fd)
    (h : ∀ (kV doc pm : Value) (an : Option Addr) (cdv ct : Value) (ws : List Value), ws.length = ps.length → bindArgs (PySem.W.fnOf x qual params body scope .none kV doc pm an cdv ct) ⟨[], ks.zip ws⟩ = pure (ps.zip ws)) : KB0 fd ps ks (fun l => l) := by
  obtain ⟨oc, od, dV, kV, doc, pm, an, cdv, ct, osl, rfl, lk, hcd, hD, hK⟩ := F.ex
  rcases hD with ⟨_, rfl⟩ | ⟨e, _⟩
  · exact ⟨fun s ws hl => .of_eq (h kV doc pm an cdv ct ws hl), fun r => r⟩
  · exact absurd rfl e
end
/-- a def's datum, by its name -/
def lk (d : FuncData) : List Str → List FuncData → Str → FuncData
  | a :: r, f :: g, n => if n = a then f else lk d r g n
  | _, _, _ => d
theorem lk_at {d : FuncData} : ∀ {ns : List Str} {fs : List FuncData} {n : Str} {f : FuncData} (i : Nat), fs[i]? = some f → ns[i]? = some n → (ns.take i).all (fun a => decide (a ≠ n)) = true → lk d ns fs n = f
  | [], _, _, _, i, _, h, _ => by simp at h
  | _ :: _, [], _, _, i, h, _, _ => by simp at h
  | a :: r, g :: t, n, f, 0, h1, h2, _ => by
    cases h1
    cases h2
    unfold lk
    rw [if_pos rfl]
  | a :: r, g :: t, n, f, i + 1, h1, h2, h3 => by
    rw [List.take_succ_cons, List.all_cons, Bool.and_eq_true] at h3
    unfold lk
    rw [if_neg (Ne.symm (of_decide_eq_true h3.1))]
    exact lk_at i h1 h2 h3.2
theorem kb1_of {K : PySem.W.Frag} {x qual : Str} {params : Arguments} {body : List Stmt} {scope : Scope} {f : Addr} {fd : FuncData} {ps ks : List Str} {g : {α : Type} → List α → List α} (F : FunD K x qual params body scope [] [] f fd)
    (h : ∀ (kV doc pm : Value) (an : Option Addr) (cdv ct : Value) (ws : List Value), (g ws).length = ps.length → bindArgs (PySem.W.fnOf x qual params body scope .none kV doc pm an cdv ct) ⟨[], ks.zip ws⟩ = pure (ps.zip (g ws))) (hr : ∀ {zs : List V} {ws : List Value}, Vals zs ws → Vals (g zs) (g ws)) : KB0 fd ps ks g := by
  obtain ⟨oc, od, dV, kV, doc, pm, an, cdv, ct, osl, rfl, lk, hcd, hD, hK⟩ := F.ex
  rcases hD with ⟨_, rfl⟩ | ⟨e, _⟩
  · exact ⟨fun s ws hl => .of_eq (h kV doc pm an cdv ct ws hl), hr⟩
  · exact absurd rfl e
def names : List Str := [("is_whole" : Str), ("is_word" : Str), ("is_machine" : Str), ("outcome" : Str), ("require_machine" : Str), ("require_clock" : Str), ("fits_state" : Str), ("fits_rule" : Str), ("clock_steps" : Str), ("later_standing" : Str), ("next_standing" : Str), ("piles_after" : Str), ("_law_deck" : Str), ("_law_draw" : Str), ("_law_pick" : Str), ("_law_word" : Str), ("_law_same" : Str), ("_law_is_integer" : Str), ("_law_is_number" : Str), ("_law_is_word" : Str), ("_law_machine" : Str), ("_law_is_machine" : Str), ("_law_pile_step" : Str), ("_law_after" : Str), ("_law_clock" : Str), ("_law_outcome" : Str), ("_law_tried" : Str), ("_law_told_machine" : Str), ("law" : Str)]
theorem tbp_of {K : PySem.W.Frag} {h : Heap} {mg : Str → Option Value} (X : K.In h) (G : h.Ns mainGlobals mg) (c : He.SaysD hdFa hdFn K) : TbP mg where
  type := fa_type X G c
  int := fa_int X G c
  str := fa_str X G c
  tuple := fa_tuple X G c
  isinstance := fa_isinstance X G c
  len := fa_len X G c
  all := fa_all X G c
theorem tbl_of {K : PySem.W.Frag} {h : Heap} {mg : Str → Option Value} (X : K.In h) (G : h.Ns mainGlobals mg) (c : He.SaysD hdFa hdFn K) : TbL mg where
  int := fa_int X G c
  bool := fa_bool X G c
  str := fa_str X G c
  tuple := fa_tuple X G c
  list := fa_list X G c
  isinstance := fa_isinstance X G c
  len := fa_len X G c
  range := fa_range X G c
  repr := fa_repr X G c
theorem law_g {q : PySem.W.OpenLaw} {w : World} {h : Heap} {K : PySem.W.Frag} {mg : Str → Option Value} {fa : Addr} (X : K.In h) (G : h.Ns mainGlobals mg) (c : He.SaysX hdFa hdFn [] hdTf hdEx w h K) (hfa : mg ("law" : Str) = some (.ref fa)) :
    LawG q w K 230 63 "_law_script" mg fa h := by
  have cd := c.t.d
  obtain ⟨ex1, ex2⟩ := and2 (show (He.tupB K "DEEDS" (deedL.map He.Dv.str) && (fourB K && (decide ((He.cT K ("law", none)).2 ≠ (He.cT K ("fits_state", none)).2) && decide ((He.cT K ("law", none)).2 ≠ (He.cT K ("is_machine", none)).2)))) = true from c.more)
  obtain ⟨ex2, ex3⟩ := and2 ex2
  obtain ⟨ex3, ex4⟩ := and2 ex3
  obtain ⟨f0, E0⟩ := df_is_whole X G cd
  obtain ⟨f1, E1⟩ := df_is_word X G cd
  obtain ⟨f2, E2⟩ := df_is_machine X G cd
  obtain ⟨f3, E3⟩ := df_outcome X G cd
  obtain ⟨f4, E4⟩ := df_require_machine X G cd
  obtain ⟨f5, E5⟩ := df_require_clock X G cd
  obtain ⟨f6, E6⟩ := df_fits_state X G cd
  obtain ⟨f7, E7⟩ := df_fits_rule X G cd
  obtain ⟨f8, E8⟩ := df_clock_steps X G cd
  obtain ⟨f9, E9⟩ := df_later_standing X G cd
  obtain ⟨f10, E10⟩ := df_next_standing X G cd
  obtain ⟨f11, E11⟩ := df_piles_after X G cd
  obtain ⟨f12, E12⟩ := df__law_deck X G cd
  obtain ⟨f13, E13⟩ := df__law_draw X G cd
  obtain ⟨f14, E14⟩ := df__law_pick X G cd
  obtain ⟨f15, E15⟩ := df__law_word X G cd
  obtain ⟨f16, E16⟩ := df__law_same X G cd
  obtain ⟨f17, E17⟩ := df__law_is_integer X G cd
  obtain ⟨f18, E18⟩ := df__law_is_number X G cd
  obtain ⟨f19, E19⟩ := df__law_is_word X G cd
  obtain ⟨f20, E20⟩ := df__law_machine X G cd
  obtain ⟨f21, E21⟩ := df__law_is_machine X G cd
  obtain ⟨f22, E22⟩ := df__law_pile_step X G cd
  obtain ⟨f23, E23⟩ := df__law_after X G cd
  obtain ⟨f24, E24⟩ := df__law_clock X G cd
  obtain ⟨f25, E25⟩ := df__law_outcome X G cd
  obtain ⟨f26, E26⟩ := df__law_tried X G cd
  obtain ⟨f27, E27⟩ := df__law_told_machine X G cd
  obtain ⟨f28, E28⟩ := df_law X G cd
  let fl : Str → FuncData := lk f0 names [f0, f1, f2, f3, f4, f5, f6, f7, f8, f9, f10, f11, f12, f13, f14, f15, f16, f17, f18, f19, f20, f21, f22, f23, f24, f25, f26, f27, f28]
  have D_is_whole : Df K mg "is_whole" s_is_whole PA.P_is_whole (fl "is_whole") := by
    rw [show fl "is_whole" = f0 from lk_at 0 rfl rfl (by decide +kernel)]
    exact E0
  have D_is_word : Df K mg "is_word" s_is_word PB.P_is_word (fl "is_word") := by
    rw [show fl "is_word" = f1 from lk_at 1 rfl rfl (by decide +kernel)]
    exact E1
  have D_is_machine : Df K mg "is_machine" s_is_machine PA.P_is_machine (fl "is_machine") := by
    rw [show fl "is_machine" = f2 from lk_at 2 rfl rfl (by decide +kernel)]
    exact E2
  have D_outcome : Df K mg "outcome" s_outcome P90.P_outcome (fl "outcome") := by
    rw [show fl "outcome" = f3 from lk_at 3 rfl rfl (by decide +kernel)]
    exact E3
  have D_require_machine : Df K mg "require_machine" s_require_machine PB.P_require_machine (fl "require_machine") := by
    rw [show fl "require_machine" = f4 from lk_at 4 rfl rfl (by decide +kernel)]
    exact E4
  have D_require_clock : Df K mg "require_clock" s_require_clock P90.P_require_clock (fl "require_clock") := by
    rw [show fl "require_clock" = f5 from lk_at 5 rfl rfl (by decide +kernel)]
    exact E5
  have D_fits_state : Df K mg "fits_state" s_fits_state PA.P_fits_state (fl "fits_state") := by
    rw [show fl "fits_state" = f6 from lk_at 6 rfl rfl (by decide +kernel)]
    exact E6
  have D_fits_rule : Df K mg "fits_rule" s_fits_rule PA.P_fits_rule (fl "fits_rule") := by
    rw [show fl "fits_rule" = f7 from lk_at 7 rfl rfl (by decide +kernel)]
    exact E7
  have D_clock_steps : Df K mg "clock_steps" s_clock_steps P90.P_clock_steps (fl "clock_steps") := by
    rw [show fl "clock_steps" = f8 from lk_at 8 rfl rfl (by decide +kernel)]
    exact E8
  have D_later_standing : Df K mg "later_standing" s_later_standing PVL.P_later_standing (fl "later_standing") := by
    rw [show fl "later_standing" = f9 from lk_at 9 rfl rfl (by decide +kernel)]
    exact E9
  have D_next_standing : Df K mg "next_standing" s_next_standing PB.P_next_standing (fl "next_standing") := by
    rw [show fl "next_standing" = f10 from lk_at 10 rfl rfl (by decide +kernel)]
    exact E10
  have D_piles_after : Df K mg "piles_after" s_piles_after PB.P_piles_after (fl "piles_after") := by
    rw [show fl "piles_after" = f11 from lk_at 11 rfl rfl (by decide +kernel)]
    exact E11
  have D__law_deck : Df K mg "_law_deck" s__law_deck KA.P__law_deck (fl "_law_deck") := by
    rw [show fl "_law_deck" = f12 from lk_at 12 rfl rfl (by decide +kernel)]
    exact E12
  have D__law_draw : Df K mg "_law_draw" s__law_draw KA.P__law_draw (fl "_law_draw") := by
    rw [show fl "_law_draw" = f13 from lk_at 13 rfl rfl (by decide +kernel)]
    exact E13
  have D__law_pick : Df K mg "_law_pick" s__law_pick DW.P__law_pick (fl "_law_pick") := by
    rw [show fl "_law_pick" = f14 from lk_at 14 rfl rfl (by decide +kernel)]
    exact E14
  have D__law_word : Df K mg "_law_word" s__law_word PF.P__law_word (fl "_law_word") := by
    rw [show fl "_law_word" = f15 from lk_at 15 rfl rfl (by decide +kernel)]
    exact E15
  have D__law_same : Df K mg "_law_same" s__law_same PF.P__law_same (fl "_law_same") := by
    rw [show fl "_law_same" = f16 from lk_at 16 rfl rfl (by decide +kernel)]
    exact E16
  have D__law_is_integer : Df K mg "_law_is_integer" s__law_is_integer PD.P__law_is_integer (fl "_law_is_integer") := by
    rw [show fl "_law_is_integer" = f17 from lk_at 17 rfl rfl (by decide +kernel)]
    exact E17
  have D__law_is_number : Df K mg "_law_is_number" s__law_is_number PD.P__law_is_number (fl "_law_is_number") := by
    rw [show fl "_law_is_number" = f18 from lk_at 18 rfl rfl (by decide +kernel)]
    exact E18
  have D__law_is_word : Df K mg "_law_is_word" s__law_is_word PS.P__law_is_word (fl "_law_is_word") := by
    rw [show fl "_law_is_word" = f19 from lk_at 19 rfl rfl (by decide +kernel)]
    exact E19
  have D__law_machine : Df K mg "_law_machine" s__law_machine PF.P__law_machine (fl "_law_machine") := by
    rw [show fl "_law_machine" = f20 from lk_at 20 rfl rfl (by decide +kernel)]
    exact E20
  have D__law_is_machine : Df K mg "_law_is_machine" s__law_is_machine PD.P__law_is_machine (fl "_law_is_machine") := by
    rw [show fl "_law_is_machine" = f21 from lk_at 21 rfl rfl (by decide +kernel)]
    exact E21
  have D__law_pile_step : Df K mg "_law_pile_step" s__law_pile_step PE.P__law_pile_step (fl "_law_pile_step") := by
    rw [show fl "_law_pile_step" = f22 from lk_at 22 rfl rfl (by decide +kernel)]
    exact E22
  have D__law_after : Df K mg "_law_after" s__law_after PVL.P__law_after (fl "_law_after") := by
    rw [show fl "_law_after" = f23 from lk_at 23 rfl rfl (by decide +kernel)]
    exact E23
  have D__law_clock : Df K mg "_law_clock" s__law_clock P90.P__law_clock (fl "_law_clock") := by
    rw [show fl "_law_clock" = f24 from lk_at 24 rfl rfl (by decide +kernel)]
    exact E24
  have D__law_outcome : Df K mg "_law_outcome" s__law_outcome P90.P__law_outcome (fl "_law_outcome") := by
    rw [show fl "_law_outcome" = f25 from lk_at 25 rfl rfl (by decide +kernel)]
    exact E25
  have D__law_tried : Df K mg "_law_tried" s__law_tried PT.P__law_tried (fl "_law_tried") := by
    rw [show fl "_law_tried" = f26 from lk_at 26 rfl rfl (by decide +kernel)]
    exact E26
  have D__law_told_machine : Df K mg "_law_told_machine" s__law_told_machine P92.P__law_told_machine (fl "_law_told_machine") := by
    rw [show fl "_law_told_machine" = f27 from lk_at 27 rfl rfl (by decide +kernel)]
    exact E27
  have D_law : Df K mg "law" s_law PM.P_law (fl "law") := by
    rw [show fl "law" = f28 from lk_at 28 rfl rfl (by decide +kernel)]
    exact E28
  have e := hfa.symm.trans D_law.g
  cases e
  let cs : List (Addr × Addr) := [He.cT K ("fits_state", none), He.cT K ("is_machine", none), He.cT K ("law", none)]
  let Tl : List Addr := [(He.cT K ("fits_state", none)).2, (He.cT K ("is_machine", none)).2]
  have hm : ∀ p ∈ cs, ∃ x, ((x, none) : He.Defn) ∈ hdTf ∧ p = He.cT K (x, none) := fun p hp => by
    have e : hdTf = [(("fits_state" : Str), none), ("is_machine", none), ("law", none)] := rfl
    rw [e]
    simp only [cs, List.mem_cons, List.not_mem_nil, or_false] at hp
    rcases hp with rfl | rfl | rfl
    · exact ⟨_, by simp, rfl⟩
    · exact ⟨_, by simp, rfl⟩
    · exact ⟨_, by simp, rfl⟩
  have nt : (He.cT K ("law", none)).2 ∉ Tl := fun z => by
    simp only [Tl, List.mem_cons, List.not_mem_nil, or_false] at z
    rcases z with z | z
    · exact of_decide_eq_true ex3 z
    · exact of_decide_eq_true ex4 z
  refine ⟨fl "law", cs, spLaw K Tl (He.cT K ("law", none)).2, ?_, ?_, ?_, ?_, ?_, ?_⟩
  · intro p hp
    obtain ⟨x, hx, rfl⟩ := hm p hp
    exact c.empty _ hx
  · intro p hp
    obtain ⟨x, hx, rfl⟩ := hm p hp
    exact c.out _ hx
  · intro p hp
    obtain ⟨x, hx, rfl⟩ := hm p hp
    exact PySem.W.codeHd_of_K X (c.hd _ hx)
  · intro s u
    exact FunD.bindsA (ps := ["_law_script"]) D_law.F (fun _ _ _ _ _ _ us hl => match us, hl with | [_], _ => rfl) s [u] rfl
  · intro H a ns hl hb hT hS
    refine ⟨a, ns, rfl, hS, fun P hP => ?_, hT (He.cT K ("law", none)) (by simp [cs]), fun _ => rfl⟩
    simp only [Tl, List.mem_cons, List.not_mem_nil, or_false] at hP
    rcases hP with rfl | rfl
    · exact ⟨#[], hT (He.cT K ("fits_state", none)) (by simp [cs]), trivial⟩
    · exact ⟨#[], hT (He.cT K ("is_machine", none)) (by simp [cs]), trivial⟩
  · intro base hb hn hmods hT
    have F4 := four_of X G cd ex2 (P := q.prog) (w := w) (base := base)
    have pp : PileP q.prog w K mg base Tl fl := ⟨tbp_of X G cd, D_is_whole, D_fits_rule, D_fits_state, D_is_machine, D_is_word, D_piles_after, D_next_standing, D_require_machine,
      ⟨_, fa_DEEDS X G cd, fun H => He.tupB_ok (vs := deedL.map He.Dv.str) ex1 H⟩, by simp [Tl], by simp [Tl], hT (He.cT K ("fits_state", none)) (by simp [cs]), hT (He.cT K ("is_machine", none)) (by simp [cs]), F4⟩
    exact ok_law pp (tbl_of X G cd) hmods ⟨fa_int X G cd, fa_list X G cd, fa_max X G cd, fa_len X G cd, fa_range X G cd, fa_tuple X G cd, fa_isinstance X G cd, fa_repr X G cd⟩ ⟨fa_int X G cd, fa_len X G cd, fa_max X G cd, fa_min X G cd⟩ (fa_QuickError X G cd) D_law D__law_deck D__law_draw D__law_pick D__law_word D__law_same D__law_is_integer D__law_is_number D__law_is_word D__law_machine D__law_is_machine D_later_standing D_clock_steps D_require_clock D_outcome D__law_after D__law_clock D__law_outcome D__law_told_machine D__law_pile_step D__law_tried (kb1_of (g := PM.pm3210) D_outcome.F (fun _ _ _ _ _ _ ws hl => match ws, hl with | [_, _, _, _], _ => rfl) PM.pm3210_vals) nt (hT (He.cT K ("law", none)) (by simp [cs]))
end PZ
open PySem PySem.W PySem.Calls PyProof.Rows
theorem PySem.Challenge.cw_quicktongue_k90_clocks_and_outcomes_holds : PySem.Challenge.rw_quicktongue_k90_clocks_and_outcomes.Holds := by
  w_on; o_law
  refine HandSHeadRun.head_any (r := OpenLaw.row PySem.Challenge.rw_quicktongue_k90_clocks_and_outcomes) (q := view (OpenLaw.row PySem.Challenge.rw_quicktongue_k90_clocks_and_outcomes).prog [39]) (H := PZ.hdK) (ob := PZ.hdOb) (M := 8000) (loose := PZ.hdLoose) (d := HandSHeadRun.topDef (OpenLaw.row PySem.Challenge.rw_quicktongue_k90_clocks_and_outcomes).prog 39) (kwd := []) PZ.hdOb_eq
    (by kernel_rfl) (fun s => by kernel_rfl) PZ.hdRun (by kernel_rfl) (by kernel_rfl) (by kernel_rfl) (by rfl) (by first | assumption | decide +kernel) (by decide +kernel) ⟨rfl, rfl, rfl, rfl, rfl, by decide +kernel⟩ ?hw ?hc
  case hw => w_witness2
  case hc =>
    refine KT.walkG (l := PySem.Challenge.rw_quicktongue_k90_clocks_and_outcomes) (n := 63) (k := 230) (x := "_law_script") rfl (by decide) (by kernel_rfl) (by kernel_rfl) ⟨rfl, by decide, by decide⟩ ?F
    intro w mg fa h Y G hmg0
    obtain ⟨K, KX, c⟩ := Y
    have hmg : mg ("law" : PySem.Str) = some (.ref fa) := by
      have e : (HandSHeadRun.topDef (OpenLaw.row PySem.Challenge.rw_quicktongue_k90_clocks_and_outcomes).prog 39).name = ("law" : PySem.Str) := by kernel_rfl
      rw [← e]
      exact hmg0
    exact ⟨K, KX, PZ.law_g KX G c hmg⟩



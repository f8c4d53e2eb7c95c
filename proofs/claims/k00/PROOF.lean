import PyProof.Rows.All
import Wide.All
import OpenK.AllK
import Wide.FinOn
import HandS.ForMost
import HandS.Style
import HandS.Codes
import HandS.IsInst
import HandS.AnyAll
import HandS.StrMore
import HandS.Defaults
import HandS.HeadHook4
import HandS.HeadWalk
import HandS.Head2
import HandS.Walk
import HandS.RaiseMore
import PySem.Challenge.RW_quicktongue_k00_errors_by_position_and_b
import HandS.ExcInit
import HandS.ExcIs
import HandS.ExcField
import HandS.TryMany
import HandS.ExcValue
import KE.KExcIs
import HandS.HotCalls
import HandS.Iter
import KE.GoesMore
import PyProof.EqAt
import PyProof.EqKinds
import PyProof.NeKinds
import HandS.WordsDict
import HandS.WordsExc
set_option Elab.async false
set_option linter.all false
set_option maxRecDepth 100000
set_option maxHeartbeats 4000000
/-! Tools over the hand layer: a def's call by keywords alone, repr of data, a def that knows its code object. -/
namespace KT
open PySem PySem.Spec PyProof.Rows L2
section
variable {X : Cx} {CX : CXT} {k : Nat} {f : Addr} {fd : FuncData} {ps ks : List Str} {sp : Sp} {E : XK} {x : Str} {p pos : Pos} {kws : List Keyword} {tk : TA}
/-- how a call with keywords alone binds: g puts the keywords' values in the parameters' order -/
structure KB0 (fd : FuncData) (ps ks : List Str) (g : {α : Type} → List α → List α) : Prop where
  to : ∀ (s : Shared) (ws : List Value), (g ws).length = ps.length → BindsTo s fd ⟨[], ks.zip ws⟩ (ps.zip (g ws))
  rel : ∀ {zs : List V} {ws : List Value}, Vals zs ws → Vals (g zs) (g ws)
def tCallK0 (sp : Sp) (g : {α : Type} → List α → List α) (E : XK) (tk : TA) : TE := fun σ H Q => tk σ H fun zs H2 => sp (g zs) H2 Q E
theorem pe_callK0 {g : {α : Type} → List α → List α} (F : FnOk X.prog X.w X.K X.mg X.base CX k f fd ps sp) (hr : Room k X.A) (hg : Gl X x) (hm : X.mg x = some (.ref f)) (hk : PySem.W.keepIn X.K (.ref f) = true) (hb : KB0 fd ps ks g) (hx : Passes CX X E)
    (hkw : PK X kws tk) (hall : (backToKw pos (keywordEach kws X.env)).all (·.1.isSome) = true := by rfl) (hks : (backToKw pos (keywordEach kws X.env)).filterMap (·.1) = ks := by rfl)
    (hdb : (x == ("__debug__" : Str)) = false := by decide) (hpl : ((backTo pos (starEach [] X.env)).any (·.1) || (backToKw pos (keywordEach kws X.env)).any (·.1.isNone)) = false := by rfl) :
    PE X (.Call (.Name x p) [] kws pos) (tCallK0 sp g E tk) := by
  refine ⟨fun pins s σ H Q I h => ?_⟩
  refine wpAny_Call_Name_kw (ld_glob I hg hm ?_ hdb)
  refine PySem.W.callWith_KW0 (h₀ := X.base) I.ok.mod.kin hk hall ?_ hpl
  refine thn (hkw.run pos pins s σ H _ I h) fun ws s2 ⟨zs, H2, I2, rz, q2⟩ => ⟨I2.kIn, ?_⟩
  rw [hks]
  have r2 := hb.rel rz
  have hl : (g ws).length = ps.length := by rw [← r2.length]; exact F.len _ _ _ _ q2
  refine wpAny_call (codeAny_mono (F.run X.A X.stack s2 H2 ⟨[] ++ [], ks.zip ws⟩ (g ws) (g zs) Q E hr I2.env0 (hb.to s2 ws hl) r2 q2) fun r s' hq => ?_)
  cases r with
  | error e => exact hx pins σ H2 s2 e s' I2 hq
  | ok fl =>
    cases fl with
    | ret u => exact I2.after hq
    | next => exact False.elim hq
    | brk => exact False.elim hq
    | cont => exact False.elim hq
end
/-! ### a def by its datum -/
section
variable {P : Program} {w : World} {K : PySem.W.Frag} {mg : Str → Option Value} {base : Heap}
abbrev FnP (K : PySem.W.Frag) (x : Str) (st : Stmt) (f : Addr) (fd : FuncData) : Prop := FunD K x x (defArgs st) (defBody st) (defScope st) [] [] f fd
theorem fun_of {x : Str} {st : Stmt} {f : Addr} {fd : FuncData} (F : FnP K x st f fd) : Fun K x x st f fd := by
  obtain ⟨⟨oc, od, dV, kV, doc, pm, an, cdv, ct, osl, e, l, c, d, _⟩, kp⟩ := F
  have hd : dV = .none := by
    rcases d with ⟨_, h⟩ | ⟨h, _⟩
    · exact h
    · exact absurd rfl h
  subst hd
  exact ⟨⟨oc, od, kV, doc, pm, an, cdv, ct, osl, e, l, c⟩, kp⟩
/-- the rule for a def, its code object told -/
theorem okC {x : Str} {st : Stmt} {fd : FuncData} {N ps : List Str} {k : Nat} {sp : Sp} (F : FnP K x st (He.fAd K (x, none)) fd) (S : FnScope N ps (defScope st)) (len : ∀ vs H Q E, sp vs H Q E → vs.length = ps.length)
    (hbody : ∀ (cdv : Value) (A : Around) (outer : List Env) (s : Shared) (H : Hp) (vs : List V) (Q : VK) (E : XK), cdv = .ref (He.codeOf K (x, none)) → Room k (A.deeper (envOfC x (defScope st) s.heap.objs.size (He.fAd K (x, none)) cdv)) → sp vs H Q E →
      ∃ t, PSs (cxOf CX0 P w K mg base N x (defScope st) (He.fAd K (x, none)) cdv A outer s H E).nox (defBody st) t ∧ t { nx := fun _ H' => Q .non H', rt := Q } (start N vs) H) : FnOk P w K mg base CX0 (k + 1) (He.fAd K (x, none)) fd ps sp := by
  obtain ⟨oc, od, kV, doc, pm, an, cdv, ct, osl, rfl, lk, hcd⟩ := (fun_of F).ex
  refine fn_of lk hcd S len fun A outer s H vs Q E hr hsp => ?_
  obtain ⟨c, ec⟩ := He.codeIn_ref hcd
  have e2 : He.codeOf K (x, none) = c := He.codeOf_eq lk ec
  obtain ⟨t, h, q⟩ := hbody cdv A outer s H vs Q E (by rw [ec, e2]) hr hsp
  exact ⟨t, h.nox, q⟩
end
/-! ### repr of data -/
section
variable {X : Cx}
def rReprD (K : PySem.W.Frag) : List V → Hp → VK → Prop := fun xs H Q => ∃ a d, xs = [.ref a] ∧ Dp K H (.ref a) d ∧ d.showable = true ∧ d.canLay0 = true ∧ d.depth ≤ 62 ∧ d.shown.length ≤ sizeLine ∧ Q (.str d.shown) H
theorem call_reprD {k : Nat} (hr : Room k X.A) (hg : X.A.guards = some []) : CallR X (.builtin "repr") (rReprD X.K) := by
  intro pins s σ H xs us Q I r h
  obtain ⟨a, d, rfl, hd, hs, hc, hdep, hsz, q⟩ := h
  obtain ⟨u, rfl, r1⟩ := vals1 r
  cases (show u = Value.ref a from r1)
  obtain ⟨as, hrd⟩ := Dp.reads I d _ _ hd rfl
  have hu := hr.units
  refine PySem.repr_of_reads' hrd hs (fun z => ?_) hg (by omega) (fun b o e => e) (fun h' u tk kk => ?_) hsz
  · rw [PyData.hasDict_of_canLay d hc] at z
    cases z
  · exact ⟨.str d.shown, H, I.kept (t' := tk) kk, ⟨u, rfl⟩, q⟩
end
/-! ### promises that may lean on «no repr is under way» -/
structure FnG (P : Program) (w : World) (K : PySem.W.Frag) (mg : Str → Option Value) (base : Heap) (k : Nat) (f : Addr) (fd : FuncData) (ps : List Str) (sp : Sp) : Prop where
  len : ∀ vs H Q E, sp vs H Q E → vs.length = ps.length
  run : ∀ (A : Around) (outer : List Env) (s : Shared) (H : Hp) (args : Args) (us : List Value) (vs : List V) (Q : VK) (E : XK), A.guards = some [] → Room k A → Env0 P w K mg base A outer s H → BindsTo s fd args (ps.zip us) → Vals vs us → sp vs H Q E →
    codeAny (model P w) A (.call (.ref f) args) (CR CX0 outer P w H s Q E) s
section
variable {P : Program} {w : World} {K : PySem.W.Frag} {mg : Str → Option Value} {base : Heap}
theorem FnG.of {k : Nat} {f : Addr} {fd : FuncData} {ps : List Str} {sp : Sp} (F : FnOk P w K mg base CX0 k f fd ps sp) : FnG P w K mg base k f fd ps sp := ⟨F.len, fun A outer s H args us vs Q E _ => F.run A outer s H args us vs Q E⟩
theorem okG {x : Str} {st : Stmt} {f : Addr} {fd : FuncData} {N ps : List Str} {k : Nat} {sp : Sp} (F : Fun K x x st f fd) (S : FnScope N ps (defScope st)) (len : ∀ vs H Q E, sp vs H Q E → vs.length = ps.length)
    (hbody : ∀ (cdv : Value) (A : Around) (outer : List Env) (s : Shared) (H : Hp) (vs : List V) (Q : VK) (E : XK), A.guards = some [] → Room k (A.deeper (envOfC x (defScope st) s.heap.objs.size f cdv)) → sp vs H Q E →
      ∃ t, PSs (cxOf CX0 P w K mg base N x (defScope st) f cdv A outer s H E).nox (defBody st) t ∧ t { nx := fun _ H' => Q .non H', rt := Q } (start N vs) H) : FnG P w K mg base (k + 1) f fd ps sp := by
  obtain ⟨oc, od, kV, doc, pm, an, cdv, ct, osl, rfl, lk, hcd⟩ := F.ex
  refine ⟨len, fun A outer s H args us vs Q E hA hr e0 hb r hsp => ?_⟩
  -- at this around alone: the def's rule over a promise that is asked here
  have KX : K.In s.heap := e0.mod.kin.keeps fun b o e => (e0.bs b o e).1
  have li : s.heap.NoLimit := e0.mod.nolimit.keeps fun b o e => (e0.bs b o e).1
  have knd : ∀ y ∈ ps.zip us, (defScope st).names.lookup y.1 = some .local ∨ ((defScope st).names.lookup y.1 = some .cell ∧ ((cellsFrom (s.heap.objs.size + 1) (defScope st).names []).lookup y.1).isSome = true) := by
    rintro ⟨n, v⟩ hy
    exact (S.par n (List.of_mem_zip hy).1).imp id fun q => ⟨q, PySem.W.cellsFrom_some _ _ _ (.inl q)⟩
  refine codeAny_call_function (hr.depth) (KX _ _ lk) rfl S.co S.gen rfl (PySem.W.codeRec_of KX hcd) (hb _ _ _ _ (wpAny_newFunctionEnv_cells S.kind knd fun env he s1 x1 => ?_))
  subst he
  obtain ⟨t, ht, hq⟩ := hbody cdv A outer s H vs Q E hA (hr.deeper _) hsp
  have J := inv_start (CX := CX0) (E := E) (mg := mg) (cd := cdv) (f := f) (qual := x) S hr.hd e0 (len _ _ _ _ hsp) r x1
  refine ⟨li.keeps x1.toInCall.keep, codeAny_func (wpAny_mono (ht.nox.run [] s1 (start N vs) H _ J hq) (fun fl s' hs => ?_) fun e s' z => z)⟩
  have done : ∀ {σ' : L2.St} {H' : Hp} {v : V} {u : Value}, Inv (cxOf CX0 P w K mg base N x (defScope st) f cdv A outer s H E) [] σ' H' s' → RelV v u → Q v H' → CE outer P w H s Q u s' := fun j rv q => ⟨_, _, j.os, j.bare, j.base, j.hok, rv, q⟩
  cases fl with
  | ret u =>
    obtain ⟨v, σ', H', j, rv, q⟩ := hs
    exact done j rv q
  | next =>
    obtain ⟨σ', H', j, q⟩ := hs
    exact done (v := V.non) (u := Value.none) j rfl q
  | brk => exact hs.elim fun _ z => z.elim fun _ z => z.2.elim
  | cont => exact hs.elim fun _ z => z.elim fun _ z => z.2.elim
end
section
variable {X : Cx} {k : Nat} {f : Addr} {fd : FuncData} {ps ks : List Str} {sp : Sp} {x : Str} {p pos : Pos} {e : Expr} {es : List Expr} {t : TA}
theorem run_g {pins : List (Addr × Obj)} {σ : L2.St} {H : Hp} {s : Shared} {Q : VK} {us : List Value} {vs : List V} (F : FnG X.prog X.w X.K X.mg X.base k f fd ps sp) (hA : X.A.guards = some []) (hr : Room k X.A) (hb : Binds X.K fd ps [])
    (I : Inv X pins σ H s) (r : Vals vs us) (h : sp vs H Q E0) : wpAny (model X.prog X.w) X.A (call (.ref f) us) (EP X pins σ Q) X.xe s := by
  have hl : us.length = ps.length := r.length.symm.trans (F.len _ _ _ _ h)
  have hb2 : BindsTo s fd ⟨us, []⟩ (ps.zip us) := by
    have z := hb s us I.kIn (by rw [List.append_nil]; exact hl)
    rw [List.append_nil] at z
    exact z
  refine wpAny_call (codeAny_mono (F.run X.A X.stack s H ⟨us, []⟩ us vs Q E0 hA hr I.env0 hb2 r h) fun rr s' hq => ?_)
  match rr, hq with
  | .error e, hq => exact hq.elim
  | .ok (.ret u), hq => exact I.after hq
  | .ok .next, hq => exact hq.elim
  | .ok .brk, hq => exact hq.elim
  | .ok .cont, hq => exact hq.elim
theorem pe_callG (F : FnG X.prog X.w X.K X.mg X.base k f fd ps sp) (hA : X.A.guards = some []) (hr : Room k X.A) (hg : Gl X x) (hm : X.mg x = some (.ref f)) (hk : PySem.W.keepIn X.K (.ref f) = true) (hb : Binds X.K fd ps [])
    (ha : PA X (e :: es) t) (hdb : (x == ("__debug__" : Str)) = false := by decide) (he : starEach (e :: es) X.env = (false, eval e X.env) :: starEach es X.env := by rfl) (hpl : (backTo pos (starEach es X.env)).any (·.1) = false := by rfl) :
    PE X (.Call (.Name x p) (e :: es) [] pos) (tCall sp [] E0 t) := by
  refine ⟨fun pins s σ H Q I h => wpAny_Call_Name_kw (ld_glob I hg hm (PySem.W.callWith_K (h₀ := X.base) I.ok.mod.kin hk (thn (ha.run pos pins s σ H _ I h) fun us s1 ⟨vs, H1, I1, r, q⟩ => ⟨I1.kIn, ?_⟩) he hpl) hdb)⟩
  have q2 : sp vs H1 Q E0 := by
    have z : sp (vs ++ []) H1 Q E0 := q
    rw [List.append_nil] at z
    exact z
  exact run_g F hA hr hb I1 r q2
end
/-! ### the end of a law's row: the tables of code objects tracked, the script known to its object -/
section
open GxR
def tabsH (cs : List (Addr × Addr)) : Hp := fun b => if b ∈ cs.map (·.2) then some (.tbl #[]) else none
theorem tabsH_in {cs : List (Addr × Addr)} {p : Addr × Addr} (h : p ∈ cs) : tabsH cs p.2 = some (.tbl #[]) := if_pos (List.mem_map.mpr ⟨p, h, rfl⟩)
theorem tabsH_some {cs : List (Addr × Addr)} {b : Addr} {o : HO} (h : tabsH cs b = some o) : o = .tbl #[] ∧ ∃ p ∈ cs, p.2 = b := by
  unfold tabsH at h
  split at h
  · rename_i hb
    obtain ⟨p, hp, e⟩ := List.mem_map.mp hb
    exact ⟨(Option.some.inj h).symm, p, hp, e⟩
  · cases h
def NoTab : Obj := { cls := .none, data := .fields #[] }
/-- what the head says of a state s₁: the script at a, the tables at cs -/
structure At1 (K : PySem.W.Frag) (mg : Str → Option Value) (cs : List (Addr × Addr)) (a : Addr) (ns : List Int) (s₁ : Shared) : Prop where
  kin : K.In s₁.heap
  ns_ : s₁.heap.Ns mainGlobals mg
  blt : ∃ mb, s₁.heap.Ns builtinsNs mb ∧ ∀ x : Str, x ≠ "__name__" → mb x = bootBuiltins x
  lim : s₁.heap.NoLimit
  gens : s₁.gens = #[]
  tabs : ∀ p ∈ cs, s₁.heap.get? p.2 = some NoTab
  out : ∀ p ∈ cs, K.lookup p.2 = none
  code : ∀ p ∈ cs, PySem.W.CodeHd s₁.heap p.1 p.2
  bm : ∃ (bm : Addr) (ob : Obj), mg "__builtins__" = some (.ref bm) ∧ bm ≠ builtinsNs ∧ s₁.heap.get? bm = some ob ∧ ob.cls = .type "module" ∧ ob.dict = some builtinsNs ∧ ob.data = .plain
  scr : ∃ vs : List Value, s₁.heap.get? a = some { cls := .type "list", data := .seq vs.toArray } ∧ IntsAre vs ns
  len : ns.length ≤ sizeLine
/-- an abstract heap of such a state -/
structure Good (K : PySem.W.Frag) (cs : List (Addr × Addr)) (a : Addr) (s₁ : Shared) (H : Hp) : Prop where
  at_ : ∀ b o, H b = some o → (o = .tbl #[] ∧ s₁.heap.get? b = some NoTab ∧ ∃ p ∈ cs, p.2 = b) ∨ (b = a ∧ (∃ ob xs, o = .frz ob (.lst xs)) ∧ ∃ vs : List Value, s₁.heap.get? a = some { cls := .type "list", data := .seq vs.toArray })
  tb : ∀ p ∈ cs, H p.2 = some (.tbl #[])
  k : H a ≠ none → K.lookup a = none
theorem At1.good {P : Program} {w : World} {K : PySem.W.Frag} {mg : Str → Option Value} {cs : List (Addr × Addr)} {a : Addr} {ns : List Int} {s₁ : Shared} (h : At1 K mg cs a ns s₁) :
    ∃ H : Hp, Good K cs a s₁ H ∧ SqL K H a (ns.map V.int) ∧ HOk P w H s₁.heap := by
  obtain ⟨vs, ha, hi⟩ := h.scr
  have rv := vals_ints hi
  have tabAt : ∀ b o, tabsH cs b = some o → o = .tbl #[] ∧ s₁.heap.get? b = some NoTab ∧ ∃ p ∈ cs, p.2 = b := fun b o e => by
    obtain ⟨e1, p, hp, e2⟩ := tabsH_some e
    exact ⟨e1, by rw [← e2]; exact h.tabs p hp, p, hp, e2⟩
  have na : tabsH cs a = none := by
    cases e : tabsH cs a with
    | none => rfl
    | some o =>
      have z := (tabAt a o e).2.1
      rw [ha] at z
      cases z
  have okT : ∀ b o, tabsH cs b = some o → ∀ H : Hp, ObjOk P w H s₁.heap b o := fun b o e H => by
    obtain ⟨e1, e2, _⟩ := tabAt b o e
    subst e1
    exact e2
  cases hk : K.lookup a with
  | some o =>
    have z := h.kin a o hk
    rw [ha] at z
    cases z
    refine ⟨tabsH cs, ⟨fun b o e => .inl (tabAt b o e), fun p hp => tabsH_in hp, fun z => absurd na z⟩, .inr ⟨_, vs.toArray, _, hk, rfl, rfl, rfl, ?_, by simpa using rv⟩, fun b o e => okT b o e _⟩
    rw [List.size_toArray, hi.length]
    exact h.len
  | none =>
    refine ⟨upd (tabsH cs) a (.frz { cls := .type "list", data := .seq vs.toArray } (.lst (ns.map V.int))), ⟨fun b o e => ?_, fun p hp => ?_, fun _ => hk⟩, .inl (.inr ⟨_, upd_same⟩), fun b o e => ?_⟩
    · by_cases hb : b = a
      · subst hb
        rw [upd_same] at e
        exact .inr ⟨rfl, ⟨_, _, (Option.some.inj e).symm⟩, vs, ha⟩
      · rw [upd_ne hb] at e
        exact .inl (tabAt b o e)
    · rw [upd_ne (ne_of_none (tabsH_in hp) na)]
      exact tabsH_in hp
    · by_cases hb : b = a
      · subst hb
        rw [upd_same] at e
        cases e
        exact ⟨ha, by rw [List.length_map]; exact h.len, vs, _, rv, ha⟩
      · rw [upd_ne hb] at e
        exact okT b o e _
variable {P : Program} {w : World} {K : PySem.W.Frag} {mg : Str → Option Value}
theorem Good.free {cs : List (Addr × Addr)} {a : Addr} {s₁ : Shared} {H : Hp} (g : Good K cs a s₁ H) {b : Addr} {o : Obj} (e : s₁.heap.get? b = some o) (h1 : ∀ vs n, o.data ≠ .seq vs n) (h2 : o.data ≠ .fields #[]) : H b = none := by
  cases q : H b with
  | none => rfl
  | some u =>
    rcases g.at_ b u q with ⟨_, z, _⟩ | ⟨rfl, _, vs, z⟩
    · rw [e] at z
      cases z
      exact (h2 rfl).elim
    · rw [e] at z
      cases z
      exact (h1 _ _ rfl).elim
theorem At1.call {cs : List (Addr × Addr)} {a fa : Addr} {ns : List Int} {s₁ : Shared} {k : Nat} {fd : FuncData} {x : Str} {sp : Sp} (h : At1 K mg cs a ns s₁) (hr : Room k callerA)
    (F : ∀ base : Heap, K.In base → base.Ns mainGlobals mg → (∀ (b : Addr) (m : Str → Option Value), s₁.heap.Ns b m → base.Ns b m) → (∀ p ∈ cs, TabB base mg p.1 p.2) → FnG P w K mg base k fa fd [x] sp) (hbind : ∀ (s : Shared) (u : Value), BindsTo s fd ⟨[u], []⟩ [(x, u)])
    (hsp : ∀ H : Hp, (∀ p ∈ cs, H p.2 = some (.tbl #[])) → SqL K H a (ns.map V.int) → sp [.ref a] H (fun v _ => v = .bl true) E0) :
    codeAny (model P w) callerA (.call (.ref fa) ⟨[.ref a], []⟩) (fun r s' => r = .ok (.ret (.bool true)) ∧ OldK s₁.heap s'.heap ∧ s'.os = s₁.os ∧ AllBare s'.gens) s₁ := by
  obtain ⟨H, g, hS, hok⟩ := h.good (P := P) (w := w)
  have dict_free : ∀ {b : Addr} {o : Obj} {es : Array DictEntry} {ep : Nat}, s₁.heap.get? b = some o → o.data = .dict es ep → H b = none := fun {b o es ep} e d => g.free e (fun vs n z => by rw [d] at z; cases z) fun z => by rw [d] at z; cases z
  have space : ∀ {b : Addr} {m : Str → Option Value}, s₁.heap.Ns b m → (hidT s₁.heap H).Ns b m := fun {b m} ⟨o, es, ep, e, d, r⟩ => ⟨o, es, ep, hidT_get e (dict_free e d), d, r⟩
  have kb : K.In (hidT s₁.heap H) := fun b o e => hidT_get (h.kin b o e) (by
    cases q : H b with
    | none => rfl
    | some u =>
      rcases g.at_ b u q with ⟨_, _, p, hp, e2⟩ | ⟨rfl, _, _⟩
      · rw [← e2, h.out p hp] at e
        cases e
      · rw [g.k (by rw [q]; exact fun z => nomatch z)] at e
        cases e)
  obtain ⟨mb, hb, hbb⟩ := h.blt
  have md : L2.Mod K mg (hidT s₁.heap H) := ⟨kb, space h.ns_, ⟨mb, space hb, hbb⟩, let ⟨mc, h1, h2⟩ := h.lim; ⟨mc, space h1, h2⟩⟩
  have tb : ∀ p ∈ cs, TabB (hidT s₁.heap H) mg p.1 p.2 := fun p hp => by
    have hTp := h.tabs p hp
    have ng : mainGlobals ≠ p.2 := fun z => by
      obtain ⟨o, es, ep, e, hd, _⟩ := h.ns_
      rw [z, hTp] at e
      cases e
      cases hd
    obtain ⟨o, us, file, tf, flags, tg, inF, text, tt, e1, r1, r2, r3, r⟩ := h.code p hp
    obtain ⟨bm, ob, b1, b2, b3, b4, b5, b6⟩ := h.bm
    have f1 : H p.1 = none := g.free e1 (fun vs n z => by rw [r2] at z; cases z) fun z => by
      rw [r2] at z
      cases z
      simp at r3
    have f2 : H bm = none := g.free b3 (fun vs n z => by rw [b6] at z; cases z) fun z => by rw [b6] at z; cases z
    refine ⟨⟨o, us, file, tf, flags, tg, inF, text, tt, hidT_get e1 f1, r1, r2, r3, r⟩, ⟨bm, ob, b1, b2, fun q => ?_, fun q => ?_, hidT_get b3 f2, b4, b5, b6⟩, ng⟩
    · obtain ⟨o2, es, ep, e, hd, _⟩ := h.ns_
      rw [← q, b3] at e
      cases e
      rw [b6] at hd
      cases hd
    · rw [q, hTp] at b3
      cases b3
      cases b6
  have e0 : Env0 P w K mg (hidT s₁.heap H) callerA [] s₁ H := ⟨rfl, md, fun b o e => of_hidT e, Nat.le_of_eq (hidT_size _ _), trivial, fun b hb => absurd (show b ∈ ([] : List Addr) from hb) (by simp), hok, .of_eq h.gens⟩
  refine codeAny_mono ((F _ kb (space h.ns_) (fun _ _ z => space z) tb).run callerA [] s₁ H ⟨[.ref a], []⟩ [.ref a] [.ref a] _ _ rfl hr e0 (hbind s₁ (.ref a)) (.cons rfl .nil) (hsp H g.tb hS)) fun r s' hq => ?_
  match r, hq with
  | .error e, hq => exact hq.elim
  | .ok .next, hq => exact hq.elim
  | .ok .brk, hq => exact hq.elim
  | .ok .cont, hq => exact hq.elim
  | .ok (.ret u), hq =>
    obtain ⟨v, H', os, bare, un, hok', r', q⟩ := hq
    obtain rfl : v = .bl true := q
    obtain rfl : u = Value.bool true := r'
    have keep : ∀ b o, s₁.heap.get? b = some o → s'.heap.get? b = some o ∨ (o = NoTab ∧ (∃ p ∈ cs, p.2 = b) ∧ ∃ more : Array Value, s'.heap.get? b = some { cls := .none, data := .fields more }) := fun b o e => by
      cases q : H b with
      | none => exact .inl (un.keep b o e q (by intro z; exact absurd (show b ∈ ([] : List Addr) from z) (by simp)) (by simp))
      | some u =>
        rcases g.at_ b u q with ⟨rfl, z, p⟩ | ⟨rfl, ⟨ob, xs, rfl⟩, _⟩
        · rw [e] at z
          cases z
          obtain ⟨more, z2⟩ := un.tbls b #[] q
          exact .inr ⟨rfl, p, _, hok' b _ z2⟩
        · obtain ⟨e1, _⟩ := hok b _ q
          obtain ⟨e2, _⟩ := hok' b _ (un.frzs b ob _ q)
          rw [e] at e1
          cases e1
          exact .inl e2
    refine ⟨rfl, ⟨fun b o e => ?_, fun b o e => ?_⟩, os, bare⟩
    · rcases keep b o e with z | ⟨rfl, ⟨p, hp, rfl⟩, more, z⟩
      · exact .inl z
      · exact .inr (.inl ⟨((h.code p hp).tab (h.tabs p hp)).isCodeTable, rfl, #[], more, rfl, by rw [Array.empty_append]; exact z⟩)
    · rcases keep b o e with z | ⟨_, _, more, z⟩
      · exact ⟨o, z⟩
      · exact ⟨_, z⟩
/-- sys.modules stands in the base -/
def HasMods (base : Heap) : Prop := ∃ mm, base.Ns sysModules mm
/-- the row's end by such promises -/
def LawG (l : PySem.W.OpenLaw) (w : World) (K : PySem.W.Frag) (k n : Nat) (x : Str) (mg : Str → Option Value) (fa : Addr) (h : Heap) : Prop :=
  ∃ (fd : FuncData) (cs : List (Addr × Addr)) (sp : Sp), (∀ p ∈ cs, h.get? p.2 = some NoTab) ∧ (∀ p ∈ cs, K.lookup p.2 = none) ∧ (∀ p ∈ cs, PySem.W.CodeHd h p.1 p.2) ∧ (∀ (s : Shared) (u : Value), BindsTo s fd ⟨[u], []⟩ [(x, u)]) ∧
    (∀ (H : Hp) (a : Addr) (ns : List Int), ns.length ≤ n → (∀ z ∈ ns, Builtin.Int.intBits z ≤ 1048576) → (∀ p ∈ cs, H p.2 = some (.tbl #[])) → SqL K H a (ns.map V.int) → sp [.ref a] H (fun v _ => v = .bl true) E0) ∧
    ∀ base : Heap, K.In base → base.Ns mainGlobals mg → HasMods base → (∀ p ∈ cs, TabB base mg p.1 p.2) → FnG l.prog w K mg base k fa fd [x] sp
theorem walkG {l : PySem.W.OpenLaw} {n k : Nat} {q : Program} {loose : List Str} {XP : (Str → Option Value) → Heap → Prop} {YP : World → Heap → Prop} {d : DefRec} {x : Str}
    (hn : l.most = some n) (hn2 : n ≤ sizeLine) (hdf : d.params.defaults = []) (hi : importsNone q = true) (hr : Room k callerA)
    (F : ∀ (w : World) (mg : Str → Option Value) (fa : Addr) (h : Heap), YP w h → h.Ns mainGlobals mg → mg d.name = some (.ref fa) → ∃ K : PySem.W.Frag, K.In h ∧ LawG l w K k n x mg fa h) :
    PySem.W.WalkO q loose XP YP l.row.toRowW d [] (fun f vs => PySem.call f vs) := by
  refine Att.attach_callB hn hdf fun w s₀ s₁ mg mb fa o pm cd doc a vs ns G Y ho hd hcd hmg hobj hints hlen hbits hg => ?_
  obtain ⟨K, kx, fd, cs, sp, hT, nT, C, hb, hsp, hF⟩ := F w mg fa _ Y G.T.g hmg
  exact At1.call (K := K) (cs := cs) (sp := sp) ⟨kx, G.T.g, ⟨mb, G.T.b, G.T.builtins⟩, G.T.nolimit, hg, hT, nT, C, G.T.bmain, ⟨vs, hobj, hints⟩, Nat.le_trans hlen hn2⟩ hr (fun base kb nb sp tb => hF base kb nb (let ⟨mm, z, _⟩ := (G.T.seer hi).mods; ⟨mm, sp _ _ z⟩) tb) hb fun H hH hS => hsp H a ns hlen hbits hH hS
end
/-! ### a def of the text: its datum, its name, how it binds -/
structure Df (K : PySem.W.Frag) (mg : Str → Option Value) (x : Str) (st : Stmt) (ps : List Str) (fd : FuncData) : Prop where
  F : FnP K x st (He.fAd K (x, none)) fd
  g : mg x = some (.ref (He.fAd K (x, none)))
  b : Binds K fd ps []
/-- a promise that none asks -/
def spNo : Sp := fun _ _ _ _ => False
theorem ok_no {P : Program} {w : World} {K : PySem.W.Frag} {mg : Str → Option Value} {base : Heap} {CX : CXT} {k : Nat} {f : Addr} {fd : FuncData} {ps : List Str} : FnOk P w K mg base CX k f fd ps spNo := ⟨fun _ _ _ _ h => h.elim, fun _ _ _ _ _ _ _ _ _ _ _ _ _ h => h.elim⟩
/-! ### isinstance of a built-in class -/
def isS : V → Bool
  | .str _ => true
  | _ => false
/-- x has a class, told, and whether it is T is told by b -/
def IsA (K : PySem.W.Frag) (H : Hp) (x : V) (T : String) (b : Bool) : Prop := ∃ t, TyX K H x (.type t) ∧ kitB t T = some b
theorem rIsi_of {K : PySem.W.Frag} {H : Hp} {x : V} {T : String} {b : Bool} {Q : VK} (h : IsA K H x T b) (q : Q (.bl b) H) : rIsi K [x, .ty T] H Q := by
  obtain ⟨t, h1, h2⟩ := h
  exact ⟨x, .ty T, .type t, .type T, b, rfl, .ty T, h1, kit_ty h2, q⟩
end KT

set_option Elab.async false
set_option linter.all false
set_option maxRecDepth 100000
set_option maxHeartbeats 4000000
/-! Data at any depth with dicts in it; its repr; a row's end that knows where sys.modules is. -/
namespace KX
open PySem PySem.Spec PyProof.Rows L2 KT
def keyD : Key → PyData
  | .inl i => .int i
  | .inr x => .str x
/-! ### a value's data; M are addresses that may change -/
mutual
inductive Dx (M : Addr → Prop) (H : Hp) : V → PyData → Prop
  | non : Dx M H .non .none
  | bl (b : Bool) : Dx M H (.bl b) (.bool b)
  | int (i : Int) : Dx M H (.int i) (.int i)
  | str (x : Str) : Dx M H (.str x) (.str x)
  | lst {a : Addr} {xs : List V} {ds : List PyData} : ¬ M a → H a = some (.lst xs) → DxAll M H xs ds → Dx M H (.ref a) (.list ds)
  | tup {a : Addr} {xs : List V} {ds : List PyData} : H a = some (.tup xs) → DxAll M H xs ds → Dx M H (.ref a) (.tuple ds)
  | dk {a : Addr} {kvs : List (Key × V)} {ds : List (PyData × PyData)} : ¬ M a → H a = some (.dK kvs) → DxKv M H kvs ds → Dx M H (.ref a) (.dict ds)
inductive DxAll (M : Addr → Prop) (H : Hp) : List V → List PyData → Prop
  | nil : DxAll M H [] []
  | cons {v : V} {vs : List V} {d : PyData} {ds : List PyData} : Dx M H v d → DxAll M H vs ds → DxAll M H (v :: vs) (d :: ds)
inductive DxKv (M : Addr → Prop) (H : Hp) : List (Key × V) → List (PyData × PyData) → Prop
  | nil : DxKv M H [] []
  | cons {k : Key} {v : V} {r : List (Key × V)} {d : PyData} {ds : List (PyData × PyData)} : Dx M H v d → DxKv M H r ds → DxKv M H ((k, v) :: r) ((keyD k, d) :: ds)
end
/-- what is no table and may not change is kept; what may change is no tuple -/
structure Kp (M : Addr → Prop) (H H' : Hp) : Prop where
  st : ∀ a o, ¬ M a → (∀ ps, o ≠ .tbl ps) → H a = some o → H' a = some o
  tp : ∀ a xs, H a = some (.tup xs) → H' a = some (.tup xs)
theorem Kp.refl (M : Addr → Prop) (H : Hp) : Kp M H H := ⟨fun _ _ _ _ e => e, fun _ _ e => e⟩
theorem Kp.trans {M : Addr → Prop} {H H1 H2 : Hp} (a : Kp M H H1) (b : Kp M H1 H2) : Kp M H H2 := ⟨fun c o n t e => b.st c o n t (a.st c o n t e), fun c xs e => b.tp c xs (a.tp c xs e)⟩
theorem Kp.same {M : Addr → Prop} {H H' : Hp} (s : Same H H') : Kp M H H' := ⟨fun a o _ _ e => s a o e, fun a xs e => s a _ e⟩
theorem Kp.less {M N : Addr → Prop} {H H' : Hp} (k : Kp M H H') (h : ∀ a, M a → N a) : Kp N H H' := ⟨fun a o n => k.st a o fun z => n (h a z), k.tp⟩
mutual
theorem Dx.kp {M : Addr → Prop} {H H' : Hp} (k : Kp M H H') : ∀ (d : PyData) (v : V), Dx M H v d → Dx M H' v d
  | .none, _, h => by
    cases h
    exact .non
  | .bool b, _, h => by
    cases h
    exact .bl b
  | .int i, _, h => by
    cases h
    exact .int i
  | .str x, _, h => by
    cases h
    exact .str x
  | .list ds, _, h => by
    cases h with
    | lst n e r => exact .lst n (k.st _ _ n (fun _ z => by cases z) e) (Dx.kpAll k ds _ r)
  | .tuple ds, _, h => by
    cases h with
    | tup e r => exact .tup (k.tp _ _ e) (Dx.kpAll k ds _ r)
  | .dict ds, _, h => by
    cases h with
    | dk n e r => exact .dk n (k.st _ _ n (fun _ z => by cases z) e) (Dx.kpKv k ds _ r)
theorem Dx.kpAll {M : Addr → Prop} {H H' : Hp} (k : Kp M H H') : ∀ (ds : List PyData) (vs : List V), DxAll M H vs ds → DxAll M H' vs ds
  | [], _, h => by
    cases h
    exact .nil
  | d :: ds, _, h => by
    cases h with
    | cons h1 h2 => exact .cons (Dx.kp k d _ h1) (Dx.kpAll k ds _ h2)
theorem Dx.kpKv {M : Addr → Prop} {H H' : Hp} (k : Kp M H H') : ∀ (ds : List (PyData × PyData)) (vs : List (Key × V)), DxKv M H vs ds → DxKv M H' vs ds
  | [], _, h => by
    cases h
    exact .nil
  | (_, d) :: ds, _, h => by
    cases h with
    | cons h1 h2 => exact .cons (Dx.kp k d _ h1) (Dx.kpKv k ds _ h2)
end
theorem DxAll.length {M : Addr → Prop} {H : Hp} : ∀ {vs : List V} {ds : List PyData}, DxAll M H vs ds → vs.length = ds.length
  | [], [], _ => rfl
  | _ :: _, _ :: _, h => by
    cases h with
    | cons _ h2 => simp [DxAll.length h2]
  | [], _ :: _, h => by cases h
  | _ :: _, [], h => by cases h
theorem DxAll.at {M : Addr → Prop} {H : Hp} : ∀ {vs : List V} {ds : List PyData} {i : Nat} {v : V}, DxAll M H vs ds → vs[i]? = some v → ∃ d, ds[i]? = some d ∧ Dx M H v d
  | [], _, _, _, _, e => by simp at e
  | _ :: _, [], _, _, h, _ => by cases h
  | x :: vs, d :: ds, i, v, h, e => by
    cases h with
    | cons h1 h2 =>
      cases i with
      | zero =>
        cases e
        exact ⟨d, rfl, h1⟩
      | succ i => exact DxAll.at (i := i) h2 (by simpa using e)
theorem DxAll.app {M : Addr → Prop} {H : Hp} : ∀ {vs ws : List V} {ds es : List PyData}, DxAll M H vs ds → DxAll M H ws es → DxAll M H (vs ++ ws) (ds ++ es)
  | [], _, [], _, _, h => h
  | _ :: _, _, _ :: _, _, h, k => by
    cases h with
    | cons h1 h2 => exact .cons h1 (DxAll.app h2 k)
  | [], _, _ :: _, _, h, _ => by cases h
  | _ :: _, _, [], _, h, _ => by cases h
theorem DxAll.take {M : Addr → Prop} {H : Hp} : ∀ {vs : List V} {ds : List PyData} (n : Nat), DxAll M H vs ds → DxAll M H (vs.take n) (ds.take n)
  | _, _, 0, _ => .nil
  | [], [], _ + 1, _ => .nil
  | _ :: _, _ :: _, n + 1, h => by
    cases h with
    | cons h1 h2 => exact .cons h1 (DxAll.take n h2)
  | [], _ :: _, _ + 1, h => by cases h
  | _ :: _, [], _ + 1, h => by cases h
theorem DxAll.drop {M : Addr → Prop} {H : Hp} : ∀ {vs : List V} {ds : List PyData} (n : Nat), DxAll M H vs ds → DxAll M H (vs.drop n) (ds.drop n)
  | _, _, 0, h => h
  | [], [], _ + 1, _ => .nil
  | _ :: _, _ :: _, n + 1, h => by
    cases h with
    | cons h1 h2 => exact DxAll.drop n h2
  | [], _ :: _, _ + 1, h => by cases h
  | _ :: _, [], _ + 1, h => by cases h
theorem DxAll.rev {M : Addr → Prop} {H : Hp} : ∀ {vs : List V} {ds : List PyData}, DxAll M H vs ds → DxAll M H vs.reverse ds.reverse
  | [], [], h => h
  | _ :: _, _ :: _, h => by
    cases h with
    | cons h1 h2 =>
      rw [List.reverse_cons, List.reverse_cons]
      exact (DxAll.rev h2).app (.cons h1 .nil)
  | [], _ :: _, h => by cases h
  | _ :: _, [], h => by cases h
/-! ### such a value reads as its data -/
section
variable {X : Cx} {pins : List (Addr × Obj)} {σ : L2.St} {H : Hp} {s : Shared} {M : Addr → Prop}
theorem kv_reads {P : Program} {w : World} : ∀ {kvs : List (Key × V)} {vs : List (Key × Value)} {es : List DictEntry}, KV kvs vs → Pairs (mixKind P w) es vs →
    (∀ h : Heap, ∃ as, ReadsAll h (es.map (·.key)) (kvs.map fun p => keyD p.1) as ∧ sysModules ∉ as) ∧ Vals (kvs.map (·.2)) (es.map (·.val))
  | [], [], [], _, _ => ⟨fun _ => ⟨[], .nil, fun h => by cases h⟩, .nil⟩
  | (k, v) :: kvs, (k', v') :: vs, e :: es, r, p => by
    cases r with
    | cons r1 r2 =>
      cases p with
      | cons p1 p2 p3 =>
        obtain ⟨h1, h2⟩ := kv_reads r2 p3
        obtain ⟨rk, rv⟩ := r1
        dsimp only at rk rv p2
        subst rk
        refine ⟨fun h => ?_, ?_⟩
        · obtain ⟨as, q, nq⟩ := h1 h
          have key : Reads h e.key (keyD k) [] := by
            rcases keyIs_shape p1 with ⟨i, t, e1, e2⟩ | ⟨x, t, e1, e2⟩
            · rw [show k = Sum.inl i from e1, e2]
              exact .int i t
            · rw [show k = Sum.inr x from e1, e2]
              exact .str x t
          exact ⟨[] ++ as, .cons key q, nq⟩
        · refine .cons ?_ h2
          show L2.RelV v e.val
          rw [p2]
          exact rv
  | [], _ :: _, _, r, _ => by cases r
  | _ :: _, [], _, r, _ => by cases r
  | _, [], _ :: _, _, p => by cases p
  | _, _ :: _, [], _, p => by cases p
theorem not_mods {base : Heap} (hm : HasMods base) (hb : ∀ b o, base.get? b = some o → s.heap.get? b = some o) {a : Addr} {o : Obj} {vs : Array Value} {n : Nat} (e : s.heap.get? a = some o) (hd : o.data = .seq vs n) : a ≠ sysModules := fun z => by
  obtain ⟨mm, o2, es, ep, e2, d2, _⟩ := hm
  have q := hb _ _ e2
  rw [← z, e] at q
  cases q
  rw [hd] at d2
  cases d2
theorem kv_split {M : Addr → Prop} {H : Hp} : ∀ {kvs : List (Key × V)} {ds : List (PyData × PyData)}, DxKv M H kvs ds → (ds.map (·.1)) = kvs.map (fun p => keyD p.1) ∧ DxAll M H (kvs.map (·.2)) (ds.map (·.2))
  | [], [], _ => ⟨rfl, .nil⟩
  | (k, v) :: r, (k', d) :: ds, h => by
    cases h with
    | cons h1 h2 =>
      obtain ⟨q1, q2⟩ := kv_split h2
      exact ⟨by rw [List.map_cons, List.map_cons, q1], .cons h1 q2⟩
  | [], _ :: _, h => by cases h
  | _ :: _, [], h => by cases h
mutual
theorem Dx.reads (hm : HasMods X.base) (I : Inv X pins σ H s) : ∀ (d : PyData) (v : V) (u : Value), Dx M H v d → RelV v u → ∃ as, Reads s.heap u d as ∧ sysModules ∉ as
  | .none, _, _, h, r => by
    cases h
    cases r
    exact ⟨_, Reads.none, fun h => by cases h⟩
  | .bool b, _, _, h, r => by
    cases h
    cases r
    exact ⟨_, Reads.bool b, fun h => by cases h⟩
  | .int i, _, _, h, r => by
    cases h
    obtain ⟨t, rfl⟩ := r
    exact ⟨_, Reads.int i t, fun h => by cases h⟩
  | .str x, _, _, h, r => by
    cases h
    obtain ⟨t, rfl⟩ := r
    exact ⟨_, Reads.str x t, fun h => by cases h⟩
  | .list ds, _, _, h, r => by
    cases h with
    | lst n e ha =>
      cases r
      obtain ⟨z, its, n, rv, hl, ho⟩ := I.lstM e
      obtain ⟨as, hr, nr⟩ := Dx.readsAll hm I ds _ its ha rv
      refine ⟨_, Reads.list ho rfl rfl (by simpa using hr), fun hz => ?_⟩
      rcases List.mem_cons.mp hz with hz | hz
      · exact not_mods hm I.bk ho rfl hz.symm
      · exact nr hz
  | .tuple ds, _, _, h, r => by
    cases h with
    | tup e ha =>
      cases r
      obtain ⟨its, rv, ⟨o, ho, hc, n, hd⟩, _⟩ := I.tuple (SqT.of e)
      obtain ⟨as, hr, nr⟩ := Dx.readsAll hm I ds _ its ha rv
      exact ⟨_, Reads.tuple ho hc hd (by simpa using hr), nr⟩
  | .dict ds, _, _, h, r => by
    cases h with
    | dk n e ha =>
      cases r
      obtain ⟨_, nm, vs, rv, o, es, ep, ho, hx, hd, _, hp, _⟩ := dk_of I.hok e
      obtain ⟨q1, q2⟩ := kv_reads rv hp
      obtain ⟨w1, w2⟩ := kv_split ha
      obtain ⟨as, hr, nr⟩ := q1 s.heap
      obtain ⟨bs, hs, ns⟩ := Dx.readsKv hm I ds _ _ w2 q2
      refine ⟨_, Reads.dict ho hx.1 hd (by rw [w1]; exact hr) hs, fun hz => ?_⟩
      rcases List.mem_append.mp hz with hz | hz
      · rcases List.mem_cons.mp hz with hz | hz
        · rw [← hz] at nm
          simp at nm
        · exact nr hz
      · exact ns hz
theorem Dx.readsAll (hm : HasMods X.base) (I : Inv X pins σ H s) : ∀ (ds : List PyData) (vs : List V) (us : List Value), DxAll M H vs ds → Vals vs us → ∃ as, ReadsAll s.heap us ds as ∧ sysModules ∉ as
  | [], _, _, h, r => by
    cases h
    cases r
    exact ⟨_, ReadsAll.nil, fun h => by cases h⟩
  | d :: ds, _, _, h, r => by
    cases h with
    | cons h1 h2 =>
      cases r with
      | cons r1 r2 =>
        obtain ⟨as, q1, n1⟩ := Dx.reads hm I d _ _ h1 r1
        obtain ⟨bs, q2, n2⟩ := Dx.readsAll hm I ds _ _ h2 r2
        exact ⟨_, ReadsAll.cons q1 q2, fun hz => (List.mem_append.mp hz).elim n1 n2⟩
theorem Dx.readsKv (hm : HasMods X.base) (I : Inv X pins σ H s) : ∀ (ds : List (PyData × PyData)) (vs : List V) (us : List Value), DxAll M H vs (ds.map (·.2)) → Vals vs us → ∃ as, ReadsAll s.heap us (ds.map (·.2)) as ∧ sysModules ∉ as
  | [], _, _, h, r => by
    cases h
    cases r
    exact ⟨_, ReadsAll.nil, fun h => by cases h⟩
  | (_, d) :: ds, _, _, h, r => by
    cases h with
    | cons h1 h2 =>
      cases r with
      | cons r1 r2 =>
        obtain ⟨as, q1, n1⟩ := Dx.reads hm I d _ _ h1 r1
        obtain ⟨bs, q2, n2⟩ := Dx.readsKv hm I ds _ _ h2 r2
        exact ⟨_, ReadsAll.cons q1 q2, fun hz => (List.mem_append.mp hz).elim n1 n2⟩
end
/-- repr of any such value -/
def rReprX (M : Addr → Prop) : List V → Hp → VK → Prop := fun xs H Q => ∃ v d, xs = [v] ∧ Dx M H v d ∧ d.showable = true ∧ d.depth ≤ 150 ∧ d.shown.length ≤ sizeLine ∧ Q (.str d.shown) H
theorem call_reprX {k : Nat} (hr : Room k X.A) (hg : X.A.guards = some []) (hm : HasMods X.base) (M : Addr → Prop) : CallR X (.builtin "repr") (rReprX M) := by
  intro pins s σ H xs us Q I r h
  obtain ⟨v, d, rfl, hd, hs, hdep, hsz, q⟩ := h
  obtain ⟨u, rfl, r1⟩ := vals1 r
  have hu := hr.un
  have heap : ∀ {a : Addr}, v = .ref a → wpAny (model X.prog X.w) X.A (call (.builtin "repr") [u]) (EP X pins σ Q) X.xe s := fun {a} e => by
    subst e
    cases (show u = Value.ref a from r1)
    obtain ⟨as, hrd, nr⟩ := Dx.reads hm I d _ _ hd rfl
    refine PySem.repr_of_reads' hrd hs (fun _ => nr) hg (by omega) (fun b o e => e) (fun h' u tk kk => ?_) hsz
    exact ⟨.str d.shown, H, I.kept (t' := tk) kk, ⟨u, rfl⟩, q⟩
  cases hd with
  | non =>
    cases r1
    exact PySem.P.repr_of_none ⟨.str _, H, I.tok _, ⟨_, rfl⟩, q⟩
  | bl b =>
    cases r1
    exact PySem.P.repr_of_bool ⟨.str _, H, I.tok _, ⟨_, rfl⟩, q⟩
  | int i =>
    obtain ⟨t, rfl⟩ := r1
    exact PySem.P.repr_of_int (of_decide_eq_true hs) ⟨.str _, H, I.tok _, ⟨_, rfl⟩, q⟩
  | str x =>
    obtain ⟨t, rfl⟩ := r1
    exact PySem.P.repr_of_str ⟨.str _, H, I.tok _, ⟨_, rfl⟩, q⟩ hsz
  | lst n e r => exact heap rfl
  | tup e r => exact heap rfl
  | dk n e r => exact heap rfl
end
end KX

set_option Elab.async false
set_option linter.all false
set_option maxRecDepth 100000
set_option maxHeartbeats 4000000
/-! Data that a law draws: small, of bounded depth. -/
namespace KV
open PySem PySem.Spec PyProof.Rows L2 KT KX
def AscN (n : Nat) (z : Str) : Prop := z.length ≤ n ∧ ∀ c ∈ z.cps.toList, c < 128
theorem same_new {H : Hp} {p : Addr} {o : HO} (np : H p = none) : Same H (upd H p o) := fun b u e => by
  rw [upd_ne (ne_of_none e np)]
  exact e
theorem ascn {n : Nat} {z : Str} (h : (decide (z.length ≤ n) && z.cps.toList.all fun c => decide (c < 128)) = true) : AscN n z := by
  rw [Bool.and_eq_true] at h
  exact ⟨of_decide_eq_true h.1, fun c hc => of_decide_eq_true (List.all_eq_true.mp h.2 c hc)⟩
mutual
def Ok : PyData → Prop
  | .int i => i.natAbs < 10 ^ 30
  | .str z => AscN 10 z
  | .list xs => xs.length ≤ 3 ∧ OkL xs
  | .tuple xs => xs.length ≤ 3 ∧ OkL xs
  | .dict kvs => kvs.length ≤ 15 ∧ OkK kvs
  | _ => True
def OkL : List PyData → Prop
  | [] => True
  | x :: r => Ok x ∧ OkL r
def OkK : List (PyData × PyData) → Prop
  | [] => True
  | (_, v) :: r => Ok v ∧ OkK r
end
theorem OkL.app : ∀ {a b : List PyData}, OkL a → OkL b → OkL (a ++ b)
  | [], _, _, h => h
  | _ :: _, _, h, k => by
    unfold OkL at h
    rw [List.cons_append]
    unfold OkL
    exact ⟨h.1, OkL.app h.2 k⟩
theorem OkL.mem : ∀ {xs : List PyData} {x : PyData}, OkL xs → x ∈ xs → Ok x
  | a :: r, x, h, m => by
    unfold OkL at h
    rcases List.mem_cons.mp m with rfl | m
    · exact h.1
    · exact OkL.mem h.2 m
theorem OkK.mem : ∀ {xs : List (PyData × PyData)} {x : PyData × PyData}, OkK xs → x ∈ xs → Ok x.2
  | (k, v) :: r, x, h, m => by
    unfold OkK at h
    rcases List.mem_cons.mp m with rfl | m
    · exact h.1
    · exact OkK.mem h.2 m
theorem depth_app (a b : List PyData) : PyData.depthAll (a ++ b) = max (PyData.depthAll a) (PyData.depthAll b) := by
  induction a with
  | nil => simp [PyData.depthAll]
  | cons x r ih =>
    rw [List.cons_append]
    simp only [PyData.depthAll]
    rw [ih, Nat.max_assoc]
theorem depth_mem : ∀ {ys : List PyData} {D : PyData}, D ∈ ys → D.depth ≤ PyData.depthAll ys
  | y :: r, D, h => by
    simp only [PyData.depthAll]
    rcases List.mem_cons.mp h with rfl | h
    · omega
    · have := depth_mem h
      omega
section
variable {M : Addr → Prop} {H : Hp}
mutual
theorem Dx.less {N : Addr → Prop} (h : ∀ a, N a → M a) : ∀ (d : PyData) (v : V), Dx M H v d → Dx N H v d
  | .none, _, k => by cases k; exact .non
  | .bool b, _, k => by cases k; exact .bl b
  | .int i, _, k => by cases k; exact .int i
  | .str x, _, k => by cases k; exact .str x
  | .list ds, _, k => by
    cases k with
    | lst n e r => exact .lst (fun z => n (h _ z)) e (Dx.lessAll h ds _ r)
  | .tuple ds, _, k => by
    cases k with
    | tup e r => exact .tup e (Dx.lessAll h ds _ r)
  | .dict ds, _, k => by
    cases k with
    | dk n e r => exact .dk (fun z => n (h _ z)) e (Dx.lessKv h ds _ r)
theorem Dx.lessAll {N : Addr → Prop} (h : ∀ a, N a → M a) : ∀ (ds : List PyData) (vs : List V), DxAll M H vs ds → DxAll N H vs ds
  | [], _, k => by cases k; exact .nil
  | d :: ds, _, k => by
    cases k with
    | cons h1 h2 => exact .cons (Dx.less h d _ h1) (Dx.lessAll h ds _ h2)
theorem Dx.lessKv {N : Addr → Prop} (h : ∀ a, N a → M a) : ∀ (ds : List (PyData × PyData)) (vs : List (Key × V)), DxKv M H vs ds → DxKv N H vs ds
  | [], _, k => by cases k; exact .nil
  | (_, d) :: ds, _, k => by
    cases k with
    | cons h1 h2 => exact .cons (Dx.less h d _ h1) (Dx.lessKv h ds _ h2)
end
/-! one value has one datum -/
mutual
theorem Dx.det : ∀ (d d' : PyData) (v : V), Dx M H v d → Dx M H v d' → d = d'
  | .none, _, _, h, k => by cases h; cases k; rfl
  | .bool b, _, _, h, k => by cases h; cases k; rfl
  | .int i, _, _, h, k => by cases h; cases k; rfl
  | .str x, _, _, h, k => by cases h; cases k; rfl
  | .list ds, _, _, h, k => by
    cases h with
    | lst n e r =>
      cases k with
      | lst n' e' r' =>
        rw [e] at e'
        cases e'
        rw [DxAll.det ds _ _ r r']
      | tup e' r' => rw [e] at e'; cases e'
      | dk n' e' r' => rw [e] at e'; cases e'
  | .tuple ds, _, _, h, k => by
    cases h with
    | tup e r =>
      cases k with
      | tup e' r' =>
        rw [e] at e'
        cases e'
        rw [DxAll.det ds _ _ r r']
      | lst n' e' r' => rw [e] at e'; cases e'
      | dk n' e' r' => rw [e] at e'; cases e'
  | .dict ds, _, _, h, k => by
    cases h with
    | dk n e r =>
      cases k with
      | dk n' e' r' =>
        rw [e] at e'
        cases e'
        rw [DxKv.det ds _ _ r r']
      | lst n' e' r' => rw [e] at e'; cases e'
      | tup e' r' => rw [e] at e'; cases e'
theorem DxAll.det : ∀ (ds ds' : List PyData) (vs : List V), DxAll M H vs ds → DxAll M H vs ds' → ds = ds'
  | [], _, _, h, k => by cases h; cases k; rfl
  | d :: ds, _, _, h, k => by
    cases h with
    | cons h1 h2 =>
      cases k with
      | cons k1 k2 => rw [Dx.det d _ _ h1 k1, DxAll.det ds _ _ h2 k2]
theorem DxKv.det : ∀ (ds ds' : List (PyData × PyData)) (vs : List (Key × V)), DxKv M H vs ds → DxKv M H vs ds' → ds = ds'
  | [], _, _, h, k => by cases h; cases k; rfl
  | (_, d) :: ds, _, _, h, k => by
    cases h with
    | cons h1 h2 =>
      cases k with
      | cons k1 k2 => rw [Dx.det d _ _ h1 k1, DxKv.det ds _ _ h2 k2]
end
/-! what is less deep than the value at d does not hold d -/
mutual
theorem Dx.off {d : Addr} {D : PyData} (hd : Dx M H (.ref d) D) : ∀ (E : PyData) (v : V), E.depth < D.depth → Dx M H v E → Dx (fun a => M a ∨ a = d) H v E
  | .none, _, _, k => by cases k; exact .non
  | .bool b, _, _, k => by cases k; exact .bl b
  | .int i, _, _, k => by cases k; exact .int i
  | .str x, _, _, k => by cases k; exact .str x
  | .list ds, _, l, k => by
    have l2 : PyData.depthAll ds < D.depth := by
      simp only [PyData.depth] at l
      omega
    cases k with
    | lst n e r =>
      refine .lst (fun z => z.elim n fun z => ?_) e (Dx.offAll hd ds _ l2 r)
      subst z
      rw [Dx.det _ _ _ hd (.lst n e r)] at l
      exact Nat.lt_irrefl _ l
  | .tuple ds, _, l, k => by
    have l2 : PyData.depthAll ds < D.depth := by
      simp only [PyData.depth] at l
      omega
    cases k with
    | tup e r => exact .tup e (Dx.offAll hd ds _ l2 r)
  | .dict ds, _, l, k => by
    have l2 : PyData.depthKv ds < D.depth := by
      simp only [PyData.depth] at l
      omega
    cases k with
    | dk n e r =>
      refine .dk (fun z => z.elim n fun z => ?_) e (Dx.offKv hd ds _ l2 r)
      subst z
      rw [Dx.det _ _ _ hd (.dk n e r)] at l
      exact Nat.lt_irrefl _ l
theorem Dx.offAll {d : Addr} {D : PyData} (hd : Dx M H (.ref d) D) : ∀ (ds : List PyData) (vs : List V), PyData.depthAll ds < D.depth → DxAll M H vs ds → DxAll (fun a => M a ∨ a = d) H vs ds
  | [], _, _, k => by cases k; exact .nil
  | e :: ds, _, l, k => by
    simp only [PyData.depthAll] at l
    cases k with
    | cons h1 h2 => exact .cons (Dx.off hd e _ (by omega) h1) (Dx.offAll hd ds _ (by omega) h2)
theorem Dx.offKv {d : Addr} {D : PyData} (hd : Dx M H (.ref d) D) : ∀ (ds : List (PyData × PyData)) (vs : List (Key × V)), PyData.depthKv ds < D.depth → DxKv M H vs ds → DxKv (fun a => M a ∨ a = d) H vs ds
  | [], _, _, k => by cases k; exact .nil
  | (q, e) :: ds, _, l, k => by
    simp only [PyData.depthKv] at l
    cases k with
    | cons h1 h2 => exact .cons (Dx.off hd e _ (by omega) h1) (Dx.offKv hd ds _ (by omega) h2)
end
end
end KV

set_option Elab.async false
set_option linter.all false
set_option maxRecDepth 100000
set_option maxHeartbeats 4000000
/-! The numbers that a script gives, drawn one by one. -/
namespace KA
open PySem PySem.Spec PyProof.Rows L2 KT
def topS (i : Nat) : Stmt := PySem.Challenge.pw_quicktongue_k00_errors_by_position_and_b.main.body.getD i (.Pass ⟨0, 0, 0, 0⟩)
abbrev s__law_deck : Stmt := topS 21
abbrev s__law_draw : Stmt := topS 22
abbrev s__law_pick : Stmt := topS 23
abbrev s__law_any : Stmt := topS 24
abbrev s__law_is_same : Stmt := topS 25
abbrev s__law_by_position : Stmt := topS 26
abbrev s__law_by_name : Stmt := topS 27
abbrev s__law_kinds : Stmt := topS 28
abbrev s__law_is_own : Stmt := topS 29
abbrev s__law_raise : Stmt := topS 30
abbrev s__law_caught : Stmt := topS 31
abbrev s__law_caught_as_base : Stmt := topS 32
abbrev s__law_carried : Stmt := topS 33
abbrev s_law : Stmt := topS 34
abbrev m_BadTree___init__ : Stmt := (C8.clsBody (topS 2)).getD 0 (.Pass ⟨0, 0, 0, 0⟩)
abbrev m_BadProgram___init__ : Stmt := (C8.clsBody (topS 3)).getD 0 (.Pass ⟨0, 0, 0, 0⟩)
abbrev m_BadWord___init__ : Stmt := (C8.clsBody (topS 4)).getD 0 (.Pass ⟨0, 0, 0, 0⟩)
abbrev m_BadText___init__ : Stmt := (C8.clsBody (topS 5)).getD 0 (.Pass ⟨0, 0, 0, 0⟩)
abbrev m_BadPath___init__ : Stmt := (C8.clsBody (topS 6)).getD 0 (.Pass ⟨0, 0, 0, 0⟩)
abbrev m_BadRaw___init__ : Stmt := (C8.clsBody (topS 7)).getD 0 (.Pass ⟨0, 0, 0, 0⟩)
abbrev m_BadName___init__ : Stmt := (C8.clsBody (topS 8)).getD 0 (.Pass ⟨0, 0, 0, 0⟩)
abbrev m_BadInputs___init__ : Stmt := (C8.clsBody (topS 9)).getD 0 (.Pass ⟨0, 0, 0, 0⟩)
abbrev m_BadPoly___init__ : Stmt := (C8.clsBody (topS 10)).getD 0 (.Pass ⟨0, 0, 0, 0⟩)
abbrev m_BadTable___init__ : Stmt := (C8.clsBody (topS 11)).getD 0 (.Pass ⟨0, 0, 0, 0⟩)
abbrev m_BadNumber___init__ : Stmt := (C8.clsBody (topS 12)).getD 0 (.Pass ⟨0, 0, 0, 0⟩)
abbrev m_BadStep___init__ : Stmt := (C8.clsBody (topS 13)).getD 0 (.Pass ⟨0, 0, 0, 0⟩)
abbrev m_BadUnit___init__ : Stmt := (C8.clsBody (topS 14)).getD 0 (.Pass ⟨0, 0, 0, 0⟩)
abbrev m_BadStanding___init__ : Stmt := (C8.clsBody (topS 15)).getD 0 (.Pass ⟨0, 0, 0, 0⟩)
abbrev m_BadSharing___init__ : Stmt := (C8.clsBody (topS 16)).getD 0 (.Pass ⟨0, 0, 0, 0⟩)
abbrev m_BadBytes___init__ : Stmt := (C8.clsBody (topS 17)).getD 0 (.Pass ⟨0, 0, 0, 0⟩)
abbrev m_BadUnits___init__ : Stmt := (C8.clsBody (topS 18)).getD 0 (.Pass ⟨0, 0, 0, 0⟩)
abbrev m_BadMachine___init__ : Stmt := (C8.clsBody (topS 19)).getD 0 (.Pass ⟨0, 0, 0, 0⟩)
/-! ### the deck: a dict with a list -/
def kL : Key := .inr "left"
def kM : Key := .inr "mixed"
def kD : Key := .inr "draws"
def kvD (L : Addr) (m k : Int) : List (Key × V) := [(kL, .ref L), (kM, .int m), (kD, .int k)]
theorem i12 : ¬ (kL = kM) := by decide +kernel
theorem i13 : ¬ (kL = kD) := by decide +kernel
theorem i23 : ¬ (kM = kD) := by decide +kernel
theorem kv_l (L : Addr) (m k : Int) : valV (kvD L m k) kL = some (.ref L) := valV_pos rfl
theorem kv_m (L : Addr) (m k : Int) : valV (kvD L m k) kM = some (.int m) := (valV_neg i12).trans (valV_pos rfl)
theorem kv_d (L : Addr) (m k : Int) : valV (kvD L m k) kD = some (.int k) := (valV_neg i13).trans ((valV_neg i23).trans (valV_pos rfl))
theorem kput_m (L : Addr) (m k m' : Int) : putK (kvD L m k) kM (.int m') = kvD L m' k := by
  simp [putK, kvD, i12, i13, i23, Ne.symm i12, Ne.symm i13, Ne.symm i23]
theorem kput_d (L : Addr) (m k k' : Int) : putK (kvD L m k) kD (.int k') = kvD L m k' := by
  simp [putK, kvD, i12, i13, i23, Ne.symm i12, Ne.symm i13, Ne.symm i23]
theorem merge_deck (L : Addr) (m k : Int) : mergeK [] (kvD L m k) = kvD L m k := by
  simp [mergeK, putK, kvD, i12, i13, i23, Ne.symm i12, Ne.symm i13, Ne.symm i23]
/-- a deck stands at d, its list at L -/
def DK (d L : Addr) (H : Hp) : Prop := ∃ (ns : List Int) (m k : Int), H d = some (.dK (kvD L m k)) ∧ H L = some (.lst (ns.map V.int)) ∧ 0 ≤ m ∧ m < 2147483648 ∧ ns.length ≤ 64
/-- a draw has been: the deck again, all else as it was -/
structure Fr (d L : Addr) (H H' : Hp) : Prop where
  dk : DK d L H'
  st : ∀ b o, b ≠ d → b ≠ L → H b = some o → H' b = some o
theorem Fr.trans {d L : Addr} {H H1 H2 : Hp} (a : Fr d L H H1) (b : Fr d L H1 H2) : Fr d L H H2 := ⟨b.dk, fun c o h1 h2 h => b.st c o h1 h2 (a.st c o h1 h2 h)⟩
theorem DK.ne {d L : Addr} {H : Hp} (h : DK d L H) : d ≠ L := by
  obtain ⟨ns, m, k, h1, h2, _⟩ := h
  exact ne_of h1 h2 (by intro z; cases z)
theorem DK.upd {d L p : Addr} {H : Hp} {o : HO} (h : DK d L H) (hp : H p = none) : DK d L (upd H p o) := by
  obtain ⟨ns, m, k, h1, h2, h3⟩ := h
  exact ⟨ns, m, k, by rw [upd_ne (ne_of_none h1 hp)]; exact h1, by rw [upd_ne (ne_of_none h2 hp)]; exact h2, h3⟩
theorem Fr.new {d L p : Addr} {H : Hp} {o : HO} (h : DK d L H) (hp : H p = none) : Fr d L H (L2.upd H p o) := ⟨h.upd hp, fun b x _ _ e => by
  rw [upd_ne (ne_of_none e hp)]
  exact e⟩
theorem Fr.refl {d L : Addr} {H : Hp} (h : DK d L H) : Fr d L H H := ⟨h, fun _ _ _ _ e => e⟩
theorem Fr.fresh {d L D : Addr} {H H2 : Hp} (f : Fr d L H H2) (n : H2 D = none) : H D = none ∧ D ≠ d ∧ D ≠ L := by
  obtain ⟨ns, m, k, h1, h2, _⟩ := f.dk
  have nd : D ≠ d := (ne_of_none h1 n).symm
  have nL : D ≠ L := (ne_of_none h2 n).symm
  refine ⟨?_, nd, nL⟩
  cases e : H D with
  | none => rfl
  | some o =>
    rw [f.st D o nd nL e] at n
    cases n
theorem DK.mut {d L D : Addr} {H : Hp} {o : HO} (h : DK d L H) (nd : D ≠ d) (nL : D ≠ L) : DK d L (L2.upd H D o) := by
  obtain ⟨ns, m, k, h1, h2, h3⟩ := h
  exact ⟨ns, m, k, by rw [upd_ne nd.symm]; exact h1, by rw [upd_ne nL.symm]; exact h2, h3⟩
/-- an object that was not there at H changes -/
theorem Fr.mut {d L D : Addr} {H H' : Hp} {o : HO} (f : Fr d L H H') (n : H D = none) (nd : D ≠ d) (nL : D ≠ L) : Fr d L H (L2.upd H' D o) := ⟨f.dk.mut nd nL, fun b x h1 h2 e => by
  rw [upd_ne (ne_of_none e n)]
  exact f.st b x h1 h2 e⟩
theorem dp_ints {K : PySem.W.Frag} {H : Hp} : ∀ ns : List Int, DpAll K H (ns.map V.int) (ns.map PyData.int)
  | [] => .nil
  | n :: r => .cons (.int n) (dp_ints r)
theorem lay_ints : ∀ ns : List Int, PyData.canLayAll0 (ns.map PyData.int) = true
  | [] => rfl
  | n :: r => by
    show (PyData.canLay0 (.int n) && PyData.canLayAll0 (r.map PyData.int)) = true
    rw [lay_ints r]
    rfl
theorem dep_ints : ∀ ns : List Int, PyData.depthAll (ns.map PyData.int) ≤ 1
  | [] => by simp [PyData.depthAll]
  | n :: r => by
    have h := dep_ints r
    simp only [List.map_cons, PyData.depthAll, PyData.depth]
    omega
theorem shaped_ints (ns : List Int) : SeqAt.shaped (.list (ns.map PyData.int)) = true := by
  unfold SeqAt.shaped
  rw [Bool.and_eq_true]
  refine ⟨lay_ints ns, decide_eq_true ?_⟩
  have h := dep_ints ns
  simp only [PyData.depth]
  omega
theorem cut63 (ns : List Int) : cutV (ns.map V.int) none (some 63) = (ns.take 63).map V.int := by
  unfold cutV
  rw [HT.sIx_none, show HT.sIx (ns.map V.int).length (ns.map V.int).length (some (63 : Int)) = min 63 (ns.map V.int).length from HT.sIx_nat _ _ 63]
  rw [List.drop_zero, Nat.sub_zero, List.map_take]
  rw [List.length_map]
  by_cases h : 63 ≤ ns.length
  · rw [Nat.min_eq_left h]
  · rw [Nat.min_eq_right (by omega), List.take_of_length_le (by simp), List.take_of_length_le (by rw [List.length_map]; omega)]
/-! ### what stands at the top -/
structure Tb (mg : Str → Option Value) : Prop where
  int : mg "int" = none
  list : mg "list" = none
  max : mg "max" = none
  len : mg "len" = none
  range : mg "range" = none
  tuple : mg "tuple" = none
  isinstance : mg "isinstance" = none
  repr : mg "repr" = none
abbrev N__law_deck : List Str := ["_law_script", "_law_seed", "_law_mixed", "_law_cell"]
abbrev P__law_deck : List Str := ["_law_script", "_law_seed"]
theorem sc__law_deck : FnScope N__law_deck P__law_deck (defScope s__law_deck) := ⟨rfl, rfl, rfl, by decide +kernel, rfl, by decide +kernel, by decide +kernel⟩
abbrev N__law_draw : List Str := ["_law_deck_here", "_law_many", "_law_cell", "_law_figure"]
abbrev P__law_draw : List Str := ["_law_deck_here", "_law_many"]
theorem sc__law_draw : FnScope N__law_draw P__law_draw (defScope s__law_draw) := ⟨rfl, rfl, rfl, by decide +kernel, rfl, by decide +kernel, by decide +kernel⟩
abbrev N__law_pick : List Str := ["_law_deck_here", "_law_some"]
abbrev P__law_pick : List Str := ["_law_deck_here", "_law_some"]
theorem sc__law_pick : FnScope N__law_pick P__law_pick (defScope s__law_pick) := ⟨rfl, rfl, rfl, by decide +kernel, rfl, by decide +kernel, by decide +kernel⟩
section
variable {P : Program} {w : World} {K : PySem.W.Frag} {mg : Str → Option Value} {base : Heap}
def spDeck (K : PySem.W.Frag) : Sp := fun vs H Q _ => ∃ (a : Addr) (ns : List Int) (z : Int), vs = [.ref a, .int z] ∧ SqL K H a (ns.map V.int) ∧ 0 ≤ z ∧ z < 2147483648 ∧
  ∀ d L H', (∀ b o, H b = some o → H' b = some o) → H d = none → H L = none → DK d L H' → Q (.ref d) H'
theorem ok_deck {fd : FuncData} (D : Df K mg "_law_deck" s__law_deck P__law_deck fd) (T : Tb mg) : FnOk P w K mg base CX0 1 (He.fAd K ("_law_deck", none)) fd P__law_deck (spDeck K) := by
  refine (fun_of D.F).ok sc__law_deck (fun vs H Q E h => ?_) (fun cdv A outer s H vs Q E hr h => ?_)
  · obtain ⟨a, ns, z, rfl, _⟩ := h
    rfl
  · obtain ⟨a, ns, z, rfl, hS, z0, z1, q⟩ := h
    refine ⟨_, (pss_cons (ps_set (i := 2) sc__law_deck.nd rfl (.inl rfl) (pv 1))
      (pss_cons (ps_for PassesOwn.never rfl (pi_list (pe_slice sl_list (pv 0) po_none (po_some pe_int))) (pg_name (i := 3) sc__law_deck.nd rfl (.inl rfl)) (pss_one (ps_set (i := 2) sc__law_deck.nd rfl (.inl rfl) (pe_op op_mod (pe_callTy call_int1 (by rfl) T.int (by decide +kernel) (pa_cons (pe_op op_add (pe_op op_add (pe_op op_mul (pv 2) pe_int) (pe_op op_mod (pe_callTy call_int1 (by rfl) T.int (by decide +kernel) (pa_cons (pv 3) pa_nil)) pe_int)) pe_int) pa_nil)) pe_int))))
      (pss_one (ps_ret (pe_disp (pps_cons pe_str (pe_revL (pe_callTy call_list_of (by rfl) T.list (by decide +kernel) (pa_cons (pe_slice sl_list (pv 0) po_none (po_some pe_int)) pa_nil))) (pps_cons pe_str (pv 2) (pps_cons pe_str pe_int pps_nil))) (by rfl) (by rfl) (fun z => by cases z) (by decide)))))), ?_⟩
    refine ⟨_, rfl, _, rfl, 63, rfl, a, _, rfl, hS, fun p np => ?_⟩
    have st : ∀ b o, H b = some o → (upd H p (.lst (cutV (ns.map V.int) none (some 63)))) b = some o := fun b o e => by
      rw [upd_ne (ne_of_none e np)]
      exact e
    have st2 : Same H (upd H p (.lst (cutV (ns.map V.int) none (some 63)))) := st
    have hp : SqL K (upd H p (.lst (cutV (ns.map V.int) none (some 63)))) p (cutV (ns.map V.int) none (some 63)) := SqL.of upd_same
    generalize upd H p (.lst (cutV (ns.map V.int) none (some 63))) = H1 at st st2 hp
    have hA := st2.seq hS
    rw [cut63] at hp
    refine ⟨p, rfl, ⟨_, hp⟩, for_list (K := K) (a := p) (xs := (ns.take 63).map V.int) (fun i σ H' => H' = H1 ∧ ∃ m c, σ = [some (.ref a), some (.int z), some (.int m), c] ∧ 0 ≤ m ∧ m < 2147483648) ⟨rfl, z, none, rfl, z0, z1⟩ (fun i σ H' _ h => by rw [h.1]; exact hp) (fun i x σ H' hx h => ?_) (fun σ H' h => ?_)⟩
    · obtain ⟨rfl, m, c, rfl, m0, m1⟩ := h
      obtain ⟨y, rfl⟩ : ∃ y, x = V.int y := by
        rw [List.getElem?_map] at hx
        obtain ⟨y, _, e⟩ := Option.map_eq_some_iff.mp hx
        exact ⟨y, e.symm⟩
      refine ⟨_, rfl, _, _, rfl, rfl, .inl ⟨by omega, by omega⟩, _, rfl, .inl ⟨_, rfl, _, _, rfl, rfl, (by show (0 : Int) < _; decide), _, _, rfl, rfl, _, _, rfl, rfl, .inl ⟨_, rfl, _, _, rfl, rfl, (by show (0 : Int) < _; decide), ?_⟩⟩⟩
      refine ⟨rfl, _, _, rfl, Int.emod_nonneg _ (by decide), ?_⟩
      exact Int.lt_trans (Int.emod_lt_of_pos _ (by decide)) (by decide)
    · obtain ⟨rfl, m, c, rfl, m0, m1⟩ := h
      intro d nd
      have ndH : H d = none := Same.free st2 nd
      have s3 : Same H' (upd H' d (.dK [])) := fun b o e => by
        rw [upd_ne (ne_of_none e nd)]
        exact e
      refine ⟨_, rfl, 63, rfl, a, _, rfl, s3.seq hA, fun p1 n1 => ⟨p1, _, rfl, .inl (SqL.of upd_same), fun p2 n2 => ⟨p2, _, rfl, SqL.of upd_same, fun p3 n3 => ?_⟩⟩⟩
      have e1 : d ≠ p1 := ne_of_none upd_same n1
      have e2 : d ≠ p2 := fun e => by
        rw [← e, upd_ne e1, upd_same] at n2
        cases n2
      have e3 : d ≠ p3 := fun e => by
        rw [← e, upd_ne e2, upd_ne e1, upd_same] at n3
        cases n3
      have g : ∀ b o, H' b = some o → (upd (upd (upd (upd H' d (.dK [])) p1 (.lst (cutV (ns.map V.int) none (some 63)))) p2 (.lst (cutV (ns.map V.int) none (some 63)))) p3 (.lst (cutV (ns.map V.int) none (some 63)).reverse)) b = some o := fun b o e => by
        have f1 : (upd H' d (.dK [])) b = some o := s3 b o e
        have f2 : (upd (upd H' d (.dK [])) p1 (.lst (cutV (ns.map V.int) none (some 63)))) b = some o := by
          rw [upd_ne (ne_of_none f1 n1)]
          exact f1
        have f3 : (upd (upd (upd H' d (.dK [])) p1 (.lst (cutV (ns.map V.int) none (some 63)))) p2 (.lst (cutV (ns.map V.int) none (some 63)))) b = some o := by
          rw [upd_ne (ne_of_none f2 n2)]
          exact f2
        rw [upd_ne (ne_of_none f3 n3)]
        exact f3
      have n3' : H' p3 = none := by
        cases e : H' p3 with
        | none => rfl
        | some o =>
          have f1 : (upd H' d (.dK [])) p3 = some o := s3 p3 o e
          have f2 : (upd (upd H' d (.dK [])) p1 (.lst (cutV (ns.map V.int) none (some 63)))) p3 = some o := by
            rw [upd_ne (ne_of_none f1 n1)]
            exact f1
          have f3 : (upd (upd (upd H' d (.dK [])) p1 (.lst (cutV (ns.map V.int) none (some 63)))) p2 (.lst (cutV (ns.map V.int) none (some 63)))) p3 = some o := by
            rw [upd_ne (ne_of_none f2 n2)]
            exact f2
          rw [f3] at n3
          cases n3
      refine ⟨_, rfl, by rw [upd_ne e3, upd_ne e2, upd_ne e1, upd_same], kvD p3 m 0, rfl, (by show 3 ≤ 15; decide), ?_⟩
      rw [merge_deck]
      refine q d p3 _ (fun b o e => ?_) ndH (Same.free st2 n3') ⟨(ns.take 63).reverse, m, 0, upd_same, ?_, m0, m1, ?_⟩
      · have e' := st b o e
        rw [upd_ne (ne_of_none e' nd)]
        exact g b o e'
      · rw [upd_ne e3.symm, upd_same, cut63, List.map_reverse]
      · rw [List.length_reverse, List.length_take]
        omega
/-! ### a draw -/
theorem dg_l {H : Hp} {d L : Addr} {m k : Int} (h : H d = some (.dK (kvD L m k))) : DGet H d (.str "left") (some (.ref L)) := by
  have e : DGet H d (kV kL) (valV (kvD L m k) kL) := DGet.k h
  rw [kv_l] at e
  exact e
theorem dg_m {H : Hp} {d L : Addr} {m k : Int} (h : H d = some (.dK (kvD L m k))) : DGet H d (.str "mixed") (some (.int m)) := by
  have e : DGet H d (kV kM) (valV (kvD L m k) kM) := DGet.k h
  rw [kv_m] at e
  exact e
theorem dg_d {H : Hp} {d L : Addr} {m k : Int} (h : H d = some (.dK (kvD L m k))) : DGet H d (.str "draws") (some (.int k)) := by
  have e : DGet H d (kV kD) (valV (kvD L m k) kD) := DGet.k h
  rw [kv_d] at e
  exact e
theorem dp_m {H : Hp} {d L : Addr} {m k m' : Int} (h : H d = some (.dK (kvD L m k))) : DPut H d (.str "mixed") (.int m') (upd H d (.dK (kvD L m' k))) := by
  have e : DPut H d (kV kM) (.int m') (upd H d (.dK (putK (kvD L m k) kM (.int m')))) := DPut.k h (by show 3 < sizeLine; decide)
  rw [kput_m] at e
  exact e
theorem dp_d {H : Hp} {d L : Addr} {m k k' : Int} (h : H d = some (.dK (kvD L m k))) : DPut H d (.str "draws") (.int k') (upd H d (.dK (kvD L m k'))) := by
  have e : DPut H d (kV kD) (.int k') (upd H d (.dK (putK (kvD L m k) kD (.int k')))) := DPut.k h (by show 3 < sizeLine; decide)
  rw [kput_d] at e
  exact e
theorem eqv_nil (ns : List Int) : PyData.eqv (.list (ns.map PyData.int)) (.list []) = ns.isEmpty := by
  cases ns <;> simp [PyData.eqv, PyData.eqvAll]
def spDraw : Sp := fun vs H Q _ => ∃ (d L : Addr) (n : Int), vs = [.ref d, .int n] ∧ DK d L H ∧ 0 < n ∧ n ≤ 1000000000 ∧ ∀ (r : Int) H', 0 ≤ r → r < n → Fr d L H H' → Q (.int r) H'
theorem ok_draw {fd : FuncData} (D : Df K mg "_law_draw" s__law_draw P__law_draw fd) (T : Tb mg) : FnOk P w K mg base CX0 1 (He.fAd K ("_law_draw", none)) fd P__law_draw spDraw := by
  refine (fun_of D.F).ok sc__law_draw (fun vs H Q E h => ?_) (fun cdv A outer s H vs Q E hr h => ?_)
  · obtain ⟨d, L, n, rfl, _⟩ := h
    rfl
  · obtain ⟨d, L, n, rfl, ⟨ns, m, k, hd, hL, m0, m1, hl⟩, n0, n1, q⟩ := h
    have hu := hu_of hr
    have ndL : d ≠ L := ne_of hd hL (by intro z; cases z)
    refine ⟨_, (pss_cons (ps_dput hu (pv 0) pe_str (pe_op op_add (pe_dget hu (pv 0) pe_str (fun _ _ => rfl)) pe_int) rfl)
      (C8.pss_cut (ps_if (pt_cmpR (op_neD hr.units) (pe_dget hu (pv 0) pe_str (fun _ _ => rfl)) (pe_lst pa_nil) (nomark _)) (pss_cons (ps_set (i := 2) sc__law_draw.nd rfl (.inl rfl) (pe_bm0 PySem.F.plainAttrs_list PySem.F.slot_list_pop PySem.F.type_list_pop mt_pop (pe_dget hu (pv 0) pe_str (fun _ _ => rfl))))
          (pss_cons (ps_if (pt_cmpR op_ge (pv 2) (pe_op op_pow pe_int pe_int) (nomark _)) (pss_cons (ps_expr (pe_bm PySem.F.plainAttrs_list PySem.F.slot_list_append PySem.F.type_list_append mt_append (pe_dget hu (pv 0) pe_str (fun _ _ => rfl)) (pa_cons (pe_op op_fdiv (pv 2) (pe_callB (call_max2 rfl) (by rfl) T.max (by decide +kernel) (pa_cons pe_int (pa_cons (pv 1) pa_nil)))) pa_nil)))
              (pss_one (ps_ret (pe_op op_mod (pe_callTy call_int1 (by rfl) T.int (by decide +kernel) (pa_cons (pv 2) pa_nil)) (pv 1))))) pss_nil)
          (pss_one (ps_dput hu (pv 0) pe_str (pe_op op_mod (pe_callTy call_int1 (by rfl) T.int (by decide +kernel) (pa_cons (pe_op op_add (pe_op op_add (pe_op op_mul (pe_dget hu (pv 0) pe_str (fun _ _ => rfl)) pe_int) (pe_op op_mod (pe_callTy call_int1 (by rfl) T.int (by decide +kernel) (pa_cons (pv 2) pa_nil)) pe_int)) pe_int) pa_nil)) pe_int) rfl)))) pss_nil)
      (pss_cons (ps_set (i := 3) sc__law_draw.nd rfl (.inl rfl) (pe_op op_mod (pe_callTy call_int1 (by rfl) T.int (by decide +kernel) (pa_cons (pe_op op_add (pe_dget hu (pv 0) pe_str (fun _ _ => rfl)) (pe_op op_mul pe_int (pe_dget hu (pv 0) pe_str (fun _ _ => rfl)))) pa_nil)) pe_int))
      (pss_cons (ps_set (i := 3) sc__law_draw.nd rfl (.inl rfl) (pe_op op_mod (pe_callTy call_int1 (by rfl) T.int (by decide +kernel) (pa_cons (pe_op op_add (pe_op op_add (pe_op op_mul (pv 3) (pv 3)) (pe_op op_mul pe_int (pe_dget hu (pv 0) pe_str (fun _ _ => rfl)))) pe_int) pa_nil)) pe_int))
      (pss_cons (ps_set (i := 3) sc__law_draw.nd rfl (.inl rfl) (pe_op op_mod (pe_callTy call_int1 (by rfl) T.int (by decide +kernel) (pa_cons (pe_op op_add (pe_op op_mul (pv 3) pe_int) pe_int) pa_nil)) pe_int))
      (pss_one (ps_ret (pe_op op_mod (pe_callTy call_int1 (by rfl) T.int (by decide +kernel) (pa_cons (pe_op op_fdiv (pv 3) pe_int) pa_nil)) (pv 1))))))))), ?_⟩
    -- draws
    refine ⟨_, rfl, _, _, rfl, dg_d hd, _, _, rfl, rfl, _, rfl, d, _, rfl, dp_d hd, ?_⟩
    have st1 : ∀ b o, b ≠ d → b ≠ L → H b = some o → (upd H d (.dK (kvD L m (k + 1)))) b = some o := fun b o h1 _ e => by
      rw [upd_ne h1]
      exact e
    have hd1 : (upd H d (.dK (kvD L m (k + 1)))) d = some (.dK (kvD L m (k + 1))) := upd_same
    have hL1 : (upd H d (.dK (kvD L m (k + 1)))) L = some (.lst (ns.map V.int)) := by
      rw [upd_ne ndL.symm]
      exact hL
    generalize upd H d (.dK (kvD L m (k + 1))) = H1 at st1 hd1 hL1
    generalize k + 1 = k1 at hd1
    refine ⟨fun σ' H' => ∃ (ns' : List Int) (m' : Int) (c : Option V), σ' = [some (.ref d), some (.int n), c, none] ∧ H' d = some (.dK (kvD L m' k1)) ∧ H' L = some (.lst (ns'.map V.int)) ∧ 0 ≤ m' ∧ m' < 2147483648 ∧ ns'.length ≤ 64 ∧ ∀ b o, b ≠ d → b ≠ L → H b = some o → H' b = some o, ?_, fun σ' H' hM => ?_⟩
    · -- left != []
      refine ⟨_, rfl, _, _, rfl, dg_l hd1, Nat.zero_le _, fun p np => ?_⟩
      have pL : p ≠ L := (ne_of_none hL1 np).symm
      have pd : p ≠ d := (ne_of_none hd1 np).symm
      have st2 : ∀ b o, b ≠ d → b ≠ L → H b = some o → (upd H1 p (.lst [])) b = some o := fun b o h1 h2 e => by
        have e' := st1 b o h1 h2 e
        rw [upd_ne (ne_of_none e' np)]
        exact e'
      have hL2 : (upd H1 p (.lst [])) L = some (.lst (ns.map V.int)) := by
        rw [upd_ne pL.symm]
        exact hL1
      have hd2 : (upd H1 p (.lst [])) d = some (.dK (kvD L m k1)) := by
        rw [upd_ne pd.symm]
        exact hd1
      have hp2 : (upd H1 p (.lst [])) p = some (.lst []) := upd_same
      generalize upd H1 p (.lst []) = H2 at st2 hL2 hd2 hp2
      refine ⟨_, _, .lst (SqL.of hL2) (dp_ints ns), .lst (SqL.of hp2) .nil, shaped_ints ns, by decide +kernel, _, rfl, ?_⟩
      rw [eqv_nil]
      cases ns with
      | nil => exact ⟨[], m, none, rfl, hd2, hL2, m0, m1, hl, st2⟩
      | cons y r =>
        obtain ⟨r', y', er⟩ : ∃ r' y', y :: r = r' ++ [y'] := ⟨(y :: r).dropLast, (y :: r).getLast (List.cons_ne_nil _ _), (List.dropLast_concat_getLast _).symm⟩
        rw [er] at hL2 hl
        have hl' : r'.length + 1 ≤ 64 := by simpa using hl
        refine iteT ?_
        refine ⟨_, rfl, _, _, rfl, dg_l hd2, .inl ⟨rfl, _, SqL.of hL2⟩, L, _, .int y', rfl, rfl, hL2, by simp, ?_⟩
        have el : ((r' ++ [y']).map V.int).dropLast = r'.map V.int := by
          rw [List.map_append, List.map_singleton, List.dropLast_concat]
        rw [el]
        have hL3 : (upd H2 L (.lst (r'.map V.int))) L = some (.lst (r'.map V.int)) := upd_same
        have hd3 : (upd H2 L (.lst (r'.map V.int))) d = some (.dK (kvD L m k1)) := by
          rw [upd_ne ndL]
          exact hd2
        have st3 : ∀ b o, b ≠ d → b ≠ L → H b = some o → (upd H2 L (.lst (r'.map V.int))) b = some o := fun b o h1 h2 e => by
          rw [upd_ne h2]
          exact st2 b o h1 h2 e
        generalize upd H2 L (.lst (r'.map V.int)) = H3 at hL3 hd3 st3
        refine ⟨_, rfl, 10, 18, rfl, rfl, ⟨by decide, by decide, by decide⟩, _, _, rfl, rfl, _, rfl, ite2 (fun hy => ?_) (fun hy => ?_)⟩
        · -- the cell goes back, less a figure
          have hmx : (0 : Int) < (if n > 2 then n else 2) ∧ (if n > 2 then n else 2) < 1073741824 := by
            split <;> omega
          refine ⟨_, rfl, _, _, rfl, dg_l hd3, .inl ⟨rfl, _, SqL.of hL3⟩, _, rfl, _, rfl, _, _, rfl, _, _, rfl, rfl, hmx, L, _, _, rfl, rfl, hL3, ?_, ?_⟩
          · rw [List.length_map]
            exact small1000 (by omega)
          · refine ⟨_, rfl, .inl ⟨_, rfl, _, rfl, _, _, rfl, rfl, n0, ?_⟩⟩
            refine q _ _ (Int.emod_nonneg _ (by omega)) (Int.emod_lt_of_pos _ n0) ⟨⟨r' ++ [y' / (if n > 2 then n else 2)], m, k1, ?_, ?_, m0, m1, ?_⟩, fun b o h1 h2 e => ?_⟩
            · rw [upd_ne ndL]
              exact hd3
            · rw [upd_same, List.map_append]
              rfl
            · rw [List.length_append]
              exact hl'
            · rw [upd_ne h2]
              exact st3 b o h1 h2 e
        · -- a lesser cell is mixed in
          refine ⟨_, rfl, _, _, rfl, dg_m hd3, _, _, rfl, rfl, .inl ⟨by omega, by omega⟩, _, rfl, .inl ⟨_, rfl, _, _, rfl, rfl, (by show (0 : Int) < _; decide), _, _, rfl, rfl, _, _, rfl, rfl, .inl ⟨_, rfl, _, _, rfl, rfl, (by show (0 : Int) < _; decide), ?_⟩⟩⟩
          refine ⟨_, rfl, d, _, rfl, dp_m hd3, ?_⟩
          refine ⟨r', _, some (.int y'), rfl, upd_same, ?_, Int.emod_nonneg _ (by decide), ?_, by omega, fun b o h1 h2 e => ?_⟩
          · rw [upd_ne ndL.symm]
            exact hL3
          · exact Int.lt_trans (Int.emod_lt_of_pos _ (by decide)) (by decide)
          · rw [upd_ne h1]
            exact st3 b o h1 h2 e
    · obtain ⟨ns', m', c, rfl, hd', hL', m0', m1', hl', st'⟩ := hM
      refine ⟨_, rfl, _, _, rfl, dg_m hd', _, rfl, _, _, rfl, dg_d hd', _, _, rfl, rfl, .inl ⟨by decide, by decide⟩, _, _, rfl, rfl, .inl ⟨_, rfl, _, _, rfl, rfl, (by show (0 : Int) < _; decide), ?_⟩⟩
      refine ⟨_, rfl, _, rfl, _, _, rfl, rfl, .inl ⟨?_, ?_⟩, _, rfl, _, _, rfl, dg_d hd', _, _, rfl, rfl, .inl ⟨by decide, by decide⟩, _, _, rfl, rfl, _, _, rfl, rfl, .inl ⟨_, rfl, _, _, rfl, rfl, (by show (0 : Int) < _; decide), ?_⟩⟩
      · exact Int.lt_of_lt_of_le (by decide) (Int.emod_nonneg _ (by decide))
      · exact Int.lt_trans (Int.emod_lt_of_pos _ (by decide)) (by decide)
      refine ⟨_, rfl, _, _, rfl, rfl, .inl ⟨?_, ?_⟩, _, _, rfl, rfl, .inl ⟨_, rfl, _, _, rfl, rfl, (by show (0 : Int) < _; decide), ?_⟩⟩
      · exact Int.lt_of_lt_of_le (by decide) (Int.emod_nonneg _ (by decide))
      · exact Int.lt_trans (Int.emod_lt_of_pos _ (by decide)) (by decide)
      refine ⟨_, rfl, _, _, rfl, rfl, ⟨by decide, by decide⟩, .inl ⟨_, rfl, _, rfl, _, _, rfl, rfl, n0, ?_⟩⟩
      exact q _ _ (Int.emod_nonneg _ (by omega)) (Int.emod_lt_of_pos _ n0) ⟨⟨ns', m', k1, hd', hL', m0', m1', hl'⟩, st'⟩
/-! ### one of some -/
theorem Fr.seq {K : PySem.W.Frag} {d L a : Addr} {xs : List V} {H H' : Hp} (f : Fr d L H H') (h : DK d L H) (hS : SqL K H a xs) (hL : a ≠ L) : SqL K H' a xs := by
  obtain ⟨ns, m, k, h1, h2, _⟩ := h
  rcases hS with (e | ⟨o, e⟩) | e
  · exact .inl (.inl (f.st a _ (ne_of e h1 (by intro z; cases z)) hL e))
  · exact .inl (.inr ⟨o, f.st a _ (ne_of e h1 (by intro z; cases z)) hL e⟩)
  · exact .inr e
theorem Fr.tup {K : PySem.W.Frag} {d L a : Addr} {xs : List V} {H H' : Hp} (f : Fr d L H H') (h : DK d L H) (hS : SqT K H a xs) : SqT K H' a xs := by
  obtain ⟨ns, m, k, h1, h2, _⟩ := h
  rcases hS with (e | ⟨o, e⟩) | e
  · exact .inl (.inl (f.st a _ (ne_of e h1 (by intro z; cases z)) (ne_of e h2 (by intro z; cases z)) e))
  · exact .inl (.inr ⟨o, f.st a _ (ne_of e h1 (by intro z; cases z)) (ne_of e h2 (by intro z; cases z)) e⟩)
  · exact .inr e
def spPick (K : PySem.W.Frag) : Sp := fun vs H Q _ => ∃ (d L a : Addr) (xs : List V), vs = [.ref d, .ref a] ∧ DK d L H ∧ a ≠ L ∧ (SqL K H a xs ∨ SqT K H a xs) ∧ 0 < xs.length ∧ xs.length ≤ 1000000000 ∧
  ∀ (i : Nat) (x : V) H', xs[i]? = some x → Fr d L H H' → Q x H'
theorem ok_pick {fd fdD : FuncData} (D : Df K mg "_law_pick" s__law_pick P__law_pick fd) (T : Tb mg) (D__law_draw : Df K mg "_law_draw" s__law_draw P__law_draw fdD) : FnOk P w K mg base CX0 2 (He.fAd K ("_law_pick", none)) fd P__law_pick (spPick K) := by
  have G__law_draw : FnOk P w K mg base CX0 1 (He.fAd K ("_law_draw", none)) fdD P__law_draw spDraw := ok_draw D__law_draw T
  refine (fun_of D.F).ok sc__law_pick (fun vs H Q E h => ?_) (fun cdv A outer s H vs Q E hr h => ?_)
  · obtain ⟨d, L, a, xs, rfl, _⟩ := h
    rfl
  · obtain ⟨d, L, a, xs, rfl, hD, haL, hS, n0, n1, q⟩ := h
    refine ⟨_, (pss_one (ps_ret (pe_ix (ix_list.or ix_tup) (pv 1) (pe_call G__law_draw (hr.mono (by first | decide | omega)) (by rfl) D__law_draw.g D__law_draw.F.kp D__law_draw.b .nil pass0 (pa_cons (pv 0) (pa_cons (pe_callB call_len (by rfl) T.len (by decide +kernel) (pa_cons (pv 1) pa_nil)) pa_nil))) (fun _ _ => rfl)))), ?_⟩
    refine ⟨_, rfl, _, rfl, _, rfl, _, xs.length, rfl, (hS.elim (fun h => .inl ⟨_, h, rfl⟩) fun h => .inr ⟨_, h, rfl⟩), d, L, _, rfl, hD, by omega, by omega, fun r H' r0 r1 fr => ?_⟩
    obtain ⟨i, rfl⟩ := Int.eq_ofNat_of_zero_le r0
    have hi : i < xs.length := by omega
    rcases hS with h | h
    · exact .inl ⟨a, xs, _, xs[i], rfl, rfl, fr.seq hD h haL, atI_nat (List.getElem?_eq_getElem hi), q i _ _ (List.getElem?_eq_getElem hi) fr⟩
    · exact .inr ⟨a, xs, _, xs[i], rfl, rfl, fr.tup hD h, atI_nat (List.getElem?_eq_getElem hi), q i _ _ (List.getElem?_eq_getElem hi) fr⟩
end
end KA


set_option Elab.async false
set_option linter.all false
set_option maxRecDepth 100000
set_option maxHeartbeats 4000000
/-! An own exception class over an own class over Exception, with an __init__ of its own: its making, with a value by position or by name. -/
namespace PySem
namespace QX
open Builtin HandSPX
section
variable {M : Model} {A : Around} {E : Value → Shared → Prop} {h : Heap} {g : Array GenState} {d : Drawn} {t : Nat} {os : OsState}
variable {nm q : Str} {C N : Addr} {bs bm bmB : List Value} {hdct : Bool} {sn : List Str} {sub : List Value} {ab : Bool} {col : Option Bool} {dd : Option Addr} {k0 k1 k2 k3 k5 : Option Value} {B newId initId : String}
theorem q_check (F : ExcBaseFacts B newId initId bmB) (hT : ∀ X : String, bm.contains (.type X) = bmB.contains (.type X)) {us : List Value} {kw : List (Str × Value)} {Q : Unit → Shared → Prop}
    (hC : h.get? C = some (excClassObj nm q C N bs bm hdct sn sub ab col dd k0 k1 k2 k3 k5 newId)) (hq : Q () ⟨h, g, d, t, os⟩) : wpAny M A (checkBuiltinCall newId ⟨.ref C :: us, kw⟩) Q E ⟨h, g, d, t, os⟩ := by
  have has : (Value.ref C :: bm).contains (.type B) = true := by
    rw [List.contains_cons, hT, F.hasB]
    exact Bool.or_true _
  have ns := F.noStar
  simp only [checkBuiltinCall, F.newKind, F.newSplit, F.newRow]
  repeat (first
    | refine wpAny_loadPart_at hC ?_
    | (refine wpAny_isSubtype_exc hC ?_
       rw [has])
    | refine wpAny_staticBase_exc hC ?_
    | refine wpAny_madeBy_exc hC ?_
    | simp only [bne_self_eq_false, Bool.false_eq_true, if_false]
    | wp_step)
  exact hq
end
section
variable {prog : Program} {w : World} {A : Around} {E : Value → Shared → Prop} {R : Result → Shared → Prop} {h : Heap} {g : Array GenState} {d : Drawn} {t : Nat} {os : OsState}
variable {nm q : Str} {C N : Addr} {bs bm bmB : List Value} {hdct : Bool} {sn : List Str} {sub : List Value} {ab : Bool} {col : Option Bool} {dd : Option Addr} {k0 k1 k2 k3 k5 : Option Value} {B newId initId : String}
/-- what __new__ leaves: the tuple of the values by position, then the exception -/
def born (h : Heap) (us : List Value) (C : Addr) : Heap := (h.push (W.kdv_tup us)).push (excO C h.objs.size)
theorem born_old {us : List Value} {b : Addr} {o : Obj} (e : h.get? b = some o) : (born h us C).get? b = some o := Heap.get?_push_of_some _ (Heap.get?_push_of_some _ e)
theorem born_at {us : List Value} : (born h us C).get? (h.objs.size + 1) = some (excO C h.objs.size) := by
  unfold born
  heap_get
theorem q_new (F : ExcBaseFacts B newId initId bmB) (hT : ∀ X : String, bm.contains (.type X) = bmB.contains (.type X)) {us : List Value} {kw : List (Str × Value)}
    (hC : h.get? C = some (excClassObj nm q C N bs bm hdct sn sub ab col dd k0 k1 k2 k3 k5 newId)) (hz : us.length ≤ sizeLine)
    (hq : R (.ok (.ret (.ref (h.objs.size + 1)))) ⟨born h us C, g, d, t, os⟩) : codeAny (model prog w) A (.builtin newId ⟨.ref C :: us, kw⟩) R ⟨h, g, d, t, os⟩ := by
  have he := F.ends
  have c1 : (Value.ref C :: bm).contains (.type B) = true := by
    rw [List.contains_cons, hT, F.hasB]
    exact Bool.or_true _
  have c2 : (Value.ref C :: bm).contains (.type "AttributeError") = false := by
    rw [List.contains_cons, hT, F.noAttr]
    rfl
  have c3 : (Value.ref C :: bm).contains (.type "NameError") = false := by
    rw [List.contains_cons, hT, F.noName]
    rfl
  refine codeAny_builtinAt F.entry ?_
  unfold Builtin.«BaseException.__new__»
  refine wpAt_bind ?_
  show wpAt _ _ _ (stack >>= _) _ _ _
  refine wpAt_bind (wpAt_stack fun p lo => wpAt_of_wpAny ?_)
  wp_walk
  refine wpAt_of_wpAny ?_
  rw [F.owner]
  repeat (first
    | with_reducible refine wpAny_madeHere_exc F.canon hC ?_
    | with_reducible refine wpAny_loadPart_at hC ?_
    | (with_reducible refine wpAny_isSubtype_exc hC ?_
       first
         | rw [c1]
         | rw [c2]
         | rw [c3])
    | wp_step)
  show R _ _
  rw [Heap.size_push]
  exact hq
theorem q_tcheck {M : Model} {us : List Value} {kw : List (Str × Value)} {Q : Unit → Shared → Prop} {E : Value → Shared → Prop} (hC : h.get? C = some (excClassObj nm q C N bs bm hdct sn sub ab col dd k0 k1 k2 k3 k5 newId)) (hq : Q () ⟨h, g, d, t, os⟩) :
    wpAny M A (checkBuiltinCall "type.__call__" ⟨.ref C :: us, kw⟩) Q E ⟨h, g, d, t, os⟩ := by
  have f3 := tc_sub
  have hTy : (⟨h, g, d, t, os⟩ : Shared).TypeIs (.ref C) "type" := ⟨_, hC, rfl⟩
  simp only [checkBuiltinCall, tc_kind, tc_split]
  repeat (any_goals (first
    | assumption
    | with_reducible refine wpAny_loadPart_at hC ?_
    | with_reducible refine wpAny_onRaise ?_
    | with_reducible refine wpAny_map ?_
    | wp_step))
theorem q_call (F : ExcBaseFacts B newId initId bmB) (hT : ∀ X : String, bm.contains (.type X) = bmB.contains (.type X)) {us : List Value} {kw : List (Str × Value)} {fI : Addr}
    (hC : h.get? C = some (excClassObj nm q C N bs bm hdct sn sub ab col dd k0 k1 k2 k3 k5 newId))
    (hi : W.Looks (model prog w) h (typeLookup (.ref C) "__init__") (some (.ref fI))) (hb : ∀ self, W.Looks (model prog w) h (bindSpecial (.ref fI) self) (.ref fI, [self])) (hz : us.length ≤ sizeLine)
    (hq : codeAny (model prog w) (A.under (.builtin "type.__call__" ⟨.ref C :: us, kw⟩)) (.call (.ref fI) ⟨.ref (h.objs.size + 1) :: us, kw⟩) (W.InitBack (h.objs.size + 1) R) ⟨born h us C, g, d, t, os⟩) :
    codeAny (model prog w) A (.call (.ref C) ⟨us, kw⟩) R ⟨h, g, d, t, os⟩ := by
  have f1 := tc_lookup
  have f2 := tc_bind (.ref C)
  have hTy : (⟨h, g, d, t, os⟩ : Shared).TypeIs (.ref C) "type" := ⟨_, hC, rfl⟩
  refine codeAny_of_tree ?_
  show wpAny _ _ (callAny (.ref C) _) _ _ _
  repeat (any_goals (first
    | assumption
    | with_reducible refine wpAny_loadPart_at hC ?_
    | wp_step))
  refine ⟨rfl, ?_⟩
  refine codeAny_call_builtin_at (Code.quiet_builtin _ (by decide +kernel)) entry_typeCall (q_tcheck hC ?_)
  show wpAny (model prog w) _ (Builtin.«type.__call__» ⟨.ref C :: us, kw⟩) _ _ _
  repeat (first
    | with_reducible refine wpAny_loadPart_at hC ?_
    | with_reducible refine wpAny_madeBy_exc hC ?_
    | wp_step)
  refine codeAny_call_builtin_code (Code.quiet_builtin _ F.quiet) (q_check F hT hC ?_)
  refine q_new F hT hC hz ?_
  show wpAny _ _ _ _ _ _
  have hC1 := born_old (us := us) (C := C) hC
  have hx : (born h us C).get? (h.objs.size + 1) = some (excO C h.objs.size) := born_at
  have own : (Value.ref C :: bm).contains (.ref C) = true := by simp
  have i1 := hi.keeps fun b o e => born_old (us := us) (C := C) e
  have b1 := (hb (.ref (h.objs.size + 1))).keeps fun b o e => born_old (us := us) (C := C) e
  unfold isInstance
  repeat (first
    | with_reducible refine wpAny_loadPart_at hx ?_
    | (with_reducible refine wpAny_isSubtype_exc hC1 ?_
       rw [own])
    | wp_step)
  show wpAny _ _ (typeLookup (.ref C) _) _ _ _
  refine i1.at ?_
  refine wpAny_holding (wpAny_bind (b1.at ?_))
  refine wpAny_bind ?_
  refine wpAny_call (codeAny_mono hq fun r s' z => ?_)
  cases r with
  | error e => exact z
  | ok fl =>
    cases fl with
    | ret v =>
      obtain ⟨rfl, z⟩ := z
      exact wpAny_pure (wpAny_pure z)
    | next => exact False.elim z
    | brk => exact False.elim z
    | cont => exact False.elim z
end
/-! ### self.name = v on such an exception that has no dict yet -/
abbrev exTail : List Value := [.type "Exception", .type "BaseException", .type "object"]
theorem q_pass (C Q : Addr) (self : Value) : refuseLoop self "__setattr__" (.ref C :: .ref Q :: exTail) = pure () := by
  rw [refuseLoop_ref, refuseLoop_ref]
  exact F.store_Exception.passes self
theorem q_has (Q : Addr) (X : String) : (Value.ref Q :: exTail).contains (.type X) = exTail.contains (.type X) := by
  rw [List.contains_cons]
  rfl
section
open Builtin.ObjectAttr
variable {prog : Program} {w : World} {A : Around} {E : Value → Shared → Prop} {R : Result → Shared → Prop} {hp : Heap} {g : Array GenState} {d : Drawn} {t : Nat} {os : OsState}
theorem q_osa {K : W.Frag} {name : Str} {tk : Tok} {v : Value} {x C Q : Addr} {fv : Array Value} {cd : ClassData}
    (X : K.In hp) (hx : hp.get? x = some { cls := .ref C, data := .fields fv }) (hcd : W.clsIn K C = some cd) (hm : cd.mro = .ref C :: .ref Q :: exTail) (hh : cd.hasDict = true) (ha : W.findIn K (.ref C) name = some none)
    (hq : ∀ h' tk' dx, (∀ b o, b ≠ x → hp.get? b = some o → h'.get? b = some o) → hp.objs.size ≤ dx → dx ≠ x → h'.get? x = some { cls := .ref C, dict := some dx, data := .fields fv } → h'.Ns1 dx (fun y => if y = name then some v else none) → R (.ok (.ret .none)) ⟨h', g, d, tk', os⟩) :
    codeAny (model prog w) A (.call (.builtin "object.__setattr__") ⟨[.ref x, .str name tk, v], []⟩) R ⟨hp, g, d, t, os⟩ := by
  have I : W.InstAt hp x { cls := .ref C, data := .fields fv } C none := ⟨hx, rfl, rfl, trivial⟩
  have ob : cd.mro.contains (.type "object") = true := by
    rw [hm]
    simp
  have xs : x ≠ hp.objs.size := Nat.ne_of_lt (Heap.lt_size hx)
  have sub : W.Looks (model prog w) hp (isInstance (.ref x) (.type "object")) true := I.type.andThen (W.looks_mroIn X (by
    unfold W.mroIn
    rw [hcd, Option.bind_some, if_neg (by rw [hm]; exact Bool.false_ne_true), ob]))
  have S0 := F.store_object
  refine codeAny_call_builtin S0.slot.plain S0.entry (@W.check_slot (model prog w) _ _ ⟨hp, g, d, t, os⟩ "object.__setattr__" "object" "__setattr__" (.ref x) [.str name tk, v] [] _ S0.kind S0.split sub (S0.args (.ref x) (.str name tk) v) ?_)
  have lm : W.Looks (model prog w) hp (mroOf (.ref C)) cd.mro := (W.looks_clsIn X hcd).andThen .now
  have ls : W.Looks (model prog w) hp (storeTaker? none) none := .now
  have lc : W.Looks (model prog w) hp (classData C) cd := W.looks_clsIn X hcd
  rw [W.osa_eq, refuse_eq]
  refine wpAny_bind (wpAny_bind (I.type.at (wpAny_bind (lm.at ?_))))
  rw [hm, q_pass]
  refine wpAny_pure (wpAny_bind (I.type.at (wpAny_bind ((W.looks_findIn X ha).at (wpAny_bind (ls.at ?_))))))
  show wpAny _ _ (storeInOwnDict (.ref x) (.ref C) (.str name tk) name v false) _ _ _
  obtain ⟨nm, bs, mro, ns, qn, hd, sn, sb, ab, col, del⟩ := cd
  dsimp only at hh
  subst hh
  unfold storeInOwnDict ownDictForStores
  repeat (first
    | with_reducible refine store_in_new ?_ ?_
    | with_reducible refine wpAny_loadPart_at hx ?_
    | with_reducible refine lc.at ?_
    | wp_step)
  · exact ⟨_, #[], _, (Heap.get?_update_ne _ _ _ _ xs.symm).trans (Heap.get?_push_at rfl rfl), rfl, fun e he => absurd he (by simp), fun _ => rfl⟩
  · intro h' tk' hn' hs
    have hx1 : (hp.push { cls := .type "dict", data := .dict #[] }).get? x = some { cls := .ref C, data := .fields fv } := Heap.get?_push_of_some _ hx
    exact hq h' tk' hp.objs.size (fun b o hb ho => (hs.2 b (Nat.ne_of_lt (Heap.lt_size ho))).trans ((Heap.get?_update_ne _ _ _ _ hb).trans (Heap.get?_push_of_some _ ho))) (Nat.le_refl _) xs.symm ((hs.2 x xs).trans (Heap.get?_update_self _ hx1 rfl)) hn'
end
end QX
end PySem

set_option Elab.async false
set_option linter.all false
set_option maxRecDepth 100000
set_option maxHeartbeats 4000000
/-! Rules for such errors: the store in __init__, the making as a value, a field, raise. -/
namespace QY
open PySem PySem.Spec PyProof.Rows L2 KT
open PySem.QX (exTail q_osa q_call q_has born born_old born_at)
/-- what the written part says of such a class at C, its __init__ at fI, its field f -/
structure Qc (K : PySem.W.Frag) (C fI : Addr) (f : Str) : Prop where
  cls : ∃ nm q N bs Q sn sub ab col dd k0 k1 k2 k3 k5, K.lookup C = some (excClassObj nm q C N bs (.ref Q :: exTail) true sn sub ab col dd k0 k1 k2 k3 k5 "Exception.__new__")
  sa : PySem.W.findIn K (.ref C) "__setattr__" = some (some (.builtin "object.__setattr__"))
  no : PySem.W.findIn K (.ref C) f = some none
  iC : PySem.W.findIn K (.ref C) "__init__" = some (some (.ref fI))
  tI : PySem.W.typeIn K (.ref fI) = some (.type "function")
  kC : PySem.W.keepIn K (.ref C) = true
  exC : PySem.W.subIn K (.ref C) (.type "BaseException") = some true
  tyC : PySem.W.typeIn K (.ref C) = some (.type "type")
  ga : PySem.W.findIn K (.ref C) "__getattribute__" = some (some (.builtin "BaseException.__getattribute__"))
  gg : PySem.W.findIn K (.ref C) "__getattr__" = some none
  hd : PySem.W.hasDictIn K C = true
section
variable {X : Cx} {pins : List (Addr × Obj)} {σ : L2.St} {H : Hp} {s : Shared} {a C dx fI : Addr} {f : Str} {y : V} {u : Value} {Q : Unit → Shared → Prop} {E : Value → Shared → Prop} {A : Around}
/-- self.f = y on a new one -/
theorem qst_new (T : Qc X.K C fI f) (I : Inv X pins σ H s) (e : H a = some (exo a C none)) (ry : RelV y u)
    (h : ∀ dx s', H dx = none → dx ≠ a → Inv X pins σ (upd (upd H dx (exd dx [(f, y)])) a (exo a C (some dx))) s' → Q () s') : wpAny (model X.prog X.w) A (setAttr (.ref a) f u) Q E s := by
  obtain ⟨nm, q, N, bs, Qa, sn, sub, ab, col, dd, k0, k1, k2, k3, k5, hC⟩ := T.cls
  have hcl : PySem.W.clsIn X.K C = some { name := nm, bases := bs, mro := .ref C :: .ref Qa :: exTail, ns := N, qualname := q, hasDict := true, slotNames := sn, subclasses := sub, abstract := ab, collection := col, hasDel := false } := by
    unfold PySem.W.clsIn
    rw [hC] <;> rfl
  obtain ⟨t1, ho⟩ := exo_at I.hok e
  obtain ⟨hp, g, d, t, os⟩ := s
  refine PySem.W.set_plain I.kIn (ox := { cls := .ref C, dict := none, data := .fields #[.ref t1, .none, .none, .none, .bool false, .none] }) (od := none) ⟨ho, rfl, rfl, trivial⟩ T.sa ?_
  refine q_osa I.kIn ho hcl rfl rfl T.no (fun h' tk' dx k dn dne hx hn => ?_)
  have fdx : H dx = none := I.hok.fresh dn
  have neD : ∀ {b : Addr} {o : Obj}, hp.get? b = some o → b ≠ dx := fun {b o} q => Nat.ne_of_lt (Nat.lt_of_lt_of_le (Heap.lt_size q) dn)
  have neA : ∀ {b : Addr}, H b = none → b ≠ a := fun {b} n z => by
    rw [z, e] at n
    cases n
  have far : ∀ {b : Addr} {o : HO}, H b = some o → o ≠ exo a C none → (upd (upd H dx (exd dx [(f, y)])) a (exo a C (some dx))) b = some o := fun {b o} q n => by
    rw [upd_ne (fun z => n (by rw [z, e] at q; exact (Option.some.inj q).symm)), upd_ne (ne_of_none q fdx)]
    exact q
  have U : Un X.fs [] H (upd (upd H dx (exd dx [(f, y)])) a (exo a C (some dx))) hp h' :=
    ⟨fun b o q n _ _ => k b o (neA n) q, fun b o q n _ _ => ⟨o.slots, k b o (neA n) q⟩, fun b o q n _ => by
      rw [upd_ne (neA n), upd_ne (neD q)]
      exact n, fun b o q _ => by
      by_cases hb : b = a
      · exact ⟨_, by rw [hb]; exact hx⟩
      · exact ⟨o, k b o hb q⟩, fun b xs q => far q (fun z => exo_tup z.symm), fun b o v q => far q (fun z => exo_frz z.symm), fun b ps q => ⟨#[], by rw [far q (fun z => exo_tbl z.symm)]; simp⟩⟩
  refine h dx _ fdx dne (I.un (t' := tk') U fun b o q => ?_)
  by_cases hb : b = a
  · subst hb
    rw [upd_same] at q
    cases q
    exact exo_ok hx
  · rw [upd_ne hb] at q
    by_cases hd : b = dx
    · subst hd
      rw [upd_same] at q
      cases q
      exact exd_ok hn (relO_put (fs := []) ry fun g => True.intro)
    · rw [upd_ne hd] at q
      exact (I.hok b o q).stay (fun c v hc z => k c v (hc.elim (fun hc => by rw [hc]; exact hb) fun hc => at_ne e hc exo_own) z) (fun c hc => far hc fun z => exo_own z.symm) (fun c xs hc => far hc fun z => exo_tup z.symm)
end
/-- self.f = e in such an __init__ -/
def tQst (K : PySem.W.Frag) (f : Str) (to te : TE) : TS := fun D σ H => te σ H fun y H1 => to σ H1 fun x H2 => ∃ a C fI : Addr, x = .ref a ∧ Qc K C fI f ∧ H2 a = some (exo a C none) ∧ ∀ dx, H2 dx = none → dx ≠ a → D.nx σ (upd (upd H2 dx (exd dx [(f, y)])) a (exo a C (some dx)))
section
variable {X : Cx} {o e : Expr} {es : List Expr} {to te : TE} {ta : TA} {f : Str} {p p' p1 p2 pos : Pos} {kws : List Keyword}
theorem ps_qst (ho : PE X o to) (he : PE X e te) (hs : swapsWith e (some (.Attribute o f p')) pos.line X.env = pure false := by rfl) : PS X (.Assign [.Attribute o f p'] e pos) (tQst X.K f to te) := by
  refine ⟨fun pins s σ H D I h => ?_⟩
  refine plainObj_wpAny_Assign_Attribute (thn (he.run pins s σ H _ I h) fun v s1 ⟨y, H1, I1, r1, q1⟩ => thn (ho.run pins s1 σ H1 _ I1 q1) fun u s2 ⟨x, H2, I2, r2, a, C, fI, ex, T, ea, q⟩ => ?_) hs
  subst ex
  obtain rfl : u = Value.ref a := r2
  exact qst_new T I2 ea r1 fun dx s' n ne J => ⟨σ, _, J, q dx n ne⟩
/-- C(e, ..) as a value -/
def tQmk (C : Addr) (sp : Sp) (ta : TA) : TE := fun σ H Q => ta σ H fun vs H1 => vs.length ≤ 1000 ∧ ∀ a, H1 a = none → sp (.ref a :: vs) (upd H1 a (exo a C none)) (fun v H2 => v = .non ∧ Q (.ref a) H2) (fun _ _ _ => False)
theorem q_make {CX : CXT} {C fI : Addr} {k : Nat} {fd : FuncData} {ps : List Str} {sp : Sp} {f : Str} {pins : List (Addr × Obj)} {σ : L2.St} {H1 : Hp} {s1 : Shared} {us : List Value} {kw : List (Str × Value)} {zs : List V} {ws : List Value} {Q : VK}
    (T : Qc X.K C fI f) (F1 : FnOk X.prog X.w X.K X.mg X.base CX k fI fd ps sp) (hr : Room (k + 1) X.A) (hx : Passes CX X (fun _ _ _ => False)) (I1 : Inv X pins σ H1 s1) (hz : us.length ≤ sizeLine)
    (hb : ∀ (s : Shared) (a : Addr), X.K.In s.heap → (Value.ref a :: ws).length = ps.length → BindsTo s fd ⟨.ref a :: us, kw⟩ (ps.zip (.ref a :: ws))) (r1 : Vals zs ws)
    (q1 : ∀ a, H1 a = none → sp (.ref a :: zs) (upd H1 a (exo a C none)) (fun v H2 => v = .non ∧ Q (.ref a) H2) (fun _ _ _ => False)) :
    wpAny (model X.prog X.w) X.A (call (.ref C) us kw) (EP X pins σ Q) X.xe s1 := by
  obtain ⟨nm, q, N, bs, Qa, sn, sub, ab, col, dd, k0, k1, k2, k3, k5, hC⟩ := T.cls
  obtain ⟨hp, g, dr, tk, os⟩ := s1
  have hsz : hp.objs.size ≤ hp.objs.size + 1 := Nat.le_succ _
  have hn : H1 (hp.objs.size + 1) = none := I1.hok.fresh hsz
  have hq := q1 (hp.objs.size + 1) hn
  have I2 : Inv X pins σ (upd H1 (hp.objs.size + 1) (exo (hp.objs.size + 1) C none)) ⟨born hp us C, g, dr, tk, os⟩ :=
    I1.laid (t' := tk) (a := hp.objs.size + 1) (o := exo (hp.objs.size + 1) C none) (h' := born hp us C) (fun b o e => born_old e) hsz (exo_ok born_at)
  have r2 : Vals (V.ref (hp.objs.size + 1) :: zs) (Value.ref (hp.objs.size + 1) :: ws) := .cons rfl r1
  have hl : (Value.ref (hp.objs.size + 1) :: ws).length = ps.length := by
    have e := r2.length
    rw [F1.len _ _ _ _ hq] at e
    exact e.symm
  refine wpAny_call (q_call PySem.F.excBase_Exception (q_has Qa) (I1.kIn _ _ hC) (PySem.W.looks_findIn I1.kIn T.iC) (fun self => PySem.W.bind_fn I1.kIn self T.tI) hz
    (codeAny_mono (F1.run _ X.stack _ _ ⟨Value.ref (hp.objs.size + 1) :: us, kw⟩ (Value.ref (hp.objs.size + 1) :: ws) _ _ (fun _ _ _ => False) (hr.make C us kw) (I2.env0.make C us kw) (hb _ _ I2.kIn hl) r2 hq) fun r s' hq' => ?_))
  cases r with
  | error er => exact hx pins σ _ _ er s' I2 hq'
  | ok fl =>
    cases fl with
    | ret u =>
      obtain ⟨v, H2, J, rv, rfl, q2⟩ := I2.after hq'
      cases rv
      exact ⟨rfl, .ref (hp.objs.size + 1), _, J, rfl, q2⟩
    | next => exact False.elim hq'
    | brk => exact False.elim hq'
    | cont => exact False.elim hq'
/-- C(e), by position -/
theorem pe_qmk {CX : CXT} {x : Str} {C fI : Addr} {k : Nat} {fd : FuncData} {ps : List Str} {sp : Sp} {n : Str} (T : Qc X.K C fI n) (F1 : FnOk X.prog X.w X.K X.mg X.base CX k fI fd ps sp) (hr : Room (k + 1) X.A) (hb : Binds X.K fd ps []) (hx : Passes CX X (fun _ _ _ => False)) (hg : Gl X x) (hm : X.mg x = some (.ref C)) (ha : PA X (e :: es) ta)
    (hdb : (x == ("__debug__" : Str)) = false := by decide) (he : starEach (e :: es) X.env = (false, eval e X.env) :: starEach es X.env := by rfl) (hpl : (backTo pos (starEach es X.env)).any (·.1) = false := by rfl) :
    PE X (.Call (.Name x p) (e :: es) [] pos) (tQmk C sp ta) := by
  refine ⟨fun pins s σ H Q I h => ?_⟩
  refine wpAny_Call_Name_kw (ld_glob I hg hm ?_ hdb)
  refine PySem.W.callWith_K (h₀ := X.base) I.ok.mod.kin T.kC (thn (ha.run pos pins s σ H _ I h) fun us s1 ⟨vs, H1, I1, r1, hz, q1⟩ => ⟨I1.kIn, ?_⟩) he hpl
  show wpAny _ _ (call (.ref C) us) _ _ _
  refine q_make (kw := []) (ws := us) T F1 hr hx I1 (by rw [← Paired.length r1, sizeLine_eq]; omega) (fun s a kI hl => by
    have z := hb s (.ref a :: us) kI (by rw [List.append_nil]; exact hl)
    rw [List.append_nil] at z
    exact z) r1 q1
/-- C(n=e), by name -/
structure KB1 (fd : FuncData) (ps ks : List Str) : Prop where
  to : ∀ (s : Shared) (a : Addr) (ws : List Value), (Value.ref a :: ws).length = ps.length → BindsTo s fd ⟨[.ref a], ks.zip ws⟩ (ps.zip (.ref a :: ws))
theorem pe_qmkK {CX : CXT} {x : Str} {C fI : Addr} {k : Nat} {fd : FuncData} {ps ks : List Str} {sp : Sp} {n : Str} (T : Qc X.K C fI n) (F1 : FnOk X.prog X.w X.K X.mg X.base CX k fI fd ps sp) (hr : Room (k + 1) X.A) (hb : KB1 fd ps ks) (hx : Passes CX X (fun _ _ _ => False)) (hg : Gl X x) (hm : X.mg x = some (.ref C)) (hkw : PK X kws ta)
    (hall : (backToKw pos (keywordEach kws X.env)).all (·.1.isSome) = true := by rfl) (hks : (backToKw pos (keywordEach kws X.env)).filterMap (·.1) = ks := by rfl)
    (hdb : (x == ("__debug__" : Str)) = false := by decide) (hpl : ((backTo pos (starEach [] X.env)).any (·.1) || (backToKw pos (keywordEach kws X.env)).any (·.1.isNone)) = false := by rfl) :
    PE X (.Call (.Name x p) [] kws pos) (tQmk C sp ta) := by
  refine ⟨fun pins s σ H Q I h => ?_⟩
  refine wpAny_Call_Name_kw (ld_glob I hg hm ?_ hdb)
  refine PySem.W.callWith_KW0 (h₀ := X.base) I.ok.mod.kin T.kC hall ?_ hpl
  refine thn (hkw.run pos pins s σ H _ I h) fun ws s2 ⟨zs, H2, I2, rz, hz, q2⟩ => ⟨I2.kIn, ?_⟩
  rw [hks]
  exact q_make (us := []) (kw := ks.zip ws) (ws := ws) T F1 hr hx I2 (Nat.zero_le _) (fun s a _ hl => hb.to s a ws hl) rz q2
end
end QY

set_option Elab.async false
set_option linter.all false
set_option maxRecDepth 100000
set_option maxHeartbeats 4000000
/-! Such an error as a value: its field, isinstance; raised. -/
namespace QZ
open PySem PySem.Spec PyProof.Rows L2 KT QY
/-- at a: an exception of the class at C, its dict at d; what else it holds is not told -/
def exq (a C : Addr) (d : Option Addr) : HO := .ext fun h => ∃ oe : Obj, h.get? a = some oe ∧ Zc (.ref C) d oe ∧ ∃ vs, oe.data = .fields vs
/-- an error stands at a: of the class at C, its field f holds v -/
def Xo (H : Hp) (a C : Addr) (f : Str) (v : V) : Prop := ∃ (dx : Addr) (fs : List (Str × V)), (H a = some (exo a C (some dx)) ∨ H a = some (exq a C (some dx))) ∧ (H dx = some (exd dx fs) ∨ H dx = some (.xd fs)) ∧ fs.lookup f = some v
theorem Xo.same {H H' : Hp} {a C : Addr} {f : Str} {v : V} (s : Same H H') (h : Xo H a C f v) : Xo H' a C f v := by
  obtain ⟨dx, fs, h1, h2, h3⟩ := h
  exact ⟨dx, fs, h1.imp (s _ _) (s _ _), h2.imp (s _ _) (s _ _), h3⟩
section
variable {X : Cx} {pins : List (Addr × Obj)} {σ : L2.St} {H : Hp} {s : Shared} {a C fI : Addr} {f : Str} {v : V}
theorem Xo.inst (I : Inv X pins σ H s) (h : Xo H a C f v) : ∃ (ox : Obj) (od : Obj) (u : Value), PySem.W.InstAt s.heap a ox C (some od) ∧ PySem.W.lookIn f od = some (some u) ∧ RelV v u := by
  obtain ⟨dx, fs, h1, h2, h3⟩ := h
  have hx : ∃ oe : Obj, s.heap.get? a = some oe ∧ Zc (.ref C) (some dx) oe ∧ ∃ vs, oe.data = .fields vs := by
    rcases h1 with h1 | h1
    · obtain ⟨t1, e⟩ := exo_at I.hok h1
      exact ⟨_, e, ⟨rfl, rfl⟩, _, rfl⟩
    · have z : ObjOk X.prog X.w H s.heap a (.ext fun h => ∃ oe : Obj, h.get? a = some oe ∧ Zc (.ref C) (some dx) oe ∧ ∃ vs, oe.data = .fields vs) := I.hok a _ h1
      exact z.1
  have hd : ∃ mA, s.heap.Ns1 dx mA ∧ ∀ f, RelO (fs.lookup f) (mA f) := by
    rcases h2 with h2 | h2
    · exact exd_at I.hok h2
    · have z : ObjOk X.prog X.w H s.heap dx (.xd fs) := I.hok dx _ h2
      exact z
  obtain ⟨oe, e, hz, vs, hv⟩ := hx
  obtain ⟨mA, hns, hr⟩ := hd
  obtain ⟨od, ho, hl⟩ := lookIn_ns hns
  obtain ⟨u, hu, ru⟩ := RelO.some_of (v := v) (o := mA f) (by rw [← h3]; exact hr f)
  refine ⟨oe, od, u, ⟨e, hz.1, by unfold PySem.W.notCls; rw [hv] <;> rfl, by rw [hz.2]; exact ho⟩, by rw [hl, hu], ru⟩
end
/-- e.f -/
def tQf (K : PySem.W.Frag) (f : Str) (te : TE) : TE := fun σ H Q => te σ H fun x H1 => ∃ (a C fI : Addr) (v : V), x = .ref a ∧ Qc K C fI f ∧ Xo H1 a C f v ∧ Q v H1
theorem pe_qf {X : Cx} {e : Expr} {te : TE} {pos : Pos} {n : Str} (he : PE X e te) (hb : attributeBase e n X.env (eval e X.env) = eval e X.env := by rfl) : PE X (.Attribute e n pos) (tQf X.K n te) := by
  refine ⟨fun pins s σ H Q I h => ?_⟩
  refine attr_of hb (thn (he.run pins s σ H _ I h) fun u s1 ⟨x, H1, I1, rx, a, C, fI, v, ex, T, xo, q⟩ => ?_)
  subst ex
  obtain rfl : u = Value.ref a := rx
  obtain ⟨ox, od, u, J, hl, ru⟩ := xo.inst I1
  exact HandSPX.exc_get I1.kIn J T.ga T.gg T.exC (PySem.W.findObj_own T.hd T.no rfl hl) (handed_of ru) ⟨v, H1, I1.tok _, ru, q⟩
/-- what isinstance asks of the class besides -/
structure Qi (K : PySem.W.Frag) (C : Addr) : Prop where
  ha : PySem.W.findIn K (.ref C) "__class__" = some (some (.builtin "object.__class__"))
  hn : PySem.W.specialIn K (.builtin "object.__class__") "__get__" = some (some (.builtin "getset_descriptor.__get__"))
  ht : PySem.W.takesIn K (.builtin "object.__class__") = some true
  hm : PySem.W.mroIn K C (.type "object") = some true
theorem kit_q {K : PySem.W.Frag} {a C fI : Addr} {f : Str} {ox : Obj} {od : Option Obj} (T : Qc K C fI f) (U : Qi K C) : PySem.W.KitX K (.ref a) (.ref C) (fun h => PySem.W.InstAt h a ox C od) := by
  refine PySem.W.kitx_exc ?_ T.ga T.gg T.exC U.ha U.hn U.ht U.hm
  have z := T.hd
  obtain ⟨cd, hc, _⟩ := PySem.W.any_some z
  rw [hc]
  rfl
def rIsQ (K : PySem.W.Frag) : List V → Hp → VK → Prop := fun xs H Q => ∃ (a C fI : Addr) (f : Str) (v c : V) (cv : Value) (b : Bool), xs = [.ref a, c] ∧ Xo H a C f v ∧ Qc K C fI f ∧ Qi K C ∧ ClsV c cv ∧ PySem.W.kitOne K (.ref C) cv = some b ∧ Q (.bl b) H
theorem call_isQ {X : Cx} : CallR X (.builtin "isinstance") (rIsQ X.K) := by
  intro pins s σ H xs us Q I r h
  obtain ⟨a, C, fI, f, v, c, cv, b, rfl, xo, T, U, k, e, q⟩ := h
  obtain ⟨u1, u2, rfl, r1, r2⟩ := vals2 r
  have e2 := k.eq r2
  subst e2
  obtain rfl : u1 = Value.ref a := r1
  obtain ⟨ox, od, u, J, hl, ru⟩ := xo.inst I
  exact PySem.W.kia_one (kit_q T U) I.kIn J e (fun z => nomatch z) fun tk => ⟨.bl b, H, I.kept (t' := tk) fun _ _ z => z, rfl, q⟩
def rIsQT (K : PySem.W.Frag) : List V → Hp → VK → Prop := fun xs H Q => ∃ (a C fI : Addr) (f : Str) (v : V) (tp : Addr) (cs : List V) (us : List Value) (b : Bool), xs = [.ref a, .ref tp] ∧ Xo H a C f v ∧ Qc K C fI f ∧ Qi K C ∧ H tp = some (.tup cs) ∧ Paired ClsV cs us ∧ PySem.W.kitAny K (.ref C) us = some b ∧ Q (.bl b) H
theorem call_isQT {X : Cx} : CallR X (.builtin "isinstance") (rIsQT X.K) := by
  intro pins s σ H xs us Q I r h
  obtain ⟨a, C, fI, f, v, tp, cs, ws, b, rfl, xo, T, U, hT, k, e, q⟩ := h
  obtain ⟨u1, u2, rfl, r1, r2⟩ := vals2 r
  cases (show u2 = Value.ref tp from r2)
  obtain rfl : u1 = Value.ref a := r1
  obtain ⟨ox, od, u, J, hl, ru⟩ := xo.inst I
  obtain ⟨_, its, rv, o, h1, h2, n, h3⟩ := (show ObjOk X.prog X.w H s.heap tp (.tup cs) from I.hok tp _ hT)
  have e3 := ClsV.all k rv
  subst e3
  obtain ⟨oc, oz, dt, sl⟩ := o
  dsimp only at h2 h3
  subst h2 h3
  exact PySem.W.kia_tup (kit_q T U) I.kIn J h1 e (fun z => nomatch z) fun tk => ⟨.bl b, H, I.kept (t' := tk) fun _ _ z => z, rfl, q⟩
/-- raise of what makes such an error -/
theorem pmk_q {X : Cx} {e : Expr} {te : TE} (hx : X.ex = []) (he : PE X e te) :
    PMk X e (fun σ H Q => te σ H fun x H1 => ∃ (a C fI d : Addr) (f : Str) (fs : List (Str × V)), x = .ref a ∧ Qc X.K C fI f ∧ H1 a = some (exo a C (some d)) ∧ H1 d = some (exd d fs) ∧ Fr0 X.H_0 a ∧ Q (.ref C) (some d) (upd (delH H1 a) d (.xd fs))) := by
  intro pins s σ H Q I h
  refine wpAny_mono (he.run pins s σ H _ I h) (fun u s1 hu => ?_) fun _ _ x => x
  obtain ⟨v, H1, I1, r1, a, C, fI, d, f, fs, rfl, T, ha, hd, h0, q⟩ := hu
  cases r1
  obtain ⟨t1, ho⟩ := exo_at I1.hok ha
  obtain ⟨mA, hns, rel⟩ := exd_at I1.hok hd
  have hda : d ≠ a := fun z => by
    obtain ⟨o, es, ep, e1, e2, _⟩ := hns
    rw [z, ho] at e1
    have z2 := Option.some.inj e1
    subst z2
    cases e2
  obtain ⟨G, gs, ga, J⟩ := I1.untrack (φ := fun h => ∃ t1 : Addr, h.get? a = some ({ cls := .ref C, dict := some d, data := .fields #[.ref t1, .none, .none, .none, .bool false, .none] } : Obj)) ha h0 hx
  have hd2 : delH H1 a d = some (exd d fs) := by
    rw [delH_ne hda]
    exact hd
  obtain ⟨mB, hn2, rel2⟩ := exd_at J.hok hd2
  have hg : ∃ o, G.get? d = some o := by
    obtain ⟨o, _, _, e, _⟩ := hn2
    exact ⟨o, e⟩
  have J2 := J.write (x := d) (e := d) (o := .xd fs) (h' := G) (t' := s1.toks) (by rw [hd2]; exact True.intro) (.inl rfl) (fun _ _ _ e => e) hg ⟨mB, hn2, rel2⟩
  exact ⟨a, _, _, _, _, .ref C, some d, rfl, J2, gs, ga, ho, ⟨rfl, rfl⟩, rfl, rfl, by rw [upd_ne hda.symm, delH_same], rfl, I1.bare, raises_own T.exC T.tyC, q⟩
end QZ

set_option Elab.async false
set_option linter.all false
set_option maxRecDepth 100000
set_option maxHeartbeats 4000000
/-! A def whose promise holds under a handled exception too: its body's rules ask no calm. -/
namespace QH
open PySem PySem.Spec PyProof.Rows L2 KT
open L2H (RoomH)
/-- the context of such a body -/
def cxQ (CX : CXT) (P : Program) (w : World) (K : PySem.W.Frag) (mg : Str → Option Value) (base : Heap) (N : List Str) (qual : Str) (scope : Scope) (f : Addr) (cd : Value) (A : Around) (outer : List Env) (s : Shared) (H : Hp) (E : XK) : Cx :=
  { cxOf CX P w K mg base N qual scope f cd A outer s H E with calm := false }
section
variable {CX : CXT} {P : Program} {w : World} {K : PySem.W.Frag} {mg : Str → Option Value} {base : Heap} {N ps : List Str} {qual : Str} {scope : Scope} {f : Addr} {cd : Value} {A : Around} {outer : List Env} {s s1 : Shared} {H : Hp} {E : XK} {us : List Value} {vs : List V}
theorem startQ (S : FnScope N ps scope) (e0 : Env0 P w K mg base A outer s H) (hl : vs.length = ps.length) (r : Vals vs us)
    (x : InCallC s s.heap.objs.size (bindL (envOfC qual scope s.heap.objs.size f cd).kindOf (ps.zip us) fun _ => none) (cellsFrom (s.heap.objs.size + 1) scope.names []) (bindC (envOfC qual scope s.heap.objs.size f cd).kindOf (ps.zip us) fun _ => none) s1) :
    Inv (cxQ CX P w K mg base N qual scope f cd A outer s H E) [] (L2.start N vs) H s1 := by
  have e1 : Env0 P w K mg base { A with handled := none } outer s H := ⟨e0.frames, e0.mod, e0.bs, e0.bsz, e0.funs, e0.frf, e0.hok, e0.bare⟩
  have I := L2.inv_start (CX := CX) (E := E) (A := { A with handled := none }) S rfl e1 hl r x
  have k := I.ok
  exact ⟨⟨k.mod, k.kind, k.glob, k.blt, k.above, k.inj, k.has, k.cab, (fun z => Bool.noConfusion (show false = true from z)), Around.frames_deeper e0.frames, k.stk, k.exf, k.bs, k.bsz, k.noex, k.exfs, k.funs, k.frf⟩,
    I.os, I.bare, I.base, I.loc, I.cell, I.free, I.freeC, I.pin, I.hok, I.len⟩
end
structure FnQ (P : Program) (w : World) (K : PySem.W.Frag) (mg : Str → Option Value) (base : Heap) (k : Nat) (f : Addr) (fd : FuncData) (ps : List Str) (sp : Sp) : Prop where
  len : ∀ vs H Q E, sp vs H Q E → vs.length = ps.length
  run : ∀ (A : Around) (outer : List Env) (s : Shared) (H : Hp) (args : Args) (us : List Value) (vs : List V) (Q : VK), RoomH k A → Env0 P w K mg base A outer s H → BindsTo s fd args (ps.zip us) → Vals vs us → sp vs H Q E0 →
    codeAny (model P w) A (.call (.ref f) args) (CR CX0 outer P w H s Q E0) s
section
variable {P : Program} {w : World} {K : PySem.W.Frag} {mg : Str → Option Value} {base : Heap} {k : Nat} {f : Addr} {x qual : Str} {st : Stmt} {fd : FuncData} {N ps : List Str} {sp : Sp}
theorem okQ (F : Fun K x qual st f fd) (S : FnScope N ps (defScope st)) (len : ∀ vs H Q E, sp vs H Q E → vs.length = ps.length)
    (body : ∀ (cdv : Value) (A : Around) (outer : List Env) (s : Shared) (H : Hp) (vs : List V) (Q : VK), RoomH k (A.deeper (envOfC qual (defScope st) s.heap.objs.size f cdv)) → sp vs H Q E0 →
      ∃ t, PSs (cxQ CX0 P w K mg base N qual (defScope st) f cdv A outer s H E0) (defBody st) t ∧ t { nx := fun _ H' => Q .non H', rt := Q } (L2.start N vs) H) : FnQ P w K mg base (k + 1) f fd ps sp := by
  obtain ⟨oc, od, kV, doc, pm, an, cdv, ct, osl, e, l, c⟩ := F.ex
  subst e
  refine ⟨len, fun A outer s H args us vs Q hr e0 hb r hsp => ?_⟩
  have hl := len _ _ _ _ hsp
  have inK : K.In s.heap := e0.mod.kin.keeps fun b o e => (e0.bs b o e).1
  have kinds : ∀ y ∈ ps.zip us, (defScope st).names.lookup y.1 = some .local ∨ ((defScope st).names.lookup y.1 = some .cell ∧ ((cellsFrom (s.heap.objs.size + 1) (defScope st).names []).lookup y.1).isSome = true) := fun ⟨n, v⟩ hy =>
    (S.par n (List.of_mem_zip hy).1).imp id fun q => ⟨q, PySem.W.cellsFrom_some _ _ _ (.inl q)⟩
  refine codeAny_call_function hr.depth (inK _ _ l) rfl S.co S.gen rfl (PySem.W.codeRec_of inK c) (hb _ _ _ _ ?_)
  refine wpAny_newFunctionEnv_cells S.kind kinds fun env he s1 x => ?_
  subst he
  refine ⟨(e0.mod.nolimit.keeps fun b o e => (e0.bs b o e).1).keeps x.toInCall.keep, codeAny_func ?_⟩
  obtain ⟨t, ht, hq⟩ := body cdv A outer s H vs Q (hr.deeper _) hsp
  have I : Inv (cxQ CX0 P w K mg base N qual (defScope st) f cdv A outer s H E0) [] (L2.start N vs) H s1 := startQ S e0 hl r x
  have fin : ∀ {σ' : L2.St} {s' : Shared} {H' : Hp} {v : V} {u : Value}, Inv (cxQ CX0 P w K mg base N qual (defScope st) f cdv A outer s H E0) [] σ' H' s' → RelV v u → Q v H' → CE outer P w H s Q u s' :=
    fun {σ' s' H' v u} J rv q => ⟨v, H', J.os, J.bare, J.base, J.hok, rv, q⟩
  refine wpAny_mono (ht.run [] s1 (L2.start N vs) H _ I hq) (fun fl s' hs => ?_) fun e s' hs => hs
  match fl, hs with
  | .ret u, ⟨v, σ', H', J, rv, q⟩ => exact fin J rv q
  | .next, ⟨σ', H', J, q⟩ => exact fin (v := V.non) (u := Value.none) J rfl q
  | .brk, ⟨_, _, _, q⟩ => exact q.elim
  | .cont, ⟨_, _, _, q⟩ => exact q.elim
end
section
variable {X : Cx} {k : Nat} {f : Addr} {fd : FuncData} {ps : List Str} {sp : Sp} {x : Str} {q pos : Pos} {e : Expr} {es : List Expr} {t : TA}
theorem pe_callQ (F : FnQ X.prog X.w X.K X.mg X.base k f fd ps sp) (hr : RoomH k X.A) (hg : Gl X x) (hm : X.mg x = some (.ref f)) (hk : PySem.W.keepIn X.K (.ref f) = true) (hb : L2.Binds X.K fd ps [])
    (ha : PA X (e :: es) t) (hdb : (x == ("__debug__" : Str)) = false := by decide) (he : starEach (e :: es) X.env = (false, eval e X.env) :: starEach es X.env := by rfl) (hpl : (backTo pos (starEach es X.env)).any (·.1) = false := by rfl) :
    PE X (.Call (.Name x q) (e :: es) [] pos) (fun σ H Q => t σ H fun vs H1 => sp vs H1 Q E0) := by
  refine ⟨fun pins s σ H Q I h => ?_⟩
  refine wpAny_Call_Name_kw (ld_glob I hg hm ?_ hdb)
  refine PySem.W.callWith_K (h₀ := X.base) I.ok.mod.kin hk (thn (ha.run pos pins s σ H _ I h) fun us s1 ⟨vs, H1, I1, r, q1⟩ => ⟨I1.kIn, ?_⟩) he hpl
  have hl : us.length = ps.length := by
    rw [← r.length]
    exact F.len _ _ _ _ q1
  have b := hb s1 us I1.kIn (by rw [List.append_nil]; exact hl)
  rw [List.append_nil] at b
  refine wpAny_call (codeAny_mono (F.run X.A X.stack s1 H1 ⟨us, []⟩ us vs Q hr I1.env0 b r q1) fun r s' hq => ?_)
  match r, hq with
  | .error e, hq => exact pass0 pins σ H1 s1 e s' I1 hq
  | .ok (.ret u), hq => exact I1.after hq
  | .ok .next, hq => exact False.elim hq
  | .ok .brk, hq => exact False.elim hq
  | .ok .cont, hq => exact False.elim hq
end
end QH

set_option Elab.async false
set_option linter.all false
set_option maxRecDepth 100000
set_option maxHeartbeats 4000000
/-! The class facts, as one Bool of the written part. -/
namespace QB
open PySem PySem.Spec PyProof.Rows L2 KT QY QZ
open PySem.QX (exTail)
open He (ga ma eqO eqO_ok)
variable {K : PySem.W.Frag}
def qclsB (K : PySem.W.Frag) (C Q : Addr) : Bool := match K.lookup C with
  | some ⟨.type T, _, .cls cd, sl⟩ => decide (T = "type") && (match sl.toList with
    | [_, _, _, _, some (.builtin n), _] => decide (n = "Exception.__new__") && (decide (cd.mro = .ref C :: .ref Q :: exTail) && (cd.hasDict && !cd.hasDel))
    | _ => false)
  | _ => false
theorem and2 {a b : Bool} (h : (a && b) = true) : a = true ∧ b = true := (Bool.and_eq_true _ _).mp h
theorem qclsB_ok {C Q : Addr} (h : qclsB K C Q = true) :
    ∃ nm q N bs Q sn sub ab col dd k0 k1 k2 k3 k5, K.lookup C = some (excClassObj nm q C N bs (.ref Q :: exTail) true sn sub ab col dd k0 k1 k2 k3 k5 "Exception.__new__") := by
  unfold qclsB at h
  split at h
  · rename_i T dd cd sl e
    obtain ⟨h1, h2⟩ := and2 h
    have eT := of_decide_eq_true h1
    split at h2
    · rename_i k0 k1 k2 k3 n k5 es
      obtain ⟨g1, g2⟩ := and2 h2
      obtain ⟨g3, g4⟩ := and2 g2
      obtain ⟨g5, g6⟩ := and2 g4
      have en := of_decide_eq_true g1
      have em := of_decide_eq_true g3
      obtain ⟨sl⟩ := sl
      have es2 : sl = [k0, k1, k2, k3, some (.builtin n), k5] := es
      subst eT en es2
      obtain ⟨a1, a2, a3, a4, a5, a6, a7, a8, a9, a10, a11⟩ := cd
      dsimp only at em g5 g6
      have g7 : a11 = false := by
        cases a11
        · rfl
        · cases g6
      subst em g5 g7
      exact ⟨_, _, _, _, Q, _, _, _, _, _, _, _, _, _, _, e⟩
    · cases h2
  · cases h
def qB (K : PySem.W.Frag) (x f : Str) : Bool :=
  qclsB K (ga K x) (ga K "QuickError") && (eqO (PySem.W.findIn K (.ref (ga K x)) "__setattr__") (some (some (.builtin "object.__setattr__"))) && (eqO (PySem.W.findIn K (.ref (ga K x)) f) (some none) &&
  (eqO (PySem.W.findIn K (.ref (ga K x)) "__init__") (some (some (.ref (ma K (ga K x) "__init__")))) && (decide (PySem.W.typeIn K (.ref (ma K (ga K x) "__init__")) = some (.type "function")) && (PySem.W.keepIn K (.ref (ga K x)) &&
  (decide (PySem.W.subIn K (.ref (ga K x)) (.type "BaseException") = some true) && (decide (PySem.W.typeIn K (.ref (ga K x)) = some (.type "type")) && (eqO (PySem.W.findIn K (.ref (ga K x)) "__getattribute__") (some (some (.builtin "BaseException.__getattribute__"))) &&
  (eqO (PySem.W.findIn K (.ref (ga K x)) "__getattr__") (some none) && (PySem.W.hasDictIn K (ga K x) && (eqO (PySem.W.findIn K (.ref (ga K x)) "__class__") (some (some (.builtin "object.__class__"))) &&
  (decide (PySem.W.mroIn K (ga K x) (.type "object") = some true) && (eqO (PySem.W.specialIn K (.builtin "object.__class__") "__get__") (some (some (.builtin "getset_descriptor.__get__"))) && decide (PySem.W.takesIn K (.builtin "object.__class__") = some true))))))))))))))
theorem qB_ok {x f : Str} (h : qB K x f = true) : Qc K (ga K x) (ma K (ga K x) "__init__") f ∧ Qi K (ga K x) := by
  obtain ⟨h1, h⟩ := and2 h
  obtain ⟨h2, h⟩ := and2 h
  obtain ⟨h3, h⟩ := and2 h
  obtain ⟨h4, h⟩ := and2 h
  obtain ⟨h5, h⟩ := and2 h
  obtain ⟨h6, h⟩ := and2 h
  obtain ⟨h7, h⟩ := and2 h
  obtain ⟨h8, h⟩ := and2 h
  obtain ⟨h9, h⟩ := and2 h
  obtain ⟨h10, h⟩ := and2 h
  obtain ⟨h11, h⟩ := and2 h
  obtain ⟨h12, h⟩ := and2 h
  obtain ⟨h13, h⟩ := and2 h
  obtain ⟨h14, h15⟩ := and2 h
  exact ⟨⟨qclsB_ok h1, eqO_ok h2, eqO_ok h3, eqO_ok h4, of_decide_eq_true h5, h6, of_decide_eq_true h7, of_decide_eq_true h8, eqO_ok h9, eqO_ok h10, h11⟩, ⟨eqO_ok h12, eqO_ok h14, of_decide_eq_true h15, of_decide_eq_true h13⟩⟩
/-- the classes, each with its field -/
def clsL : List (Str × Str) := [("BadTree", "thing"), ("BadProgram", "thing"), ("BadWord", "thing"), ("BadText", "at"), ("BadPath", "thing"), ("BadRaw", "thing"), ("BadName", "thing"), ("BadInputs", "thing"), ("BadPoly", "thing"),
  ("BadTable", "thing"), ("BadNumber", "thing"), ("BadStep", "thing"), ("BadUnit", "thing"), ("BadStanding", "thing"), ("BadSharing", "thing"), ("BadBytes", "at"), ("BadUnits", "thing"), ("BadMachine", "thing")]
def farL : List Value := [.type "ValueError", .type "TypeError", .type "LookupError", .type "ArithmeticError", .type "RuntimeError", .type "AttributeError"]
def oneB (K : PySem.W.Frag) (x : Str) : Bool :=
  decide (PySem.W.kitOne K (.ref (ga K x)) (.ref (ga K "QuickError")) = some true) && (decide (PySem.W.kitOne K (.ref (ga K x)) (.type "Exception") = some true) && (decide (PySem.W.kitAny K (.ref (ga K x)) farL = some false) &&
  (decide (PySem.W.exmOne K (.ref (ga K x)) (.ref (ga K "QuickError")) = some true) && clsL.all fun q => decide (PySem.W.kitOne K (.ref (ga K x)) (.ref (ga K q.1)) = some (decide (x = q.1))) && decide (PySem.W.exmOne K (.ref (ga K x)) (.ref (ga K q.1)) = some (decide (x = q.1))))))
def allB (K : PySem.W.Frag) : Bool := clsL.all fun p => qB K p.1 p.2 && oneB K p.1
/-- what the written part says of such a class, by its name -/
structure Qk (K : PySem.W.Frag) (x f : Str) : Prop where
  c : Qc K (ga K x) (ma K (ga K x) "__init__") f
  i : Qi K (ga K x)
  own : PySem.W.kitOne K (.ref (ga K x)) (.ref (ga K "QuickError")) = some true
  exc : PySem.W.kitOne K (.ref (ga K x)) (.type "Exception") = some true
  far : PySem.W.kitAny K (.ref (ga K x)) farL = some false
  base : PySem.W.exmOne K (.ref (ga K x)) (.ref (ga K "QuickError")) = some true
  is : ∀ q ∈ clsL, PySem.W.kitOne K (.ref (ga K x)) (.ref (ga K q.1)) = some (decide (x = q.1)) ∧ PySem.W.exmOne K (.ref (ga K x)) (.ref (ga K q.1)) = some (decide (x = q.1))
theorem allB_ok (h : allB K = true) {x f : Str} (m : (x, f) ∈ clsL) : Qk K x f := by
  obtain ⟨h1, h⟩ := and2 (List.all_eq_true.mp h _ m)
  obtain ⟨h2, h⟩ := and2 h
  obtain ⟨h3, h⟩ := and2 h
  obtain ⟨h4, h⟩ := and2 h
  obtain ⟨h5, h6⟩ := and2 h
  obtain ⟨g1, g2⟩ := qB_ok h1
  exact ⟨g1, g2, of_decide_eq_true h2, of_decide_eq_true h3, of_decide_eq_true h4, of_decide_eq_true h5, fun q hq => by
    obtain ⟨e1, e2⟩ := and2 (List.all_eq_true.mp h6 q hq)
    exact ⟨of_decide_eq_true e1, of_decide_eq_true e2⟩⟩
end QB

set_option Elab.async false
set_option linter.all false
set_option maxRecDepth 100000
set_option maxHeartbeats 4000000
/-! Such errors by their names: made, kept in a list. -/
namespace QE
open PySem PySem.Spec PyProof.Rows L2 KT QY QZ QB QH
open L2H (RoomH)
open He (ga ma)
section
variable {K : PySem.W.Frag} {x qual : Str} {st : Stmt} {params : Arguments} {body : List Stmt} {scope : Scope} {f : Addr} {fd : FuncData} {ps ks : List Str}
theorem fun_ofM (F : FunD K x qual (defArgs st) (defBody st) (defScope st) [] [] f fd) : Fun K x qual st f fd := by
  obtain ⟨⟨oc, od, dV, kV, doc, pm, an, cdv, ct, osl, e, l, c, d, _⟩, kp⟩ := F
  obtain rfl : dV = .none := by
    rcases d with ⟨_, h⟩ | ⟨h, _⟩
    · exact h
    · exact absurd rfl h
  exact ⟨⟨oc, od, kV, doc, pm, an, cdv, ct, osl, e, l, c⟩, kp⟩
theorem kb1_of (F : FunD K x qual params body scope [] [] f fd)
    (h : ∀ (kV doc pm : Value) (an : Option Addr) (cdv ct : Value) (ws : List Value) (a : Addr), (Value.ref a :: ws).length = ps.length → bindArgs (PySem.W.fnOf x qual params body scope .none kV doc pm an cdv ct) ⟨[.ref a], ks.zip ws⟩ = pure (ps.zip (.ref a :: ws))) : KB1 fd ps ks := by
  obtain ⟨oc, od, dV, kV, doc, pm, an, cdv, ct, osl, rfl, lk, hcd, hD, hK⟩ := F.ex
  rcases hD with ⟨_, rfl⟩ | ⟨e, _⟩
  · exact ⟨fun s a ws hl => .of_eq (h kV doc pm an cdv ct ws a hl)⟩
  · exact absurd rfl e
end
/-- a promise under a handled exception is one under none -/
theorem _root_.QH.FnQ.ok {P : Program} {w : World} {K : PySem.W.Frag} {mg : Str → Option Value} {base : Heap} {k : Nat} {f : Addr} {fd : FuncData} {ps : List Str} {sp : Sp} (F : FnQ P w K mg base k f fd ps sp) (h : ∀ vs H Q E, sp vs H Q E → sp vs H Q E0) :
    FnOk P w K mg base CX0 k f fd ps sp := ⟨F.len, fun A outer s H args us vs Q E hr e0 hb r q => codeAny_mono (F.run A outer s H args us vs Q (L2H.roomH_of hr) e0 hb r (h _ _ _ _ q)) fun rr s' hq => match rr, hq with
  | .ok (.ret _), hq => hq
  | .ok .next, hq => hq.elim
  | .ok .brk, hq => hq.elim
  | .ok .cont, hq => hq.elim
  | .error _, hq => False.elim hq⟩
/-! ### made -/
/-- a new error of the class x at a, its field f -/
def New (K : PySem.W.Frag) (H H' : Hp) (a : Addr) (x f : Str) (y : V) : Prop :=
  Same H H' ∧ H a = none ∧ ∃ dx, H dx = none ∧ dx ≠ a ∧ H' a = some (exo a (ga K x) (some dx)) ∧ H' dx = some (exd dx [(f, y)])
theorem New.xo {K : PySem.W.Frag} {H H' : Hp} {a : Addr} {x f : Str} {y : V} (n : New K H H' a x f y) : Xo H' a (ga K x) f y := by
  obtain ⟨_, _, dx, _, _, h1, h2⟩ := n
  refine ⟨dx, _, .inl h1, .inl h2, ?_⟩
  rw [List.lookup_cons]
  simp
/-- what such an __init__ does -/
def spI (K : PySem.W.Frag) (f : Str) : Sp := fun vs H Q _ => ∃ (a C fI : Addr) (y : V), vs = [.ref a, y] ∧ Qc K C fI f ∧ H a = some (exo a C none) ∧ ∀ dx, H dx = none → dx ≠ a → Q .non (upd (upd H dx (exd dx [(f, y)])) a (exo a C (some dx)))
/-- what is known of the class x: its facts, its name, its __init__ -/
structure Ec (P : Program) (w : World) (K : PySem.W.Frag) (mg : Str → Option Value) (base : Heap) (x f : Str) (fd : FuncData) : Prop where
  k : Qk K x f
  g : mg x = some (.ref (ga K x))
  F : FnOk P w K mg base CX0 1 (ma K (ga K x) "__init__") fd ["self", f] (spI K f)
  b : Binds K fd ["self", f] []
  kb : KB1 fd ["self", f] [f]
structure Ers (P : Program) (w : World) (K : PySem.W.Frag) (mg : Str → Option Value) (base : Heap) (fi : Str → FuncData) : Prop where
  q : mg "QuickError" = some (.ref (ga K "QuickError"))
  of : ∀ x f, (x, f) ∈ clsL → Ec P w K mg base x f (fi x)
theorem mk_of {K : PySem.W.Frag} {x f : Str} {Q : VK} (k : Qk K x f) {y : V} {H1 : Hp} (h : ∀ a H2, New K H1 H2 a x f y → Q (.ref a) H2) :
    ∀ a, H1 a = none → spI K f (.ref a :: [y]) (upd H1 a (exo a (ga K x) none)) (fun v H2 => v = .non ∧ Q (.ref a) H2) (fun _ _ _ => False) := fun a ha => by
  refine ⟨a, ga K x, ma K (ga K x) "__init__", y, rfl, k.c, upd_same, fun dx hd ne => ⟨rfl, h a _ ⟨fun b o e => ?_, ha, dx, ?_, ne, upd_same, ?_⟩⟩⟩
  · have n1 : b ≠ a := ne_of_none e ha
    rw [upd_ne ne] at hd
    rw [upd_ne n1, upd_ne (ne_of_none e hd), upd_ne n1]
    exact e
  · rw [upd_ne ne] at hd
    exact hd
  · rw [upd_ne ne, upd_same]
section
variable {X : Cx} {x f : Str} {fd : FuncData} {e : Expr} {te : TE} {p pos p2 : Pos}
theorem pe_new (E : Ec X.prog X.w X.K X.mg X.base x f fd) (hr : Room 2 X.A) (he : PE X e te) (hg : Gl X x) (hdb : (x == ("__debug__" : Str)) = false := by decide) (hse : starEach [e] X.env = (false, eval e X.env) :: starEach [] X.env := by rfl)
    (hpl : (backTo pos (starEach [] X.env)).any (·.1) = false := by rfl) : PE X (.Call (.Name x p) [e] [] pos) (tQmk (ga X.K x) (spI X.K f) (tCons te tNil)) :=
  pe_qmk E.k.c E.F hr E.b pass0 hg E.g (pa_cons he pa_nil hse) hdb hse hpl
theorem pe_newK {kws : List Keyword} {ta : TA} (E : Ec X.prog X.w X.K X.mg X.base x f fd) (hr : Room 2 X.A) (hkw : PK X kws ta) (hg : Gl X x)
    (hall : (backToKw pos (keywordEach kws X.env)).all (·.1.isSome) = true := by rfl) (hks : (backToKw pos (keywordEach kws X.env)).filterMap (·.1) = [f] := by rfl)
    (hdb : (x == ("__debug__" : Str)) = false := by decide) (hpl : ((backTo pos (starEach [] X.env)).any (·.1) || (backToKw pos (keywordEach kws X.env)).any (·.1.isNone)) = false := by rfl) :
    PE X (.Call (.Name x p) [] kws pos) (tQmk (ga X.K x) (spI X.K f) ta) :=
  pe_qmkK E.k.c E.F hr E.kb pass0 hg E.g hkw hall hks hdb hpl
end
/-! ### several, made one behind the other -/
def Made (K : PySem.W.Frag) (H : Hp) (y : V) : List Addr → List (Str × Str) → Prop
  | [], [] => True
  | a :: as, p :: ps => Xo H a (ga K p.1) p.2 y ∧ Made K H y as ps
  | _, _ => False
theorem Made.same {K : PySem.W.Frag} {H H' : Hp} {y : V} (s : Same H H') : ∀ {as : List Addr} {ps : List (Str × Str)}, Made K H y as ps → Made K H' y as ps
  | [], [], _ => trivial
  | _ :: _, _ :: _, h => ⟨h.1.same s, Made.same s h.2⟩
  | [], _ :: _, h => h
  | _ :: _, [], h => h
theorem Made.app {K : PySem.W.Frag} {H : Hp} {y : V} : ∀ {as bs : List Addr} {ps qs : List (Str × Str)}, Made K H y as ps → Made K H y bs qs → Made K H y (as ++ bs) (ps ++ qs)
  | [], _, [], _, _, k => k
  | _ :: _, _, _ :: _, _, h, k => ⟨h.1, Made.app h.2 k⟩
  | [], _, _ :: _, _, h, _ => h.elim
  | _ :: _, _, [], _, h, _ => h.elim
theorem Made.len {K : PySem.W.Frag} {H : Hp} {y : V} : ∀ {as : List Addr} {ps : List (Str × Str)}, Made K H y as ps → as.length = ps.length
  | [], [], _ => rfl
  | _ :: _, _ :: _, h => congrArg (· + 1) (Made.len h.2)
  | [], _ :: _, h => h.elim
  | _ :: _, [], h => h.elim
theorem Made.at {K : PySem.W.Frag} {H : Hp} {y : V} : ∀ {as : List Addr} {ps : List (Str × Str)} {i : Nat} {p : Str × Str}, Made K H y as ps → ps[i]? = some p → ∃ a, as[i]? = some a ∧ Xo H a (ga K p.1) p.2 y
  | a :: _, _ :: _, 0, _, h, e => by
    cases e
    exact ⟨a, rfl, h.1⟩
  | _ :: _, _ :: _, i + 1, _, h, e => Made.at (i := i) h.2 e
  | [], [], _, _, _, e => by simp at e
  | [], _ :: _, _, _, h, _ => h.elim
  | _ :: _, [], _, _, h, _ => h.elim
def tMks (K : PySem.W.Frag) (te : TA) : List (Str × Str) → TA
  | [] => tNil
  | p :: ps => tCons (tQmk (ga K p.1) (spI K p.2) te) (tMks K te ps)
theorem mks {K : PySem.W.Frag} {y : V} {te : TA} {σ : L2.St} (ht : ∀ H (R : List V → Hp → Prop), R [y] H → te σ H R) : ∀ (ps : List (Str × Str)) (H : Hp) (R : List V → Hp → Prop), (∀ p ∈ ps, Qk K p.1 p.2) →
    (∀ as H', Same H H' → Made K H' y as ps → R (as.map V.ref) H') → tMks K te ps σ H R
  | [], H, R, _, h => h [] H (fun _ _ e => e) trivial
  | p :: ps, H, R, k, h => by
    refine ht H _ ⟨by show 1 ≤ 1000; decide, mk_of (Q := fun x H1 => tMks K te ps σ H1 fun xs H2 => R (x :: xs) H2) (k p (List.mem_cons_self ..)) fun a H2 n => ?_⟩
    refine mks ht ps H2 _ (fun q hq => k q (List.mem_cons_of_mem _ hq)) fun as H3 s3 m => ?_
    exact h (a :: as) H3 (fun b o e => s3 _ _ (n.1 _ _ e)) ⟨n.xo.same s3, m⟩
theorem Xo.kept {H H' : Hp} {a C : Addr} {f : Str} {y : V} (k : ∀ b o, H b = some o → (∀ xs, o ≠ .lst xs) → H' b = some o) (h : Xo H a C f y) : Xo H' a C f y := by
  obtain ⟨dx, fs, h1, h2, h3⟩ := h
  exact ⟨dx, fs, h1.imp (fun e => k _ _ e fun _ z => nomatch z) (fun e => k _ _ e fun _ z => nomatch z), h2.imp (fun e => k _ _ e fun _ z => nomatch z) (fun e => k _ _ e fun _ z => nomatch z), h3⟩
theorem Made.kept {K : PySem.W.Frag} {H H' : Hp} {y : V} (k : ∀ b o, H b = some o → (∀ xs, o ≠ .lst xs) → H' b = some o) : ∀ {as : List Addr} {ps : List (Str × Str)}, Made K H y as ps → Made K H' y as ps
  | [], [], _ => trivial
  | _ :: _, _ :: _, h => ⟨Xo.kept k h.1, Made.kept k h.2⟩
  | [], _ :: _, h => h
  | _ :: _, [], h => h
/-- found.extend([C(y), ..]) -/
theorem ext_mks {K : PySem.W.Frag} {y : V} {te : TA} {σ : L2.St} {D : Ends} {H0 H : Hp} {L : Addr} {as : List Addr} {qs : List (Str × Str)} (ps : List (Str × Str)) (ht : ∀ H (R : List V → Hp → Prop), R [y] H → te σ H R) (hL : σ[1]? = some (some (.ref L)))
    (n0 : H0 L = none) (s0 : Same H0 H) (e : H L = some (.lst (as.map V.ref))) (m : Made K H y as qs) (k : ∀ p ∈ ps, Qk K p.1 p.2) (small : as.length + ps.length ≤ 100)
    (q : ∀ bs H', Same H0 H' → H' L = some (.lst ((as ++ bs).map V.ref)) → Made K H' y (as ++ bs) (qs ++ ps) → D.nx σ H') :
    tDrop (tBM K "list" rExtend (tVar 1) (tCons (tLst (tMks K te ps)) tNil)) D σ H := by
  refine ⟨_, hL, .inl ⟨rfl, _, SqL.of e⟩, ?_⟩
  refine mks ht ps H _ k fun bs H2 s2 m2 => ?_
  have lb := m2.len
  have ten : 100 ≤ sizeLine := by rw [sizeLine_eq]; decide
  refine ⟨by rw [List.length_map]; omega, fun p np => ?_⟩
  have s3 : Same H2 (upd H2 p (.lst (bs.map V.ref))) := fun b o eb => by
    rw [upd_ne (ne_of_none eb np)]
    exact eb
  have eL := s3 _ _ (s2 _ _ e)
  refine ⟨L, p, _, _, rfl, rfl, eL, upd_same, by rw [List.length_map, List.length_map]; omega, ?_⟩
  rw [← List.map_append]
  have nL : ∀ b o, H0 b = some o → b ≠ L := fun b o eb z => by
    rw [z, n0] at eb
    cases eb
  have kk : ∀ b o, (upd H2 p (.lst (bs.map V.ref))) b = some o → (∀ xs, o ≠ .lst xs) → (upd (upd H2 p (.lst (bs.map V.ref))) L (.lst ((as ++ bs).map V.ref))) b = some o := fun b o eb nl => by
    rw [upd_ne (fun z => by rw [z, eL] at eb; exact nl _ (Option.some.inj eb).symm)]
    exact eb
  refine q bs _ (fun b o eb => ?_) upd_same (Made.kept kk (Made.same s3 (Made.app (Made.same s2 m) m2)))
  rw [upd_ne (nL b o eb)]
  exact s3 _ _ (s2 _ _ (s0 _ _ eb))
/-! ### isinstance(e, C), many -/
def tIss (K : PySem.W.Frag) : List (Str × Str) → TA
  | [] => tNil
  | p :: ps => tCons (tCB (rIsQ K) (tCons (tVar 0) (tCons (tC (.ref (ga K p.1))) tNil))) (tIss K ps)
theorem iss {K : PySem.W.Frag} {a : Addr} {x f : Str} {v : V} {σ : L2.St} {H : Hp} (hσ : σ[0]? = some (some (.ref a))) (xo : Xo H a (ga K x) f v) (k : Qk K x f) : ∀ (ps : List (Str × Str)) (R : List V → Hp → Prop), (∀ p ∈ ps, p ∈ clsL) →
    R (ps.map fun q => .bl (decide (x = q.1))) H → tIss K ps σ H R
  | [], R, _, h => h
  | p :: ps, R, m, h => by
    refine ⟨_, hσ, a, ga K x, ma K (ga K x) "__init__", f, v, .ref (ga K p.1), .ref (ga K p.1), _, rfl, xo, k.c, k.i, .own _, (k.is p (m p (List.mem_cons_self ..))).1, ?_⟩
    exact iss hσ xo k ps _ (fun q hq => m q (List.mem_cons_of_mem _ hq)) h
theorem ext_iss {K : PySem.W.Frag} {a : Addr} {x f : Str} {v : V} {σ : L2.St} {D : Ends} {H0 H : Hp} {L : Addr} {qs : List (Str × Str)} (ps : List (Str × Str)) (hσ : σ[0]? = some (some (.ref a))) (xo : Xo H0 a (ga K x) f v) (k : Qk K x f) (hm : ∀ p ∈ ps, p ∈ clsL)
    (hL : σ[1]? = some (some (.ref L))) (n0 : H0 L = none) (s0 : Same H0 H) (e : H L = some (.lst (qs.map fun q => .bl (decide (x = q.1))))) (small : qs.length + ps.length ≤ 100)
    (q : ∀ H', Same H0 H' → H' L = some (.lst ((qs ++ ps).map fun q => .bl (decide (x = q.1)))) → D.nx σ H') :
    tDrop (tBM K "list" rExtend (tVar 1) (tCons (tLst (tIss K ps)) tNil)) D σ H := by
  refine ⟨_, hL, .inl ⟨rfl, _, SqL.of e⟩, ?_⟩
  refine iss hσ (xo.same s0) k ps _ hm ?_
  have ten : 100 ≤ sizeLine := by rw [sizeLine_eq]; decide
  refine ⟨by rw [List.length_map]; omega, fun p np => ?_⟩
  have eL : (upd H p (.lst (ps.map fun q => .bl (decide (x = q.1))))) L = some (.lst (qs.map fun q => .bl (decide (x = q.1)))) := by
    rw [upd_ne (ne_of_none e np)]
    exact e
  refine ⟨L, p, _, _, rfl, rfl, eL, upd_same, by rw [List.length_map, List.length_map]; omega, ?_⟩
  rw [← List.map_append]
  refine q _ (fun b o eb => ?_) upd_same
  have nL : b ≠ L := fun z => by
    rw [z, n0] at eb
    cases eb
  have e1 := s0 _ _ eb
  rw [upd_ne nL, upd_ne (ne_of_none e1 np)]
  exact e1
/-! ### made[i].f, many -/
def tCs (K : PySem.W.Frag) : Nat → List (Str × Str) → TA
  | _, [] => tNil
  | i, p :: ps => tCons (tQf K p.2 (tOp (rIxL K) (tVar 0) (tC (.int (i : Nat))))) (tCs K (i + 1) ps)
theorem cas {K : PySem.W.Frag} {M : Addr} {v : V} {σ : L2.St} {H : Hp} {as : List Addr} (hσ : σ[0]? = some (some (.ref M))) (hM : H M = some (.lst (as.map V.ref))) (m : Made K H v as clsL) (k : ∀ p ∈ clsL, Qk K p.1 p.2) : ∀ (ps : List (Str × Str)) (i : Nat) (R : List V → Hp → Prop),
    (∀ j p, ps[j]? = some p → clsL[i + j]? = some p) → R (List.replicate ps.length v) H → tCs K i ps σ H R
  | [], _, R, _, h => h
  | p :: ps, i, R, hp, h => by
    have hi := hp 0 p rfl
    rw [Nat.add_zero] at hi
    obtain ⟨a, ea, xo⟩ := m.at hi
    have e2 : (as.map V.ref)[i]? = some (.ref a) := by
      rw [List.getElem?_map, ea]
      rfl
    refine ⟨_, hσ, M, _, (i : Int), .ref a, rfl, rfl, SqL.of hM, atI_nat e2, a, ga K p.1, ma K (ga K p.1) "__init__", v, rfl, (k p (List.mem_of_getElem? hi)).c, xo, ?_⟩
    refine cas hσ hM m k ps (i + 1) _ (fun j q hq => ?_) h
    have z := hp (j + 1) q hq
    rw [show i + (j + 1) = i + 1 + j by omega] at z
    exact z
theorem ext_cas {K : PySem.W.Frag} {M : Addr} {v : V} {σ : L2.St} {D : Ends} {H0 H : Hp} {L : Addr} {as : List Addr} {n : Nat} (i : Nat) (ps : List (Str × Str)) (hσ : σ[0]? = some (some (.ref M))) (hM : H0 M = some (.lst (as.map V.ref))) (m : Made K H0 v as clsL)
    (k : ∀ p ∈ clsL, Qk K p.1 p.2) (hp : ∀ j p, ps[j]? = some p → clsL[i + j]? = some p) (hL : σ[1]? = some (some (.ref L))) (n0 : H0 L = none) (s0 : Same H0 H) (e : H L = some (.lst (List.replicate n v))) (small : n + ps.length ≤ 100)
    (q : ∀ H', Same H0 H' → H' L = some (.lst (List.replicate (n + ps.length) v)) → D.nx σ H') :
    tDrop (tBM K "list" rExtend (tVar 1) (tCons (tLst (tCs K i ps)) tNil)) D σ H := by
  refine ⟨_, hL, .inl ⟨rfl, _, SqL.of e⟩, ?_⟩
  refine cas hσ (s0 _ _ hM) (m.same s0) k ps i _ hp ?_
  have ten : 100 ≤ sizeLine := by rw [sizeLine_eq]; decide
  refine ⟨by rw [List.length_replicate]; omega, fun p np => ?_⟩
  have eL : (upd H p (.lst (List.replicate ps.length v))) L = some (.lst (List.replicate n v)) := by
    rw [upd_ne (ne_of_none e np)]
    exact e
  refine ⟨L, p, _, _, rfl, rfl, eL, upd_same, by rw [List.length_replicate, List.length_replicate]; omega, ?_⟩
  rw [List.replicate_append_replicate]
  refine q _ (fun b o eb => ?_) upd_same
  have nL : b ≠ L := fun z => by
    rw [z, n0] at eb
    cases eb
  have e1 := s0 _ _ eb
  rw [upd_ne nL, upd_ne (ne_of_none e1 np)]
  exact e1
end QE

set_option Elab.async false
set_option linter.all false
set_option maxRecDepth 100000
set_option maxHeartbeats 4000000
/-! enumerate(a tuple) -/
namespace PySem
open Builtin
set_option maxHeartbeats 1000000 in
theorem enT_new (l : Addr) (items : Array Value) (n : Nat) (dct : Option Addr) (sl : Array (Option Value)) :
    Meets (Builtin.«enumerate.__new__» ⟨[.type "enumerate", .ref l], []⟩) (fun _ R s => s.heap.get? l = some { cls := .type "tuple", dict := dct, data := .seq items n, slots := sl } ∧
      R (.ok (.ret (.ref (s.heap.push { cls := .type "tuple_iterator", data := .fields #[.ref l, .int 0 0] }).objs.size)))
        { s with heap := (s.heap.push { cls := .type "tuple_iterator", data := .fields #[.ref l, .int 0 0] }).push { cls := .type "enumerate", data := .fields #[.none, .bool false, .ref s.heap.objs.size, rawInt 0, .none, .none] } }) :=
  .of_wp fun prog w A R s h => by
    obtain ⟨hp, g, d, tk, os⟩ := s
    obtain ⟨hl, h⟩ := h
    have hL : hp.IsTuple l items := ⟨_, hl, rfl, n, rfl⟩
    have hsub := sub_enumerate
    wp_walk using wpAny_loadPart' hl, wpAny_pyIter_tuple hL
    refine wpAny_stack_any fun st => wpAny_pure ?_
    split
    · rename_i c _ _ _ _ _
      cases (c == Value.type "enumerate")
      · wp_walk using wpAny_loadPart' hl, wpAny_pyIter_tuple hL
        exact ⟨_, rfl, h⟩
      · wp_walk using wpAny_loadPart' hl, wpAny_pyIter_tuple hL
        exact ⟨_, rfl, h⟩
    · wp_walk using wpAny_loadPart' hl, wpAny_pyIter_tuple hL
      exact ⟨_, rfl, h⟩
section
variable {prog : Program} {w : World} {A : Around} {E : Value → Shared → Prop} {s : Shared}
theorem enT_call {l : Addr} {items : Array Value} {Q : Value → Shared → Prop} (hL : s.heap.IsTuple l items)
    (h : ∀ h', IsEnum h' (s.heap.objs.size + 1) s.heap.objs.size 0 .none → h'.IsTupleIter s.heap.objs.size l 0 → h'.objs.size = s.heap.objs.size + 2 →
      (∀ b o, s.heap.get? b = some o → h'.get? b = some o) → Q (.ref (s.heap.objs.size + 1)) { s with heap := h' }) :
    wpAny (model prog w) A (call (.type "enumerate") [.ref l]) Q E s := by
  obtain ⟨⟨c, dct, dt, sl⟩, hl, hc, n, hd⟩ := hL
  dsimp only at hc hd
  subst hc hd
  refine callType_new F.called_enumerate (by decide) (F.typeCall_enumerate_1 _) (F.newCall_enumerate_1 _) (fun obj => F.args_object_init_2 obj _) F.entry_enumerate_new (enT_new l items n dct sl) ⟨hl, ?_⟩
  have sz : (s.heap.push { cls := .type "tuple_iterator", data := .fields #[.ref l, .int 0 0] }).objs.size = s.heap.objs.size + 1 := Heap.size_push ..
  show _ ∧ _
  rw [sz]
  have en : IsEnum ((s.heap.push { cls := .type "tuple_iterator", data := .fields #[.ref l, .int 0 0] }).push
      { cls := .type "enumerate", data := .fields #[.none, .bool false, .ref s.heap.objs.size, rawInt 0, .none, .none] }) (s.heap.objs.size + 1) s.heap.objs.size 0 .none := by
    have q := Heap.get?_push_size (s.heap.push { cls := .type "tuple_iterator", data := .fields #[.ref l, .int 0 0] })
      (o := { cls := .type "enumerate", data := .fields #[.none, .bool false, .ref s.heap.objs.size, rawInt 0, .none, .none] }) rfl
    rw [sz] at q
    exact q
  exact ⟨⟨_, en, rfl⟩, h _ en ⟨_, Heap.get?_push_of_some _ (Heap.get?_push_size _ rfl), rfl, rfl⟩ (by rw [Heap.size_push, sz]) fun b o x => Heap.get?_push_of_some _ (Heap.get?_push_of_some _ x)⟩
end
end PySem
namespace EN
open PySem PySem.Spec PyProof.Rows L2
/-- the tuple at a, each item in a new pair with its place -/
def IteT (K : PySem.W.Frag) (a : Addr) : It :=
  ⟨fun i H => ∃ (xs : List V) (x : V), SqT K H a xs ∧ xs[i]? = some x, fun i H v H' => ∃ T x, v = .ref T ∧ H T = none ∧ H' = upd H T (.tup [.int (i : Nat), x]) ∧ ∀ xs, SqT K H a xs → xs[i]? = some x, fun i H => ∃ xs : List V, SqT K H a xs ∧ xs.length = i⟩
theorem turnT {P : Program} {w : World} {K : PySem.W.Frag} {elts : List Expr} {kk : Nat} {tpos : Pos} (a e it : Addr) :
    Turn P w K (.Tuple elts kk tpos) (IteT K a) [e, it] e (fun i h => (∃ old, IsEnum h e it ((i : Nat) : Int) old) ∧ h.IsTupleIter it a i ∧ e ≠ it) where
  mem := by simp
  obj := fun i h st b hb => by
    obtain ⟨⟨old, he⟩, ⟨o, ho, hc, hd⟩, _⟩ := st
    rcases (show b = e ∨ b = it by simpa using hb) with z | z
    · rw [z]
      exact ⟨_, he, fun v q => nomatch q⟩
    · rw [z]
      exact ⟨o, ho, fun v q => by rw [hd] at q; cases q⟩
  keep := fun i h h' st k => let ⟨⟨old, he⟩, hi, hne⟩ := st; ⟨⟨old, k e (by simp) _ he⟩, hi.at fun o q => k it (by simp) o q, hne⟩
  item := by
    intro X hP hw hK hc i pins s σ H E I hf st hg
    subst hP hw hK
    obtain ⟨⟨old, he⟩, hit, hne⟩ := st
    obtain ⟨xs, x, hq, hx⟩ := hg
    obtain ⟨its, rv, p, hz⟩ := I.tuple hq
    obtain ⟨u, hu, ru⟩ := rv.get hx
    have hel : e < s.heap.objs.size := Heap.lt_size he
    have hil : it < s.heap.objs.size := by obtain ⟨_, q, _⟩ := hit; exact Heap.lt_size q
    have hi : i < its.toArray.size := by
      rw [List.size_toArray]
      exact (List.getElem?_eq_some_iff.mp hu).1
    have hta : a ≠ it := fun z => by
      obtain ⟨o, ho, hc1, _⟩ := hit
      obtain ⟨o2, ho2, hc2, _⟩ := p
      rw [z, ho] at ho2
      cases ho2
      rw [hc1] at hc2
      simp at hc2
    have hea : e ≠ a := fun z => by
      obtain ⟨o2, ho2, hc2, _⟩ := p
      rw [← z, he] at ho2
      cases ho2
      simp at hc2
    refine wpAny_pyNext_enum_itemD (Draws.tuple (A := X.A.in1) (show X.A.in1.handled = none from I.ok.hd hc) it a hta its.toArray) he ⟨hit, p⟩ hi hne (by simp [hne, hea]) fun y h' tk hy ho hst hT hsz hk => ?_
    have ey : y = u := by
      have h3 : its.toArray[i]? = some u := by simpa using hu
      rw [h3] at hy
      exact (Option.some.inj hy).symm
    subst ey
    refine ⟨_, rfl, wpAny_letOwnedTupleGo_enum (s := { s with heap := h', toks := tk + 1 }) ho fun h'' he' sb => ?_⟩
    have hT2 : h''.get? s.heap.objs.size = some { cls := .type "tuple", data := .seq #[.int i tk, y] } := (sb.2 _ (Nat.ne_of_gt hel)).trans hT
    have new : ObjOk X.prog X.w (upd H s.heap.objs.size (.tup [.int (i : Nat), x])) h'' s.heap.objs.size (.tup [.int (i : Nat), x]) :=
      ⟨by show 2 ≤ sizeLine; decide, [.int i tk, y], .cons ⟨_, rfl⟩ (.cons ru .nil), ⟨_, hT2, rfl, _, rfl⟩⟩
    have I1 : Inv X pins σ (upd H s.heap.objs.size (.tup [.int (i : Nat), x])) { s with heap := h'', toks := tk + 1 } :=
      I.turnedNew (ch := [e, it]) (fun b ob hb q => (sb.2 b (fun z => hb (by simp [z]))).trans (hk b ob (fun z => hb (by simp [z])) (fun z => hb (by simp [z])) q)) hf (Nat.le_refl _) new
    refine ⟨.ref s.heap.objs.size, _, I1, rfl, ⟨_, x, rfl, I.hok.fresh (Nat.le_refl _), rfl, fun ys hy => by rw [I.tuple_inj hy hq]; exact hx⟩, ⟨⟨y, ?_⟩, hst.1.at fun o q => (sb.2 it (Ne.symm hne)).trans q, hne⟩, fun b hb => ?_⟩
    · have e1 : ((i + 1 : Nat) : Int) = (i : Int) + 1 := by omega
      rw [e1]
      exact he'
    · have hb' : b < s.heap.objs.size := by
        rcases (show b = e ∨ b = it by simpa using hb) with z | z
        · rw [z]
          exact hel
        · rw [z]
          exact hil
      rw [upd_ne (Nat.ne_of_lt hb')]
      exact (hf b hb).1
  done := by
    intro X hP hw hK hc i pins s σ H E I hf st hg
    subst hP hw hK
    obtain ⟨⟨old, he⟩, hit, hne⟩ := st
    obtain ⟨xs, hq, hx⟩ := hg
    obtain ⟨its, rv, p, hz⟩ := I.tuple hq
    obtain ⟨f0, f1, f2, f3, f4, f5⟩ := hf it (by simp)
    have hl := rv.length
    have hta : a ≠ it := fun z => by
      obtain ⟨o, ho, hc1, _⟩ := hit
      obtain ⟨o2, ho2, hc2, _⟩ := p
      rw [z, ho] at ho2
      cases ho2
      rw [hc1] at hc2
      simp at hc2
    have hn : its.toArray.size = i := by
      rw [List.size_toArray, ← hl]
      exact hx
    subst hn
    exact wpAny_pyNext_enum_endD (Draws.tuple (A := X.A.in1) (show X.A.in1.handled = none from I.ok.hd hc) it a hta its.toArray) he ⟨hit, p⟩ fun h' eb => ⟨rfl, I.turned (t' := s.toks) (fun b o hb e => eb b o hb e) f0 f1 f3 f4 f5⟩
  self := fun A i s Q E st h => let ⟨⟨_, he⟩, _⟩ := st; wpAny_pyIter_enum he h
def iEnumT (K : PySem.W.Frag) (ta : TA) : TI := fun σ H R => ta σ H fun vs H1 => ∃ a xs, vs = [.ref a] ∧ SqT K H1 a xs ∧ R (IteT K a) H1
theorem pi_enumT {X : Cx} {e : Expr} {ta : TA} {p pos tpos : Pos} {elts : List Expr} {kk : Nat} (hg : Gl X "enumerate") (hm : X.mg "enumerate" = none) (ha : PA X [e] ta) (hs : starEach [e] X.env = [(false, eval e X.env)] := by rfl) :
    PI X (.Tuple elts kk tpos) (.Call (.Name "enumerate" p) [e] [] pos) (iEnumT X.K ta) := by
  refine ⟨fun pins s σ H R I h => ?_⟩
  refine Call_ (ld_blt I hg hm boot_enumerate (PyProof.Rows.callWith_type1 (thn (ha.run pos pins s σ H _ I h) fun us s1 ⟨vs, H1, I1, r1, q1⟩ => ?_) hs rfl))
  obtain ⟨a, xs, ex, hq, q⟩ := q1
  subst ex
  cases r1 with
  | cons r rr =>
    cases rr
    cases r
    obtain ⟨its, rv, p', hz⟩ := I1.tuple hq
    refine enT_call p' fun h' he hit hsz hk => wpAny_pyIter_enum he ?_
    have I2 : Inv X pins σ H1 { s1 with heap := h' } := I1.kept (t' := s1.toks) hk
    refine ⟨s1.heap.objs.size + 1, [s1.heap.objs.size + 1, s1.heap.objs.size], _, _, H1, rfl, I2, turnT a (s1.heap.objs.size + 1) s1.heap.objs.size, ⟨⟨.none, he⟩, hit, Nat.succ_ne_self _⟩, fun b hb => ?_, q⟩
    have hle : s1.heap.objs.size ≤ b := by
      rcases (show b = s1.heap.objs.size + 1 ∨ b = s1.heap.objs.size by simpa using hb) with z | z
      · rw [z]
        exact Nat.le_add_right _ _
      · rw [z]
        exact Nat.le_refl _
    exact I1.fpOk hle (I1.hok.fresh hle)
theorem walkT {K : PySem.W.Frag} {a : Addr} {xs : List V} : Walk (IteT K a) xs.length (fun H => SqT K H a xs) (YPair (fun i => some (.int (i : Nat))) (fun i => xs[i]?)) := by
  refine ⟨fun i _ hi q => ⟨xs, xs[i], q, by simp [hi]⟩, fun _ q => ⟨xs, q, rfl⟩, fun i H v H' _ q y => ?_⟩
  obtain ⟨T, x, h1, h2, h3, h4⟩ := y
  exact ⟨T, .int (i : Nat), x, h1, h2, h3, rfl, h4 xs q⟩
end EN

set_option Elab.async false
set_option linter.all false
set_option maxRecDepth 100000
set_option maxHeartbeats 4000000
/-! A list or tuple against an empty one; a comprehension whose filter calls. -/
namespace KE0
open PySem PySem.Spec PyProof.Rows L2 KT KX PySem.SeqAt
section
variable {X : Cx} {k : Nat}
theorem emp_range {n : Nat} {e : Nat → Bool} (he : n = 0 → True) : ((List.range (min n 0)).all e && n == 0) = (n == 0) := by
  rw [Nat.min_zero]
  rfl
/-- a list == [] -/
def rEqE (K : PySem.W.Frag) : R2 := fun x y H Q => ∃ a b xs, x = .ref a ∧ y = .ref b ∧ ((SqL K H a xs ∧ SqL K H b []) ∨ (SqT K H a xs ∧ SqT K H b [])) ∧ Q (.bl xs.isEmpty) H
def rNeE (K : PySem.W.Frag) : R2 := fun x y H Q => ∃ a b xs, x = .ref a ∧ y = .ref b ∧ ((SqL K H a xs ∧ SqL K H b []) ∨ (SqT K H a xs ∧ SqT K H b [])) ∧ Q (.bl (!xs.isEmpty)) H
theorem vals_emp {xs : List V} {its : List Value} (r : Vals xs its) : (its.toArray.size == 0) = xs.isEmpty := by
  have e := r.length
  rw [List.size_toArray, ← e]
  cases xs <;> rfl
theorem op_eqE (hr : Room k X.A) : OpR X (compareOp .Eq) (rEqE X.K) := by
  intro pins s σ H x y v u Q I rx ry h
  obtain ⟨a, b, xs, rfl, rfl, hs, q⟩ := h
  cases rx
  cases ry
  have hu : X.A.units < cLine := by have := hr.un; omega
  rcases hs with ⟨h1, h2⟩ | ⟨h1, h2⟩
  · obtain ⟨its, r, pl, _⟩ := I.list h1
    obtain ⟨its2, r2, pl2, _⟩ := I.list h2
    cases r2
    have e := vals_emp r
    cases he : xs.isEmpty with
    | true =>
      rw [he] at e q
      have hz : its.toArray.size = 0 := eq_of_beq e
      refine RcAt.lists (e := fun _ => true) pl.isList pl2.isList hz hu (fun j h1 h2 => absurd h2 (by simp)) X.prog X.w X.xe _ ?_
      rw [hz]
      exact ⟨.bl true, H, I, rfl, q⟩
    | false =>
      rw [he] at e q
      exact RcAt.lists_lengths pl.isList pl2.isList (by simpa using e) hu X.prog X.w X.xe _ ⟨.bl false, H, I, rfl, q⟩
  · obtain ⟨its, r, pl, _⟩ := I.tuple h1
    obtain ⟨its2, r2, pl2, _⟩ := I.tuple h2
    cases r2
    have e := vals_emp r
    refine RcAt.tuples (e := fun _ => true) pl pl2 hu (fun j h1 h2 => absurd h2 (by simp)) X.prog X.w X.xe _ ?_
    have e3 : ((List.range (min its.toArray.size ([] : List Value).toArray.size)).all (fun _ => true) && its.toArray.size == ([] : List Value).toArray.size) = xs.isEmpty := by
      show ((List.range (min its.toArray.size 0)).all (fun _ => true) && its.toArray.size == 0) = xs.isEmpty
      rw [Nat.min_zero, e]
      rfl
    rw [e3]
    exact ⟨.bl _, H, I, rfl, q⟩
theorem op_neE (hr : Room k X.A) : OpR X (compareOp .NotEq) (rNeE X.K) := by
  intro pins s σ H x y v u Q I rx ry h
  obtain ⟨a, b, xs, rfl, rfl, hs, q⟩ := h
  cases rx
  cases ry
  have hu : X.A.units < cLine := by have := hr.un; omega
  rcases hs with ⟨h1, h2⟩ | ⟨h1, h2⟩
  · obtain ⟨its, r, pl, _⟩ := I.list h1
    obtain ⟨its2, r2, pl2, _⟩ := I.list h2
    cases r2
    have e := vals_emp r
    cases he : xs.isEmpty with
    | true =>
      rw [he] at e q
      have hz : its.toArray.size = 0 := eq_of_beq e
      refine RcNeAt.lists (e := fun _ => true) pl.isList pl2.isList hz hu (fun j h1 h2 => absurd h2 (by simp)) X.prog X.w X.xe _ ?_
      rw [hz]
      exact ⟨.bl false, H, I, rfl, q⟩
    | false =>
      rw [he] at e q
      exact RcNeAt.lists_lengths pl.isList pl2.isList (by simpa using e) hu X.prog X.w X.xe _ ⟨.bl true, H, I, rfl, q⟩
  · obtain ⟨its, r, pl, _⟩ := I.tuple h1
    obtain ⟨its2, r2, pl2, _⟩ := I.tuple h2
    cases r2
    have e := vals_emp r
    refine RcNeAt.tuples (e := fun _ => true) pl pl2 hu (fun j h1 h2 => absurd h2 (by simp)) X.prog X.w X.xe _ ?_
    have e3 : (!((List.range (min its.toArray.size ([] : List Value).toArray.size)).all (fun _ => true) && its.toArray.size == ([] : List Value).toArray.size)) = !xs.isEmpty := by
      show (!((List.range (min its.toArray.size 0)).all (fun _ => true) && its.toArray.size == 0)) = !xs.isEmpty
      rw [Nat.min_zero, e]
      rfl
    rw [e3]
    exact ⟨.bl _, H, I, rfl, q⟩
end
end KE0

set_option Elab.async false
set_option linter.all false
set_option maxRecDepth 100000
set_option maxHeartbeats 4000000
/-! What asks the type of any value. -/
namespace SM0
open PySem PySem.Spec PyProof.Rows L2 KT KX KV EN
theorem callR_or {X : Cx} {f : Value} {r r' : List V → Hp → VK → Prop} (h : CallR X f r) (h' : CallR X f r') : CallR X f (fun xs H Q => r xs H Q ∨ r' xs H Q) := fun pins s σ H xs us Q I k q => q.elim (h pins s σ H xs us Q I k) (h' pins s σ H xs us Q I k)
theorem pi_or {X : Cx} {tg e : Expr} {w w' : TI} (h : PI X tg e w) (h' : PI X tg e w') : PI X tg e (fun σ H R => w σ H R ∨ w' σ H R) := ⟨fun pins s σ H R I q => q.elim (h.run pins s σ H R I) (h'.run pins s σ H R I)⟩
def tyN : PyData → String
  | .none => "NoneType"
  | .bool _ => "bool"
  | .int _ => "int"
  | .str _ => "str"
  | .list _ => "list"
  | .tuple _ => "tuple"
  | .dict _ => "dict"
def isL : PyData → Bool
  | .list _ => true
  | _ => false
def isTp : PyData → Bool
  | .tuple _ => true
  | _ => false
def isSq (D : PyData) : Bool := isL D || isTp D
def isDc : PyData → Bool
  | .dict _ => true
  | _ => false
theorem ty_of {K : PySem.W.Frag} {M : Addr → Prop} {H : Hp} {v : V} {D : PyData} (h : Dx M H v D) : TyX K H v (.type (tyN D)) := by
  cases h with
  | non => exact .base .non
  | bl b => exact .base (.bl b)
  | int i => exact .base (.int i)
  | str h => exact .base (.str _)
  | lst n e _ => exact .base (.lst e)
  | tup e _ => exact .base (.tup e)
  | dk n e _ => exact .base (.dK e)
theorem kit_two {K : PySem.W.Frag} {t T1 T2 : String} {b1 b2 : Bool} (h1 : kitB t T1 = some b1) (h2 : kitB t T2 = some b2) : PySem.W.kitAny K (.type t) [.type T1, .type T2] = some (b1 || b2) :=
  kitAny_cons (kit_ty h1) (fun e => kitAny_cons (kit_ty h2) (fun e2 => by rw [e, e2]; exact kitAny_nil) (fun e2 => by rw [e2]; simp)) (fun e => by rw [e]; rfl)
theorem kit_three {K : PySem.W.Frag} {t T1 T2 T3 : String} {b1 b2 b3 : Bool} (h1 : kitB t T1 = some b1) (h2 : kitB t T2 = some b2) (h3 : kitB t T3 = some b3) : PySem.W.kitAny K (.type t) [.type T1, .type T2, .type T3] = some (b1 || (b2 || b3)) :=
  kitAny_cons (kit_ty h1) (fun e => by rw [e, Bool.false_or]; exact kit_two h2 h3) (fun e => by rw [e]; rfl)
theorem kb (D : PyData) : kitB (tyN D) "list" = some (isL D) ∧ kitB (tyN D) "tuple" = some (isTp D) ∧ kitB (tyN D) "dict" = some (isDc D) := by
  cases D with
  | none  => exact ⟨(by decide +kernel : kitB "NoneType" "list" = some false), (by decide +kernel : kitB "NoneType" "tuple" = some false), (by decide +kernel : kitB "NoneType" "dict" = some false)⟩
  | bool _ => exact ⟨(by decide +kernel : kitB "bool" "list" = some false), (by decide +kernel : kitB "bool" "tuple" = some false), (by decide +kernel : kitB "bool" "dict" = some false)⟩
  | int _ => exact ⟨(by decide +kernel : kitB "int" "list" = some false), (by decide +kernel : kitB "int" "tuple" = some false), (by decide +kernel : kitB "int" "dict" = some false)⟩
  | str _ => exact ⟨(by decide +kernel : kitB "str" "list" = some false), (by decide +kernel : kitB "str" "tuple" = some false), (by decide +kernel : kitB "str" "dict" = some false)⟩
  | list _ => exact ⟨(by decide +kernel : kitB "list" "list" = some true), (by decide +kernel : kitB "list" "tuple" = some false), (by decide +kernel : kitB "list" "dict" = some false)⟩
  | tuple _ => exact ⟨(by decide +kernel : kitB "tuple" "list" = some false), (by decide +kernel : kitB "tuple" "tuple" = some true), (by decide +kernel : kitB "tuple" "dict" = some false)⟩
  | dict _ => exact ⟨(by decide +kernel : kitB "dict" "list" = some false), (by decide +kernel : kitB "dict" "tuple" = some false), (by decide +kernel : kitB "dict" "dict" = some true)⟩
theorem pl2 : Paired ClsV [.ty "list", .ty "tuple"] [.type "list", .type "tuple"] := .cons (.ty _) (.cons (.ty _) .nil)
theorem pl3 : Paired ClsV [.ty "list", .ty "tuple", .ty "dict"] [.type "list", .type "tuple", .type "dict"] := .cons (.ty _) (.cons (.ty _) (.cons (.ty _) .nil))
def isSc : PyData → Prop
  | .list _ => False
  | .tuple _ => False
  | .dict _ => False
  | _ => True
theorem sc_show : ∀ d : PyData, isSc d → Ok d → d.showable = true ∧ d.depth ≤ 150 ∧ d.shown.length ≤ sizeLine
  | .none, _, _ => ⟨rfl, Nat.zero_le _, Nat.le_trans (show PyData.none.shown.length ≤ 100 by decide +kernel) (by rw [sizeLine_eq]; decide)⟩
  | .bool c, _, _ => ⟨rfl, Nat.zero_le _, Nat.le_trans (show (PyData.bool c).shown.length ≤ 100 by cases c <;> decide +kernel) (by rw [sizeLine_eq]; decide)⟩
  | .str z, _, h => by
    unfold Ok at h
    refine ⟨rfl, Nat.zero_le _, ?_⟩
    have h2 := StrLaws.reprText_len z fun c hc => Nat.lt_of_lt_of_le (h.2 c hc) (by decide)
    simp only [PyData.shown]
    have h1 := h.1
    rw [sizeLine_eq]
    omega
  | .int i, _, h => by
    unfold Ok at h
    refine ⟨?_, Nat.zero_le _, ?_⟩
    · simp only [PyData.showable]
      refine decide_eq_true ?_
      rcases Nat.eq_zero_or_pos i.natAbs with e | e
      · rw [e]
        decide
      · have h2 : i.natAbs < 2 ^ 1920 := Nat.lt_trans h (by decide +kernel)
        exact (Nat.log2_lt (by omega)).mpr h2
    · simp only [PyData.shown]
      have := int_text_length_le10 (k := 45) (by decide) (Nat.lt_trans h (by decide +kernel))
      have e : (Str.ofString (toString i)).length ≤ 50 := by
        rw [PySem.ofString_length]
        omega
      exact Nat.le_trans e (by rw [sizeLine_eq]; decide)
theorem depthKv_mem : ∀ {ds : List (PyData × PyData)} {x : PyData × PyData}, x ∈ ds → x.2.depth ≤ PyData.depthKv ds
  | (k, v) :: r, x, h => by
    simp only [PyData.depthKv]
    rcases List.mem_cons.mp h with rfl | h
    · show v.depth ≤ _
      omega
    · have := depthKv_mem h
      omega
theorem dxkv_mem {M : Addr → Prop} {H : Hp} : ∀ {kvs : List (Key × V)} {ds : List (PyData × PyData)} {p : Key × V}, DxKv M H kvs ds → p ∈ kvs → ∃ E, (keyD p.1, E) ∈ ds ∧ Dx M H p.2 E
  | _ :: _, _ :: _, p, h, m => by
    cases h with
    | cons h1 h2 =>
      rcases List.mem_cons.mp m with rfl | m
      · exact ⟨_, List.mem_cons_self .., h1⟩
      · obtain ⟨E, e1, e2⟩ := dxkv_mem h2 m
        exact ⟨E, List.mem_cons_of_mem _ e1, e2⟩
  | [], _, _, _, m => by cases m
theorem val_mem {kvs : List (Key × V)} {i : Nat} {k : Key} {v : V} (h : kvs[i]? = some (k, v)) : ∃ u, valV kvs k = some u ∧ (k, u) ∈ kvs := by
  unfold valV
  cases e : kvs.find? (fun kv => decide (kv.1 = k)) with
  | none =>
    have z := List.find?_eq_none.mp e (k, v) (List.mem_of_getElem? h)
    exact absurd (decide_eq_true rfl) z
  | some p =>
    have z : p.1 = k := by
      have z := List.find?_some e
      exact of_decide_eq_true z
    refine ⟨p.2, rfl, ?_⟩
    rw [← z]
    exact List.mem_of_find?_eq_some e
end SM0

set_option Elab.async false
set_option linter.all false
set_option maxRecDepth 100000
set_option maxHeartbeats 4000000
/-! A value is the same as itself. -/
namespace SM
open PySem PySem.Spec PyProof.Rows L2 KT KX KV KA EN KE0 SM0
structure TbS (mg : Str → Option Value) : Prop where
  list : mg "list" = none
  tuple : mg "tuple" = none
  dict : mg "dict" = none
  len : mg "len" = none
  enumerate : mg "enumerate" = none
  isinstance : mg "isinstance" = none
  repr : mg "repr" = none
abbrev N__law_is_same : List Str := ["_law_near", "_law_far", "_law_at", "_law_it", "_law_key"]
abbrev P__law_is_same : List Str := ["_law_near", "_law_far"]
theorem sc__law_is_same : FnScope N__law_is_same P__law_is_same (defScope s__law_is_same) := ⟨rfl, rfl, rfl, by decide +kernel, rfl, by decide +kernel, by decide +kernel⟩
section
variable {P : Program} {w : World} {K : PySem.W.Frag} {mg : Str → Option Value} {base : Heap}
def spS (n : Nat) : Sp := fun vs H Q _ => ∃ (M : Addr → Prop) (v : V) (D : PyData), vs = [v, v] ∧ Dx M H v D ∧ Ok D ∧ D.depth < n ∧ ∀ H', Same H H' → Q (.bl true) H'
theorem same_seq {n : Nat} {J : It} {G : Hp → Prop} {xs : List V} {ds : List PyData} {M : Addr → Prop} {H1 : Hp} {v : V} {c2 c3 c4 : Option V} {D : Addr} {Qd : Hp → Prop}
    (w : Walk J xs.length G (YPair (fun i => some (.int (i : Nat))) (fun i => xs[i]?))) (hx : DxAll M H1 xs ds) (hok : OkL ds) (hd : PyData.depthAll ds < n) (hG : ∀ H', Same H1 H' → G H')
    (ix : ∀ H' (i : Nat) x (Q : VK), Same H1 H' → xs[i]? = some x → Q x H' → rIx K v (.int i) H' Q) (hn : H1 D = none) (q : ∀ H', Same H1 H' → H' D = some (.lst []) → Qd H') :
    ∃ W : Nat → Nat → Hp → Prop, (∃ m, W 0 m (upd H1 D (.lst []))) ∧ ∀ i m H, W i m H →
      (J.stop i H ∧ Qd H) ∨ (J.go i H ∧ ∃ Nx : Hp → Prop, (∀ H', Nx H' → ∃ m', m' < m ∧ W (i + 1) m' H') ∧ ∀ x H', J.yld i H x H' →
        gTup K 2 (gCons (gName 2) (gCons (gName 3) gNil)) x (wipe [some v, some v, c2, c3, c4] [2, 3]) H' fun σ2 H2 => wipe σ2 [2, 3] = wipe [some v, some v, c2, c3, c4] [2, 3] ∧
          tNot (tB (tCall (spS n) [] E0 (tCons (tVar 3) (tCons (tOp (rIx K) (tVar 1) (tVar 2)) tNil)))) σ2 H2 fun b H3 =>
        if b = true then (tVar 2) σ2 H3 fun y H4 => ∃ acc, H4 D = some (.lst acc) ∧ acc.length < sizeLine ∧ Nx (upd H4 D (.lst (acc ++ [y]))) else Nx H3) := by
  refine lc_it w (fun _ H' => Same H1 H' ∧ H' D = some (.lst [])) ⟨same_new hn, upd_same⟩ (fun i H h1 h => hG H h.1) (fun i x H H' hi h y => ?_) (fun H h => q H h.1 h.2)
  obtain ⟨s1, hD⟩ := h
  obtain ⟨T, x1, x2, rfl, hT, rfl, e1, e2⟩ := y
  cases e1
  have e3 : xs[i]? = some x2 := e2
  have s2 : Same H (upd H T (.tup [.int i, x2])) := same_new hT
  have s3 : Same H1 (upd H T (.tup [.int i, x2])) := fun b o e => s2 _ _ (s1 _ _ e)
  refine ⟨T, _, rfl, SqT.of upd_same, rfl, _, _, rfl, _, _, rfl, rfl, rfl, ?_⟩
  refine ⟨_, rfl, _, rfl, _, rfl, ix _ i x2 _ s3 e3 ?_⟩
  obtain ⟨E, h3, h4⟩ := DxAll.at hx e3
  have hm : E ∈ ds := List.mem_of_getElem? h3
  refine ⟨M, x2, E, rfl, Dx.kp (Kp.same s3) _ _ h4, OkL.mem hok hm, Nat.lt_of_le_of_lt (depth_mem hm) hd, fun H4 s4 => ⟨_, rfl, ?_⟩⟩
  show Same H1 H4 ∧ H4 D = some (.lst [])
  exact ⟨fun b o e => s4 _ _ (s3 _ _ e), s4 _ _ (s2 _ _ hD)⟩
theorem ok_same1 {fd : FuncData} {n k : Nat} (hm : HasMods base) (T : TbS mg) (D__law_is_same : Df K mg "_law_is_same" s__law_is_same P__law_is_same fd) (G__law_is_same : FnG P w K mg base k (He.fAd K ("_law_is_same", none)) fd P__law_is_same (spS n)) :
    FnG P w K mg base (k + 6) (He.fAd K ("_law_is_same", none)) fd P__law_is_same (spS (n + 1)) := by
  refine okG (k := k + 5) (fun_of D__law_is_same.F) sc__law_is_same (fun vs H Q E h => ?_) (fun cdv A outer s H vs Q E hA hr h => ?_)
  · obtain ⟨M, v, D, rfl, _⟩ := h
    rfl
  · obtain ⟨M, v, D, rfl, hD, hok, hd, q⟩ := h
    have hu := hu_of hr
    refine ⟨_, (pss_cons (ps_if (pt_val (pe_callB call_isiT (by rfl) T.isinstance (by decide +kernel) (pa_cons (pv 0) (pa_cons (pe_tup (pa_cons (pe_bltn (v := .ty "list") (by rfl) T.list (by decide +kernel) rfl) (pa_cons (pe_bltn (v := .ty "tuple") (by rfl) T.tuple (by decide +kernel) rfl) pa_nil))) pa_nil)))) (pss_cons (ps_if (PW.pt (pw_or (pt_not (pt_val (pe_callB call_isiT (by rfl) T.isinstance (by decide +kernel) (pa_cons (pv 1) (pa_cons (pe_tup (pa_cons (pe_bltn (v := .ty "list") (by rfl) T.list (by decide +kernel) rfl) (pa_cons (pe_bltn (v := .ty "tuple") (by rfl) T.tuple (by decide +kernel) rfl) pa_nil))) pa_nil))))) (pw_or1 (pt_cmpR op_ne (pe_callB call_isi (by rfl) T.isinstance (by decide +kernel) (pa_cons (pv 0) (pa_cons (pe_bltn (v := .ty "list") (by rfl) T.list (by decide +kernel) rfl) pa_nil))) (pe_callB call_isi (by rfl) T.isinstance (by decide +kernel) (pa_cons (pv 1) (pa_cons (pe_bltn (v := .ty "list") (by rfl) T.list (by decide +kernel) rfl) pa_nil))) (nomark _))))) (pss_one (ps_ret pe_bl)) pss_nil)
          (pss_one (ps_ret (pe_and (pe_cmpR op_eq (pe_callB (callR_or call_len call_lenD) (by rfl) T.len (by decide +kernel) (pa_cons (pv 0) pa_nil)) (pe_callB (callR_or call_len call_lenD) (by rfl) T.len (by decide +kernel) (pa_cons (pv 1) pa_nil)) (nomark _)) (pe_one (pe_cmpR (op_eqE hr) (pe_lc (own := [("_law_at", 2), ("_law_it", 3)]) (g := gTup K 2 (gCons (gName 2) (gCons (gName 3) gNil))) (by rfl) sc__law_is_same.nd (pi_or (pi_enum (by rfl) T.enumerate (pa_cons (pv 0) pa_nil)) (pi_enumT (by rfl) T.enumerate (pa_cons (pv 0) pa_nil))) (blkOk_by (own := [("_law_at", 2), ("_law_it", 3)]) (N := N__law_is_same) (sc := defScope s__law_is_same) (by decide +kernel)) (fun _ _ _ _ _ => (pg_tup (by rfl) (pgs_cons (pg_name (i := 2) sc__law_is_same.nd (by rfl) (by exact (.inl rfl)) (hf := by first | exact .inl rfl | exact .inr rfl)) (pgs_cons (pg_name (i := 3) sc__law_is_same.nd (by rfl) (by exact (.inl rfl)) (hf := by first | exact .inl rfl | exact .inr rfl)) pgs_nil (hs := by rfl)) (hs := by rfl)) (hn := by rfl) (hst := by rfl))) (fun _ _ _ _ _ => (pts_one (pt_not (pt_val (pe_callG G__law_is_same hA (hr.mono (by first | decide | omega)) (by rfl) D__law_is_same.g D__law_is_same.F.kp D__law_is_same.b (pa_cons (pv 3) (pa_cons (pe_ix (show IxR _ (rIx K) from ix_seq) (pv 1) (pv 2) (fun _ _ => rfl)) pa_nil))))))) (fun _ _ _ _ _ => (pv 2))) (pe_lst pa_nil) (nomark _))))))) pss_nil)
      (pss_cons (ps_if (pt_val (pe_callB call_isi (by rfl) T.isinstance (by decide +kernel) (pa_cons (pv 0) (pa_cons (pe_bltn (v := .ty "dict") (by rfl) T.dict (by decide +kernel) rfl) pa_nil)))) (pss_cons (ps_if (PW.pt (pw_or (pt_not (pt_val (pe_callB call_isi (by rfl) T.isinstance (by decide +kernel) (pa_cons (pv 1) (pa_cons (pe_bltn (v := .ty "dict") (by rfl) T.dict (by decide +kernel) rfl) pa_nil))))) (pw_or1 (pt_cmpR op_ne (pe_callB (callR_or call_len call_lenD) (by rfl) T.len (by decide +kernel) (pa_cons (pv 0) pa_nil)) (pe_callB (callR_or call_len call_lenD) (by rfl) T.len (by decide +kernel) (pa_cons (pv 1) pa_nil)) (nomark _))))) (pss_one (ps_ret pe_bl)) pss_nil)
          (pss_one (ps_ret (pe_cmpR (op_eqE hr) (pe_lock (pe_lc (own := [("_law_key", 4)]) (g := gName 4) (by rfl) sc__law_is_same.nd (pi_keys (pv 0)) (blkOk_by (own := [("_law_key", 4)]) (N := N__law_is_same) (sc := defScope s__law_is_same) (by decide +kernel)) (fun _ _ _ _ _ => (pg_name (i := 4) sc__law_is_same.nd rfl (.inl rfl))) (fun _ _ _ _ _ => (pts_one (PW.pt (pw_or (pt_cmp (pc_dnotin hu (pv 4) (pv 1))) (pw_or1 (pt_not (pt_val (pe_callG G__law_is_same hA (hr.mono (by first | decide | omega)) (by rfl) D__law_is_same.g D__law_is_same.F.kp D__law_is_same.b (pa_cons (pe_dget hu (pv 0) (pv 4) (fun _ _ => rfl)) (pa_cons (pe_dget hu (pv 1) (pv 4) (fun _ _ => rfl)) pa_nil)))))))))) (fun _ _ _ _ _ => (pv 4)))) (pe_lst pa_nil) (nomark _))))) pss_nil)
      (pss_one (ps_ret (pe_and (pe_not (pe_callB call_isiT (by rfl) T.isinstance (by decide +kernel) (pa_cons (pv 1) (pa_cons (pe_tup (pa_cons (pe_bltn (v := .ty "list") (by rfl) T.list (by decide +kernel) rfl) (pa_cons (pe_bltn (v := .ty "tuple") (by rfl) T.tuple (by decide +kernel) rfl) (pa_cons (pe_bltn (v := .ty "dict") (by rfl) T.dict (by decide +kernel) rfl) pa_nil)))) pa_nil)))) (pe_one (pe_cmpR op_eq (pe_callB (call_reprX hr hA hm M) (by rfl) T.repr (by decide +kernel) (pa_cons (pv 0) pa_nil)) (pe_callB (call_reprX hr hA hm M) (by rfl) T.repr (by decide +kernel) (pa_cons (pv 1) pa_nil)) (nomark _)))))))), ?_⟩
    refine ⟨_, rfl, (by show 2 ≤ sizeLine; decide), fun p np => ?_⟩
    have s1 : Same H (upd H p (.tup [.ty "list", .ty "tuple"])) := same_new np
    have q1 : ∀ H', Same (upd H p (.tup [.ty "list", .ty "tuple"])) H' → Q (.bl true) H' := fun H' s2 => q H' fun b o e => s2 _ _ (s1 _ _ e)
    have hD1 := Dx.kp (Kp.same s1) _ _ hD
    refine ⟨v, p, _, _, _, _, rfl, upd_same, pl2, ty_of hD1, kit_two (kb D).1 (kb D).2.1, ?_⟩
    generalize upd H p (.tup [.ty "list", .ty "tuple"]) = H1 at q1 hD1
    clear hD q np s1
    refine ⟨_, rfl, ?_⟩
    cases D with
    | list ds =>
      cases hD1 with
      | lst na ea r =>
        rename_i a xs
        have hD2 : Dx M H1 (.ref a) (.list ds) := .lst na ea r
        have okl : OkL ds := by
          unfold Ok at hok
          exact hok.2
        have hdl : PyData.depthAll ds < n := by
          have z : PyData.depthAll ds + 1 < n + 1 := hd
          omega
        refine (if_pos rfl).mpr ?_
        refine ⟨_, rfl, (by show 2 ≤ sizeLine; decide), fun p2 n2 => ?_⟩
        have s2 : Same H1 (upd H1 p2 (.tup [.ty "list", .ty "tuple"])) := same_new n2
        have hD3 := Dx.kp (Kp.same s2) _ _ hD2
        refine ⟨_, p2, _, _, _, _, rfl, upd_same, pl2, ty_of hD3, kit_two (kb _).1 (kb _).2.1, _, rfl, ?_⟩
        have ea3 := s2 _ _ ea
        have r3 := Dx.kpAll (Kp.same s2) _ _ r
        have q3 : ∀ H', Same (upd H1 p2 (.tup [.ty "list", .ty "tuple"])) H' → Q (.bl true) H' := fun H' s3 => q1 H' fun b o e => s3 _ _ (s2 _ _ e)
        generalize upd H1 p2 (.tup [.ty "list", .ty "tuple"]) = H3 at hD3 ea3 r3 q3
        refine (if_neg Bool.false_ne_true).mpr ?_
        refine ⟨_, rfl, _, .ty "list", _, _, _, rfl, .ty "list", ty_of hD3, kit_ty (kb _).1, _, rfl, _, .ty "list", _, _, _, rfl, .ty "list", ty_of hD3, kit_ty (kb _).1, rfl, _, rfl, ?_⟩
        refine (if_neg Bool.false_ne_true).mpr ?_
        refine ⟨_, rfl, .inl ⟨_, xs.length, rfl, .inl ⟨_, SqL.of ea3, rfl⟩, _, rfl, .inl ⟨_, xs.length, rfl, .inl ⟨_, SqL.of ea3, rfl⟩, rfl, _, (by rw [decide_eq_true rfl]), ?_⟩⟩⟩
        refine (if_pos rfl).mpr ?_
        refine .inl ⟨_, rfl, a, xs, rfl, SqL.of ea3, fun D nD => same_seq walk_enum r3 okl hdl (fun H' s4 => SqL.of (s4 _ _ ea3)) (fun H' i x Q s4 e q => .inl ⟨a, xs, i, x, rfl, rfl, SqL.of (s4 _ _ ea3), atI_nat e, q⟩) nD fun H' s4 hD4 => ?_⟩
        refine ⟨Nat.zero_le _, fun p5 n5 => ⟨D, p5, [], rfl, rfl, .inl ⟨SqL.of (same_new n5 _ _ hD4), SqL.of upd_same⟩, q3 _ fun b o e => same_new n5 _ _ (s4 _ _ e)⟩⟩
    | tuple ds =>
      cases hD1 with
      | tup ea r =>
        rename_i a xs
        have hD2 : Dx M H1 (.ref a) (.tuple ds) := .tup ea r
        have okl : OkL ds := by
          unfold Ok at hok
          exact hok.2
        have hdl : PyData.depthAll ds < n := by
          have z : PyData.depthAll ds + 1 < n + 1 := hd
          omega
        refine (if_pos rfl).mpr ?_
        refine ⟨_, rfl, (by show 2 ≤ sizeLine; decide), fun p2 n2 => ?_⟩
        have s2 : Same H1 (upd H1 p2 (.tup [.ty "list", .ty "tuple"])) := same_new n2
        have hD3 := Dx.kp (Kp.same s2) _ _ hD2
        refine ⟨_, p2, _, _, _, _, rfl, upd_same, pl2, ty_of hD3, kit_two (kb _).1 (kb _).2.1, _, rfl, ?_⟩
        have ea3 := s2 _ _ ea
        have r3 := Dx.kpAll (Kp.same s2) _ _ r
        have q3 : ∀ H', Same (upd H1 p2 (.tup [.ty "list", .ty "tuple"])) H' → Q (.bl true) H' := fun H' s3 => q1 H' fun b o e => s3 _ _ (s2 _ _ e)
        generalize upd H1 p2 (.tup [.ty "list", .ty "tuple"]) = H3 at hD3 ea3 r3 q3
        refine (if_neg Bool.false_ne_true).mpr ?_
        refine ⟨_, rfl, _, .ty "list", _, _, _, rfl, .ty "list", ty_of hD3, kit_ty (kb _).1, _, rfl, _, .ty "list", _, _, _, rfl, .ty "list", ty_of hD3, kit_ty (kb _).1, rfl, _, rfl, ?_⟩
        refine (if_neg Bool.false_ne_true).mpr ?_
        refine ⟨_, rfl, .inl ⟨_, xs.length, rfl, .inr ⟨_, SqT.of ea3, rfl⟩, _, rfl, .inl ⟨_, xs.length, rfl, .inr ⟨_, SqT.of ea3, rfl⟩, rfl, _, (by rw [decide_eq_true rfl]), ?_⟩⟩⟩
        refine (if_pos rfl).mpr ?_
        refine .inr ⟨_, rfl, a, xs, rfl, SqT.of ea3, fun D nD => same_seq walkT r3 okl hdl (fun H' s4 => SqT.of (s4 _ _ ea3)) (fun H' i x Q s4 e q => .inr (.inl ⟨a, xs, i, x, rfl, rfl, SqT.of (s4 _ _ ea3), atI_nat e, q⟩)) nD fun H' s4 hD4 => ?_⟩
        refine ⟨Nat.zero_le _, fun p5 n5 => ⟨D, p5, [], rfl, rfl, .inl ⟨SqL.of (same_new n5 _ _ hD4), SqL.of upd_same⟩, q3 _ fun b o e => same_new n5 _ _ (s4 _ _ e)⟩⟩
    | dict ds =>
      cases hD1 with
      | dk na ea r =>
        rename_i a kvs
        have hD2 : Dx M H1 (.ref a) (.dict ds) := .dk na ea r
        refine (if_neg Bool.false_ne_true).mpr ?_
        refine ⟨_, rfl, _, .ty "dict", _, _, _, rfl, .ty "dict", ty_of hD2, kit_ty (kb _).2.2, _, rfl, ?_⟩
        refine (if_pos rfl).mpr ?_
        refine ⟨_, rfl, _, .ty "dict", _, _, _, rfl, .ty "dict", ty_of hD2, kit_ty (kb _).2.2, _, rfl, ?_⟩
        refine (if_neg Bool.false_ne_true).mpr ?_
        refine ⟨_, rfl, .inr ⟨a, kvs, rfl, ea, _, rfl, .inr ⟨a, kvs, rfl, ea, rfl, _, (by rw [decide_eq_true rfl]), ?_⟩⟩⟩
        refine (if_neg Bool.false_ne_true).mpr ?_
        refine ⟨a, _, ea, trivial, fun od => ⟨_, rfl, a, od, rfl, .inl ⟨kvs, upd_same, fun D nD => ?_⟩⟩⟩
        have na2 : D ≠ a := (ne_of_none upd_same nD).symm
        refine lc_it walk_keys (fun _ H' => Same (upd H1 a (.frz od (.dK kvs))) H' ∧ H' D = some (.lst [])) ⟨same_new nD, upd_same⟩ (fun i H' _ h => h.1 _ _ upd_same) (fun i x H' H2 hi h y => ?_) (fun H' h => ?_)
        · obtain ⟨rfl, k1, v1, e1, rfl⟩ := y
          obtain ⟨s2, hD4⟩ := h
          obtain ⟨u, e2, m2⟩ := val_mem e1
          obtain ⟨F, m3, f3⟩ := dxkv_mem r m2
          have okF : Ok F := by
            unfold Ok at hok
            exact OkK.mem hok.2 m3
          have dF := depthKv_mem m3
          have dF2 : F.depth ≤ PyData.depthKv ds := dF
          have hdd : PyData.depthKv ds + 1 < n + 1 := hd
          have f4 := Dx.off hD2 F u (by show F.depth < PyData.depthKv ds + 1; omega) f3
          have kp : Kp (fun b => M b ∨ b = a) H1 H2 := ⟨fun b o nb _ e => s2 b o (by rw [upd_ne (fun z => nb (.inr z))]; exact e), fun b xs e => s2 b _ (by rw [upd_ne (fun z => by rw [z, ea] at e; cases e)]; exact e)⟩
          have g : DGet H2 a (kV k1) (some u) := .inl ⟨kvs, k1, .inr ⟨od, s2 _ _ upd_same⟩, rfl, e2.symm⟩
          refine ⟨rfl, _, rfl, _, rfl, a, _, rfl, g, _, rfl, ?_⟩
          refine (if_neg Bool.false_ne_true).mpr ?_
          refine ⟨_, rfl, _, rfl, a, u, rfl, g, _, rfl, _, rfl, a, u, rfl, g, ?_⟩
          refine ⟨_, u, F, rfl, Dx.kp kp _ _ f4, okF, by omega, fun H4 s4 => ⟨_, rfl, ?_⟩⟩
          show Same (upd H1 a (.frz od (.dK kvs))) H4 ∧ H4 D = some (.lst [])
          exact ⟨fun b o e => s4 _ _ (s2 _ _ e), s4 _ _ hD4⟩
        · obtain ⟨s2, hD4⟩ := h
          refine ⟨s2 _ _ upd_same, Nat.zero_le _, fun p5 n5 => ⟨D, p5, [], rfl, rfl, .inl ⟨SqL.of (same_new n5 _ _ (by rw [upd_ne na2]; exact hD4)), SqL.of upd_same⟩, q1 _ fun b o e => same_new n5 _ _ ?_⟩⟩
          by_cases hb : b = a
          · rw [hb, upd_same, ← ea, hb.symm]
            exact e
          · rw [upd_ne hb]
            exact s2 _ _ (by rw [upd_ne hb]; exact e)
    | none =>
      cases hD1
      have hD2 : Dx M H1 _ (.none) := .non
      refine (if_neg Bool.false_ne_true).mpr ?_
      refine ⟨_, rfl, _, .ty "dict", _, _, _, rfl, .ty "dict", ty_of hD2, kit_ty (kb _).2.2, _, rfl, ?_⟩
      refine (if_neg Bool.false_ne_true).mpr ?_
      obtain ⟨g1, g2, g3⟩ := sc_show (.none) trivial hok
      refine ⟨_, rfl, (by show 3 ≤ sizeLine; decide), fun p3 n3 => ?_⟩
      have s3 : Same H1 (upd H1 p3 (.tup [.ty "list", .ty "tuple", .ty "dict"])) := same_new n3
      have hD3 := Dx.kp (Kp.same s3) _ _ hD2
      refine ⟨_, p3, _, _, _, _, rfl, upd_same, pl3, ty_of hD3, kit_three (kb _).1 (kb _).2.1 (kb _).2.2, _, rfl, _, rfl, ?_⟩
      refine (if_pos rfl).mpr ?_
      refine ⟨_, rfl, _, _, rfl, hD3, g1, g2, g3, _, rfl, _, _, rfl, hD3, g1, g2, g3, rfl, ?_⟩
      rw [decide_eq_true rfl]
      exact q1 _ s3
    | bool b =>
      cases hD1
      have hD2 : Dx M H1 _ (.bool b) := .bl b
      refine (if_neg Bool.false_ne_true).mpr ?_
      refine ⟨_, rfl, _, .ty "dict", _, _, _, rfl, .ty "dict", ty_of hD2, kit_ty (kb _).2.2, _, rfl, ?_⟩
      refine (if_neg Bool.false_ne_true).mpr ?_
      obtain ⟨g1, g2, g3⟩ := sc_show (.bool b) trivial hok
      refine ⟨_, rfl, (by show 3 ≤ sizeLine; decide), fun p3 n3 => ?_⟩
      have s3 : Same H1 (upd H1 p3 (.tup [.ty "list", .ty "tuple", .ty "dict"])) := same_new n3
      have hD3 := Dx.kp (Kp.same s3) _ _ hD2
      refine ⟨_, p3, _, _, _, _, rfl, upd_same, pl3, ty_of hD3, kit_three (kb _).1 (kb _).2.1 (kb _).2.2, _, rfl, _, rfl, ?_⟩
      refine (if_pos rfl).mpr ?_
      refine ⟨_, rfl, _, _, rfl, hD3, g1, g2, g3, _, rfl, _, _, rfl, hD3, g1, g2, g3, rfl, ?_⟩
      rw [decide_eq_true rfl]
      exact q1 _ s3
    | int i =>
      cases hD1
      have hD2 : Dx M H1 _ (.int i) := .int i
      refine (if_neg Bool.false_ne_true).mpr ?_
      refine ⟨_, rfl, _, .ty "dict", _, _, _, rfl, .ty "dict", ty_of hD2, kit_ty (kb _).2.2, _, rfl, ?_⟩
      refine (if_neg Bool.false_ne_true).mpr ?_
      obtain ⟨g1, g2, g3⟩ := sc_show (.int i) trivial hok
      refine ⟨_, rfl, (by show 3 ≤ sizeLine; decide), fun p3 n3 => ?_⟩
      have s3 : Same H1 (upd H1 p3 (.tup [.ty "list", .ty "tuple", .ty "dict"])) := same_new n3
      have hD3 := Dx.kp (Kp.same s3) _ _ hD2
      refine ⟨_, p3, _, _, _, _, rfl, upd_same, pl3, ty_of hD3, kit_three (kb _).1 (kb _).2.1 (kb _).2.2, _, rfl, _, rfl, ?_⟩
      refine (if_pos rfl).mpr ?_
      refine ⟨_, rfl, _, _, rfl, hD3, g1, g2, g3, _, rfl, _, _, rfl, hD3, g1, g2, g3, rfl, ?_⟩
      rw [decide_eq_true rfl]
      exact q1 _ s3
    | str z =>
      cases hD1
      have hD2 : Dx M H1 _ (.str z) := .str z
      refine (if_neg Bool.false_ne_true).mpr ?_
      refine ⟨_, rfl, _, .ty "dict", _, _, _, rfl, .ty "dict", ty_of hD2, kit_ty (kb _).2.2, _, rfl, ?_⟩
      refine (if_neg Bool.false_ne_true).mpr ?_
      obtain ⟨g1, g2, g3⟩ := sc_show (.str z) trivial hok
      refine ⟨_, rfl, (by show 3 ≤ sizeLine; decide), fun p3 n3 => ?_⟩
      have s3 : Same H1 (upd H1 p3 (.tup [.ty "list", .ty "tuple", .ty "dict"])) := same_new n3
      have hD3 := Dx.kp (Kp.same s3) _ _ hD2
      refine ⟨_, p3, _, _, _, _, rfl, upd_same, pl3, ty_of hD3, kit_three (kb _).1 (kb _).2.1 (kb _).2.2, _, rfl, _, rfl, ?_⟩
      refine (if_pos rfl).mpr ?_
      refine ⟨_, rfl, _, _, rfl, hD3, g1, g2, g3, _, rfl, _, _, rfl, hD3, g1, g2, g3, rfl, ?_⟩
      rw [decide_eq_true rfl]
      exact q1 _ s3
theorem ok_same {fd : FuncData} (hm : HasMods base) (T : TbS mg) (D__law_is_same : Df K mg "_law_is_same" s__law_is_same P__law_is_same fd) :
    ∀ n : Nat, FnG P w K mg base (6 * n) (He.fAd K ("_law_is_same", none)) fd P__law_is_same (spS n)
  | 0 => ⟨fun vs H Q E h => by
      obtain ⟨M, v, D, rfl, _⟩ := h
      rfl, fun A outer s H args us vs Q E _ _ _ _ _ h => by
      obtain ⟨M, v, D, _, _, _, h, _⟩ := h
      exact absurd h (Nat.not_lt_zero _)⟩
  | n + 1 => ok_same1 hm T D__law_is_same (ok_same hm T D__law_is_same n)
end
end SM


set_option Elab.async false
set_option linter.all false
set_option maxRecDepth 100000
set_option maxHeartbeats 4000000
/-! The errors made, by position and by name. -/
namespace TM
open PySem PySem.Spec PyProof.Rows L2 KT KX KV KA QY QZ QB QE
section
variable {P : Program} {w : World} {K : PySem.W.Frag} {mg : Str → Option Value} {base : Heap} {fi : Str → FuncData}
theorem scm_BadTree : FnScope (["self", "thing"] : List Str) (["self", "thing"] : List Str) (defScope m_BadTree___init__) := ⟨rfl, rfl, rfl, by decide +kernel, rfl, by decide +kernel, by decide +kernel⟩
theorem oi_BadTree {f0 : Addr} {fd : FuncData} (F : FunD K "__init__" "BadTree.__init__" (defArgs m_BadTree___init__) (defBody m_BadTree___init__) (defScope m_BadTree___init__) [] [] f0 fd) : FnOk P w K mg base CX0 1 f0 fd ["self", "thing"] (spI K "thing") := by
  refine (fun_ofM F).ok scm_BadTree (fun vs H Q E h => ?_) (fun cdv A outer s H vs Q E hr h => ?_)
  · obtain ⟨a, C, fI, y, rfl, _⟩ := h
    rfl
  · obtain ⟨a, C, fI, y, rfl, T, e, q⟩ := h
    refine ⟨_, pss_one (ps_qst (pv 0) (pv 1)), ?_⟩
    exact ⟨_, rfl, _, rfl, a, C, fI, rfl, T, e, q⟩
theorem scm_BadProgram : FnScope (["self", "thing"] : List Str) (["self", "thing"] : List Str) (defScope m_BadProgram___init__) := ⟨rfl, rfl, rfl, by decide +kernel, rfl, by decide +kernel, by decide +kernel⟩
theorem oi_BadProgram {f0 : Addr} {fd : FuncData} (F : FunD K "__init__" "BadProgram.__init__" (defArgs m_BadProgram___init__) (defBody m_BadProgram___init__) (defScope m_BadProgram___init__) [] [] f0 fd) : FnOk P w K mg base CX0 1 f0 fd ["self", "thing"] (spI K "thing") := by
  refine (fun_ofM F).ok scm_BadProgram (fun vs H Q E h => ?_) (fun cdv A outer s H vs Q E hr h => ?_)
  · obtain ⟨a, C, fI, y, rfl, _⟩ := h
    rfl
  · obtain ⟨a, C, fI, y, rfl, T, e, q⟩ := h
    refine ⟨_, pss_one (ps_qst (pv 0) (pv 1)), ?_⟩
    exact ⟨_, rfl, _, rfl, a, C, fI, rfl, T, e, q⟩
theorem scm_BadWord : FnScope (["self", "thing"] : List Str) (["self", "thing"] : List Str) (defScope m_BadWord___init__) := ⟨rfl, rfl, rfl, by decide +kernel, rfl, by decide +kernel, by decide +kernel⟩
theorem oi_BadWord {f0 : Addr} {fd : FuncData} (F : FunD K "__init__" "BadWord.__init__" (defArgs m_BadWord___init__) (defBody m_BadWord___init__) (defScope m_BadWord___init__) [] [] f0 fd) : FnOk P w K mg base CX0 1 f0 fd ["self", "thing"] (spI K "thing") := by
  refine (fun_ofM F).ok scm_BadWord (fun vs H Q E h => ?_) (fun cdv A outer s H vs Q E hr h => ?_)
  · obtain ⟨a, C, fI, y, rfl, _⟩ := h
    rfl
  · obtain ⟨a, C, fI, y, rfl, T, e, q⟩ := h
    refine ⟨_, pss_one (ps_qst (pv 0) (pv 1)), ?_⟩
    exact ⟨_, rfl, _, rfl, a, C, fI, rfl, T, e, q⟩
theorem scm_BadText : FnScope (["self", "at"] : List Str) (["self", "at"] : List Str) (defScope m_BadText___init__) := ⟨rfl, rfl, rfl, by decide +kernel, rfl, by decide +kernel, by decide +kernel⟩
theorem oi_BadText {f0 : Addr} {fd : FuncData} (F : FunD K "__init__" "BadText.__init__" (defArgs m_BadText___init__) (defBody m_BadText___init__) (defScope m_BadText___init__) [] [] f0 fd) : FnOk P w K mg base CX0 1 f0 fd ["self", "at"] (spI K "at") := by
  refine (fun_ofM F).ok scm_BadText (fun vs H Q E h => ?_) (fun cdv A outer s H vs Q E hr h => ?_)
  · obtain ⟨a, C, fI, y, rfl, _⟩ := h
    rfl
  · obtain ⟨a, C, fI, y, rfl, T, e, q⟩ := h
    refine ⟨_, pss_one (ps_qst (pv 0) (pv 1)), ?_⟩
    exact ⟨_, rfl, _, rfl, a, C, fI, rfl, T, e, q⟩
theorem scm_BadPath : FnScope (["self", "thing"] : List Str) (["self", "thing"] : List Str) (defScope m_BadPath___init__) := ⟨rfl, rfl, rfl, by decide +kernel, rfl, by decide +kernel, by decide +kernel⟩
theorem oi_BadPath {f0 : Addr} {fd : FuncData} (F : FunD K "__init__" "BadPath.__init__" (defArgs m_BadPath___init__) (defBody m_BadPath___init__) (defScope m_BadPath___init__) [] [] f0 fd) : FnOk P w K mg base CX0 1 f0 fd ["self", "thing"] (spI K "thing") := by
  refine (fun_ofM F).ok scm_BadPath (fun vs H Q E h => ?_) (fun cdv A outer s H vs Q E hr h => ?_)
  · obtain ⟨a, C, fI, y, rfl, _⟩ := h
    rfl
  · obtain ⟨a, C, fI, y, rfl, T, e, q⟩ := h
    refine ⟨_, pss_one (ps_qst (pv 0) (pv 1)), ?_⟩
    exact ⟨_, rfl, _, rfl, a, C, fI, rfl, T, e, q⟩
theorem scm_BadRaw : FnScope (["self", "thing"] : List Str) (["self", "thing"] : List Str) (defScope m_BadRaw___init__) := ⟨rfl, rfl, rfl, by decide +kernel, rfl, by decide +kernel, by decide +kernel⟩
theorem oi_BadRaw {f0 : Addr} {fd : FuncData} (F : FunD K "__init__" "BadRaw.__init__" (defArgs m_BadRaw___init__) (defBody m_BadRaw___init__) (defScope m_BadRaw___init__) [] [] f0 fd) : FnOk P w K mg base CX0 1 f0 fd ["self", "thing"] (spI K "thing") := by
  refine (fun_ofM F).ok scm_BadRaw (fun vs H Q E h => ?_) (fun cdv A outer s H vs Q E hr h => ?_)
  · obtain ⟨a, C, fI, y, rfl, _⟩ := h
    rfl
  · obtain ⟨a, C, fI, y, rfl, T, e, q⟩ := h
    refine ⟨_, pss_one (ps_qst (pv 0) (pv 1)), ?_⟩
    exact ⟨_, rfl, _, rfl, a, C, fI, rfl, T, e, q⟩
theorem scm_BadName : FnScope (["self", "thing"] : List Str) (["self", "thing"] : List Str) (defScope m_BadName___init__) := ⟨rfl, rfl, rfl, by decide +kernel, rfl, by decide +kernel, by decide +kernel⟩
theorem oi_BadName {f0 : Addr} {fd : FuncData} (F : FunD K "__init__" "BadName.__init__" (defArgs m_BadName___init__) (defBody m_BadName___init__) (defScope m_BadName___init__) [] [] f0 fd) : FnOk P w K mg base CX0 1 f0 fd ["self", "thing"] (spI K "thing") := by
  refine (fun_ofM F).ok scm_BadName (fun vs H Q E h => ?_) (fun cdv A outer s H vs Q E hr h => ?_)
  · obtain ⟨a, C, fI, y, rfl, _⟩ := h
    rfl
  · obtain ⟨a, C, fI, y, rfl, T, e, q⟩ := h
    refine ⟨_, pss_one (ps_qst (pv 0) (pv 1)), ?_⟩
    exact ⟨_, rfl, _, rfl, a, C, fI, rfl, T, e, q⟩
theorem scm_BadInputs : FnScope (["self", "thing"] : List Str) (["self", "thing"] : List Str) (defScope m_BadInputs___init__) := ⟨rfl, rfl, rfl, by decide +kernel, rfl, by decide +kernel, by decide +kernel⟩
theorem oi_BadInputs {f0 : Addr} {fd : FuncData} (F : FunD K "__init__" "BadInputs.__init__" (defArgs m_BadInputs___init__) (defBody m_BadInputs___init__) (defScope m_BadInputs___init__) [] [] f0 fd) : FnOk P w K mg base CX0 1 f0 fd ["self", "thing"] (spI K "thing") := by
  refine (fun_ofM F).ok scm_BadInputs (fun vs H Q E h => ?_) (fun cdv A outer s H vs Q E hr h => ?_)
  · obtain ⟨a, C, fI, y, rfl, _⟩ := h
    rfl
  · obtain ⟨a, C, fI, y, rfl, T, e, q⟩ := h
    refine ⟨_, pss_one (ps_qst (pv 0) (pv 1)), ?_⟩
    exact ⟨_, rfl, _, rfl, a, C, fI, rfl, T, e, q⟩
theorem scm_BadPoly : FnScope (["self", "thing"] : List Str) (["self", "thing"] : List Str) (defScope m_BadPoly___init__) := ⟨rfl, rfl, rfl, by decide +kernel, rfl, by decide +kernel, by decide +kernel⟩
theorem oi_BadPoly {f0 : Addr} {fd : FuncData} (F : FunD K "__init__" "BadPoly.__init__" (defArgs m_BadPoly___init__) (defBody m_BadPoly___init__) (defScope m_BadPoly___init__) [] [] f0 fd) : FnOk P w K mg base CX0 1 f0 fd ["self", "thing"] (spI K "thing") := by
  refine (fun_ofM F).ok scm_BadPoly (fun vs H Q E h => ?_) (fun cdv A outer s H vs Q E hr h => ?_)
  · obtain ⟨a, C, fI, y, rfl, _⟩ := h
    rfl
  · obtain ⟨a, C, fI, y, rfl, T, e, q⟩ := h
    refine ⟨_, pss_one (ps_qst (pv 0) (pv 1)), ?_⟩
    exact ⟨_, rfl, _, rfl, a, C, fI, rfl, T, e, q⟩
theorem scm_BadTable : FnScope (["self", "thing"] : List Str) (["self", "thing"] : List Str) (defScope m_BadTable___init__) := ⟨rfl, rfl, rfl, by decide +kernel, rfl, by decide +kernel, by decide +kernel⟩
theorem oi_BadTable {f0 : Addr} {fd : FuncData} (F : FunD K "__init__" "BadTable.__init__" (defArgs m_BadTable___init__) (defBody m_BadTable___init__) (defScope m_BadTable___init__) [] [] f0 fd) : FnOk P w K mg base CX0 1 f0 fd ["self", "thing"] (spI K "thing") := by
  refine (fun_ofM F).ok scm_BadTable (fun vs H Q E h => ?_) (fun cdv A outer s H vs Q E hr h => ?_)
  · obtain ⟨a, C, fI, y, rfl, _⟩ := h
    rfl
  · obtain ⟨a, C, fI, y, rfl, T, e, q⟩ := h
    refine ⟨_, pss_one (ps_qst (pv 0) (pv 1)), ?_⟩
    exact ⟨_, rfl, _, rfl, a, C, fI, rfl, T, e, q⟩
theorem scm_BadNumber : FnScope (["self", "thing"] : List Str) (["self", "thing"] : List Str) (defScope m_BadNumber___init__) := ⟨rfl, rfl, rfl, by decide +kernel, rfl, by decide +kernel, by decide +kernel⟩
theorem oi_BadNumber {f0 : Addr} {fd : FuncData} (F : FunD K "__init__" "BadNumber.__init__" (defArgs m_BadNumber___init__) (defBody m_BadNumber___init__) (defScope m_BadNumber___init__) [] [] f0 fd) : FnOk P w K mg base CX0 1 f0 fd ["self", "thing"] (spI K "thing") := by
  refine (fun_ofM F).ok scm_BadNumber (fun vs H Q E h => ?_) (fun cdv A outer s H vs Q E hr h => ?_)
  · obtain ⟨a, C, fI, y, rfl, _⟩ := h
    rfl
  · obtain ⟨a, C, fI, y, rfl, T, e, q⟩ := h
    refine ⟨_, pss_one (ps_qst (pv 0) (pv 1)), ?_⟩
    exact ⟨_, rfl, _, rfl, a, C, fI, rfl, T, e, q⟩
theorem scm_BadStep : FnScope (["self", "thing"] : List Str) (["self", "thing"] : List Str) (defScope m_BadStep___init__) := ⟨rfl, rfl, rfl, by decide +kernel, rfl, by decide +kernel, by decide +kernel⟩
theorem oi_BadStep {f0 : Addr} {fd : FuncData} (F : FunD K "__init__" "BadStep.__init__" (defArgs m_BadStep___init__) (defBody m_BadStep___init__) (defScope m_BadStep___init__) [] [] f0 fd) : FnOk P w K mg base CX0 1 f0 fd ["self", "thing"] (spI K "thing") := by
  refine (fun_ofM F).ok scm_BadStep (fun vs H Q E h => ?_) (fun cdv A outer s H vs Q E hr h => ?_)
  · obtain ⟨a, C, fI, y, rfl, _⟩ := h
    rfl
  · obtain ⟨a, C, fI, y, rfl, T, e, q⟩ := h
    refine ⟨_, pss_one (ps_qst (pv 0) (pv 1)), ?_⟩
    exact ⟨_, rfl, _, rfl, a, C, fI, rfl, T, e, q⟩
theorem scm_BadUnit : FnScope (["self", "thing"] : List Str) (["self", "thing"] : List Str) (defScope m_BadUnit___init__) := ⟨rfl, rfl, rfl, by decide +kernel, rfl, by decide +kernel, by decide +kernel⟩
theorem oi_BadUnit {f0 : Addr} {fd : FuncData} (F : FunD K "__init__" "BadUnit.__init__" (defArgs m_BadUnit___init__) (defBody m_BadUnit___init__) (defScope m_BadUnit___init__) [] [] f0 fd) : FnOk P w K mg base CX0 1 f0 fd ["self", "thing"] (spI K "thing") := by
  refine (fun_ofM F).ok scm_BadUnit (fun vs H Q E h => ?_) (fun cdv A outer s H vs Q E hr h => ?_)
  · obtain ⟨a, C, fI, y, rfl, _⟩ := h
    rfl
  · obtain ⟨a, C, fI, y, rfl, T, e, q⟩ := h
    refine ⟨_, pss_one (ps_qst (pv 0) (pv 1)), ?_⟩
    exact ⟨_, rfl, _, rfl, a, C, fI, rfl, T, e, q⟩
theorem scm_BadStanding : FnScope (["self", "thing"] : List Str) (["self", "thing"] : List Str) (defScope m_BadStanding___init__) := ⟨rfl, rfl, rfl, by decide +kernel, rfl, by decide +kernel, by decide +kernel⟩
theorem oi_BadStanding {f0 : Addr} {fd : FuncData} (F : FunD K "__init__" "BadStanding.__init__" (defArgs m_BadStanding___init__) (defBody m_BadStanding___init__) (defScope m_BadStanding___init__) [] [] f0 fd) : FnOk P w K mg base CX0 1 f0 fd ["self", "thing"] (spI K "thing") := by
  refine (fun_ofM F).ok scm_BadStanding (fun vs H Q E h => ?_) (fun cdv A outer s H vs Q E hr h => ?_)
  · obtain ⟨a, C, fI, y, rfl, _⟩ := h
    rfl
  · obtain ⟨a, C, fI, y, rfl, T, e, q⟩ := h
    refine ⟨_, pss_one (ps_qst (pv 0) (pv 1)), ?_⟩
    exact ⟨_, rfl, _, rfl, a, C, fI, rfl, T, e, q⟩
theorem scm_BadSharing : FnScope (["self", "thing"] : List Str) (["self", "thing"] : List Str) (defScope m_BadSharing___init__) := ⟨rfl, rfl, rfl, by decide +kernel, rfl, by decide +kernel, by decide +kernel⟩
theorem oi_BadSharing {f0 : Addr} {fd : FuncData} (F : FunD K "__init__" "BadSharing.__init__" (defArgs m_BadSharing___init__) (defBody m_BadSharing___init__) (defScope m_BadSharing___init__) [] [] f0 fd) : FnOk P w K mg base CX0 1 f0 fd ["self", "thing"] (spI K "thing") := by
  refine (fun_ofM F).ok scm_BadSharing (fun vs H Q E h => ?_) (fun cdv A outer s H vs Q E hr h => ?_)
  · obtain ⟨a, C, fI, y, rfl, _⟩ := h
    rfl
  · obtain ⟨a, C, fI, y, rfl, T, e, q⟩ := h
    refine ⟨_, pss_one (ps_qst (pv 0) (pv 1)), ?_⟩
    exact ⟨_, rfl, _, rfl, a, C, fI, rfl, T, e, q⟩
theorem scm_BadBytes : FnScope (["self", "at"] : List Str) (["self", "at"] : List Str) (defScope m_BadBytes___init__) := ⟨rfl, rfl, rfl, by decide +kernel, rfl, by decide +kernel, by decide +kernel⟩
theorem oi_BadBytes {f0 : Addr} {fd : FuncData} (F : FunD K "__init__" "BadBytes.__init__" (defArgs m_BadBytes___init__) (defBody m_BadBytes___init__) (defScope m_BadBytes___init__) [] [] f0 fd) : FnOk P w K mg base CX0 1 f0 fd ["self", "at"] (spI K "at") := by
  refine (fun_ofM F).ok scm_BadBytes (fun vs H Q E h => ?_) (fun cdv A outer s H vs Q E hr h => ?_)
  · obtain ⟨a, C, fI, y, rfl, _⟩ := h
    rfl
  · obtain ⟨a, C, fI, y, rfl, T, e, q⟩ := h
    refine ⟨_, pss_one (ps_qst (pv 0) (pv 1)), ?_⟩
    exact ⟨_, rfl, _, rfl, a, C, fI, rfl, T, e, q⟩
theorem scm_BadUnits : FnScope (["self", "thing"] : List Str) (["self", "thing"] : List Str) (defScope m_BadUnits___init__) := ⟨rfl, rfl, rfl, by decide +kernel, rfl, by decide +kernel, by decide +kernel⟩
theorem oi_BadUnits {f0 : Addr} {fd : FuncData} (F : FunD K "__init__" "BadUnits.__init__" (defArgs m_BadUnits___init__) (defBody m_BadUnits___init__) (defScope m_BadUnits___init__) [] [] f0 fd) : FnOk P w K mg base CX0 1 f0 fd ["self", "thing"] (spI K "thing") := by
  refine (fun_ofM F).ok scm_BadUnits (fun vs H Q E h => ?_) (fun cdv A outer s H vs Q E hr h => ?_)
  · obtain ⟨a, C, fI, y, rfl, _⟩ := h
    rfl
  · obtain ⟨a, C, fI, y, rfl, T, e, q⟩ := h
    refine ⟨_, pss_one (ps_qst (pv 0) (pv 1)), ?_⟩
    exact ⟨_, rfl, _, rfl, a, C, fI, rfl, T, e, q⟩
theorem scm_BadMachine : FnScope (["self", "thing"] : List Str) (["self", "thing"] : List Str) (defScope m_BadMachine___init__) := ⟨rfl, rfl, rfl, by decide +kernel, rfl, by decide +kernel, by decide +kernel⟩
theorem oi_BadMachine {f0 : Addr} {fd : FuncData} (F : FunD K "__init__" "BadMachine.__init__" (defArgs m_BadMachine___init__) (defBody m_BadMachine___init__) (defScope m_BadMachine___init__) [] [] f0 fd) : FnOk P w K mg base CX0 1 f0 fd ["self", "thing"] (spI K "thing") := by
  refine (fun_ofM F).ok scm_BadMachine (fun vs H Q E h => ?_) (fun cdv A outer s H vs Q E hr h => ?_)
  · obtain ⟨a, C, fI, y, rfl, _⟩ := h
    rfl
  · obtain ⟨a, C, fI, y, rfl, T, e, q⟩ := h
    refine ⟨_, pss_one (ps_qst (pv 0) (pv 1)), ?_⟩
    exact ⟨_, rfl, _, rfl, a, C, fI, rfl, T, e, q⟩
abbrev N__law_by_position : List Str := ["_law_it", "_law_found"]
abbrev P__law_by_position : List Str := ["_law_it"]
theorem sc__law_by_position : FnScope N__law_by_position P__law_by_position (defScope s__law_by_position) := ⟨rfl, rfl, rfl, by decide +kernel, rfl, by decide +kernel, by decide +kernel⟩
abbrev N__law_by_name : List Str := ["_law_it", "_law_found"]
abbrev P__law_by_name : List Str := ["_law_it"]
theorem sc__law_by_name : FnScope N__law_by_name P__law_by_name (defScope s__law_by_name) := ⟨rfl, rfl, rfl, by decide +kernel, rfl, by decide +kernel, by decide +kernel⟩
def spMk (K : PySem.W.Frag) : Sp := fun vs H Q _ => ∃ v : V, vs = [v] ∧ ∀ L as H', Same H H' → H L = none → H' L = some (.lst (as.map V.ref)) → Made K H' v as clsL → Q (.ref L) H'
theorem ok_pos {fd : FuncData} (Er : Ers P w K mg base fi) (D : Df K mg "_law_by_position" s__law_by_position P__law_by_position fd) : FnOk P w K mg base CX0 3 (He.fAd K ("_law_by_position", none)) fd P__law_by_position (spMk K) := by
  have g_QuickError := Er.q
  have E_BadTree := Er.of "BadTree" "thing" (by simp [clsL])
  have g_BadTree := E_BadTree.g
  have E_BadProgram := Er.of "BadProgram" "thing" (by simp [clsL])
  have g_BadProgram := E_BadProgram.g
  have E_BadWord := Er.of "BadWord" "thing" (by simp [clsL])
  have g_BadWord := E_BadWord.g
  have E_BadText := Er.of "BadText" "at" (by simp [clsL])
  have g_BadText := E_BadText.g
  have E_BadPath := Er.of "BadPath" "thing" (by simp [clsL])
  have g_BadPath := E_BadPath.g
  have E_BadRaw := Er.of "BadRaw" "thing" (by simp [clsL])
  have g_BadRaw := E_BadRaw.g
  have E_BadName := Er.of "BadName" "thing" (by simp [clsL])
  have g_BadName := E_BadName.g
  have E_BadInputs := Er.of "BadInputs" "thing" (by simp [clsL])
  have g_BadInputs := E_BadInputs.g
  have E_BadPoly := Er.of "BadPoly" "thing" (by simp [clsL])
  have g_BadPoly := E_BadPoly.g
  have E_BadTable := Er.of "BadTable" "thing" (by simp [clsL])
  have g_BadTable := E_BadTable.g
  have E_BadNumber := Er.of "BadNumber" "thing" (by simp [clsL])
  have g_BadNumber := E_BadNumber.g
  have E_BadStep := Er.of "BadStep" "thing" (by simp [clsL])
  have g_BadStep := E_BadStep.g
  have E_BadUnit := Er.of "BadUnit" "thing" (by simp [clsL])
  have g_BadUnit := E_BadUnit.g
  have E_BadStanding := Er.of "BadStanding" "thing" (by simp [clsL])
  have g_BadStanding := E_BadStanding.g
  have E_BadSharing := Er.of "BadSharing" "thing" (by simp [clsL])
  have g_BadSharing := E_BadSharing.g
  have E_BadBytes := Er.of "BadBytes" "at" (by simp [clsL])
  have g_BadBytes := E_BadBytes.g
  have E_BadUnits := Er.of "BadUnits" "thing" (by simp [clsL])
  have g_BadUnits := E_BadUnits.g
  have E_BadMachine := Er.of "BadMachine" "thing" (by simp [clsL])
  have g_BadMachine := E_BadMachine.g
  refine (fun_of D.F).ok sc__law_by_position (fun vs H Q E h => ?_) (fun cdv A outer s H vs Q E hr h => ?_)
  · obtain ⟨v, rfl, _⟩ := h
    rfl
  · obtain ⟨v, rfl, q⟩ := h
    refine ⟨_, (pss_cons (ps_set (i := 1) sc__law_by_position.nd rfl (.inl rfl) (pe_lst pa_nil))
      (pss_cons (ps_expr (pe_bm PySem.F.plainAttrs_list PySem.F.slot_list_extend PySem.F.type_list_extend mt_extend (pv 1) (pa_cons (pe_lst (pa_cons (pe_new E_BadTree (hr.mono (by first | decide | omega)) (pv 0) (by rfl)) (pa_cons (pe_new E_BadProgram (hr.mono (by first | decide | omega)) (pv 0) (by rfl)) (pa_cons (pe_new E_BadWord (hr.mono (by first | decide | omega)) (pv 0) (by rfl)) (pa_cons (pe_new E_BadText (hr.mono (by first | decide | omega)) (pv 0) (by rfl)) (pa_cons (pe_new E_BadPath (hr.mono (by first | decide | omega)) (pv 0) (by rfl)) (pa_cons (pe_new E_BadRaw (hr.mono (by first | decide | omega)) (pv 0) (by rfl)) pa_nil))))))) pa_nil)))
      (pss_cons (ps_expr (pe_bm PySem.F.plainAttrs_list PySem.F.slot_list_extend PySem.F.type_list_extend mt_extend (pv 1) (pa_cons (pe_lst (pa_cons (pe_new E_BadName (hr.mono (by first | decide | omega)) (pv 0) (by rfl)) (pa_cons (pe_new E_BadInputs (hr.mono (by first | decide | omega)) (pv 0) (by rfl)) (pa_cons (pe_new E_BadPoly (hr.mono (by first | decide | omega)) (pv 0) (by rfl)) (pa_cons (pe_new E_BadTable (hr.mono (by first | decide | omega)) (pv 0) (by rfl)) (pa_cons (pe_new E_BadNumber (hr.mono (by first | decide | omega)) (pv 0) (by rfl)) (pa_cons (pe_new E_BadStep (hr.mono (by first | decide | omega)) (pv 0) (by rfl)) pa_nil))))))) pa_nil)))
      (pss_cons (ps_expr (pe_bm PySem.F.plainAttrs_list PySem.F.slot_list_extend PySem.F.type_list_extend mt_extend (pv 1) (pa_cons (pe_lst (pa_cons (pe_new E_BadUnit (hr.mono (by first | decide | omega)) (pv 0) (by rfl)) (pa_cons (pe_new E_BadStanding (hr.mono (by first | decide | omega)) (pv 0) (by rfl)) (pa_cons (pe_new E_BadSharing (hr.mono (by first | decide | omega)) (pv 0) (by rfl)) (pa_cons (pe_new E_BadBytes (hr.mono (by first | decide | omega)) (pv 0) (by rfl)) (pa_cons (pe_new E_BadUnits (hr.mono (by first | decide | omega)) (pv 0) (by rfl)) (pa_cons (pe_new E_BadMachine (hr.mono (by first | decide | omega)) (pv 0) (by rfl)) pa_nil))))))) pa_nil)))
      (pss_one (ps_ret (pv 1))))))), ?_⟩
    refine ⟨Nat.zero_le _, fun L nL => ?_⟩
    have ht : ∀ (H : Hp) (R : List V → Hp → Prop), R [v] H → (tCons (tVar 0) tNil) [some v, some (.ref L)] H R := fun H R h => ⟨v, rfl, h⟩
    have hk : ∀ p ∈ clsL, Qk K p.1 p.2 := fun p hp => (Er.of p.1 p.2 hp).k
    have s0 : Same H (upd H L (.lst [])) := same_new nL
    refine ext_mks ((clsL.drop 0).take 6) ht rfl nL s0 (as := []) (qs := []) upd_same trivial (fun p hp => hk p (List.mem_of_mem_drop (List.mem_of_mem_take hp))) (by decide) fun b1 H1 s1 e1 m1 => ?_
    obtain ⟨a1, ha1⟩ : ∃ a, a = [] ++ b1 := ⟨_, rfl⟩
    rw [← ha1] at e1 m1
    refine ext_mks ((clsL.drop 6).take 6) ht rfl nL s1 (as := a1) e1 m1 (fun p hp => hk p (List.mem_of_mem_drop (List.mem_of_mem_take hp))) (by rw [m1.len]; decide) fun b2 H2 s2 e2 m2 => ?_
    obtain ⟨a2, ha2⟩ : ∃ a, a = a1 ++ b2 := ⟨_, rfl⟩
    rw [← ha2] at e2 m2
    refine ext_mks ((clsL.drop 12).take 6) ht rfl nL s2 (as := a2) e2 m2 (fun p hp => hk p (List.mem_of_mem_drop (List.mem_of_mem_take hp))) (by rw [m2.len]; decide) fun b3 H3 s3 e3 m3 => ?_
    obtain ⟨a3, ha3⟩ : ∃ a, a = a2 ++ b3 := ⟨_, rfl⟩
    rw [← ha3] at e3 m3
    exact ⟨_, rfl, q L a3 H3 s3 nL e3 m3⟩
theorem ok_nam {fd : FuncData} (Er : Ers P w K mg base fi) (D : Df K mg "_law_by_name" s__law_by_name P__law_by_name fd) : FnOk P w K mg base CX0 3 (He.fAd K ("_law_by_name", none)) fd P__law_by_name (spMk K) := by
  have g_QuickError := Er.q
  have E_BadTree := Er.of "BadTree" "thing" (by simp [clsL])
  have g_BadTree := E_BadTree.g
  have E_BadProgram := Er.of "BadProgram" "thing" (by simp [clsL])
  have g_BadProgram := E_BadProgram.g
  have E_BadWord := Er.of "BadWord" "thing" (by simp [clsL])
  have g_BadWord := E_BadWord.g
  have E_BadText := Er.of "BadText" "at" (by simp [clsL])
  have g_BadText := E_BadText.g
  have E_BadPath := Er.of "BadPath" "thing" (by simp [clsL])
  have g_BadPath := E_BadPath.g
  have E_BadRaw := Er.of "BadRaw" "thing" (by simp [clsL])
  have g_BadRaw := E_BadRaw.g
  have E_BadName := Er.of "BadName" "thing" (by simp [clsL])
  have g_BadName := E_BadName.g
  have E_BadInputs := Er.of "BadInputs" "thing" (by simp [clsL])
  have g_BadInputs := E_BadInputs.g
  have E_BadPoly := Er.of "BadPoly" "thing" (by simp [clsL])
  have g_BadPoly := E_BadPoly.g
  have E_BadTable := Er.of "BadTable" "thing" (by simp [clsL])
  have g_BadTable := E_BadTable.g
  have E_BadNumber := Er.of "BadNumber" "thing" (by simp [clsL])
  have g_BadNumber := E_BadNumber.g
  have E_BadStep := Er.of "BadStep" "thing" (by simp [clsL])
  have g_BadStep := E_BadStep.g
  have E_BadUnit := Er.of "BadUnit" "thing" (by simp [clsL])
  have g_BadUnit := E_BadUnit.g
  have E_BadStanding := Er.of "BadStanding" "thing" (by simp [clsL])
  have g_BadStanding := E_BadStanding.g
  have E_BadSharing := Er.of "BadSharing" "thing" (by simp [clsL])
  have g_BadSharing := E_BadSharing.g
  have E_BadBytes := Er.of "BadBytes" "at" (by simp [clsL])
  have g_BadBytes := E_BadBytes.g
  have E_BadUnits := Er.of "BadUnits" "thing" (by simp [clsL])
  have g_BadUnits := E_BadUnits.g
  have E_BadMachine := Er.of "BadMachine" "thing" (by simp [clsL])
  have g_BadMachine := E_BadMachine.g
  refine (fun_of D.F).ok sc__law_by_name (fun vs H Q E h => ?_) (fun cdv A outer s H vs Q E hr h => ?_)
  · obtain ⟨v, rfl, _⟩ := h
    rfl
  · obtain ⟨v, rfl, q⟩ := h
    refine ⟨_, (pss_cons (ps_set (i := 1) sc__law_by_name.nd rfl (.inl rfl) (pe_lst pa_nil))
      (pss_cons (ps_expr (pe_bm PySem.F.plainAttrs_list PySem.F.slot_list_extend PySem.F.type_list_extend mt_extend (pv 1) (pa_cons (pe_lst (pa_cons (pe_newK E_BadTree (hr.mono (by first | decide | omega)) (pk_cons (pv 0) pk_nil) (by rfl)) (pa_cons (pe_newK E_BadProgram (hr.mono (by first | decide | omega)) (pk_cons (pv 0) pk_nil) (by rfl)) (pa_cons (pe_newK E_BadWord (hr.mono (by first | decide | omega)) (pk_cons (pv 0) pk_nil) (by rfl)) (pa_cons (pe_newK E_BadText (hr.mono (by first | decide | omega)) (pk_cons (pv 0) pk_nil) (by rfl)) pa_nil))))) pa_nil)))
      (pss_cons (ps_expr (pe_bm PySem.F.plainAttrs_list PySem.F.slot_list_extend PySem.F.type_list_extend mt_extend (pv 1) (pa_cons (pe_lst (pa_cons (pe_newK E_BadPath (hr.mono (by first | decide | omega)) (pk_cons (pv 0) pk_nil) (by rfl)) (pa_cons (pe_newK E_BadRaw (hr.mono (by first | decide | omega)) (pk_cons (pv 0) pk_nil) (by rfl)) (pa_cons (pe_newK E_BadName (hr.mono (by first | decide | omega)) (pk_cons (pv 0) pk_nil) (by rfl)) (pa_cons (pe_newK E_BadInputs (hr.mono (by first | decide | omega)) (pk_cons (pv 0) pk_nil) (by rfl)) pa_nil))))) pa_nil)))
      (pss_cons (ps_expr (pe_bm PySem.F.plainAttrs_list PySem.F.slot_list_extend PySem.F.type_list_extend mt_extend (pv 1) (pa_cons (pe_lst (pa_cons (pe_newK E_BadPoly (hr.mono (by first | decide | omega)) (pk_cons (pv 0) pk_nil) (by rfl)) (pa_cons (pe_newK E_BadTable (hr.mono (by first | decide | omega)) (pk_cons (pv 0) pk_nil) (by rfl)) (pa_cons (pe_newK E_BadNumber (hr.mono (by first | decide | omega)) (pk_cons (pv 0) pk_nil) (by rfl)) (pa_cons (pe_newK E_BadStep (hr.mono (by first | decide | omega)) (pk_cons (pv 0) pk_nil) (by rfl)) pa_nil))))) pa_nil)))
      (pss_cons (ps_expr (pe_bm PySem.F.plainAttrs_list PySem.F.slot_list_extend PySem.F.type_list_extend mt_extend (pv 1) (pa_cons (pe_lst (pa_cons (pe_newK E_BadUnit (hr.mono (by first | decide | omega)) (pk_cons (pv 0) pk_nil) (by rfl)) (pa_cons (pe_newK E_BadStanding (hr.mono (by first | decide | omega)) (pk_cons (pv 0) pk_nil) (by rfl)) (pa_cons (pe_newK E_BadSharing (hr.mono (by first | decide | omega)) (pk_cons (pv 0) pk_nil) (by rfl)) (pa_cons (pe_newK E_BadBytes (hr.mono (by first | decide | omega)) (pk_cons (pv 0) pk_nil) (by rfl)) pa_nil))))) pa_nil)))
      (pss_cons (ps_expr (pe_bm PySem.F.plainAttrs_list PySem.F.slot_list_extend PySem.F.type_list_extend mt_extend (pv 1) (pa_cons (pe_lst (pa_cons (pe_newK E_BadUnits (hr.mono (by first | decide | omega)) (pk_cons (pv 0) pk_nil) (by rfl)) (pa_cons (pe_newK E_BadMachine (hr.mono (by first | decide | omega)) (pk_cons (pv 0) pk_nil) (by rfl)) pa_nil))) pa_nil)))
      (pss_one (ps_ret (pv 1))))))))), ?_⟩
    refine ⟨Nat.zero_le _, fun L nL => ?_⟩
    have ht : ∀ (H : Hp) (R : List V → Hp → Prop), R [v] H → (tCons (tVar 0) tNil) [some v, some (.ref L)] H R := fun H R h => ⟨v, rfl, h⟩
    have hk : ∀ p ∈ clsL, Qk K p.1 p.2 := fun p hp => (Er.of p.1 p.2 hp).k
    have s0 : Same H (upd H L (.lst [])) := same_new nL
    refine ext_mks ((clsL.drop 0).take 4) ht rfl nL s0 (as := []) (qs := []) upd_same trivial (fun p hp => hk p (List.mem_of_mem_drop (List.mem_of_mem_take hp))) (by decide) fun b1 H1 s1 e1 m1 => ?_
    obtain ⟨a1, ha1⟩ : ∃ a, a = [] ++ b1 := ⟨_, rfl⟩
    rw [← ha1] at e1 m1
    refine ext_mks ((clsL.drop 4).take 4) ht rfl nL s1 (as := a1) e1 m1 (fun p hp => hk p (List.mem_of_mem_drop (List.mem_of_mem_take hp))) (by rw [m1.len]; decide) fun b2 H2 s2 e2 m2 => ?_
    obtain ⟨a2, ha2⟩ : ∃ a, a = a1 ++ b2 := ⟨_, rfl⟩
    rw [← ha2] at e2 m2
    refine ext_mks ((clsL.drop 8).take 4) ht rfl nL s2 (as := a2) e2 m2 (fun p hp => hk p (List.mem_of_mem_drop (List.mem_of_mem_take hp))) (by rw [m2.len]; decide) fun b3 H3 s3 e3 m3 => ?_
    obtain ⟨a3, ha3⟩ : ∃ a, a = a2 ++ b3 := ⟨_, rfl⟩
    rw [← ha3] at e3 m3
    refine ext_mks ((clsL.drop 12).take 4) ht rfl nL s3 (as := a3) e3 m3 (fun p hp => hk p (List.mem_of_mem_drop (List.mem_of_mem_take hp))) (by rw [m3.len]; decide) fun b4 H4 s4 e4 m4 => ?_
    obtain ⟨a4, ha4⟩ : ∃ a, a = a3 ++ b4 := ⟨_, rfl⟩
    rw [← ha4] at e4 m4
    refine ext_mks ((clsL.drop 16).take 2) ht rfl nL s4 (as := a4) e4 m4 (fun p hp => hk p (List.mem_of_mem_drop (List.mem_of_mem_take hp))) (by rw [m4.len]; decide) fun b5 H5 s5 e5 m5 => ?_
    obtain ⟨a5, ha5⟩ : ∃ a, a = a4 ++ b5 := ⟨_, rfl⟩
    rw [← ha5] at e5 m5
    exact ⟨_, rfl, q L a5 H5 s5 nL e5 m5⟩
end
end TM


set_option Elab.async false
set_option linter.all false
set_option maxRecDepth 100000
set_option maxHeartbeats 4000000
/-! Which kind an error is. -/
namespace TK
open PySem PySem.Spec PyProof.Rows L2 KT KX KV KA QY QZ QB QE QH SM TM
open L2H (RoomH)
structure TbL (mg : Str → Option Value) : Prop extends TbS mg where
  range : mg "range" = none
  Exception : mg "Exception" = none
  ValueError : mg "ValueError" = none
  TypeError : mg "TypeError" = none
  LookupError : mg "LookupError" = none
  ArithmeticError : mg "ArithmeticError" = none
  RuntimeError : mg "RuntimeError" = none
  AttributeError : mg "AttributeError" = none
abbrev N__law_kinds : List Str := ["_law_error", "_law_found"]
abbrev P__law_kinds : List Str := ["_law_error"]
theorem sc__law_kinds : FnScope N__law_kinds P__law_kinds (defScope s__law_kinds) := ⟨rfl, rfl, rfl, by decide +kernel, rfl, by decide +kernel, by decide +kernel⟩
abbrev N__law_is_own : List Str := ["_law_at", "_law_error", "_law_place"]
abbrev P__law_is_own : List Str := ["_law_at", "_law_error"]
theorem sc__law_is_own : FnScope N__law_is_own P__law_is_own (defScope s__law_is_own) := ⟨rfl, rfl, rfl, by decide +kernel, rfl, by decide +kernel, by decide +kernel⟩
abbrev N__law_carried : List Str := ["_law_made", "_law_found"]
abbrev P__law_carried : List Str := ["_law_made"]
theorem sc__law_carried : FnScope N__law_carried P__law_carried (defScope s__law_carried) := ⟨rfl, rfl, rfl, by decide +kernel, rfl, by decide +kernel, by decide +kernel⟩
section
variable {P : Program} {w : World} {K : PySem.W.Frag} {mg : Str → Option Value} {base : Heap} {fi : Str → FuncData}
def spK (K : PySem.W.Frag) : Sp := fun vs H Q _ => ∃ (a : Addr) (x f : Str) (v : V), vs = [.ref a] ∧ (x, f) ∈ clsL ∧ Xo H a (He.ga K x) f v ∧ ∀ L H', Same H H' → H L = none → H' L = some (.lst (clsL.map fun q => .bl (decide (x = q.1)))) → Q (.ref L) H'
theorem ok_kinds {fd : FuncData} (T : TbL mg) (Er : Ers P w K mg base fi) (D : Df K mg "_law_kinds" s__law_kinds P__law_kinds fd) : FnQ P w K mg base 3 (He.fAd K ("_law_kinds", none)) fd P__law_kinds (spK K) := by
  have g_QuickError := Er.q
  have E_BadTree := Er.of "BadTree" "thing" (by simp [clsL])
  have g_BadTree := E_BadTree.g
  have E_BadProgram := Er.of "BadProgram" "thing" (by simp [clsL])
  have g_BadProgram := E_BadProgram.g
  have E_BadWord := Er.of "BadWord" "thing" (by simp [clsL])
  have g_BadWord := E_BadWord.g
  have E_BadText := Er.of "BadText" "at" (by simp [clsL])
  have g_BadText := E_BadText.g
  have E_BadPath := Er.of "BadPath" "thing" (by simp [clsL])
  have g_BadPath := E_BadPath.g
  have E_BadRaw := Er.of "BadRaw" "thing" (by simp [clsL])
  have g_BadRaw := E_BadRaw.g
  have E_BadName := Er.of "BadName" "thing" (by simp [clsL])
  have g_BadName := E_BadName.g
  have E_BadInputs := Er.of "BadInputs" "thing" (by simp [clsL])
  have g_BadInputs := E_BadInputs.g
  have E_BadPoly := Er.of "BadPoly" "thing" (by simp [clsL])
  have g_BadPoly := E_BadPoly.g
  have E_BadTable := Er.of "BadTable" "thing" (by simp [clsL])
  have g_BadTable := E_BadTable.g
  have E_BadNumber := Er.of "BadNumber" "thing" (by simp [clsL])
  have g_BadNumber := E_BadNumber.g
  have E_BadStep := Er.of "BadStep" "thing" (by simp [clsL])
  have g_BadStep := E_BadStep.g
  have E_BadUnit := Er.of "BadUnit" "thing" (by simp [clsL])
  have g_BadUnit := E_BadUnit.g
  have E_BadStanding := Er.of "BadStanding" "thing" (by simp [clsL])
  have g_BadStanding := E_BadStanding.g
  have E_BadSharing := Er.of "BadSharing" "thing" (by simp [clsL])
  have g_BadSharing := E_BadSharing.g
  have E_BadBytes := Er.of "BadBytes" "at" (by simp [clsL])
  have g_BadBytes := E_BadBytes.g
  have E_BadUnits := Er.of "BadUnits" "thing" (by simp [clsL])
  have g_BadUnits := E_BadUnits.g
  have E_BadMachine := Er.of "BadMachine" "thing" (by simp [clsL])
  have g_BadMachine := E_BadMachine.g
  refine okQ (fun_of D.F) sc__law_kinds (fun vs H Q E h => ?_) (fun cdv A outer s H vs Q hr h => ?_)
  · obtain ⟨a, x, f, v, rfl, _⟩ := h
    rfl
  · obtain ⟨a, x, f, v, rfl, hm, xo, q⟩ := h
    refine ⟨_, (pss_cons (ps_set (i := 1) sc__law_kinds.nd rfl (.inl rfl) (pe_lst pa_nil))
      (pss_cons (ps_expr (pe_bm PySem.F.plainAttrs_list PySem.F.slot_list_extend PySem.F.type_list_extend mt_extend (pv 1) (pa_cons (pe_lst (pa_cons (pe_callB call_isQ (by rfl) T.isinstance (by decide +kernel) (pa_cons (pv 0) (pa_cons (pe_glob (v := .ref (He.ga K "BadTree")) (by rfl) g_BadTree rfl) pa_nil))) (pa_cons (pe_callB call_isQ (by rfl) T.isinstance (by decide +kernel) (pa_cons (pv 0) (pa_cons (pe_glob (v := .ref (He.ga K "BadProgram")) (by rfl) g_BadProgram rfl) pa_nil))) (pa_cons (pe_callB call_isQ (by rfl) T.isinstance (by decide +kernel) (pa_cons (pv 0) (pa_cons (pe_glob (v := .ref (He.ga K "BadWord")) (by rfl) g_BadWord rfl) pa_nil))) pa_nil)))) pa_nil)))
      (pss_cons (ps_expr (pe_bm PySem.F.plainAttrs_list PySem.F.slot_list_extend PySem.F.type_list_extend mt_extend (pv 1) (pa_cons (pe_lst (pa_cons (pe_callB call_isQ (by rfl) T.isinstance (by decide +kernel) (pa_cons (pv 0) (pa_cons (pe_glob (v := .ref (He.ga K "BadText")) (by rfl) g_BadText rfl) pa_nil))) (pa_cons (pe_callB call_isQ (by rfl) T.isinstance (by decide +kernel) (pa_cons (pv 0) (pa_cons (pe_glob (v := .ref (He.ga K "BadPath")) (by rfl) g_BadPath rfl) pa_nil))) (pa_cons (pe_callB call_isQ (by rfl) T.isinstance (by decide +kernel) (pa_cons (pv 0) (pa_cons (pe_glob (v := .ref (He.ga K "BadRaw")) (by rfl) g_BadRaw rfl) pa_nil))) pa_nil)))) pa_nil)))
      (pss_cons (ps_expr (pe_bm PySem.F.plainAttrs_list PySem.F.slot_list_extend PySem.F.type_list_extend mt_extend (pv 1) (pa_cons (pe_lst (pa_cons (pe_callB call_isQ (by rfl) T.isinstance (by decide +kernel) (pa_cons (pv 0) (pa_cons (pe_glob (v := .ref (He.ga K "BadName")) (by rfl) g_BadName rfl) pa_nil))) (pa_cons (pe_callB call_isQ (by rfl) T.isinstance (by decide +kernel) (pa_cons (pv 0) (pa_cons (pe_glob (v := .ref (He.ga K "BadInputs")) (by rfl) g_BadInputs rfl) pa_nil))) (pa_cons (pe_callB call_isQ (by rfl) T.isinstance (by decide +kernel) (pa_cons (pv 0) (pa_cons (pe_glob (v := .ref (He.ga K "BadPoly")) (by rfl) g_BadPoly rfl) pa_nil))) pa_nil)))) pa_nil)))
      (pss_cons (ps_expr (pe_bm PySem.F.plainAttrs_list PySem.F.slot_list_extend PySem.F.type_list_extend mt_extend (pv 1) (pa_cons (pe_lst (pa_cons (pe_callB call_isQ (by rfl) T.isinstance (by decide +kernel) (pa_cons (pv 0) (pa_cons (pe_glob (v := .ref (He.ga K "BadTable")) (by rfl) g_BadTable rfl) pa_nil))) (pa_cons (pe_callB call_isQ (by rfl) T.isinstance (by decide +kernel) (pa_cons (pv 0) (pa_cons (pe_glob (v := .ref (He.ga K "BadNumber")) (by rfl) g_BadNumber rfl) pa_nil))) (pa_cons (pe_callB call_isQ (by rfl) T.isinstance (by decide +kernel) (pa_cons (pv 0) (pa_cons (pe_glob (v := .ref (He.ga K "BadStep")) (by rfl) g_BadStep rfl) pa_nil))) pa_nil)))) pa_nil)))
      (pss_cons (ps_expr (pe_bm PySem.F.plainAttrs_list PySem.F.slot_list_extend PySem.F.type_list_extend mt_extend (pv 1) (pa_cons (pe_lst (pa_cons (pe_callB call_isQ (by rfl) T.isinstance (by decide +kernel) (pa_cons (pv 0) (pa_cons (pe_glob (v := .ref (He.ga K "BadUnit")) (by rfl) g_BadUnit rfl) pa_nil))) (pa_cons (pe_callB call_isQ (by rfl) T.isinstance (by decide +kernel) (pa_cons (pv 0) (pa_cons (pe_glob (v := .ref (He.ga K "BadStanding")) (by rfl) g_BadStanding rfl) pa_nil))) (pa_cons (pe_callB call_isQ (by rfl) T.isinstance (by decide +kernel) (pa_cons (pv 0) (pa_cons (pe_glob (v := .ref (He.ga K "BadSharing")) (by rfl) g_BadSharing rfl) pa_nil))) pa_nil)))) pa_nil)))
      (pss_cons (ps_expr (pe_bm PySem.F.plainAttrs_list PySem.F.slot_list_extend PySem.F.type_list_extend mt_extend (pv 1) (pa_cons (pe_lst (pa_cons (pe_callB call_isQ (by rfl) T.isinstance (by decide +kernel) (pa_cons (pv 0) (pa_cons (pe_glob (v := .ref (He.ga K "BadBytes")) (by rfl) g_BadBytes rfl) pa_nil))) (pa_cons (pe_callB call_isQ (by rfl) T.isinstance (by decide +kernel) (pa_cons (pv 0) (pa_cons (pe_glob (v := .ref (He.ga K "BadUnits")) (by rfl) g_BadUnits rfl) pa_nil))) (pa_cons (pe_callB call_isQ (by rfl) T.isinstance (by decide +kernel) (pa_cons (pv 0) (pa_cons (pe_glob (v := .ref (He.ga K "BadMachine")) (by rfl) g_BadMachine rfl) pa_nil))) pa_nil)))) pa_nil)))
      (pss_one (ps_ret (pv 1)))))))))), ?_⟩
    refine ⟨Nat.zero_le _, fun L nL => ?_⟩
    have k := (Er.of x f hm).k
    have s0 : Same H (upd H L (.lst [])) := same_new nL
    refine ext_iss ((clsL.drop 0).take 3) rfl xo k (fun p hp => List.mem_of_mem_drop (List.mem_of_mem_take hp)) rfl nL s0 (qs := clsL.take 0) upd_same (by decide) fun H1 s1 e1 => ?_
    refine ext_iss ((clsL.drop 3).take 3) rfl xo k (fun p hp => List.mem_of_mem_drop (List.mem_of_mem_take hp)) rfl nL s1 (qs := clsL.take 3) e1 (by decide) fun H2 s2 e2 => ?_
    refine ext_iss ((clsL.drop 6).take 3) rfl xo k (fun p hp => List.mem_of_mem_drop (List.mem_of_mem_take hp)) rfl nL s2 (qs := clsL.take 6) e2 (by decide) fun H3 s3 e3 => ?_
    refine ext_iss ((clsL.drop 9).take 3) rfl xo k (fun p hp => List.mem_of_mem_drop (List.mem_of_mem_take hp)) rfl nL s3 (qs := clsL.take 9) e3 (by decide) fun H4 s4 e4 => ?_
    refine ext_iss ((clsL.drop 12).take 3) rfl xo k (fun p hp => List.mem_of_mem_drop (List.mem_of_mem_take hp)) rfl nL s4 (qs := clsL.take 12) e4 (by decide) fun H5 s5 e5 => ?_
    refine ext_iss ((clsL.drop 15).take 3) rfl xo k (fun p hp => List.mem_of_mem_drop (List.mem_of_mem_take hp)) rfl nL s5 (qs := clsL.take 15) e5 (by decide) fun H6 s6 e6 => ?_
    exact ⟨_, rfl, q L H6 s6 nL e6⟩
theorem own_eq : ∀ i : Fin 18, PyData.eqv (.list ((clsL.map fun q => decide ((clsL.getD i.val ("", "")).1 = q.1)).map PyData.bool)) (.list (((List.range 18).map fun j => decide (V.int ((0 : Int) + (j : Nat)) = V.int (i.val : Int))).map PyData.bool)) = true ∧
    SeqAt.shaped (.list ((clsL.map fun q => decide ((clsL.getD i.val ("", "")).1 = q.1)).map PyData.bool)) = true ∧ SeqAt.shaped (.list (((List.range 18).map fun j => decide (V.int ((0 : Int) + (j : Nat)) = V.int (i.val : Int))).map PyData.bool)) = true := by decide +kernel
theorem dp_bools {H : Hp} : ∀ bs : List Bool, DpAll K H (bs.map V.bl) (bs.map PyData.bool)
  | [] => .nil
  | b :: r => .cons (.bl b) (dp_bools r)
def spOw (K : PySem.W.Frag) : Sp := fun vs H Q _ => ∃ (i : Nat) (a : Addr) (x f : Str) (v : V), vs = [.int i, .ref a] ∧ clsL[i]? = some (x, f) ∧ Xo H a (He.ga K x) f v ∧ ∀ H', Same H H' → Q (.bl true) H'
theorem ok_own {fd fdK : FuncData} (T : TbL mg) (Er : Ers P w K mg base fi) (D__law_kinds : Df K mg "_law_kinds" s__law_kinds P__law_kinds fdK) (D : Df K mg "_law_is_own" s__law_is_own P__law_is_own fd) : FnOk P w K mg base CX0 5 (He.fAd K ("_law_is_own", none)) fd P__law_is_own (spOw K) := by
  have g_QuickError := Er.q
  have E_BadTree := Er.of "BadTree" "thing" (by simp [clsL])
  have g_BadTree := E_BadTree.g
  have E_BadProgram := Er.of "BadProgram" "thing" (by simp [clsL])
  have g_BadProgram := E_BadProgram.g
  have E_BadWord := Er.of "BadWord" "thing" (by simp [clsL])
  have g_BadWord := E_BadWord.g
  have E_BadText := Er.of "BadText" "at" (by simp [clsL])
  have g_BadText := E_BadText.g
  have E_BadPath := Er.of "BadPath" "thing" (by simp [clsL])
  have g_BadPath := E_BadPath.g
  have E_BadRaw := Er.of "BadRaw" "thing" (by simp [clsL])
  have g_BadRaw := E_BadRaw.g
  have E_BadName := Er.of "BadName" "thing" (by simp [clsL])
  have g_BadName := E_BadName.g
  have E_BadInputs := Er.of "BadInputs" "thing" (by simp [clsL])
  have g_BadInputs := E_BadInputs.g
  have E_BadPoly := Er.of "BadPoly" "thing" (by simp [clsL])
  have g_BadPoly := E_BadPoly.g
  have E_BadTable := Er.of "BadTable" "thing" (by simp [clsL])
  have g_BadTable := E_BadTable.g
  have E_BadNumber := Er.of "BadNumber" "thing" (by simp [clsL])
  have g_BadNumber := E_BadNumber.g
  have E_BadStep := Er.of "BadStep" "thing" (by simp [clsL])
  have g_BadStep := E_BadStep.g
  have E_BadUnit := Er.of "BadUnit" "thing" (by simp [clsL])
  have g_BadUnit := E_BadUnit.g
  have E_BadStanding := Er.of "BadStanding" "thing" (by simp [clsL])
  have g_BadStanding := E_BadStanding.g
  have E_BadSharing := Er.of "BadSharing" "thing" (by simp [clsL])
  have g_BadSharing := E_BadSharing.g
  have E_BadBytes := Er.of "BadBytes" "at" (by simp [clsL])
  have g_BadBytes := E_BadBytes.g
  have E_BadUnits := Er.of "BadUnits" "thing" (by simp [clsL])
  have g_BadUnits := E_BadUnits.g
  have E_BadMachine := Er.of "BadMachine" "thing" (by simp [clsL])
  have g_BadMachine := E_BadMachine.g
  have G__law_kinds : FnOk P w K mg base CX0 3 (He.fAd K ("_law_kinds", none)) fdK P__law_kinds (spK K) := (ok_kinds T Er D__law_kinds).ok fun _ _ _ _ h => h
  refine (fun_of D.F).ok sc__law_is_own (fun vs H Q E h => ?_) (fun cdv A outer s H vs Q E hr h => ?_)
  · obtain ⟨i, a, x, f, v, rfl, _⟩ := h
    rfl
  · obtain ⟨i, a, x, f, v, rfl, hi, xo, q⟩ := h
    have hm : (x, f) ∈ clsL := List.mem_of_getElem? hi
    have k := (Er.of x f hm).k
    refine ⟨_, (pss_cons (ps_if (PW.pt (pw_or (pt_not (pt_val (pe_callB call_isQ (by rfl) T.isinstance (by decide +kernel) (pa_cons (pv 1) (pa_cons (pe_glob (v := .ref (He.ga K "QuickError")) (by rfl) g_QuickError rfl) pa_nil))))) (pw_or1 (pt_not (pt_val (pe_callB call_isQ (by rfl) T.isinstance (by decide +kernel) (pa_cons (pv 1) (pa_cons (pe_bltn (v := .ty "Exception") (by rfl) T.Exception (by decide +kernel) rfl) pa_nil)))))))) (pss_one (ps_ret pe_bl)) pss_nil)
      (pss_cons (ps_if (pt_val (pe_callB call_isQT (by rfl) T.isinstance (by decide +kernel) (pa_cons (pv 1) (pa_cons (pe_tup (pa_cons (pe_bltn (v := .ty "ValueError") (by rfl) T.ValueError (by decide +kernel) rfl) (pa_cons (pe_bltn (v := .ty "TypeError") (by rfl) T.TypeError (by decide +kernel) rfl) (pa_cons (pe_bltn (v := .ty "LookupError") (by rfl) T.LookupError (by decide +kernel) rfl) (pa_cons (pe_bltn (v := .ty "ArithmeticError") (by rfl) T.ArithmeticError (by decide +kernel) rfl) (pa_cons (pe_bltn (v := .ty "RuntimeError") (by rfl) T.RuntimeError (by decide +kernel) rfl) (pa_cons (pe_bltn (v := .ty "AttributeError") (by rfl) T.AttributeError (by decide +kernel) rfl) pa_nil))))))) pa_nil)))) (pss_one (ps_ret pe_bl)) pss_nil)
      (pss_one (ps_ret (pe_cmpR (op_eqD hr.units) (pe_call G__law_kinds (hr.mono (by first | decide | omega)) (by rfl) D__law_kinds.g D__law_kinds.F.kp D__law_kinds.b .nil pass0 (pa_cons (pv 1) pa_nil)) (pe_lc (own := [("_law_place", 2)]) (g := gName 2) (tt := tYes) (by rfl) sc__law_is_own.nd (pi_range1 rfl T.range (pa_cons pe_int pa_nil)) (blkOk_by (own := [("_law_place", 2)]) (N := N__law_is_own) (sc := defScope s__law_is_own) (by decide +kernel)) (fun _ _ _ _ _ => (pg_name (i := 2) sc__law_is_own.nd rfl (.inl rfl))) (fun _ _ _ _ _ => pts_nil) (fun _ _ _ _ _ => (pe_cmpR op_eq (pv 2) (pv 0) (nomark _)))) (nomark _)))))), ?_⟩
    refine ⟨_, rfl, a, He.ga K x, He.ma K (He.ga K x) "__init__", f, v, .ref (He.ga K "QuickError"), .ref (He.ga K "QuickError"), _, rfl, xo, k.c, k.i, .own _, k.own, _, rfl, ?_⟩
    refine (if_neg Bool.false_ne_true).mpr ?_
    refine ⟨_, rfl, a, He.ga K x, He.ma K (He.ga K x) "__init__", f, v, .ty "Exception", .type "Exception", _, rfl, xo, k.c, k.i, .ty _, k.exc, _, rfl, ?_⟩
    refine (if_neg Bool.false_ne_true).mpr ?_
    refine ⟨_, rfl, (by show 6 ≤ sizeLine; decide), fun p np => ?_⟩
    have s1 := same_new (o := .tup [.ty "ValueError", .ty "TypeError", .ty "LookupError", .ty "ArithmeticError", .ty "RuntimeError", .ty "AttributeError"]) np
    refine ⟨a, He.ga K x, He.ma K (He.ga K x) "__init__", f, v, p, _, farL, _, rfl, xo.same s1, k.c, k.i, upd_same, .cons (.ty _) (.cons (.ty _) (.cons (.ty _) (.cons (.ty _) (.cons (.ty _) (.cons (.ty _) .nil))))), k.far, _, rfl, ?_⟩
    refine (if_neg Bool.false_ne_true).mpr ?_
    refine ⟨_, rfl, a, x, f, v, rfl, hm, xo.same s1, fun L H2 s2 nL eL => ?_⟩
    refine ⟨18, rfl, by decide, by decide, fun D nD => ?_⟩
    refine lc_range (lo := 0) (n := 18) (fun j H' => Same H2 H' ∧ H' D = some (.lst (((List.range j).map fun j => decide (V.int ((0 : Int) + (j : Nat)) = V.int (i : Int))).map V.bl))) ⟨same_new nD, upd_same⟩ (fun j H' hj h => ?_) (fun H' h => ?_)
    · obtain ⟨s3, e3⟩ := h
      refine ⟨rfl, _, rfl, _, rfl, rfl, _, e3, ?_, fun b o e => ?_, ?_⟩
      · rw [List.length_map, List.length_map, List.length_range, sizeLine_eq]
        omega
      · rw [upd_ne (ne_of_none e nD)]
        exact s3 _ _ e
      · rw [upd_same, List.range_succ, List.map_append, List.map_append]
        rfl
    · obtain ⟨s3, e3⟩ := h
      have hi18 : i < 18 := (List.getElem?_eq_some_iff.mp hi).1
      have hx : (clsL.getD i ("", "")).1 = x := by
        rw [List.getD_eq_getElem?_getD, hi]
        rfl
      obtain ⟨g1, g2, g3⟩ := own_eq ⟨i, hi18⟩
      rw [show (clsL.getD (⟨i, hi18⟩ : Fin 18).val ("", "")).1 = x from hx] at g1 g2
      have eL2 := s3 _ _ eL
      rw [show (clsL.map fun q => V.bl (decide (x = q.1))) = (clsL.map fun q => decide (x = q.1)).map V.bl from (List.map_map ..).symm] at eL2
      refine ⟨_, _, .lst (SqL.of eL2) (dp_bools _), .lst (SqL.of e3) (dp_bools _), g2, g3, ?_⟩
      rw [g1]
      exact q _ fun b o e => s3 _ _ (s2 _ _ (s1 _ _ e))
def spCa (K : PySem.W.Frag) : Sp := fun vs H Q _ => ∃ (M : Addr) (as : List Addr) (v : V), vs = [.ref M] ∧ H M = some (.lst (as.map V.ref)) ∧ Made K H v as clsL ∧ ∀ L H', Same H H' → H L = none → H' L = some (.lst (List.replicate 18 v)) → Q (.ref L) H'
theorem clsAt (n i : Nat) (h : n + i ≤ 18) : ∀ j p, ((clsL.drop i).take n)[j]? = some p → clsL[i + j]? = some p := fun j p e => by
  rw [List.getElem?_take] at e
  by_cases hj : j < n
  · rw [if_pos hj, List.getElem?_drop] at e
    exact e
  · rw [if_neg hj] at e
    cases e
theorem ok_carried {fd : FuncData} (Er : Ers P w K mg base fi) (D : Df K mg "_law_carried" s__law_carried P__law_carried fd) : FnOk P w K mg base CX0 3 (He.fAd K ("_law_carried", none)) fd P__law_carried (spCa K) := by
  refine (fun_of D.F).ok sc__law_carried (fun vs H Q E h => ?_) (fun cdv A outer s H vs Q E hr h => ?_)
  · obtain ⟨M, as, v, rfl, _⟩ := h
    rfl
  · obtain ⟨M, as, v, rfl, hM, m, q⟩ := h
    refine ⟨_, (pss_cons (ps_set (i := 1) sc__law_carried.nd rfl (.inl rfl) (pe_lst pa_nil))
      (pss_cons (ps_expr (pe_bm PySem.F.plainAttrs_list PySem.F.slot_list_extend PySem.F.type_list_extend mt_extend (pv 1) (pa_cons (pe_lst (pa_cons (pe_qf (pe_ix ix_list (pv 0) pe_int (fun _ _ => rfl))) (pa_cons (pe_qf (pe_ix ix_list (pv 0) pe_int (fun _ _ => rfl))) (pa_cons (pe_qf (pe_ix ix_list (pv 0) pe_int (fun _ _ => rfl))) (pa_cons (pe_qf (pe_ix ix_list (pv 0) pe_int (fun _ _ => rfl))) (pa_cons (pe_qf (pe_ix ix_list (pv 0) pe_int (fun _ _ => rfl))) (pa_cons (pe_qf (pe_ix ix_list (pv 0) pe_int (fun _ _ => rfl))) pa_nil))))))) pa_nil)))
      (pss_cons (ps_expr (pe_bm PySem.F.plainAttrs_list PySem.F.slot_list_extend PySem.F.type_list_extend mt_extend (pv 1) (pa_cons (pe_lst (pa_cons (pe_qf (pe_ix ix_list (pv 0) pe_int (fun _ _ => rfl))) (pa_cons (pe_qf (pe_ix ix_list (pv 0) pe_int (fun _ _ => rfl))) (pa_cons (pe_qf (pe_ix ix_list (pv 0) pe_int (fun _ _ => rfl))) (pa_cons (pe_qf (pe_ix ix_list (pv 0) pe_int (fun _ _ => rfl))) (pa_cons (pe_qf (pe_ix ix_list (pv 0) pe_int (fun _ _ => rfl))) (pa_cons (pe_qf (pe_ix ix_list (pv 0) pe_int (fun _ _ => rfl))) pa_nil))))))) pa_nil)))
      (pss_cons (ps_expr (pe_bm PySem.F.plainAttrs_list PySem.F.slot_list_extend PySem.F.type_list_extend mt_extend (pv 1) (pa_cons (pe_lst (pa_cons (pe_qf (pe_ix ix_list (pv 0) pe_int (fun _ _ => rfl))) (pa_cons (pe_qf (pe_ix ix_list (pv 0) pe_int (fun _ _ => rfl))) (pa_cons (pe_qf (pe_ix ix_list (pv 0) pe_int (fun _ _ => rfl))) (pa_cons (pe_qf (pe_ix ix_list (pv 0) pe_int (fun _ _ => rfl))) (pa_cons (pe_qf (pe_ix ix_list (pv 0) pe_int (fun _ _ => rfl))) (pa_cons (pe_qf (pe_ix ix_list (pv 0) pe_int (fun _ _ => rfl))) pa_nil))))))) pa_nil)))
      (pss_one (ps_ret (pv 1))))))), ?_⟩
    refine ⟨Nat.zero_le _, fun L nL => ?_⟩
    have hk : ∀ p ∈ clsL, Qk K p.1 p.2 := fun p hp => (Er.of p.1 p.2 hp).k
    have s0 : Same H (upd H L (.lst [])) := same_new nL
    refine ext_cas 0 ((clsL.drop 0).take 6) rfl hM m hk (clsAt 6 0 (by decide)) rfl nL s0 (n := 0) upd_same (by decide) fun H1 s1 e1 => ?_
    refine ext_cas 6 ((clsL.drop 6).take 6) rfl hM m hk (clsAt 6 6 (by decide)) rfl nL s1 (n := 6) e1 (by decide) fun H2 s2 e2 => ?_
    refine ext_cas 12 ((clsL.drop 12).take 6) rfl hM m hk (clsAt 6 12 (by decide)) rfl nL s2 (n := 12) e2 (by decide) fun H3 s3 e3 => ?_
    exact ⟨_, rfl, q L H3 s3 nL e3⟩
end
end TK


set_option Elab.async false
set_option linter.all false
set_option maxRecDepth 100000
set_option maxHeartbeats 4000000
/-! try .. except C1 as n: .. except C2 as m: ..; the caught error stands in the abstract heap. -/
namespace QT
open PySem PySem.Spec PyProof.Rows L2 KT QY QZ
abbrev Cl : Type := Value × Nat × (Addr → TS)
/-- where a suite goes on: its name's slot is empty again -/
def endsAs (i : Nat) (D : Ends) : Ends := { nx := fun σ H => D.nx (σ.set i none) H, rt := D.rt, bk := fun σ H => D.bk (σ.set i none) H, ct := fun σ H => D.ct (σ.set i none) H }
/-- what the clauses wish of an error of the body -/
def wAll (K : PySem.W.Frag) (Wout : WX) (D : Ends) : List Cl → WX
  | [] => Wout
  | (c, i, ts) :: r => fun cls d σ H => ∃ b, PySem.W.exmOne K cls c = some b ∧ (b = true → ∃ C, cls = .ref C ∧ ∀ a, H a = none → ts a (endsAs i D) (σ.set i (some (.ref a))) (upd H a (exq a C d))) ∧ (b = false → wAll K Wout D r cls d σ H)
inductive HdsAs (X : Cx) : List ExceptHandler → List Cl → Prop
  | nil : HdsAs X [] []
  | cons {x n : Str} {c : Value} {i : Nat} {ts : Addr → TS} {b₀ : Stmt} {suite : List Stmt} {np pos' : Pos} {hds : List ExceptHandler} {l : List Cl} (hi : X.N[i]? = some n) (hln : X.env.kindOf n = some .local) (hc : Names X x c)
      (hsu : ∀ (a : Addr) (pn : List (Addr × Obj)), PSs (X.suite a pn) (b₀ :: suite) (ts a)) (r : HdsAs X hds l) : HdsAs X (.ExceptHandler (some (.Name x np)) (some n) (b₀ :: suite) pos' :: hds) ((c, i, ts) :: l)
section
variable {X : Cx} {pins : List (Addr × Obj)} {σ : L2.St} {H : Hp} {sI s s' : Shared} {B : Heap}
/-- into a suite, the error tracked -/
theorem Inv.caught {a C : Addr} {d : Option Addr} {oe : Obj} {vs : Array Value} (I : Inv X pins σ H sI) (nb : ∀ b o, sI.heap.get? b = some o → b ∉ frs X.stack → B.get? b = some o) (st : B.StaysIn s'.heap) (up : sI.heap.UpToSlots s'.heap) (os : s'.os = sI.os) (ag : AllBare s'.gens)
    (gB : B.get? a = none) (nf : a ∉ frs X.stack) (na : H a = none) (he : s'.heap.get? a = some oe) (hz : Zc (.ref C) d oe) (hv : oe.data = .fields vs) : Inv X pins σ (upd H a (exq a C d)) s' := by
  have gI : sI.heap.get? a = none := by
    cases e : sI.heap.get? a with
    | none => rfl
    | some o =>
      have := nb a o e nf
      rw [gB] at this
      cases this
  have ne : ∀ b o, sI.heap.get? b = some o → b ≠ a := fun b o e z => by
    rw [z, gI] at e
    cases e
  have fr : ∀ b ∈ frs X.stack, ∀ o, sI.heap.get? b = some o → ∃ sl, s'.heap.get? b = some { o with slots := sl } := fun b hb o e => by
    obtain ⟨_, oF, eF, hd⟩ := I.stack.mem hb
    cases e.symm.trans eF
    exact up b o e hd
  have hok0 : HOk X.prog X.w H s'.heap := (I.inGround nb).kept st
  refine I.call' (ch := []) os ⟨fun b o e _ hb _ => st b o (nb b o e hb), fun b o e _ hb _ => fr b hb o e, fun b o e n _ => by rw [upd_ne (ne b o e)]; exact n, fun b o e _ => ?_, fun b xs e => by rw [upd_ne (ne_of_none e na)]; exact e, fun b o u e => by rw [upd_ne (ne_of_none e na)]; exact e, fun b ps e => ⟨#[], by rw [upd_ne (ne_of_none e na), e]; simp⟩⟩ (fun b o e => ?_) ag (fun b z => nomatch z)
  · by_cases isF : b ∈ frs X.stack
    · obtain ⟨sl, q⟩ := fr b isF o e
      exact ⟨_, q⟩
    · exact ⟨o, st b o (nb b o e isF)⟩
  · by_cases hb : b = a
    · subst hb
      rw [upd_same] at e
      cases e
      exact ⟨⟨oe, he, hz, vs, hv⟩, ⟨oe, he⟩, fun _ _ ⟨o2, q, r⟩ k => ⟨o2, k _ q, r⟩⟩
    · rw [upd_ne hb] at e
      exact (hok0 b o e).stay (fun c v _ q => q) (fun c q => by rw [upd_ne (ne_of_none q na)]; exact q) fun c xs q => by rw [upd_ne (ne_of_none q na)]; exact q
theorem Inv.toSuite (I : Inv X pins σ H s) (a : Addr) : Inv (X.suite a (X.pn ++ pins)) [] σ H s where
  ok := I.ok.suite _ _
  os := I.os
  bare := I.bare
  base := I.base
  loc := I.loc
  cell := I.cell
  free := I.free
  freeC := I.freeC
  pin := fun q hq => I.pin q ((List.append_nil (X.pn ++ pins)) ▸ hq)
  hok := I.hok
  len := I.len
theorem Inv.ofSuite {a : Addr} {pn' : List (Addr × Obj)} (ok : X.Ok) (I : Inv (X.suite a (X.pn ++ pins)) pn' σ H s) : Inv X pins σ H s where
  ok := ok
  os := I.os
  bare := I.bare
  base := I.base
  loc := I.loc
  cell := I.cell
  free := I.free
  freeC := I.freeC
  pin := fun q hq => I.pin q (List.mem_append.mpr (.inl hq))
  hok := I.hok
  len := I.len
end
/-- an end told in one context, told in another -/
theorem sp_in {X Y : Cx} {ps qs : List (Addr × Obj)} {D : Ends} (go : ∀ σ H s, Inv Y ps σ H s → Inv X qs σ H s) : ∀ {f : Flow} {s : Shared}, SP Y ps D f s → SP X qs D f s
  | .next, _, ⟨_, _, j, q⟩ => ⟨_, _, go _ _ _ j, q⟩
  | .brk, _, ⟨_, _, j, q⟩ => ⟨_, _, go _ _ _ j, q⟩
  | .cont, _, ⟨_, _, j, q⟩ => ⟨_, _, go _ _ _ j, q⟩
  | .ret _, _, ⟨_, _, _, j, r, q⟩ => ⟨_, _, _, go _ _ _ j, r, q⟩
section
variable {X : Cx} {pins : List (Addr × Obj)} {σ : L2.St} {H : Hp} {D : Ends} {Wout : WX} {B : Heap} {a : Addr} {cls : Value} {d : Option Addr} {sI sE : Shared} {h : Heap}
/-- the error a has come down at the heap h; sI is the state without it -/
structure Down (X : Cx) (B : Heap) (a : Addr) (cls : Value) (d : Option Addr) (sI sE : Shared) (h : Heap) : Prop where
  fl : HandSPX.FlyingZ B (X.env :: X.outer) a (Zc cls d) h
  up : sI.heap.UpToSlots h
  gr : ∀ b o, sI.heap.get? b = some o → b ∉ frs X.stack → B.get? b = some o
  os : sE.os = sI.os
  ag : AllBare sE.gens
theorem Down.off (z : Down X B a cls d sI sE h) (hs : X.stack = X.env :: X.outer) : a ∉ frs X.stack := fun m => by
  obtain ⟨_, vs, e1, _, ed⟩ := z.fl.there
  rw [hs] at m
  obtain ⟨_, o2, e2, nf⟩ := z.fl.2.2.1.mem m
  cases e1.symm.trans e2
  exact nf vs ed
/-- no clause is left -/
theorem down_nil (hs : X.stack = X.env :: X.outer) (hf : X.env.frame = some X.env.locals) (tk : Takes X Wout) (z : Down X B a cls d sI sE h) (J : Inv X pins σ H sI) (na : H a = none) (wish : Wout cls d σ H) :
    wpAny (model X.prog X.w) X.A (handleBy (.ref a) X.env []) (SP X pins D) X.xe { sE with heap := h } := by
  have out : ∀ h4, HandSPX.HeldZ B (X.env :: X.outer) a (Zc cls d) X.env.locals h4 → h.UpToSlots h4 → X.xe (.ref a) { sE with heap := h4 } := fun h4 held up4 =>
    tk _ _ ⟨a, B, sI, pins, σ, H, cls, d, rfl, J, z.gr, z.up.trans up4, .inr (.inr (hs ▸ held)), na, z.os, z.ag, wish⟩
  have last : wpAny (model X.prog X.w) X.A (setFlight (.ref a) X.env.frame) (fun _ s4 => wpAny (model X.prog X.w) X.A (throw (.ref a) : Sem Flow) (SP X pins D) X.xe s4) X.xe { sE with heap := h } := by
    simp only [hf]
    exact HandSPX.setFlight_upZ z.fl fun h4 held up4 => wpAny_throw (out h4 held up4)
  obtain ⟨_, _, _, oa, fields, tbk, _, _, ea, _, ed, e1, _⟩ := z.fl
  have some_tb : ¬ ((Value.ref tbk == Value.none) = true) := by simp
  refine wpAny_handleBy_nil ?_
  unfold PySem.passOn
  refine wpAny_bind (wpAny_field ea ed e1 ?_)
  simp only [if_neg some_tb]
  first
    | exact wpAny_bind (wpAny_pure (wpAny_bind last))
    | exact wpAny_bind last
/-- what a clause's class is, asked where the error is handled -/
theorem names_at {x : Str} {c : Value} {np : Pos} {s : Shared} {Q : Value → Shared → Prop} {E : Value → Shared → Prop} {pn : List (Addr × Obj)} (S : Inv (X.suite a pn) [] σ H s) (hc : Names X x c) (q : Q c s) :
    wpAny (model X.prog X.w) (X.A.mark (some (.ref a))) (eval (.Name x np) X.env) Q E s := by
  rcases hc with ⟨g, db, own | ⟨nil, boot, nn⟩⟩
  · exact ld_glob (X := X.suite a pn) S g own q db
  · exact ld_blt (X := X.suite a pn) S g nil boot q nn db
/-- the clauses, one behind another -/
theorem down_all (hs : X.stack = X.env :: X.outer) (hf : X.env.frame = some X.env.locals) (hN : X.N.Nodup) (tk : Takes X Wout) (ok : X.Ok) (J : Inv X pins σ H sI) (na : H a = none) (z : Down X B a cls d sI sE h) (J3 : Inv X pins σ H { sE with heap := h }) :
    ∀ {cs : List ExceptHandler} {l : List Cl}, HdsAs X cs l → wAll X.K Wout D l cls d σ H → wpAny (model X.prog X.w) X.A (handleBy (.ref a) X.env cs) (SP X pins D) X.xe { sE with heap := h }
  | _, _, .nil, wish => down_nil hs hf tk z J na wish
  | _, _, .cons (x := x) (n := n) (i := i) (ts := ts) (pos' := pos') (hds := more) hi hln hc hsu r, ⟨b, kb, yes, no⟩ => by
    obtain ⟨oa, _, ea, za, _⟩ := z.fl.there
    have kind : PySem.W.Looks (model X.prog X.w) h (typeOf (.ref a)) cls := fun A Q E s k q => by
      refine wpAny_typeOf_ref (k _ _ ea) ?_
      rw [za.1]
      exact q
    have S3 := Inv.toSuite J3 a
    refine wpAny_handleBy_cons (codeAny_handlers_test (names_at S3 hc ((PySem.W.exm_one (M := model X.prog X.w) J3.kIn kind kb).here ?_))) (fun q => nomatch q)
    match b, yes, no with
    | false, _, no => exact down_all hs hf hN tk ok J na z J3 r (no rfl)
    | true, yes, _ =>
      obtain ⟨C, rfl, body⟩ := yes rfl
      refine codeAny_handlers_suite_as (HandSPX.lands_againZ z.fl fun h4 fl4 up4 => ?_)
      obtain ⟨o4, _, e4, z4, d4⟩ := fl4.there
      have J4 : Inv X pins σ (upd H a (exq a C d)) { sE with heap := h4 } := Inv.caught (s' := { sE with heap := h4 }) J z.gr fl4.1 (z.up.trans up4) z.os z.ag fl4.2.1 (z.off hs) na e4 z4 d4
      refine store_ok (X := X.suite a (X.pn ++ pins)) (v := .ref a) (Inv.toSuite J4 a) hN hi (.inl hln) rfl (fun s5 S5 => ?_) (.inr hln)
      refine wpAny_mono ((hsu a (X.pn ++ pins)).run [] s5 _ _ _ S5 (body a na)) (fun f s6 e6 => ?_) (fun _ _ no => no.elim)
      have gone : ∀ {σ6 : L2.St} {H6 : Hp} {Q : Shared → Prop}, Inv (X.suite a (X.pn ++ pins)) [] σ6 H6 s6 → (∀ s7, Inv X pins (σ6.set i none) H6 s7 → Q s7) →
          wpAny (model X.prog X.w) X.A (do bindName X.env n .none; unbindBehindTheSuite X.env n pos') (fun _ s7 => Q s7) X.xe s6 := fun {σ6 H6 Q} S6 hq => gone_ok (Q := fun _ s7 => Q s7) (Inv.ofSuite ok S6) hN hi hln hq
      match f, e6 with
      | .next, ⟨_, _, S6, q⟩ => exact gone S6 fun _ j => ⟨_, _, j, q⟩
      | .brk, ⟨_, _, S6, q⟩ => exact gone S6 fun _ j => ⟨_, _, j, q⟩
      | .cont, ⟨_, _, S6, q⟩ => exact gone S6 fun _ j => ⟨_, _, j, q⟩
      | .ret _, ⟨_, _, _, S6, rv, q⟩ => exact gone S6 fun _ j => ⟨_, _, _, j, rv, q⟩
end
section
variable {X : Cx} {body : List Stmt} {h₀ : ExceptHandler} {hds : List ExceptHandler} {l : List Cl} {pos : Pos} {tb : WX → TS} {Wout : WX}
/-- the body of a try, told for any wish that its own context takes -/
def BodyAs (X : Cx) (body : List Stmt) (tb : WX → TS) : Prop := ∀ (W : WX) (pn : List (Addr × Obj)) (xe : Value → Shared → Prop), Takes (X.tr pn xe) W → PassesOwn (model X.prog X.w) X.A X.env xe → PSs (X.tr pn xe) body (tb W)
theorem ps_try_all (hs : X.stack = X.env :: X.outer) (hf : X.env.frame = some X.env.locals) (hN : X.N.Nodup) (tk : Takes X Wout) (told : BodyAs X body tb) (hh : HdsAs X (h₀ :: hds) l) :
    PS X (.Try body (h₀ :: hds) [] [] pos) (fun D σ H => tb (wAll X.K Wout D l) D σ H) where
  run := fun pins s σ H D I wish => by
    have ok := I.ok
    refine wpAny_Try_except ?_
    refine wpAny_mono ((told (wAll X.K Wout D l) (X.pn ++ pins) _ (fun u s' air => ?_) PassesOwn.looking).run [] s σ H D (I.toTry _) wish) (fun f s1 e => ?_) (fun _ _ e => e)
    · obtain ⟨a, B, sI, pins', σ', H', cls, d, rfl, J', gr, up, sky, na, os, ag, w⟩ := air
      have jI := J'.ofTry ok
      have two : X.A.frames = some (X.env :: X.outer) := ok.frames.trans (congrArg some hs)
      refine Sky.land Zc.steady two hf (hs ▸ sky) fun h3 fl3 up3 => ?_
      exact down_all hs hf hN tk ok jI na ⟨fl3, up.trans up3, gr, os, ag⟩ (jI.landed gr fl3.1 (up.trans up3) os ag) hh w
    · have here : SP X pins D f s1 := sp_in (fun _ _ _ j => j.ofTry ok) e
      cases f with
      | next => exact wpAny_execs_nil here
      | _ => exact here
end
end QT

set_option Elab.async false
set_option linter.all false
set_option maxRecDepth 100000
set_option maxHeartbeats 4000000
/-! The errors raised, each at its number. -/
namespace TX
open PySem PySem.Spec PyProof.Rows L2 KT KX KV KA QY QZ QB QE QH QT SM TM TK
abbrev N__law_raise : List Str := ["_law_way", "_law_it"]
abbrev P__law_raise : List Str := ["_law_way", "_law_it"]
theorem sc__law_raise : FnScope N__law_raise P__law_raise (defScope s__law_raise) := ⟨rfl, rfl, rfl, by decide +kernel, rfl, by decide +kernel, by decide +kernel⟩
abbrev N__law_caught : List Str := ["_law_way", "_law_it", "e"]
abbrev P__law_caught : List Str := ["_law_way", "_law_it"]
theorem sc__law_caught : FnScope N__law_caught P__law_caught (defScope s__law_caught) := ⟨rfl, rfl, rfl, by decide +kernel, rfl, by decide +kernel, by decide +kernel⟩
abbrev N__law_caught_as_base : List Str := ["_law_way", "_law_it", "e"]
abbrev P__law_caught_as_base : List Str := ["_law_way", "_law_it"]
theorem sc__law_caught_as_base : FnScope N__law_caught_as_base P__law_caught_as_base (defScope s__law_caught_as_base) := ⟨rfl, rfl, rfl, by decide +kernel, rfl, by decide +kernel, by decide +kernel⟩
section
variable {P : Program} {w : World} {K : PySem.W.Frag} {mg : Str → Option Value} {base : Heap} {fi : Str → FuncData}
def spRa (K : PySem.W.Frag) : Sp := fun vs H _ E => ∃ (i : Nat) (v : V) (x f : Str), vs = [.int i, v] ∧ clsL[i]? = some (x, f) ∧ ∀ d H', Same H H' → H' d = some (.xd [(f, v)]) → E (.ref (He.ga K x)) (some d) H'
theorem raise_sem {σ : L2.St} {H : Hp} {v : V} {x f : Str} {E : XK} (k : Qk K x f) (hv : σ[1]? = some (some v)) (q : ∀ d H', Same H H' → H' d = some (.xd [(f, v)]) → E (.ref (He.ga K x)) (some d) H') :
    tQmk (He.ga K x) (spI K f) (tCons (tVar 1) tNil) σ H fun y H1 => ∃ (a C fI d : Addr) (f : Str) (fs : List (Str × V)), y = .ref a ∧ Qc K C fI f ∧ H1 a = some (exo a C (some d)) ∧ H1 d = some (exd d fs) ∧ Fr0 H a ∧ E (.ref C) (some d) (upd (delH H1 a) d (.xd fs)) := by
  refine ⟨_, hv, by show 1 ≤ 1000; decide, mk_of (Q := fun y H1 => ∃ (a C fI d : Addr) (f : Str) (fs : List (Str × V)), y = .ref a ∧ Qc K C fI f ∧ H1 a = some (exo a C (some d)) ∧ H1 d = some (exd d fs) ∧ Fr0 H a ∧ E (.ref C) (some d) (upd (delH H1 a) d (.xd fs))) k fun a H2 n => ?_⟩
  obtain ⟨s, na, dx, nd, ne, e1, e2⟩ := n
  refine ⟨a, He.ga K x, He.ma K (He.ga K x) "__init__", dx, f, _, rfl, k.c, e1, e2, fr0_none na, q dx _ (fun b o e => ?_) upd_same⟩
  rw [upd_ne (ne_of_none e nd), delH_ne (ne_of_none e na)]
  exact s _ _ e
theorem ok_raise {fd : FuncData} (Er : Ers P w K mg base fi) (D : Df K mg "_law_raise" s__law_raise P__law_raise fd) : FnOk P w K mg base (L2.CX P w) 3 (He.fAd K ("_law_raise", none)) fd P__law_raise (spRa K) := by
  have g_QuickError := Er.q
  have E_BadTree := Er.of "BadTree" "thing" (by simp [clsL])
  have g_BadTree := E_BadTree.g
  have E_BadProgram := Er.of "BadProgram" "thing" (by simp [clsL])
  have g_BadProgram := E_BadProgram.g
  have E_BadWord := Er.of "BadWord" "thing" (by simp [clsL])
  have g_BadWord := E_BadWord.g
  have E_BadText := Er.of "BadText" "at" (by simp [clsL])
  have g_BadText := E_BadText.g
  have E_BadPath := Er.of "BadPath" "thing" (by simp [clsL])
  have g_BadPath := E_BadPath.g
  have E_BadRaw := Er.of "BadRaw" "thing" (by simp [clsL])
  have g_BadRaw := E_BadRaw.g
  have E_BadName := Er.of "BadName" "thing" (by simp [clsL])
  have g_BadName := E_BadName.g
  have E_BadInputs := Er.of "BadInputs" "thing" (by simp [clsL])
  have g_BadInputs := E_BadInputs.g
  have E_BadPoly := Er.of "BadPoly" "thing" (by simp [clsL])
  have g_BadPoly := E_BadPoly.g
  have E_BadTable := Er.of "BadTable" "thing" (by simp [clsL])
  have g_BadTable := E_BadTable.g
  have E_BadNumber := Er.of "BadNumber" "thing" (by simp [clsL])
  have g_BadNumber := E_BadNumber.g
  have E_BadStep := Er.of "BadStep" "thing" (by simp [clsL])
  have g_BadStep := E_BadStep.g
  have E_BadUnit := Er.of "BadUnit" "thing" (by simp [clsL])
  have g_BadUnit := E_BadUnit.g
  have E_BadStanding := Er.of "BadStanding" "thing" (by simp [clsL])
  have g_BadStanding := E_BadStanding.g
  have E_BadSharing := Er.of "BadSharing" "thing" (by simp [clsL])
  have g_BadSharing := E_BadSharing.g
  have E_BadBytes := Er.of "BadBytes" "at" (by simp [clsL])
  have g_BadBytes := E_BadBytes.g
  have E_BadUnits := Er.of "BadUnits" "thing" (by simp [clsL])
  have g_BadUnits := E_BadUnits.g
  have E_BadMachine := Er.of "BadMachine" "thing" (by simp [clsL])
  have g_BadMachine := E_BadMachine.g
  refine (fun_of D.F).okX sc__law_raise (fun vs H Q E h => ?_) (fun cdv A outer s H vs Q E hr h => ?_)
  · obtain ⟨i, v, x, f, rfl, _⟩ := h
    rfl
  · obtain ⟨i, v, x, f, rfl, hi, q⟩ := h
    have hk := (Er.of x f (List.mem_of_getElem? hi)).k
    have lt : i < 18 := (List.getElem?_eq_some_iff.mp hi).1
    refine ⟨_, (pss_cons (ps_if (pt_cmpR op_eq (pv 0) pe_int (nomark _)) (pss_one (ps_raise rfl (takes_of rfl rfl rfl rfl) (pmk_q rfl (pe_new E_BadTree (hr.mono (by first | decide | omega)) (pv 1) (by rfl))))) pss_nil)
      (pss_cons (ps_if (pt_cmpR op_eq (pv 0) pe_int (nomark _)) (pss_one (ps_raise rfl (takes_of rfl rfl rfl rfl) (pmk_q rfl (pe_newK E_BadProgram (hr.mono (by first | decide | omega)) (pk_cons (pv 1) pk_nil) (by rfl))))) pss_nil)
      (pss_cons (ps_if (pt_cmpR op_eq (pv 0) pe_int (nomark _)) (pss_one (ps_raise rfl (takes_of rfl rfl rfl rfl) (pmk_q rfl (pe_new E_BadWord (hr.mono (by first | decide | omega)) (pv 1) (by rfl))))) pss_nil)
      (pss_cons (ps_if (pt_cmpR op_eq (pv 0) pe_int (nomark _)) (pss_one (ps_raise rfl (takes_of rfl rfl rfl rfl) (pmk_q rfl (pe_newK E_BadText (hr.mono (by first | decide | omega)) (pk_cons (pv 1) pk_nil) (by rfl))))) pss_nil)
      (pss_cons (ps_if (pt_cmpR op_eq (pv 0) pe_int (nomark _)) (pss_one (ps_raise rfl (takes_of rfl rfl rfl rfl) (pmk_q rfl (pe_new E_BadPath (hr.mono (by first | decide | omega)) (pv 1) (by rfl))))) pss_nil)
      (pss_cons (ps_if (pt_cmpR op_eq (pv 0) pe_int (nomark _)) (pss_one (ps_raise rfl (takes_of rfl rfl rfl rfl) (pmk_q rfl (pe_newK E_BadRaw (hr.mono (by first | decide | omega)) (pk_cons (pv 1) pk_nil) (by rfl))))) pss_nil)
      (pss_cons (ps_if (pt_cmpR op_eq (pv 0) pe_int (nomark _)) (pss_one (ps_raise rfl (takes_of rfl rfl rfl rfl) (pmk_q rfl (pe_new E_BadName (hr.mono (by first | decide | omega)) (pv 1) (by rfl))))) pss_nil)
      (pss_cons (ps_if (pt_cmpR op_eq (pv 0) pe_int (nomark _)) (pss_one (ps_raise rfl (takes_of rfl rfl rfl rfl) (pmk_q rfl (pe_newK E_BadInputs (hr.mono (by first | decide | omega)) (pk_cons (pv 1) pk_nil) (by rfl))))) pss_nil)
      (pss_cons (ps_if (pt_cmpR op_eq (pv 0) pe_int (nomark _)) (pss_one (ps_raise rfl (takes_of rfl rfl rfl rfl) (pmk_q rfl (pe_new E_BadPoly (hr.mono (by first | decide | omega)) (pv 1) (by rfl))))) pss_nil)
      (pss_cons (ps_if (pt_cmpR op_eq (pv 0) pe_int (nomark _)) (pss_one (ps_raise rfl (takes_of rfl rfl rfl rfl) (pmk_q rfl (pe_newK E_BadTable (hr.mono (by first | decide | omega)) (pk_cons (pv 1) pk_nil) (by rfl))))) pss_nil)
      (pss_cons (ps_if (pt_cmpR op_eq (pv 0) pe_int (nomark _)) (pss_one (ps_raise rfl (takes_of rfl rfl rfl rfl) (pmk_q rfl (pe_new E_BadNumber (hr.mono (by first | decide | omega)) (pv 1) (by rfl))))) pss_nil)
      (pss_cons (ps_if (pt_cmpR op_eq (pv 0) pe_int (nomark _)) (pss_one (ps_raise rfl (takes_of rfl rfl rfl rfl) (pmk_q rfl (pe_newK E_BadStep (hr.mono (by first | decide | omega)) (pk_cons (pv 1) pk_nil) (by rfl))))) pss_nil)
      (pss_cons (ps_if (pt_cmpR op_eq (pv 0) pe_int (nomark _)) (pss_one (ps_raise rfl (takes_of rfl rfl rfl rfl) (pmk_q rfl (pe_new E_BadUnit (hr.mono (by first | decide | omega)) (pv 1) (by rfl))))) pss_nil)
      (pss_cons (ps_if (pt_cmpR op_eq (pv 0) pe_int (nomark _)) (pss_one (ps_raise rfl (takes_of rfl rfl rfl rfl) (pmk_q rfl (pe_newK E_BadStanding (hr.mono (by first | decide | omega)) (pk_cons (pv 1) pk_nil) (by rfl))))) pss_nil)
      (pss_cons (ps_if (pt_cmpR op_eq (pv 0) pe_int (nomark _)) (pss_one (ps_raise rfl (takes_of rfl rfl rfl rfl) (pmk_q rfl (pe_new E_BadSharing (hr.mono (by first | decide | omega)) (pv 1) (by rfl))))) pss_nil)
      (pss_cons (ps_if (pt_cmpR op_eq (pv 0) pe_int (nomark _)) (pss_one (ps_raise rfl (takes_of rfl rfl rfl rfl) (pmk_q rfl (pe_newK E_BadBytes (hr.mono (by first | decide | omega)) (pk_cons (pv 1) pk_nil) (by rfl))))) pss_nil)
      (pss_cons (ps_if (pt_cmpR op_eq (pv 0) pe_int (nomark _)) (pss_one (ps_raise rfl (takes_of rfl rfl rfl rfl) (pmk_q rfl (pe_new E_BadUnits (hr.mono (by first | decide | omega)) (pv 1) (by rfl))))) pss_nil)
      (pss_one (ps_raise rfl (takes_of rfl rfl rfl rfl) (pmk_q rfl (pe_new E_BadMachine (hr.mono (by first | decide | omega)) (pv 1) (by rfl)))))))))))))))))))))), ?_⟩
    refine ⟨_, rfl, rfl, _, rfl, ite2 (fun e => ?_) (fun e0 => ?_)⟩
    · have z : (i : Int) = 0 := V.int.inj (of_decide_eq_true e)
      have z2 : i = 0 := by omega
      subst z2
      have hi2 : some (("BadTree" : Str), ("thing" : Str)) = some (x, f) := hi
      cases hi2
      exact raise_sem hk rfl q
    refine ⟨_, rfl, rfl, _, rfl, ite2 (fun e => ?_) (fun e1 => ?_)⟩
    · have z : (i : Int) = 1 := V.int.inj (of_decide_eq_true e)
      have z2 : i = 1 := by omega
      subst z2
      have hi2 : some (("BadProgram" : Str), ("thing" : Str)) = some (x, f) := hi
      cases hi2
      exact raise_sem hk rfl q
    refine ⟨_, rfl, rfl, _, rfl, ite2 (fun e => ?_) (fun e2 => ?_)⟩
    · have z : (i : Int) = 2 := V.int.inj (of_decide_eq_true e)
      have z2 : i = 2 := by omega
      subst z2
      have hi2 : some (("BadWord" : Str), ("thing" : Str)) = some (x, f) := hi
      cases hi2
      exact raise_sem hk rfl q
    refine ⟨_, rfl, rfl, _, rfl, ite2 (fun e => ?_) (fun e3 => ?_)⟩
    · have z : (i : Int) = 3 := V.int.inj (of_decide_eq_true e)
      have z2 : i = 3 := by omega
      subst z2
      have hi2 : some (("BadText" : Str), ("at" : Str)) = some (x, f) := hi
      cases hi2
      exact raise_sem hk rfl q
    refine ⟨_, rfl, rfl, _, rfl, ite2 (fun e => ?_) (fun e4 => ?_)⟩
    · have z : (i : Int) = 4 := V.int.inj (of_decide_eq_true e)
      have z2 : i = 4 := by omega
      subst z2
      have hi2 : some (("BadPath" : Str), ("thing" : Str)) = some (x, f) := hi
      cases hi2
      exact raise_sem hk rfl q
    refine ⟨_, rfl, rfl, _, rfl, ite2 (fun e => ?_) (fun e5 => ?_)⟩
    · have z : (i : Int) = 5 := V.int.inj (of_decide_eq_true e)
      have z2 : i = 5 := by omega
      subst z2
      have hi2 : some (("BadRaw" : Str), ("thing" : Str)) = some (x, f) := hi
      cases hi2
      exact raise_sem hk rfl q
    refine ⟨_, rfl, rfl, _, rfl, ite2 (fun e => ?_) (fun e6 => ?_)⟩
    · have z : (i : Int) = 6 := V.int.inj (of_decide_eq_true e)
      have z2 : i = 6 := by omega
      subst z2
      have hi2 : some (("BadName" : Str), ("thing" : Str)) = some (x, f) := hi
      cases hi2
      exact raise_sem hk rfl q
    refine ⟨_, rfl, rfl, _, rfl, ite2 (fun e => ?_) (fun e7 => ?_)⟩
    · have z : (i : Int) = 7 := V.int.inj (of_decide_eq_true e)
      have z2 : i = 7 := by omega
      subst z2
      have hi2 : some (("BadInputs" : Str), ("thing" : Str)) = some (x, f) := hi
      cases hi2
      exact raise_sem hk rfl q
    refine ⟨_, rfl, rfl, _, rfl, ite2 (fun e => ?_) (fun e8 => ?_)⟩
    · have z : (i : Int) = 8 := V.int.inj (of_decide_eq_true e)
      have z2 : i = 8 := by omega
      subst z2
      have hi2 : some (("BadPoly" : Str), ("thing" : Str)) = some (x, f) := hi
      cases hi2
      exact raise_sem hk rfl q
    refine ⟨_, rfl, rfl, _, rfl, ite2 (fun e => ?_) (fun e9 => ?_)⟩
    · have z : (i : Int) = 9 := V.int.inj (of_decide_eq_true e)
      have z2 : i = 9 := by omega
      subst z2
      have hi2 : some (("BadTable" : Str), ("thing" : Str)) = some (x, f) := hi
      cases hi2
      exact raise_sem hk rfl q
    refine ⟨_, rfl, rfl, _, rfl, ite2 (fun e => ?_) (fun e10 => ?_)⟩
    · have z : (i : Int) = 10 := V.int.inj (of_decide_eq_true e)
      have z2 : i = 10 := by omega
      subst z2
      have hi2 : some (("BadNumber" : Str), ("thing" : Str)) = some (x, f) := hi
      cases hi2
      exact raise_sem hk rfl q
    refine ⟨_, rfl, rfl, _, rfl, ite2 (fun e => ?_) (fun e11 => ?_)⟩
    · have z : (i : Int) = 11 := V.int.inj (of_decide_eq_true e)
      have z2 : i = 11 := by omega
      subst z2
      have hi2 : some (("BadStep" : Str), ("thing" : Str)) = some (x, f) := hi
      cases hi2
      exact raise_sem hk rfl q
    refine ⟨_, rfl, rfl, _, rfl, ite2 (fun e => ?_) (fun e12 => ?_)⟩
    · have z : (i : Int) = 12 := V.int.inj (of_decide_eq_true e)
      have z2 : i = 12 := by omega
      subst z2
      have hi2 : some (("BadUnit" : Str), ("thing" : Str)) = some (x, f) := hi
      cases hi2
      exact raise_sem hk rfl q
    refine ⟨_, rfl, rfl, _, rfl, ite2 (fun e => ?_) (fun e13 => ?_)⟩
    · have z : (i : Int) = 13 := V.int.inj (of_decide_eq_true e)
      have z2 : i = 13 := by omega
      subst z2
      have hi2 : some (("BadStanding" : Str), ("thing" : Str)) = some (x, f) := hi
      cases hi2
      exact raise_sem hk rfl q
    refine ⟨_, rfl, rfl, _, rfl, ite2 (fun e => ?_) (fun e14 => ?_)⟩
    · have z : (i : Int) = 14 := V.int.inj (of_decide_eq_true e)
      have z2 : i = 14 := by omega
      subst z2
      have hi2 : some (("BadSharing" : Str), ("thing" : Str)) = some (x, f) := hi
      cases hi2
      exact raise_sem hk rfl q
    refine ⟨_, rfl, rfl, _, rfl, ite2 (fun e => ?_) (fun e15 => ?_)⟩
    · have z : (i : Int) = 15 := V.int.inj (of_decide_eq_true e)
      have z2 : i = 15 := by omega
      subst z2
      have hi2 : some (("BadBytes" : Str), ("at" : Str)) = some (x, f) := hi
      cases hi2
      exact raise_sem hk rfl q
    refine ⟨_, rfl, rfl, _, rfl, ite2 (fun e => ?_) (fun e16 => ?_)⟩
    · have z : (i : Int) = 16 := V.int.inj (of_decide_eq_true e)
      have z2 : i = 16 := by omega
      subst z2
      have hi2 : some (("BadUnits" : Str), ("thing" : Str)) = some (x, f) := hi
      cases hi2
      exact raise_sem hk rfl q
    have z2 : i = 17 := by
      have f0 : (i : Int) ≠ 0 := fun z => e0 (decide_eq_true (congrArg V.int z))
      have f1 : (i : Int) ≠ 1 := fun z => e1 (decide_eq_true (congrArg V.int z))
      have f2 : (i : Int) ≠ 2 := fun z => e2 (decide_eq_true (congrArg V.int z))
      have f3 : (i : Int) ≠ 3 := fun z => e3 (decide_eq_true (congrArg V.int z))
      have f4 : (i : Int) ≠ 4 := fun z => e4 (decide_eq_true (congrArg V.int z))
      have f5 : (i : Int) ≠ 5 := fun z => e5 (decide_eq_true (congrArg V.int z))
      have f6 : (i : Int) ≠ 6 := fun z => e6 (decide_eq_true (congrArg V.int z))
      have f7 : (i : Int) ≠ 7 := fun z => e7 (decide_eq_true (congrArg V.int z))
      have f8 : (i : Int) ≠ 8 := fun z => e8 (decide_eq_true (congrArg V.int z))
      have f9 : (i : Int) ≠ 9 := fun z => e9 (decide_eq_true (congrArg V.int z))
      have f10 : (i : Int) ≠ 10 := fun z => e10 (decide_eq_true (congrArg V.int z))
      have f11 : (i : Int) ≠ 11 := fun z => e11 (decide_eq_true (congrArg V.int z))
      have f12 : (i : Int) ≠ 12 := fun z => e12 (decide_eq_true (congrArg V.int z))
      have f13 : (i : Int) ≠ 13 := fun z => e13 (decide_eq_true (congrArg V.int z))
      have f14 : (i : Int) ≠ 14 := fun z => e14 (decide_eq_true (congrArg V.int z))
      have f15 : (i : Int) ≠ 15 := fun z => e15 (decide_eq_true (congrArg V.int z))
      have f16 : (i : Int) ≠ 16 := fun z => e16 (decide_eq_true (congrArg V.int z))
      omega
    subst z2
    have hi2 : some (("BadMachine" : Str), ("thing" : Str)) = some (x, f) := hi
    cases hi2
    exact raise_sem hk rfl q
theorem passW {X : Cx} {W : WX} {n : Nat} (tk : Takes X W) (hn : X.N.length = n) : Passes (L2.CX X.prog X.w) X (fun cls d H => ∀ σ : L2.St, σ.length = n → W cls d σ H) := fun pins σ H s e s' I c => tk e s' (XE.of_call I (fun cls d H' h => h σ (I.len.trans hn)) c)
def ord : List ((Str × Str) × Int) := [(("BadUnits", "thing"), 16), (("BadText", "at"), 3), (("BadTree", "thing"), 0), (("BadStep", "thing"), 11), (("BadInputs", "thing"), 7), (("BadBytes", "at"), 15), (("BadProgram", "thing"), 1), (("BadStanding", "thing"), 13), (("BadRaw", "thing"), 5), (("BadTable", "thing"), 9), (("BadWord", "thing"), 2), (("BadMachine", "thing"), 17), (("BadName", "thing"), 6), (("BadUnit", "thing"), 12), (("BadPath", "thing"), 4), (("BadSharing", "thing"), 14), (("BadPoly", "thing"), 8), (("BadNumber", "thing"), 10)]
def cl (K : PySem.W.Frag) (p : (Str × Str) × Int) : Cl := (.ref (He.ga K p.1.1), 2, fun _ => tRet (tTup (tCons (tC (.int p.2)) (tCons (tQf K p.1.2 (tVar 2)) tNil))))
theorem wall {Wout : WX} {D : Ends} {σ : L2.St} {H : Hp} {d : Addr} {v : V} {x f : Str} {i : Int} (k : Qk K x f) (hσ : 2 < σ.length) (hd : H d = some (.xd [(f, v)])) (q : ∀ p H', Same H H' → H' p = some (.tup [.int i, v]) → D.rt (.ref p) H') :
    ∀ l : List ((Str × Str) × Int), (∀ p ∈ l, p.1 ∈ clsL ∧ (x = p.1.1 → p.2 = i ∧ p.1.2 = f)) → (∃ p ∈ l, x = p.1.1) → wAll K Wout D (l.map (cl K)) (.ref (He.ga K x)) (some d) σ H
  | [], _, h => by
    obtain ⟨p, hp, _⟩ := h
    cases hp
  | p :: r, hl, h => by
    obtain ⟨h1, h2⟩ := hl p (List.mem_cons_self ..)
    refine ⟨decide (x = p.1.1), (k.is _ h1).2, fun hb => ⟨He.ga K x, rfl, fun a na => ?_⟩, fun hb => ?_⟩
    · obtain ⟨e1, e2⟩ := h2 (of_decide_eq_true hb)
      have nda : d ≠ a := ne_of_none hd na
      have hd2 : (upd H a (exq a (He.ga K x) (some d))) d = some (.xd [(f, v)]) := by
        rw [upd_ne nda]
        exact hd
      have xo : Xo (upd H a (exq a (He.ga K x) (some d))) a (He.ga K x) f v := ⟨d, _, .inr upd_same, .inr hd2, by
        rw [List.lookup_cons]
        simp⟩
      have at2 : (σ.set 2 (some (V.ref a)))[2]? = some (some (V.ref a)) := List.getElem?_set_self hσ
      have fin : ∀ t, (upd H a (exq a (He.ga K x) (some d))) t = none → D.rt (.ref t) (upd (upd H a (exq a (He.ga K x) (some d))) t (.tup [.int i, v])) := fun t nt => q t _ (fun b o e => by
        have nb : b ≠ a := ne_of_none e na
        have e3 : (upd H a (exq a (He.ga K x) (some d))) b = some o := by
          rw [upd_ne nb]
          exact e
        rw [upd_ne (ne_of_none e3 nt)]
        exact e3) upd_same
      rw [← e1] at fin
      have ec : k.c = k.c := rfl
      have qc : Qc K (He.ga K x) (He.ma K (He.ga K x) "__init__") p.1.2 := by
        rw [e2]
        exact k.c
      have xo2 : Xo (upd H a (exq a (He.ga K x) (some d))) a (He.ga K x) p.1.2 v := by
        rw [e2]
        exact xo
      exact ⟨_, at2, a, He.ga K x, He.ma K (He.ga K x) "__init__", v, rfl, qc, xo2, by show 2 ≤ sizeLine; decide, fin⟩
    · refine wall k hσ hd q r (fun z hz => hl z (List.mem_cons_of_mem _ hz)) ?_
      obtain ⟨z, hz, e⟩ := h
      rcases List.mem_cons.mp hz with rfl | hz
      · exact absurd e (of_decide_eq_false hb)
      · exact ⟨z, hz, e⟩
theorem ord_ok : ∀ i : Fin 18, (∀ p ∈ ord, p.1 ∈ clsL ∧ ((clsL.getD i.val ("", "")).1 = p.1.1 → p.2 = (i.val : Int) ∧ p.1.2 = (clsL.getD i.val ("", "")).2)) ∧ ∃ p ∈ ord, (clsL.getD i.val ("", "")).1 = p.1.1 := by decide +kernel
def spCg : Sp := fun vs H Q _ => ∃ (i : Nat) (v : V) (x f : Str), vs = [.int i, v] ∧ clsL[i]? = some (x, f) ∧ ∀ p H', Same H H' → H' p = some (.tup [.int i, v]) → Q (.ref p) H'
theorem ok_caught {fd fdR : FuncData} (Er : Ers P w K mg base fi) (D__law_raise : Df K mg "_law_raise" s__law_raise P__law_raise fdR) (D : Df K mg "_law_caught" s__law_caught P__law_caught fd) : FnOk P w K mg base CX0 6 (He.fAd K ("_law_caught", none)) fd P__law_caught spCg := by
  have g_QuickError := Er.q
  have E_BadTree := Er.of "BadTree" "thing" (by simp [clsL])
  have g_BadTree := E_BadTree.g
  have E_BadProgram := Er.of "BadProgram" "thing" (by simp [clsL])
  have g_BadProgram := E_BadProgram.g
  have E_BadWord := Er.of "BadWord" "thing" (by simp [clsL])
  have g_BadWord := E_BadWord.g
  have E_BadText := Er.of "BadText" "at" (by simp [clsL])
  have g_BadText := E_BadText.g
  have E_BadPath := Er.of "BadPath" "thing" (by simp [clsL])
  have g_BadPath := E_BadPath.g
  have E_BadRaw := Er.of "BadRaw" "thing" (by simp [clsL])
  have g_BadRaw := E_BadRaw.g
  have E_BadName := Er.of "BadName" "thing" (by simp [clsL])
  have g_BadName := E_BadName.g
  have E_BadInputs := Er.of "BadInputs" "thing" (by simp [clsL])
  have g_BadInputs := E_BadInputs.g
  have E_BadPoly := Er.of "BadPoly" "thing" (by simp [clsL])
  have g_BadPoly := E_BadPoly.g
  have E_BadTable := Er.of "BadTable" "thing" (by simp [clsL])
  have g_BadTable := E_BadTable.g
  have E_BadNumber := Er.of "BadNumber" "thing" (by simp [clsL])
  have g_BadNumber := E_BadNumber.g
  have E_BadStep := Er.of "BadStep" "thing" (by simp [clsL])
  have g_BadStep := E_BadStep.g
  have E_BadUnit := Er.of "BadUnit" "thing" (by simp [clsL])
  have g_BadUnit := E_BadUnit.g
  have E_BadStanding := Er.of "BadStanding" "thing" (by simp [clsL])
  have g_BadStanding := E_BadStanding.g
  have E_BadSharing := Er.of "BadSharing" "thing" (by simp [clsL])
  have g_BadSharing := E_BadSharing.g
  have E_BadBytes := Er.of "BadBytes" "at" (by simp [clsL])
  have g_BadBytes := E_BadBytes.g
  have E_BadUnits := Er.of "BadUnits" "thing" (by simp [clsL])
  have g_BadUnits := E_BadUnits.g
  have E_BadMachine := Er.of "BadMachine" "thing" (by simp [clsL])
  have g_BadMachine := E_BadMachine.g
  have G__law_raise := ok_raise Er D__law_raise (P := P) (w := w) (base := base)
  refine (fun_of D.F).ok sc__law_caught (fun vs H Q E h => ?_) (fun cdv A outer s H vs Q E hr h => ?_)
  · obtain ⟨i, v, x, f, rfl, _⟩ := h
    rfl
  · obtain ⟨i, v, x, f, rfl, hi, q⟩ := h
    have hk := (Er.of x f (List.mem_of_getElem? hi)).k
    refine ⟨_, (pss_cons (ps_try_all (l := (ord.map (cl K))) rfl rfl sc__law_caught.nd takes0 (fun W pn xe tk _ => pss_one (ps_expr (pe_call G__law_raise (hr.mono (by first | decide | omega)) (by rfl) D__law_raise.g D__law_raise.F.kp D__law_raise.b .nil (passW (n := 3) tk (by rfl)) (pa_cons (pv 0) (pa_cons (pv 1) pa_nil))))) (by exact (.cons (i := 2) rfl (by rfl) ⟨by rfl, by decide, .inl g_BadUnits⟩ (fun a pn => (pss_one (ps_ret (pe_tup (pa_cons pe_int (pa_cons (pe_qf (pv 2)) pa_nil))))))
        (.cons (i := 2) rfl (by rfl) ⟨by rfl, by decide, .inl g_BadText⟩ (fun a pn => (pss_one (ps_ret (pe_tup (pa_cons pe_int (pa_cons (pe_qf (pv 2)) pa_nil))))))
        (.cons (i := 2) rfl (by rfl) ⟨by rfl, by decide, .inl g_BadTree⟩ (fun a pn => (pss_one (ps_ret (pe_tup (pa_cons pe_int (pa_cons (pe_qf (pv 2)) pa_nil))))))
        (.cons (i := 2) rfl (by rfl) ⟨by rfl, by decide, .inl g_BadStep⟩ (fun a pn => (pss_one (ps_ret (pe_tup (pa_cons pe_int (pa_cons (pe_qf (pv 2)) pa_nil))))))
        (.cons (i := 2) rfl (by rfl) ⟨by rfl, by decide, .inl g_BadInputs⟩ (fun a pn => (pss_one (ps_ret (pe_tup (pa_cons pe_int (pa_cons (pe_qf (pv 2)) pa_nil))))))
        (.cons (i := 2) rfl (by rfl) ⟨by rfl, by decide, .inl g_BadBytes⟩ (fun a pn => (pss_one (ps_ret (pe_tup (pa_cons pe_int (pa_cons (pe_qf (pv 2)) pa_nil))))))
        (.cons (i := 2) rfl (by rfl) ⟨by rfl, by decide, .inl g_BadProgram⟩ (fun a pn => (pss_one (ps_ret (pe_tup (pa_cons pe_int (pa_cons (pe_qf (pv 2)) pa_nil))))))
        (.cons (i := 2) rfl (by rfl) ⟨by rfl, by decide, .inl g_BadStanding⟩ (fun a pn => (pss_one (ps_ret (pe_tup (pa_cons pe_int (pa_cons (pe_qf (pv 2)) pa_nil))))))
        (.cons (i := 2) rfl (by rfl) ⟨by rfl, by decide, .inl g_BadRaw⟩ (fun a pn => (pss_one (ps_ret (pe_tup (pa_cons pe_int (pa_cons (pe_qf (pv 2)) pa_nil))))))
        (.cons (i := 2) rfl (by rfl) ⟨by rfl, by decide, .inl g_BadTable⟩ (fun a pn => (pss_one (ps_ret (pe_tup (pa_cons pe_int (pa_cons (pe_qf (pv 2)) pa_nil))))))
        (.cons (i := 2) rfl (by rfl) ⟨by rfl, by decide, .inl g_BadWord⟩ (fun a pn => (pss_one (ps_ret (pe_tup (pa_cons pe_int (pa_cons (pe_qf (pv 2)) pa_nil))))))
        (.cons (i := 2) rfl (by rfl) ⟨by rfl, by decide, .inl g_BadMachine⟩ (fun a pn => (pss_one (ps_ret (pe_tup (pa_cons pe_int (pa_cons (pe_qf (pv 2)) pa_nil))))))
        (.cons (i := 2) rfl (by rfl) ⟨by rfl, by decide, .inl g_BadName⟩ (fun a pn => (pss_one (ps_ret (pe_tup (pa_cons pe_int (pa_cons (pe_qf (pv 2)) pa_nil))))))
        (.cons (i := 2) rfl (by rfl) ⟨by rfl, by decide, .inl g_BadUnit⟩ (fun a pn => (pss_one (ps_ret (pe_tup (pa_cons pe_int (pa_cons (pe_qf (pv 2)) pa_nil))))))
        (.cons (i := 2) rfl (by rfl) ⟨by rfl, by decide, .inl g_BadPath⟩ (fun a pn => (pss_one (ps_ret (pe_tup (pa_cons pe_int (pa_cons (pe_qf (pv 2)) pa_nil))))))
        (.cons (i := 2) rfl (by rfl) ⟨by rfl, by decide, .inl g_BadSharing⟩ (fun a pn => (pss_one (ps_ret (pe_tup (pa_cons pe_int (pa_cons (pe_qf (pv 2)) pa_nil))))))
        (.cons (i := 2) rfl (by rfl) ⟨by rfl, by decide, .inl g_BadPoly⟩ (fun a pn => (pss_one (ps_ret (pe_tup (pa_cons pe_int (pa_cons (pe_qf (pv 2)) pa_nil))))))
        (.cons (i := 2) rfl (by rfl) ⟨by rfl, by decide, .inl g_BadNumber⟩ (fun a pn => (pss_one (ps_ret (pe_tup (pa_cons pe_int (pa_cons (pe_qf (pv 2)) pa_nil))))))
        .nil))))))))))))))))))))
      (pss_one (ps_ret (pe_tup (pa_cons pe_int (pa_cons pe_non pa_nil)))))), ?_⟩
    obtain ⟨o1, o2⟩ := ord_ok ⟨i, (List.getElem?_eq_some_iff.mp hi).1⟩
    have hx : clsL.getD (⟨i, (List.getElem?_eq_some_iff.mp hi).1⟩ : Fin 18).val ("", "") = (x, f) := by
      rw [List.getD_eq_getElem?_getD]
      show (clsL[i]?).getD _ = _
      rw [hi]
      rfl
    rw [hx] at o1 o2
    refine ⟨_, rfl, _, rfl, i, v, x, f, rfl, hi, fun d H' s1 hd σ hσ => wall hk (by omega) hd (fun p H2 s2 e2 => ?_) ord o1 o2⟩
    exact q p H2 (fun b o e => s2 _ _ (s1 _ _ e)) e2
def spCb : Sp := fun vs H Q _ => ∃ (i : Nat) (v : V) (x f : Str), vs = [.int i, v] ∧ clsL[i]? = some (x, f) ∧ ∀ L H', Same H H' → H' L = some (.lst (clsL.map fun q => .bl (decide (x = q.1)))) → Q (.ref L) H'
theorem ok_base {fd fdR fdK : FuncData} (T : TbL mg) (Er : Ers P w K mg base fi) (D__law_raise : Df K mg "_law_raise" s__law_raise P__law_raise fdR) (D__law_kinds : Df K mg "_law_kinds" s__law_kinds P__law_kinds fdK) (D : Df K mg "_law_caught_as_base" s__law_caught_as_base P__law_caught_as_base fd) :
    FnOk P w K mg base CX0 6 (He.fAd K ("_law_caught_as_base", none)) fd P__law_caught_as_base spCb := by
  have g_QuickError := Er.q
  have E_BadTree := Er.of "BadTree" "thing" (by simp [clsL])
  have g_BadTree := E_BadTree.g
  have E_BadProgram := Er.of "BadProgram" "thing" (by simp [clsL])
  have g_BadProgram := E_BadProgram.g
  have E_BadWord := Er.of "BadWord" "thing" (by simp [clsL])
  have g_BadWord := E_BadWord.g
  have E_BadText := Er.of "BadText" "at" (by simp [clsL])
  have g_BadText := E_BadText.g
  have E_BadPath := Er.of "BadPath" "thing" (by simp [clsL])
  have g_BadPath := E_BadPath.g
  have E_BadRaw := Er.of "BadRaw" "thing" (by simp [clsL])
  have g_BadRaw := E_BadRaw.g
  have E_BadName := Er.of "BadName" "thing" (by simp [clsL])
  have g_BadName := E_BadName.g
  have E_BadInputs := Er.of "BadInputs" "thing" (by simp [clsL])
  have g_BadInputs := E_BadInputs.g
  have E_BadPoly := Er.of "BadPoly" "thing" (by simp [clsL])
  have g_BadPoly := E_BadPoly.g
  have E_BadTable := Er.of "BadTable" "thing" (by simp [clsL])
  have g_BadTable := E_BadTable.g
  have E_BadNumber := Er.of "BadNumber" "thing" (by simp [clsL])
  have g_BadNumber := E_BadNumber.g
  have E_BadStep := Er.of "BadStep" "thing" (by simp [clsL])
  have g_BadStep := E_BadStep.g
  have E_BadUnit := Er.of "BadUnit" "thing" (by simp [clsL])
  have g_BadUnit := E_BadUnit.g
  have E_BadStanding := Er.of "BadStanding" "thing" (by simp [clsL])
  have g_BadStanding := E_BadStanding.g
  have E_BadSharing := Er.of "BadSharing" "thing" (by simp [clsL])
  have g_BadSharing := E_BadSharing.g
  have E_BadBytes := Er.of "BadBytes" "at" (by simp [clsL])
  have g_BadBytes := E_BadBytes.g
  have E_BadUnits := Er.of "BadUnits" "thing" (by simp [clsL])
  have g_BadUnits := E_BadUnits.g
  have E_BadMachine := Er.of "BadMachine" "thing" (by simp [clsL])
  have g_BadMachine := E_BadMachine.g
  have G__law_raise := ok_raise Er D__law_raise (P := P) (w := w) (base := base)
  have Q__law_kinds := ok_kinds T Er D__law_kinds (P := P) (w := w) (base := base)
  refine (fun_of D.F).ok sc__law_caught_as_base (fun vs H Q E h => ?_) (fun cdv A outer s H vs Q E hr h => ?_)
  · obtain ⟨i, v, x, f, rfl, _⟩ := h
    rfl
  · obtain ⟨i, v, x, f, rfl, hi, q⟩ := h
    have hm : (x, f) ∈ clsL := List.mem_of_getElem? hi
    have hk := (Er.of x f hm).k
    refine ⟨_, (pss_cons (ps_try_all (l := [(.ref (He.ga K "QuickError"), 2, fun _ => tRet fun σ H Q => (tCons (tVar 2) tNil) σ H fun vs H1 => spK K vs H1 Q E0)]) rfl rfl sc__law_caught_as_base.nd takes0 (fun W pn xe tk _ => pss_one (ps_expr (pe_call G__law_raise (hr.mono (by first | decide | omega)) (by rfl) D__law_raise.g D__law_raise.F.kp D__law_raise.b .nil (passW (n := 3) tk (by rfl)) (pa_cons (pv 0) (pa_cons (pv 1) pa_nil))))) (by exact (.cons (i := 2) rfl (by rfl) ⟨by rfl, by decide, .inl g_QuickError⟩ (fun a pn => (pss_one (ps_ret (pe_callQ Q__law_kinds (L2H.RoomH.mono (k := 5) ⟨by have := hr.dp; exact this, by have := hr.un; exact this⟩ (by decide)) (by rfl) D__law_kinds.g D__law_kinds.F.kp D__law_kinds.b (pa_cons (pv 2) pa_nil)))))
        .nil)))
      (pss_one (ps_ret (pe_lst pa_nil)))), ?_⟩
    refine ⟨_, rfl, _, rfl, i, v, x, f, rfl, hi, fun d H' s1 hd σ hσ => ⟨true, hk.base, fun _ => ⟨He.ga K x, rfl, fun a na => ?_⟩, fun z => Bool.noConfusion z⟩⟩
    have hd2 : (upd H' a (exq a (He.ga K x) (some d))) d = some (.xd [(f, v)]) := by
      rw [upd_ne (ne_of_none hd na)]
      exact hd
    have at2 : (σ.set 2 (some (V.ref a)))[2]? = some (some (V.ref a)) := List.getElem?_set_self (by omega)
    refine ⟨_, at2, a, x, f, v, rfl, hm, ⟨d, _, .inr upd_same, .inr hd2, by rw [List.lookup_cons]; simp⟩, fun L H2 s2 nL eL => ?_⟩
    refine q L H2 (fun b o e => s2 _ _ ?_) eL
    have e1 := s1 _ _ e
    rw [upd_ne (ne_of_none e1 na)]
    exact e1
end
end TX


set_option Elab.async false
set_option linter.all false
set_option maxRecDepth 100000
set_option maxHeartbeats 4000000
/-! Drawn values, with their data. -/
namespace TA
open PySem PySem.Spec PyProof.Rows L2 KT KX KA KV
abbrev On (H : Hp) : Addr → Prop := fun a => H a ≠ none
def AnyD (n : Nat) (D : PyData) : Prop := Ok D ∧ D.depth ≤ 2 * n + 2
def spAnyD (n : Nat) : Sp := fun vs H Q _ => ∃ d L : Addr, vs = [.ref d, .int n] ∧ DK d L H ∧ ∀ v D H', AnyD n D → Dx (On H) H' v D → KA.Fr d L H H' → Q v H'
def spPrevD : Nat → Sp
  | 0 => spNo
  | n + 1 => spAnyD n
theorem fr_tp {d L : Addr} {H H' : Hp} (h : DK d L H) (f : Fr d L H H') : ∀ c xs, H c = some (.tup xs) → H' c = some (.tup xs) := fun c xs e => by
  obtain ⟨ns, m, k, h1, h2, _⟩ := h
  exact f.st c _ (ne_of e h1 (by intro z; cases z)) (ne_of e h2 (by intro z; cases z)) e
theorem pickL {K : PySem.W.Frag} {d L p : Addr} {H H1 : Hp} {xs : List V} {Q : VK} (f : Fr d L H H1) (np : H1 p = none) (h0 : 0 < xs.length) (hl : xs.length ≤ 1000)
    (h : ∀ x ∈ xs, ∀ H', Fr d L H H' → Q x H') : spPick K [.ref d, .ref p] (upd H1 p (.lst xs)) Q E0 := by
  have dk := f.dk
  have pL : p ≠ L := fun e => by
    obtain ⟨ns, m, k, h1, h2, _⟩ := dk
    rw [e, h2] at np
    cases np
  exact ⟨d, L, p, xs, rfl, dk.upd np, pL, .inl (SqL.of upd_same), h0, by omega, fun i x H' hi f2 => h x (List.mem_of_getElem? hi) H' (f.trans ((Fr.new dk np).trans f2))⟩
theorem anyI {n : Nat} {i : Int} (h : i.natAbs < 10 ^ 30) : AnyD n (.int i) := ⟨by unfold Ok; exact h, Nat.zero_le _⟩
theorem anyS {n : Nat} {z : Str} (h : AscN 10 z) : AnyD n (.str z) := ⟨by unfold Ok; exact h, Nat.zero_le _⟩
theorem any0 {n : Nat} {D : PyData} (h : D = .none ∨ D = .bool true ∨ D = .bool false) : AnyD n D := by
  rcases h with rfl | rfl | rfl <;> exact ⟨by unfold Ok; trivial, Nat.zero_le _⟩
/-- the parts of a list so far -/
def PsOk (n i : Nat) (Ds : List PyData) : Prop := OkL Ds ∧ (n = 0 → Ds = []) ∧ PyData.depthAll Ds ≤ 2 * n ∧ Ds.length = i
theorem PsOk.step {n i : Nat} {Ds : List PyData} {D : PyData} (p : PsOk (n + 1) i Ds) (a : AnyD n D) : PsOk (n + 1) (i + 1) (Ds ++ [D]) := by
  obtain ⟨p1, p2, p3, p4⟩ := p
  obtain ⟨a1, a2⟩ := a
  refine ⟨OkL.app p1 (by unfold OkL; exact ⟨a1, by unfold OkL; trivial⟩), (fun e => by cases e), ?_, (by rw [List.length_append, p4]; rfl)⟩
  rw [depth_app]
  simp only [PyData.depthAll]
  omega
abbrev N__law_any : List Str := ["_law_deck_here", "_law_deep", "_law_way", "_law_some", "_law_turn"]
abbrev P__law_any : List Str := ["_law_deck_here", "_law_deep"]
theorem sc__law_any : FnScope N__law_any P__law_any (defScope s__law_any) := ⟨rfl, rfl, rfl, by decide +kernel, rfl, by decide +kernel, by decide +kernel⟩
section
variable {P : Program} {w : World} {K : PySem.W.Frag} {mg : Str → Option Value} {base : Heap}
theorem ok_anyD1 {fd fdD fdP : FuncData} {n : Nat} (T : Tb mg) (D : Df K mg "_law_any" s__law_any P__law_any fd) (D__law_draw : Df K mg "_law_draw" s__law_draw P__law_draw fdD) (D__law_pick : Df K mg "_law_pick" s__law_pick P__law_pick fdP)
    (G__law_any : FnOk P w K mg base CX0 (n + 2) (He.fAd K ("_law_any", none)) fd P__law_any (spPrevD n)) : FnOk P w K mg base CX0 (n + 3) (He.fAd K ("_law_any", none)) fd P__law_any (spAnyD n) := by
  have G__law_draw : FnOk P w K mg base CX0 1 (He.fAd K ("_law_draw", none)) fdD P__law_draw spDraw := ok_draw D__law_draw T
  have G__law_pick : FnOk P w K mg base CX0 2 (He.fAd K ("_law_pick", none)) fdP P__law_pick (spPick K) := ok_pick D__law_pick T D__law_draw
  have D__law_any := D
  refine (fun_of D.F).ok sc__law_any (fun vs H Q E h => ?_) (fun cdv A outer s H vs Q E hr h => ?_)
  · obtain ⟨d, L, rfl, _⟩ := h
    rfl
  · obtain ⟨d, L, rfl, hD, q⟩ := h
    refine ⟨_, (pss_cons (ps_set (i := 2) sc__law_any.nd rfl (.inl rfl) (pe_call G__law_draw (hr.mono (by first | decide | omega)) (by rfl) D__law_draw.g D__law_draw.F.kp D__law_draw.b .nil pass0 (pa_cons (pv 0) (pa_cons pe_int pa_nil))))
      (pss_cons (ps_if (pt_cmpR op_lt (pv 2) pe_int (nomark _)) (pss_one (ps_ret (pe_call G__law_pick (hr.mono (by first | decide | omega)) (by rfl) D__law_pick.g D__law_pick.F.kp D__law_pick.b .nil pass0 (pa_cons (pv 0) (pa_cons (pe_lst (pa_cons pe_int (pa_cons pe_int (pa_cons (pe_un un_neg pe_int) (pa_cons pe_int (pa_cons (pe_op op_pow pe_int pe_int) (pa_cons (pe_un un_neg (pe_op op_pow pe_int pe_int)) (pa_cons pe_int (pa_cons pe_int pa_nil))))))))) pa_nil))))) pss_nil)
      (pss_cons (ps_if (pt_cmpR op_lt (pv 2) pe_int (nomark _)) (pss_one (ps_ret (pe_call G__law_pick (hr.mono (by first | decide | omega)) (by rfl) D__law_pick.g D__law_pick.F.kp D__law_pick.b .nil pass0 (pa_cons (pv 0) (pa_cons (pe_lst (pa_cons pe_str (pa_cons pe_str (pa_cons pe_str (pa_cons pe_str (pa_cons pe_str (pa_cons pe_str (pa_cons pe_str (pa_cons pe_str pa_nil))))))))) pa_nil))))) pss_nil)
      (pss_cons (ps_if (pt_cmpR op_eq (pv 2) pe_int (nomark _)) (pss_one (ps_ret (pe_call G__law_pick (hr.mono (by first | decide | omega)) (by rfl) D__law_pick.g D__law_pick.F.kp D__law_pick.b .nil pass0 (pa_cons (pv 0) (pa_cons (pe_lst (pa_cons pe_bl (pa_cons pe_bl (pa_cons pe_non pa_nil)))) pa_nil))))) pss_nil)
      (C8.pss_cut (ps_set (i := 3) sc__law_any.nd rfl (.inl rfl) (pe_ifExp (pt_cmpR op_gt (pv 1) pe_int (nomark _)) (pe_lc (own := [("_law_turn", 4)]) (g := gName 4) (tt := tYes) (by rfl) sc__law_any.nd (pi_range1 rfl T.range (pa_cons (pe_call G__law_draw (hr.mono (by first | decide | omega)) (by rfl) D__law_draw.g D__law_draw.F.kp D__law_draw.b .nil pass0 (pa_cons (pv 0) (pa_cons pe_int pa_nil))) pa_nil)) (blkOk_by (own := [("_law_turn", 4)]) (N := N__law_any) (sc := defScope s__law_any) (by decide +kernel)) (fun _ _ _ _ _ => (pg_name (i := 4) sc__law_any.nd rfl (.inl rfl))) (fun _ _ _ _ _ => pts_nil) (fun _ _ _ _ _ => (pe_call G__law_any (hr.mono (by first | decide | omega)) (by rfl) D__law_any.g D__law_any.F.kp D__law_any.b .nil pass0 (pa_cons (pv 0) (pa_cons (pe_op op_sub (pv 1) pe_int) pa_nil))))) (pe_lst pa_nil)))
      (pss_cons (ps_if (pt_cmpR op_eq (pv 2) pe_int (nomark _)) (pss_one (ps_ret (pv 3))) pss_nil)
      (pss_one (ps_ret (pe_ifExp (pt_cmpR op_eq (pv 2) pe_int (nomark _)) (pe_disp (pps_cons pe_str (pv 3) (pps_cons pe_int (pe_callB call_len (by rfl) T.len (by decide +kernel) (pa_cons (pv 3) pa_nil)) pps_nil)) (by rfl) (by rfl) (fun z => by cases z) (by decide)) (pe_callTy call_tuple_of (by rfl) T.tuple (by decide +kernel) (pa_cons (pv 3) pa_nil))))))))))), ?_⟩
    refine ⟨_, rfl, d, L, _, rfl, hD, by decide, by decide, fun way H1 w0 w1 f1 => ?_⟩
    refine ⟨_, rfl, _, _, rfl, rfl, _, rfl, ite2 (fun _ => ?_) (fun _ => ?_)⟩
    · refine ⟨_, rfl, 1, rfl, 10, 29, rfl, rfl, ⟨by decide, by decide, by decide⟩, 10, 20, rfl, rfl, ⟨by decide, by decide, by decide⟩, _, rfl, by show 8 ≤ sizeLine; decide, fun p np => ?_⟩
      refine pickL f1 np (by show 0 < 8; decide) (by show 8 ≤ 1000; decide) fun x hx H' f => ?_
      simp only [List.mem_cons, List.not_mem_nil, or_false] at hx
      rcases hx with rfl | rfl | rfl | rfl | rfl | rfl | rfl | rfl <;> exact q _ (.int _) H' (anyI (by decide +kernel)) (.int _) f
    refine ⟨_, rfl, _, _, rfl, rfl, _, rfl, ite2 (fun _ => ?_) (fun _ => ?_)⟩
    · refine ⟨_, rfl, by show 8 ≤ sizeLine; decide, fun p np => ?_⟩
      refine pickL f1 np (by show 0 < 8; decide) (by show 8 ≤ 1000; decide) fun x hx H' f => ?_
      simp only [List.mem_cons, List.not_mem_nil, or_false] at hx
      rcases hx with rfl | rfl | rfl | rfl | rfl | rfl | rfl | rfl <;> exact q _ (.str _) H' (anyS (ascn (by decide +kernel))) (.str _) f
    refine ⟨_, rfl, rfl, _, rfl, ite2 (fun _ => ?_) (fun _ => ?_)⟩
    · refine ⟨_, rfl, by show 3 ≤ sizeLine; decide, fun p np => ?_⟩
      refine pickL f1 np (by show 0 < 3; decide) (by show 3 ≤ 1000; decide) fun x hx H' f => ?_
      simp only [List.mem_cons, List.not_mem_nil, or_false] at hx
      rcases hx with rfl | rfl | rfl
      · exact q _ (.bool true) H' (any0 (.inr (.inl rfl))) (.bl _) f
      · exact q _ (.bool false) H' (any0 (.inr (.inr rfl))) (.bl _) f
      · exact q _ .none H' (any0 (.inl rfl)) .non f
    have on1 : ∀ a, H a ≠ none → H1 a ≠ none := fun a ha => by
      by_cases e1 : a = d
      · obtain ⟨ns, m, k, h1, _⟩ := f1.dk
        rw [e1, h1]
        exact fun z => by cases z
      · by_cases e2 : a = L
        · obtain ⟨ns, m, k, _, h2, _⟩ := f1.dk
          rw [e2, h2]
          exact fun z => by cases z
        · cases e : H a with
          | none => exact absurd e ha
          | some o =>
            rw [f1.st a o e1 e2 e]
            exact fun z => by cases z
    -- the parts
    refine ⟨fun σ' H' => ∃ p xs Ds, σ' = [some (.ref d), some (.int n), some (.int way), some (.ref p), none] ∧ KA.Fr d L H H' ∧ H p = none ∧ H' p = some (.lst xs) ∧ DxAll (On H) H' xs Ds ∧ (OkL Ds ∧ PyData.depthAll Ds ≤ 2 * n ∧ Ds.length ≤ 3), ?_, fun σ' H' hM => ?_⟩
    · refine ⟨_, rfl, _, _, rfl, rfl, _, rfl, ite2 (fun hn => ?_) (fun _ => ?_)⟩
      · refine ⟨_, rfl, d, L, _, rfl, f1.dk, by decide, by decide, fun r H2 r0 r1 f2 => ⟨r, rfl, by omega, by omega, fun D nD => ?_⟩⟩
        have f12 := f1.trans f2
        obtain ⟨nHD, ndD, nLD⟩ := f12.fresh nD
        cases n with
        | zero => exact absurd (of_decide_eq_true hn) (by show ¬ ((0 : Int) < ((0 : Nat) : Int)); decide)
        | succ m =>
          have e : (((m + 1 : Nat) : Int) - 1) = (m : Int) := by omega
          refine lc_range (lo := 0) (n := r.toNat) (fun i H' => ∃ xs Ds, H' D = some (.lst xs) ∧ DxAll (fun a => On H a ∨ a = D) H' xs Ds ∧ PsOk (m + 1) i Ds ∧ KA.Fr d L H H') ⟨[], [], upd_same, .nil, ⟨by unfold OkL; trivial, (fun e => by cases e), Nat.zero_le _, rfl⟩, f12.mut nHD ndD nLD⟩ (fun i H' hi h => ?_) (fun H' h => ?_)
          · obtain ⟨xs, Ds, hxs, hDs, ps, f3⟩ := h
            have hl : xs.length = i := by rw [DxAll.length hDs, ps.2.2.2]
            refine ⟨rfl, ?_⟩
            refine ⟨_, rfl, _, rfl, _, _, rfl, rfl, ?_⟩
            refine ⟨d, L, congrArg (fun z => [V.ref d, V.int z]) e, f3.dk, fun v D2 H4 av dv f4 => ?_⟩
            have hD4 := f4.st D _ ndD nLD hxs
            have kp4 : Kp (On H) H' H4 := ⟨fun a o na _ ea => f4.st a o (fun z => na (by rw [z]; obtain ⟨ns, mm, k, h1, _⟩ := hD; show H d ≠ none; rw [h1]; exact fun z => by cases z)) (fun z => na (by rw [z]; obtain ⟨ns, mm, k, _, h2, _⟩ := hD; show H L ≠ none; rw [h2]; exact fun z => by cases z)) ea, fr_tp f3.dk f4⟩
            have on' : ∀ a, On H a → On H' a := fun a ha => by
              show H' a ≠ none
              by_cases e1 : a = d
              · obtain ⟨ns, mm, k, h1, _⟩ := f3.dk
                rw [e1, h1]
                exact fun z => by cases z
              · by_cases e2 : a = L
                · obtain ⟨ns, mm, k, _, h2, _⟩ := f3.dk
                  rw [e2, h2]
                  exact fun z => by cases z
                · cases e : H a with
                  | none => exact absurd e ha
                  | some o =>
                    rw [f3.st a o e1 e2 e]
                    exact fun z => by cases z
            have kp5 : Kp (fun a => On H a ∨ a = D) H4 (upd H4 D (.lst (xs ++ [v]))) := ⟨fun a o na _ ea => by rw [upd_ne (fun z => na (.inr z))]; exact ea, fun a ws ea => by rw [upd_ne (ne_of ea hD4 (by intro z; cases z))]; exact ea⟩
            have dv2 : Dx (fun a => On H a ∨ a = D) H4 v D2 := Dx.less (fun a ha => by
              rcases ha with h | h
              · exact on' a h
              · show H' a ≠ none
                rw [h, hxs]
                exact fun z => by cases z) _ _ dv
            exact ⟨xs, hD4, small1000 (by omega), xs ++ [v], Ds ++ [D2], upd_same, (Dx.kpAll ((kp4.less fun a ha => .inl ha).trans kp5) _ _ hDs).app (.cons (Dx.kp kp5 _ _ dv2) .nil), ps.step av, (f3.trans f4).mut nHD ndD nLD⟩
          · obtain ⟨xs, Ds, hxs, hDs, ps, f3⟩ := h
            exact ⟨D, xs, Ds, rfl, f3, nHD, hxs, Dx.lessAll (fun a ha => .inl ha) _ _ hDs, ps.1, ps.2.2.1, by have := ps.2.2.2; omega⟩
      · refine ⟨Nat.zero_le _, fun p np => ?_⟩
        obtain ⟨nHp, nd, nL⟩ := f1.fresh np
        exact ⟨p, [], [], rfl, f1.mut nHp nd nL, nHp, upd_same, .nil, by unfold OkL; trivial, Nat.zero_le _, Nat.zero_le _⟩
    · obtain ⟨p, xs, Ds, rfl, f3, nHp, hp, hDs, g1, g3, g4⟩ := hM
      have on : ¬ On H p := fun z => z nHp
      have hl : xs.length = Ds.length := DxAll.length hDs
      refine ⟨_, rfl, rfl, _, rfl, ite2 (fun _ => ?_) (fun _ => ?_)⟩
      · refine ⟨_, rfl, q _ (.list Ds) _ ⟨by unfold Ok; exact ⟨g4, g1⟩, ?_⟩ (.lst on hp hDs) f3⟩
        show PyData.depthAll Ds + 1 ≤ 2 * n + 2
        omega
      · refine ⟨_, rfl, rfl, _, rfl, ite2 (fun _ => ?_) (fun _ => ?_)⟩
        · intro D nD
          obtain ⟨nHD, ndD, nLD⟩ := f3.fresh nD
          have hp2 : (upd H' D (.dK [])) p = some (.lst xs) := by
            rw [upd_ne (ne_of_none hp nD)]
            exact hp
          refine ⟨_, rfl, _, rfl, _, xs.length, rfl, .inl ⟨_, SqL.of hp2, rfl⟩, upd_same, [(Sum.inr "key", .ref p), (Sum.inl 1, .int xs.length)], rfl, (by show 2 ≤ 15; decide), ?_⟩
          have s2 : Same H' (upd (upd H' D (.dK [])) D (.dK (mergeK [] [(Sum.inr "key", .ref p), (Sum.inl 1, .int xs.length)]))) := fun a o ea => by
            rw [upd_ne (ne_of_none ea nD), upd_ne (ne_of_none ea nD)]
            exact ea
          have em : mergeK [] [((Sum.inr "key" : Key), V.ref p), (Sum.inl 1, .int xs.length)] = [((Sum.inr "key" : Key), V.ref p), (Sum.inl 1, .int xs.length)] := rfl
          refine q _ (.dict [(.str "key", .list Ds), (.int 1, .int xs.length)]) _ ⟨?_, ?_⟩ (.dk (fun z => z nHD) (by rw [em]; exact upd_same) (.cons (k := Sum.inr "key") (.lst on (s2 _ _ hp) (Dx.kpAll (Kp.same s2) _ _ hDs)) (.cons (k := Sum.inl 1) (.int _) .nil))) ((f3.mut nHD ndD nLD).mut nHD ndD nLD)
          · unfold Ok OkK OkK OkK
            refine ⟨by show 2 ≤ 15; decide, by unfold Ok; exact ⟨g4, g1⟩, by unfold Ok; rw [Int.natAbs_natCast, hl]; exact Nat.lt_of_le_of_lt g4 (by decide +kernel), trivial⟩
          · show max (max 0 (PyData.depthAll Ds + 1)) (max (max 0 0) 0) + 1 ≤ 2 * n + 2
            omega
        · refine ⟨_, rfl, p, xs, rfl, .inl ⟨SqL.of hp, fun l nl => ?_⟩⟩
          obtain ⟨nHD, ndD, nLD⟩ := f3.fresh nl
          refine q _ (.tuple Ds) _ ⟨by unfold Ok; exact ⟨g4, g1⟩, ?_⟩ (.tup upd_same (Dx.kpAll (Kp.same (same_new nl)) _ _ hDs)) (f3.mut nHD ndD nLD)
          show PyData.depthAll Ds + 1 ≤ 2 * n + 2
          omega
theorem ok_anyD {fd fdD fdP : FuncData} (T : Tb mg) (D : Df K mg "_law_any" s__law_any P__law_any fd) (D__law_draw : Df K mg "_law_draw" s__law_draw P__law_draw fdD) (D__law_pick : Df K mg "_law_pick" s__law_pick P__law_pick fdP) :
    ∀ n : Nat, FnOk P w K mg base CX0 (n + 3) (He.fAd K ("_law_any", none)) fd P__law_any (spAnyD n)
  | 0 => ok_anyD1 T D D__law_draw D__law_pick ok_no
  | n + 1 => ok_anyD1 T D D__law_draw D__law_pick (ok_anyD T D D__law_draw D__law_pick n)
end
end TA


set_option Elab.async false
set_option linter.all false
set_option maxRecDepth 100000
set_option maxHeartbeats 4000000
/-! The law. -/
namespace TL
open PySem PySem.Spec PyProof.Rows L2 KT KX KV KA KE0 TA QY QZ QB QE QH QT SM TM TK TX
abbrev N_law : List Str := ["_law_script", "_law_deck_here", "_law_near", "_law_far", "_law_some", "_law_others", "_law_it", "_law_made", "_law_at", "_law_error", "_law_way", "_law_caught_here", "_law_place"]
abbrev P_law : List Str := ["_law_script"]
theorem sc_law : FnScope N_law P_law (defScope s_law) := ⟨rfl, rfl, rfl, by decide +kernel, rfl, by decide +kernel, by decide +kernel⟩
section
variable {P : Program} {w : World} {K : PySem.W.Frag} {mg : Str → Option Value} {base : Heap} {fi : Str → FuncData}
def spLaw (K : PySem.W.Frag) : Sp := fun vs H Q _ => ∃ (a : Addr) (ns : List Int), vs = [.ref a] ∧ SqL K H a (ns.map V.int) ∧ ∀ H', Q (.bl true) H'
theorem kp_fr {d L : Addr} {H0 H H' : Hp} (k0 : DK d L H0) (k : DK d L H) (f : KA.Fr d L H H') : Kp (On H0) H H' := by
  obtain ⟨ns, m, j, h1, h2, _⟩ := k0
  refine ⟨fun a o na _ ea => f.st a o (fun z => na ?_) (fun z => na ?_) ea, fr_tp k f⟩
  · rw [z]
    show H0 d ≠ none
    rw [h1]
    exact fun z => by cases z
  · rw [z]
    show H0 L ≠ none
    rw [h2]
    exact fun z => by cases z
def spAnyB : Sp := fun vs H Q E => spAnyD 3 vs H Q E ∨ spAnyD 2 vs H Q E
theorem ok_anyB {fd fdD fdP : FuncData} (T : KA.Tb mg) (D : Df K mg "_law_any" s__law_any P__law_any fd) (D__law_draw : Df K mg "_law_draw" s__law_draw P__law_draw fdD) (D__law_pick : Df K mg "_law_pick" s__law_pick P__law_pick fdP) :
    FnOk P w K mg base CX0 6 (He.fAd K ("_law_any", none)) fd P__law_any spAnyB :=
  have a3 := ok_anyD T D D__law_draw D__law_pick 3 (P := P) (w := w) (base := base)
  have a2 := (ok_anyD T D D__law_draw D__law_pick 2 (P := P) (w := w) (base := base)).mono (show 5 ≤ 6 by decide)
  ⟨fun vs H Q E h => h.elim (a3.len vs H Q E) (a2.len vs H Q E), fun A outer s H args us vs Q E hr e0 hb r h => h.elim (a3.run A outer s H args us vs Q E hr e0 hb r) (a2.run A outer s H args us vs Q E hr e0 hb r)⟩
theorem ok_law {fd f1 f2 f3 f4 f5 f6 f7 f8 f9 f10 f11 f12 f13 : FuncData} (hm : HasMods base) (T : TbL mg) (TA_ : KA.Tb mg) (Er : Ers P w K mg base fi) (D : Df K mg "law" s_law P_law fd)
    (D__law_deck : Df K mg "_law_deck" s__law_deck P__law_deck f1) (D__law_draw : Df K mg "_law_draw" s__law_draw P__law_draw f2) (D__law_pick : Df K mg "_law_pick" s__law_pick P__law_pick f3) (D__law_any : Df K mg "_law_any" s__law_any P__law_any f4)
    (D__law_is_same : Df K mg "_law_is_same" s__law_is_same P__law_is_same f5) (D__law_by_position : Df K mg "_law_by_position" s__law_by_position P__law_by_position f6) (D__law_by_name : Df K mg "_law_by_name" s__law_by_name P__law_by_name f7)
    (D__law_kinds : Df K mg "_law_kinds" s__law_kinds P__law_kinds f8) (D__law_is_own : Df K mg "_law_is_own" s__law_is_own P__law_is_own f9) (D__law_raise : Df K mg "_law_raise" s__law_raise P__law_raise f10)
    (D__law_caught : Df K mg "_law_caught" s__law_caught P__law_caught f11) (D__law_caught_as_base : Df K mg "_law_caught_as_base" s__law_caught_as_base P__law_caught_as_base f12) (D__law_carried : Df K mg "_law_carried" s__law_carried P__law_carried f13) :
    FnG P w K mg base 61 (He.fAd K ("law", none)) fd P_law (spLaw K) := by
  have G__law_deck : FnOk P w K mg base CX0 1 (He.fAd K ("_law_deck", none)) f1 P__law_deck (spDeck K) := ok_deck D__law_deck TA_
  have G__law_any : FnOk P w K mg base CX0 6 (He.fAd K ("_law_any", none)) f4 P__law_any spAnyB := ok_anyB TA_ D__law_any D__law_draw D__law_pick
  have G__law_is_same : FnG P w K mg base 54 (He.fAd K ("_law_is_same", none)) f5 P__law_is_same (spS 9) := ok_same hm T.toTbS D__law_is_same 9
  have G__law_by_position : FnOk P w K mg base CX0 3 (He.fAd K ("_law_by_position", none)) f6 P__law_by_position (spMk K) := ok_pos Er D__law_by_position
  have G__law_by_name : FnOk P w K mg base CX0 3 (He.fAd K ("_law_by_name", none)) f7 P__law_by_name (spMk K) := ok_nam Er D__law_by_name
  have G__law_is_own : FnOk P w K mg base CX0 5 (He.fAd K ("_law_is_own", none)) f9 P__law_is_own (spOw K) := ok_own T Er D__law_kinds D__law_is_own
  have G__law_caught : FnOk P w K mg base CX0 6 (He.fAd K ("_law_caught", none)) f11 P__law_caught spCg := ok_caught Er D__law_raise D__law_caught
  have G__law_caught_as_base : FnOk P w K mg base CX0 6 (He.fAd K ("_law_caught_as_base", none)) f12 P__law_caught_as_base spCb := ok_base T Er D__law_raise D__law_kinds D__law_caught_as_base
  have G__law_carried : FnOk P w K mg base CX0 3 (He.fAd K ("_law_carried", none)) f13 P__law_carried (spCa K) := ok_carried Er D__law_carried
  refine okG (k := 60) (fun_of D.F) sc_law (fun vs H Q E h => ?_) (fun cdv A outer s H vs Q E hA hr h => ?_)
  · obtain ⟨a, ns, rfl, _⟩ := h
    rfl
  · obtain ⟨a, ns, rfl, hS, q⟩ := h
    refine ⟨_, (pss_cons (ps_set (i := 1) sc_law.nd rfl (.inl rfl) (pe_call G__law_deck (hr.mono (by first | decide | omega)) (by rfl) D__law_deck.g D__law_deck.F.kp D__law_deck.b .nil pass0 (pa_cons (pv 0) (pa_cons pe_int pa_nil))))
      (pss_cons (ps_asg (pe_tup (pa_cons (pe_call G__law_any (hr.mono (by first | decide | omega)) (by rfl) D__law_any.g D__law_any.F.kp D__law_any.b .nil pass0 (pa_cons (pv 1) (pa_cons pe_int pa_nil))) (pa_cons (pe_call G__law_any (hr.mono (by first | decide | omega)) (by rfl) D__law_any.g D__law_any.F.kp D__law_any.b .nil pass0 (pa_cons (pv 1) (pa_cons pe_int pa_nil))) pa_nil))) (pg_tup rfl (pgs_cons (pg_name (i := 2) sc_law.nd rfl (.inr rfl)) (pgs_cons (pg_name (i := 3) sc_law.nd rfl (.inr rfl)) pgs_nil))))
      (pss_cons (ps_par (i := 4) (j := 5) (by rfl) sc_law.nd rfl rfl (by decide) rfl rfl (pa_cons (pe_call G__law_by_position (hr.mono (by first | decide | omega)) (by rfl) D__law_by_position.g D__law_by_position.F.kp D__law_by_position.b .nil pass0 (pa_cons (pv 2) pa_nil)) (pa_cons (pe_call G__law_by_name (hr.mono (by first | decide | omega)) (by rfl) D__law_by_name.g D__law_by_name.F.kp D__law_by_name.b .nil pass0 (pa_cons (pv 3) pa_nil)) pa_nil)) (by rfl))
      (pss_cons (ps_if (pt_cmpR (op_neE hr) (pe_lc (own := [("_law_it", 6)]) (g := gName 6) (by rfl) sc_law.nd (pi_list (pe_call G__law_carried (hr.mono (by first | decide | omega)) (by rfl) D__law_carried.g D__law_carried.F.kp D__law_carried.b .nil pass0 (pa_cons (pv 4) pa_nil))) (blkOk_by (own := [("_law_it", 6)]) (N := N_law) (sc := defScope s_law) (by decide +kernel)) (fun _ _ _ _ _ => (pg_name (i := 6) sc_law.nd rfl (.inl rfl))) (fun _ _ _ _ _ => (pts_one (pt_not (pt_val (pe_callG G__law_is_same hA (hr.mono (by first | decide | omega)) (by rfl) D__law_is_same.g D__law_is_same.F.kp D__law_is_same.b (pa_cons (pv 6) (pa_cons (pv 2) pa_nil))))))) (fun _ _ _ _ _ => (pv 6))) (pe_lst pa_nil) (nomark _)) (pss_one (ps_ret pe_bl)) pss_nil)
      (pss_cons (ps_if (pt_cmpR (op_neE hr) (pe_lc (own := [("_law_it", 6)]) (g := gName 6) (by rfl) sc_law.nd (pi_list (pe_call G__law_carried (hr.mono (by first | decide | omega)) (by rfl) D__law_carried.g D__law_carried.F.kp D__law_carried.b .nil pass0 (pa_cons (pv 5) pa_nil))) (blkOk_by (own := [("_law_it", 6)]) (N := N_law) (sc := defScope s_law) (by decide +kernel)) (fun _ _ _ _ _ => (pg_name (i := 6) sc_law.nd rfl (.inl rfl))) (fun _ _ _ _ _ => (pts_one (pt_not (pt_val (pe_callG G__law_is_same hA (hr.mono (by first | decide | omega)) (by rfl) D__law_is_same.g D__law_is_same.F.kp D__law_is_same.b (pa_cons (pv 6) (pa_cons (pv 3) pa_nil))))))) (fun _ _ _ _ _ => (pv 6))) (pe_lst pa_nil) (nomark _)) (pss_one (ps_ret pe_bl)) pss_nil)
      (pss_cons (ps_for PassesOwn.never rfl (pi_tup (pe_tup (pa_cons (pv 4) (pa_cons (pv 5) pa_nil)))) (pg_name (i := 7) sc_law.nd rfl (.inl rfl)) (pss_one (ps_for PassesOwn.never rfl (pi_enum (by rfl) T.enumerate (pa_cons (pv 7) pa_nil)) (pg_tup rfl (pgs_cons (pg_name (i := 8) sc_law.nd rfl (.inl rfl)) (pgs_cons (pg_name (i := 9) sc_law.nd rfl (.inl rfl)) pgs_nil))) (pss_one (ps_if (pt_not (pt_val (pe_call G__law_is_own (hr.mono (by first | decide | omega)) (by rfl) D__law_is_own.g D__law_is_own.F.kp D__law_is_own.b .nil pass0 (pa_cons (pv 8) (pa_cons (pv 9) pa_nil))))) (pss_one (ps_ret pe_bl)) pss_nil)))))
      (pss_cons (ps_for PassesOwn.never rfl (pi_range1 rfl T.range (pa_cons pe_int pa_nil)) (pg_name (i := 10) sc_law.nd rfl (.inr rfl)) (pss_cons (ps_set (i := 11) sc_law.nd rfl (.inl rfl) (pe_call G__law_caught (hr.mono (by first | decide | omega)) (by rfl) D__law_caught.g D__law_caught.F.kp D__law_caught.b .nil pass0 (pa_cons (pv 10) (pa_cons (pv 2) pa_nil))))
          (pss_cons (ps_if (PW.pt (pw_or (pt_cmpR op_ne (pe_ix ix_tup (pv 11) pe_int (fun _ _ => rfl)) (pv 10) (nomark _)) (pw_or1 (pt_not (pt_val (pe_callG G__law_is_same hA (hr.mono (by first | decide | omega)) (by rfl) D__law_is_same.g D__law_is_same.F.kp D__law_is_same.b (pa_cons (pe_ix ix_tup (pv 11) pe_int (fun _ _ => rfl)) (pa_cons (pv 2) pa_nil)))))))) (pss_one (ps_ret pe_bl)) pss_nil)
          (pss_one (ps_if (pt_cmpR (op_neD hr.units) (pe_call G__law_caught_as_base (hr.mono (by first | decide | omega)) (by rfl) D__law_caught_as_base.g D__law_caught_as_base.F.kp D__law_caught_as_base.b .nil pass0 (pa_cons (pv 10) (pa_cons (pv 3) pa_nil))) (pe_lc (own := [("_law_place", 12)]) (g := gName 12) (tt := tYes) (by rfl) sc_law.nd (pi_range1 rfl T.range (pa_cons pe_int pa_nil)) (blkOk_by (own := [("_law_place", 12)]) (N := N_law) (sc := defScope s_law) (by decide +kernel)) (fun _ _ _ _ _ => (pg_name (i := 12) sc_law.nd rfl (.inl rfl))) (fun _ _ _ _ _ => pts_nil) (fun _ _ _ _ _ => (pe_cmpR op_eq (pv 12) (pv 10) (nomark _)))) (nomark _)) (pss_one (ps_ret pe_bl)) pss_nil)))))
      (pss_one (ps_ret pe_bl))))))))), ?_⟩
    refine ⟨_, rfl, a, ns, 13745000, rfl, hS, by decide, by decide, fun d L H1 st nd nL dk1 => ?_⟩
    refine ⟨_, rfl, .inl ⟨d, L, rfl, dk1, fun v1 D1 H2 a1 x1 f1 => ⟨_, rfl, .inr ⟨d, L, rfl, f1.dk, fun v2 D2 H3 a2 x2 f2 => ?_⟩⟩⟩⟩
    refine ⟨by show 2 ≤ sizeLine; decide, fun p np => ⟨p, _, rfl, SqT.of upd_same, rfl, _, _, rfl, _, _, rfl, rfl, ?_⟩⟩
    have x1b := Dx.kp ((kp_fr dk1 f1.dk f2).trans (Kp.same (same_new (o := .tup [v1, v2]) np))) _ _ x1
    have x2b := Dx.kp (Kp.same (same_new (o := .tup [v1, v2]) np)) _ _ x2
    obtain ⟨ok1, dd1⟩ := a1
    obtain ⟨ok2, dd2⟩ := a2
    have lt1 : D1.depth < 9 := by omega
    have lt2 : D2.depth < 9 := by omega
    generalize upd H3 p (.tup [v1, v2]) = H4 at x1b x2b
    generalize On H1 = M1 at x1b
    generalize On H2 = M2 at x2b
    clear x1 x2 f1 f2 dk1 st nd nL hS np dd1 dd2
    refine ⟨_, rfl, v1, rfl, fun L1 as1 H5 s5 n5 e5 m5 => ⟨_, rfl, v2, rfl, fun L2 as2 H6 s6 n6 e6 m6 => ⟨_, _, rfl, ?_⟩⟩⟩
    have e5 := s6 _ _ e5
    have m5 := Made.same s6 m5
    have x1c := Dx.kp (Kp.same fun b o z => s6 _ _ (s5 _ _ z)) _ _ x1b
    have x2c := Dx.kp (Kp.same fun b o z => s6 _ _ (s5 _ _ z)) _ _ x2b
    clear s5 s6 n5 n6 x1b x2b
    refine ⟨_, rfl, L1, as1, v1, rfl, e5, m5, fun C1 H1a s1a n1a e1a => ⟨C1, rfl, ⟨_, SqL.of e1a⟩, fun D1 nD1 => ?_⟩⟩
    refine lc_it walk_list (fun _ H' => Same H1a H' ∧ H' D1 = some (.lst [])) ⟨same_new nD1, upd_same⟩ (fun i H' _ h => SqL.of (h.1 _ _ e1a)) (fun i x H' H'' hi h y => ?_) (fun H' h => ?_)
    · obtain ⟨rfl, hx⟩ := y
      obtain ⟨s1b, e1b⟩ := h
      have ex : x = v1 := List.eq_of_mem_replicate (List.mem_of_getElem? hx)
      subst ex
      refine ⟨rfl, _, rfl, _, rfl, _, x, _, rfl, Dx.kp (Kp.same fun b o z => s1b _ _ (s1a _ _ z)) _ _ x1c, ok1, lt1, fun H4 s4 => ⟨_, rfl, ?_⟩⟩
      show Same H1a H4 ∧ H4 D1 = some (.lst [])
      exact ⟨fun b o z => s4 _ _ (s1b _ _ z), s4 _ _ e1b⟩
    obtain ⟨s1b, e1b⟩ := h
    refine ⟨Nat.zero_le _, fun p1 np1 => ⟨D1, p1, [], rfl, rfl, .inl ⟨SqL.of (same_new np1 _ _ e1b), SqL.of upd_same⟩, _, rfl, (if_neg Bool.false_ne_true).mpr ?_⟩⟩
    have t1 : Same H6 (upd H' p1 (.lst [])) := fun b o z => same_new np1 _ _ (s1b _ _ (s1a _ _ z))
    generalize upd H' p1 (.lst []) = H7 at t1
    clear s1a n1a e1a nD1 s1b e1b np1
    have e5 := t1 _ _ e5
    have e6 := t1 _ _ e6
    have m5 := Made.same t1 m5
    have m6 := Made.same t1 m6
    have x1d := Dx.kp (Kp.same t1) _ _ x1c
    have x2d := Dx.kp (Kp.same t1) _ _ x2c
    clear t1 x1c x2c
    refine ⟨_, rfl, L2, as2, v2, rfl, e6, m6, fun C2 H2a s2a n2a e2a => ⟨C2, rfl, ⟨_, SqL.of e2a⟩, fun D2 nD2 => ?_⟩⟩
    refine lc_it walk_list (fun _ H' => Same H2a H' ∧ H' D2 = some (.lst [])) ⟨same_new nD2, upd_same⟩ (fun i H' _ h => SqL.of (h.1 _ _ e2a)) (fun i x H' H'' hi h y => ?_) (fun H' h => ?_)
    · obtain ⟨rfl, hx⟩ := y
      obtain ⟨s2b, e2b⟩ := h
      have ex : x = v2 := List.eq_of_mem_replicate (List.mem_of_getElem? hx)
      subst ex
      refine ⟨rfl, _, rfl, _, rfl, _, x, _, rfl, Dx.kp (Kp.same fun b o z => s2b _ _ (s2a _ _ z)) _ _ x2d, ok2, lt2, fun H4 s4 => ⟨_, rfl, ?_⟩⟩
      show Same H2a H4 ∧ H4 D2 = some (.lst [])
      exact ⟨fun b o z => s4 _ _ (s2b _ _ z), s4 _ _ e2b⟩
    obtain ⟨s2b, e2b⟩ := h
    refine ⟨Nat.zero_le _, fun p2 np2 => ⟨D2, p2, [], rfl, rfl, .inl ⟨SqL.of (same_new np2 _ _ e2b), SqL.of upd_same⟩, _, rfl, (if_neg Bool.false_ne_true).mpr ?_⟩⟩
    have t2 : Same H7 (upd H' p2 (.lst [])) := fun b o z => same_new np2 _ _ (s2b _ _ (s2a _ _ z))
    generalize upd H' p2 (.lst []) = H8 at t2
    clear s2a n2a e2a nD2 s2b e2b np2
    have e5 := t2 _ _ e5
    have e6 := t2 _ _ e6
    have m5 := Made.same t2 m5
    have m6 := Made.same t2 m6
    have x1e := Dx.kp (Kp.same t2) _ _ x1d
    have x2e := Dx.kp (Kp.same t2) _ _ x2d
    clear t2 x1d x2d
    refine ⟨_, rfl, _, rfl, by show 2 ≤ sizeLine; decide, fun p6 n6 => ?_⟩
    have s9 : Same H8 (upd H8 p6 (.tup [.ref L1, .ref L2])) := same_new n6
    have e9 : (upd H8 p6 (.tup [.ref L1, .ref L2])) p6 = some (.tup [.ref L1, .ref L2]) := upd_same
    have e5 := s9 _ _ e5
    have e6 := s9 _ _ e6
    have m5 := Made.same s9 m5
    have m6 := Made.same s9 m6
    have x1f := Dx.kp (Kp.same s9) _ _ x1e
    have x2f := Dx.kp (Kp.same s9) _ _ x2e
    generalize upd H8 p6 (.tup [.ref L1, .ref L2]) = H9 at e9 e5 e6 m5 m6 x1f x2f
    clear s9 n6 x1e x2e
    refine ⟨p6, rfl, ⟨_, SqT.of e9⟩, for_it (n := [V.ref L1, V.ref L2].length) (walk_tup (K := K) (a := p6) (xs := [V.ref L1, V.ref L2])) (fun i σ H' => Same H9 H' ∧ ∃ c7 c8 c9, σ = [some (.ref a), some (.ref d), some v1, some v2, some (.ref L1), some (.ref L2), none, c7, c8, c9, none, none, none]) ⟨fun _ _ z => z, none, none, none, rfl⟩ (fun i σ H' _ h => SqT.of (h.1 _ _ e9)) (fun i x σ H' H2 hi h y => ?_) (fun σ H' h => ?_)⟩
    · obtain ⟨s10, c7, c8, c9, rfl⟩ := h
      obtain ⟨rfl, hx⟩ := y
      obtain ⟨M, as, v, ex, eM, mM⟩ : ∃ M as v, x = .ref M ∧ H2 M = some (.lst (as.map V.ref)) ∧ Made K H2 v as clsL := by
        match i, hi, hx with
        | 0, _, hx => exact ⟨L1, as1, v1, (Option.some.inj hx).symm, s10 _ _ e5, Made.same s10 m5⟩
        | 1, _, hx => exact ⟨L2, as2, v2, (Option.some.inj hx).symm, s10 _ _ e6, Made.same s10 m6⟩
      subst ex
      have ln : (as.map V.ref).length = 18 := by
        rw [List.length_map]
        exact mM.len
      refine ⟨_, rfl, M, _, rfl, SqL.of eM, for_it (n := (as.map V.ref).length) (walk_enum (K := K) (a := M) (xs := as.map V.ref)) (fun j σ H' => Same H2 H' ∧ ∃ c8 c9, σ = [some (.ref a), some (.ref d), some v1, some v2, some (.ref L1), some (.ref L2), none, some (.ref M), c8, c9, none, none, none]) ⟨fun _ _ z => z, c8, c9, rfl⟩ (fun j σ H' _ h => SqL.of (h.1 _ _ eM)) (fun j x σ H' H3 hj h y => ?_) (fun σ H' h => ?_)⟩
      · obtain ⟨s11, b8, b9, rfl⟩ := h
        obtain ⟨t, y1, y2, rfl, nt, rfl, g1, g2⟩ := y
        cases g1
        have sT : Same H' (upd H' t (.tup [.int j, y2])) := same_new nt
        have hj18 : j < 18 := by omega
        obtain ⟨x, f, hc⟩ : ∃ x f, clsL[j]? = some (x, f) := ⟨_, _, List.getElem?_eq_getElem (show j < clsL.length from hj18)⟩
        obtain ⟨b, hb, xo⟩ := mM.at hc
        have g3 : (as.map V.ref)[j]? = some y2 := g2
        rw [List.getElem?_map, hb] at g3
        cases g3
        refine ⟨t, _, rfl, SqT.of upd_same, rfl, _, _, rfl, _, _, rfl, rfl, ?_⟩
        refine ⟨_, rfl, _, rfl, j, b, x, f, v, rfl, hc, xo.same fun b o z => sT _ _ (s11 _ _ z), fun H4 s4 => ⟨_, rfl, (if_neg Bool.false_ne_true).mpr ?_⟩⟩
        exact ⟨fun b o z => s4 _ _ (sT _ _ (s11 _ _ z)), _, _, rfl⟩
      · obtain ⟨s11, b8, b9, rfl⟩ := h
        exact ⟨fun b o z => s11 _ _ (s10 _ _ z), _, _, _, rfl⟩
    obtain ⟨s10, c7, c8, c9, rfl⟩ := h
    have x1g := Dx.kp (Kp.same s10) _ _ x1f
    have x2g := Dx.kp (Kp.same s10) _ _ x2f
    clear s10 e9 e5 e6 m5 m6 x1f x2f
    refine ⟨18, rfl, by decide, by decide, for_range (lo := 0) (n := 18) (fun i σ H2 => Same H' H2 ∧ ∃ c10 c11, σ = [some (.ref a), some (.ref d), some v1, some v2, some (.ref L1), some (.ref L2), none, c7, c8, c9, c10, c11, none]) ⟨fun _ _ z => z, none, none, rfl⟩ (fun i σ H2 hi h => ?_) (fun σ H2 h => ?_)⟩
    · obtain ⟨s11, c10, c11, rfl⟩ := h
      have x1h := Dx.kp (Kp.same s11) _ _ x1g
      have x2h := Dx.kp (Kp.same s11) _ _ x2g
      have e0 : (0 : Int) + (i : Int) = (i : Int) := Int.zero_add _
      rw [e0]
      obtain ⟨x, f, hc⟩ : ∃ x f, clsL[i]? = some (x, f) := ⟨_, _, List.getElem?_eq_getElem (show i < clsL.length from hi)⟩
      refine ⟨_, rfl, _, rfl, i, v1, x, f, rfl, hc, fun t H3 s3 e3 => ?_⟩
      refine ⟨_, rfl, t, _, (0 : Int), .int i, rfl, rfl, SqT.of e3, atI_nat (j := 0) rfl, _, rfl, rfl, false, (by rw [decide_eq_true rfl]; rfl), (if_neg Bool.false_ne_true).mpr ?_⟩
      refine ⟨_, rfl, t, _, (1 : Int), v1, rfl, rfl, SqT.of e3, atI_nat (j := 1) rfl, _, rfl, _, v1, _, rfl, Dx.kp (Kp.same s3) _ _ x1h, ok1, lt1, fun H4 s4 => ⟨_, rfl, (if_neg Bool.false_ne_true).mpr ?_⟩⟩
      refine ⟨_, rfl, _, rfl, i, v2, x, f, rfl, hc, fun Lb H5 s5 eb => ⟨18, rfl, by decide, by decide, fun C nC => ?_⟩⟩
      refine lc_range (lo := 0) (n := 18) (fun j H' => Same H5 H' ∧ H' C = some (.lst (((List.range j).map fun j => decide (V.int ((0 : Int) + (j : Nat)) = V.int (i : Int))).map V.bl))) ⟨same_new nC, upd_same⟩ (fun j H' hj h => ?_) (fun H' h => ?_)
      · obtain ⟨s6, e6⟩ := h
        refine ⟨rfl, _, rfl, _, rfl, rfl, _, e6, ?_, fun b o e => ?_, ?_⟩
        · rw [List.length_map, List.length_map, List.length_range, sizeLine_eq]
          omega
        · rw [upd_ne (ne_of_none e nC)]
          exact s6 _ _ e
        · rw [upd_same, List.range_succ, List.map_append, List.map_append]
          rfl
      · obtain ⟨s6, e6⟩ := h
        have hx : (clsL.getD i ("", "")).1 = x := by
          rw [List.getD_eq_getElem?_getD, hc]
          rfl
        obtain ⟨g1, g2, g3⟩ := own_eq ⟨i, hi⟩
        rw [show (clsL.getD (⟨i, hi⟩ : Fin 18).val ("", "")).1 = x from hx] at g1 g2
        have eL2 := s6 _ _ eb
        rw [show (clsL.map fun q => V.bl (decide (x = q.1))) = (clsL.map fun q => decide (x = q.1)).map V.bl from (List.map_map ..).symm] at eL2
        refine ⟨_, _, .lst (SqL.of eL2) (dp_bools _), .lst (SqL.of e6) (dp_bools _), g2, g3, false, (by rw [g1]; rfl), (if_neg Bool.false_ne_true).mpr ?_⟩
        exact ⟨fun b o z => s6 _ _ (s5 _ _ (s4 _ _ (s3 _ _ (s11 _ _ z)))), _, _, rfl⟩
    · exact q H2
end
end TL


set_option Elab.async false
set_option linter.all false
set_option maxRecDepth 100000
set_option maxHeartbeats 0
/-! The end of the row. -/
namespace TZ
open PySem PySem.Spec PyProof.Rows L2 KT KX KV KA KE0 TA QY QZ QB QE QH QT SM TM TK TX TL
def hdFa : List He.Fa := [.glo "_law_deck", .glo "_law_draw", .glo "_law_pick", .glo "_law_any", .glo "_law_is_same", .glo "_law_by_position", .glo "_law_by_name", .glo "_law_kinds", .glo "_law_is_own", .glo "_law_raise", .glo "_law_caught", .glo "_law_caught_as_base", .glo "_law_carried", .glo "law", .free "ArithmeticError", .free "AttributeError", .free "Exception", .free "LookupError", .free "RuntimeError", .free "TypeError", .free "ValueError", .free "dict", .free "enumerate", .free "int", .free "isinstance", .free "len", .free "list", .free "max", .free "range", .free "repr", .free "tuple", .glo "QuickError", .glo "BadTree", .glo "BadProgram", .glo "BadWord", .glo "BadText", .glo "BadPath", .glo "BadRaw", .glo "BadName", .glo "BadInputs", .glo "BadPoly", .glo "BadTable", .glo "BadNumber", .glo "BadStep", .glo "BadUnit", .glo "BadStanding", .glo "BadSharing", .glo "BadBytes", .glo "BadUnits", .glo "BadMachine"]
def dd__law_deck : He.DefD := ⟨("_law_deck", none), "_law_deck", "_law_deck", defArgs s__law_deck, defBody s__law_deck, defScope s__law_deck, [], []⟩
def dd__law_draw : He.DefD := ⟨("_law_draw", none), "_law_draw", "_law_draw", defArgs s__law_draw, defBody s__law_draw, defScope s__law_draw, [], []⟩
def dd__law_pick : He.DefD := ⟨("_law_pick", none), "_law_pick", "_law_pick", defArgs s__law_pick, defBody s__law_pick, defScope s__law_pick, [], []⟩
def dd__law_any : He.DefD := ⟨("_law_any", none), "_law_any", "_law_any", defArgs s__law_any, defBody s__law_any, defScope s__law_any, [], []⟩
def dd__law_is_same : He.DefD := ⟨("_law_is_same", none), "_law_is_same", "_law_is_same", defArgs s__law_is_same, defBody s__law_is_same, defScope s__law_is_same, [], []⟩
def dd__law_by_position : He.DefD := ⟨("_law_by_position", none), "_law_by_position", "_law_by_position", defArgs s__law_by_position, defBody s__law_by_position, defScope s__law_by_position, [], []⟩
def dd__law_by_name : He.DefD := ⟨("_law_by_name", none), "_law_by_name", "_law_by_name", defArgs s__law_by_name, defBody s__law_by_name, defScope s__law_by_name, [], []⟩
def dd__law_kinds : He.DefD := ⟨("_law_kinds", none), "_law_kinds", "_law_kinds", defArgs s__law_kinds, defBody s__law_kinds, defScope s__law_kinds, [], []⟩
def dd__law_is_own : He.DefD := ⟨("_law_is_own", none), "_law_is_own", "_law_is_own", defArgs s__law_is_own, defBody s__law_is_own, defScope s__law_is_own, [], []⟩
def dd__law_raise : He.DefD := ⟨("_law_raise", none), "_law_raise", "_law_raise", defArgs s__law_raise, defBody s__law_raise, defScope s__law_raise, [], []⟩
def dd__law_caught : He.DefD := ⟨("_law_caught", none), "_law_caught", "_law_caught", defArgs s__law_caught, defBody s__law_caught, defScope s__law_caught, [], []⟩
def dd__law_caught_as_base : He.DefD := ⟨("_law_caught_as_base", none), "_law_caught_as_base", "_law_caught_as_base", defArgs s__law_caught_as_base, defBody s__law_caught_as_base, defScope s__law_caught_as_base, [], []⟩
def dd__law_carried : He.DefD := ⟨("_law_carried", none), "_law_carried", "_law_carried", defArgs s__law_carried, defBody s__law_carried, defScope s__law_carried, [], []⟩
def dd_law : He.DefD := ⟨("law", none), "law", "law", defArgs s_law, defBody s_law, defScope s_law, [], []⟩
def dd_BadTree___init__ : He.DefD := ⟨("BadTree", some "__init__"), "__init__", "BadTree.__init__", defArgs m_BadTree___init__, defBody m_BadTree___init__, defScope m_BadTree___init__, [], []⟩
def dd_BadProgram___init__ : He.DefD := ⟨("BadProgram", some "__init__"), "__init__", "BadProgram.__init__", defArgs m_BadProgram___init__, defBody m_BadProgram___init__, defScope m_BadProgram___init__, [], []⟩
def dd_BadWord___init__ : He.DefD := ⟨("BadWord", some "__init__"), "__init__", "BadWord.__init__", defArgs m_BadWord___init__, defBody m_BadWord___init__, defScope m_BadWord___init__, [], []⟩
def dd_BadText___init__ : He.DefD := ⟨("BadText", some "__init__"), "__init__", "BadText.__init__", defArgs m_BadText___init__, defBody m_BadText___init__, defScope m_BadText___init__, [], []⟩
def dd_BadPath___init__ : He.DefD := ⟨("BadPath", some "__init__"), "__init__", "BadPath.__init__", defArgs m_BadPath___init__, defBody m_BadPath___init__, defScope m_BadPath___init__, [], []⟩
def dd_BadRaw___init__ : He.DefD := ⟨("BadRaw", some "__init__"), "__init__", "BadRaw.__init__", defArgs m_BadRaw___init__, defBody m_BadRaw___init__, defScope m_BadRaw___init__, [], []⟩
def dd_BadName___init__ : He.DefD := ⟨("BadName", some "__init__"), "__init__", "BadName.__init__", defArgs m_BadName___init__, defBody m_BadName___init__, defScope m_BadName___init__, [], []⟩
def dd_BadInputs___init__ : He.DefD := ⟨("BadInputs", some "__init__"), "__init__", "BadInputs.__init__", defArgs m_BadInputs___init__, defBody m_BadInputs___init__, defScope m_BadInputs___init__, [], []⟩
def dd_BadPoly___init__ : He.DefD := ⟨("BadPoly", some "__init__"), "__init__", "BadPoly.__init__", defArgs m_BadPoly___init__, defBody m_BadPoly___init__, defScope m_BadPoly___init__, [], []⟩
def dd_BadTable___init__ : He.DefD := ⟨("BadTable", some "__init__"), "__init__", "BadTable.__init__", defArgs m_BadTable___init__, defBody m_BadTable___init__, defScope m_BadTable___init__, [], []⟩
def dd_BadNumber___init__ : He.DefD := ⟨("BadNumber", some "__init__"), "__init__", "BadNumber.__init__", defArgs m_BadNumber___init__, defBody m_BadNumber___init__, defScope m_BadNumber___init__, [], []⟩
def dd_BadStep___init__ : He.DefD := ⟨("BadStep", some "__init__"), "__init__", "BadStep.__init__", defArgs m_BadStep___init__, defBody m_BadStep___init__, defScope m_BadStep___init__, [], []⟩
def dd_BadUnit___init__ : He.DefD := ⟨("BadUnit", some "__init__"), "__init__", "BadUnit.__init__", defArgs m_BadUnit___init__, defBody m_BadUnit___init__, defScope m_BadUnit___init__, [], []⟩
def dd_BadStanding___init__ : He.DefD := ⟨("BadStanding", some "__init__"), "__init__", "BadStanding.__init__", defArgs m_BadStanding___init__, defBody m_BadStanding___init__, defScope m_BadStanding___init__, [], []⟩
def dd_BadSharing___init__ : He.DefD := ⟨("BadSharing", some "__init__"), "__init__", "BadSharing.__init__", defArgs m_BadSharing___init__, defBody m_BadSharing___init__, defScope m_BadSharing___init__, [], []⟩
def dd_BadBytes___init__ : He.DefD := ⟨("BadBytes", some "__init__"), "__init__", "BadBytes.__init__", defArgs m_BadBytes___init__, defBody m_BadBytes___init__, defScope m_BadBytes___init__, [], []⟩
def dd_BadUnits___init__ : He.DefD := ⟨("BadUnits", some "__init__"), "__init__", "BadUnits.__init__", defArgs m_BadUnits___init__, defBody m_BadUnits___init__, defScope m_BadUnits___init__, [], []⟩
def dd_BadMachine___init__ : He.DefD := ⟨("BadMachine", some "__init__"), "__init__", "BadMachine.__init__", defArgs m_BadMachine___init__, defBody m_BadMachine___init__, defScope m_BadMachine___init__, [], []⟩
def hdFn : List He.DefD := [dd__law_deck, dd__law_draw, dd__law_pick, dd__law_any, dd__law_is_same, dd__law_by_position, dd__law_by_name, dd__law_kinds, dd__law_is_own, dd__law_raise, dd__law_caught, dd__law_caught_as_base, dd__law_carried, dd_law, dd_BadTree___init__, dd_BadProgram___init__, dd_BadWord___init__, dd_BadText___init__, dd_BadPath___init__, dd_BadRaw___init__, dd_BadName___init__, dd_BadInputs___init__, dd_BadPoly___init__, dd_BadTable___init__, dd_BadNumber___init__, dd_BadStep___init__, dd_BadUnit___init__, dd_BadStanding___init__, dd_BadSharing___init__, dd_BadBytes___init__, dd_BadUnits___init__, dd_BadMachine___init__]
def hdTf : List He.Defn := []
def hdEx (K : PySem.W.Frag) : Bool := QB.allB K 
def hdLoose : List Str := [("QuickError" : Str), ("BadTree" : Str), ("BadProgram" : Str), ("BadWord" : Str), ("BadText" : Str), ("BadPath" : Str), ("BadRaw" : Str), ("BadName" : Str), ("BadInputs" : Str), ("BadPoly" : Str), ("BadTable" : Str), ("BadNumber" : Str), ("BadStep" : Str), ("BadUnit" : Str), ("BadStanding" : Str), ("BadSharing" : Str), ("BadBytes" : Str), ("BadUnits" : Str), ("BadMachine" : Str), ("_law_deck" : Str), ("_law_draw" : Str), ("_law_pick" : Str), ("_law_any" : Str), ("_law_is_same" : Str), ("_law_by_position" : Str), ("_law_by_name" : Str), ("_law_kinds" : Str), ("_law_is_own" : Str), ("_law_raise" : Str), ("_law_caught" : Str), ("_law_caught_as_base" : Str), ("_law_carried" : Str)]
abbrev hdR : PySem.W.OpenRow := PySem.W.OpenLaw.row PySem.Challenge.rw_quicktongue_k00_errors_by_position_and_b
abbrev hdK : PySem.W.Hook := He.hookX 5 hdFa hdFn [] hdTf hdEx
def hdOb (s : PySem.W.SharedT) : He.AlX := He.obsX 5 hdFa hdFn [] hdTf hdEx (HandSHeadRun.getT s)
theorem hdOb_eq (s : PySem.W.SharedT) : hdOb s = hdK.obs s.abs := He.obsX_eq (HandSHeadRun.getT_eq s)
theorem hdRun (w : World) : HandSHeadRun.RunEq hdR (PySem.W.view hdR.prog [34]) hdK hdOb 8000 hdLoose w := by
  intro os
  kernel_rfl
theorem df__law_deck {K : PySem.W.Frag} {h : Heap} {mg : Str → Option Value} (X : K.In h) (G : h.Ns mainGlobals mg) (c : He.SaysD hdFa hdFn K) : ∃ fd, Df K mg "_law_deck" s__law_deck P__law_deck fd := by
  obtain ⟨fd, F⟩ := c.def_ 0 (d := dd__law_deck) rfl
  exact ⟨fd, F, He.glo_ok X G (c.fact 0 (f := .glo "_law_deck") rfl), F.bindsN fun _ _ _ _ _ _ us hl => match us, hl with | [_, _], _ => rfl⟩
theorem df__law_draw {K : PySem.W.Frag} {h : Heap} {mg : Str → Option Value} (X : K.In h) (G : h.Ns mainGlobals mg) (c : He.SaysD hdFa hdFn K) : ∃ fd, Df K mg "_law_draw" s__law_draw P__law_draw fd := by
  obtain ⟨fd, F⟩ := c.def_ 1 (d := dd__law_draw) rfl
  exact ⟨fd, F, He.glo_ok X G (c.fact 1 (f := .glo "_law_draw") rfl), F.bindsN fun _ _ _ _ _ _ us hl => match us, hl with | [_, _], _ => rfl⟩
theorem df__law_pick {K : PySem.W.Frag} {h : Heap} {mg : Str → Option Value} (X : K.In h) (G : h.Ns mainGlobals mg) (c : He.SaysD hdFa hdFn K) : ∃ fd, Df K mg "_law_pick" s__law_pick P__law_pick fd := by
  obtain ⟨fd, F⟩ := c.def_ 2 (d := dd__law_pick) rfl
  exact ⟨fd, F, He.glo_ok X G (c.fact 2 (f := .glo "_law_pick") rfl), F.bindsN fun _ _ _ _ _ _ us hl => match us, hl with | [_, _], _ => rfl⟩
theorem df__law_any {K : PySem.W.Frag} {h : Heap} {mg : Str → Option Value} (X : K.In h) (G : h.Ns mainGlobals mg) (c : He.SaysD hdFa hdFn K) : ∃ fd, Df K mg "_law_any" s__law_any P__law_any fd := by
  obtain ⟨fd, F⟩ := c.def_ 3 (d := dd__law_any) rfl
  exact ⟨fd, F, He.glo_ok X G (c.fact 3 (f := .glo "_law_any") rfl), F.bindsN fun _ _ _ _ _ _ us hl => match us, hl with | [_, _], _ => rfl⟩
theorem df__law_is_same {K : PySem.W.Frag} {h : Heap} {mg : Str → Option Value} (X : K.In h) (G : h.Ns mainGlobals mg) (c : He.SaysD hdFa hdFn K) : ∃ fd, Df K mg "_law_is_same" s__law_is_same P__law_is_same fd := by
  obtain ⟨fd, F⟩ := c.def_ 4 (d := dd__law_is_same) rfl
  exact ⟨fd, F, He.glo_ok X G (c.fact 4 (f := .glo "_law_is_same") rfl), F.bindsN fun _ _ _ _ _ _ us hl => match us, hl with | [_, _], _ => rfl⟩
theorem df__law_by_position {K : PySem.W.Frag} {h : Heap} {mg : Str → Option Value} (X : K.In h) (G : h.Ns mainGlobals mg) (c : He.SaysD hdFa hdFn K) : ∃ fd, Df K mg "_law_by_position" s__law_by_position P__law_by_position fd := by
  obtain ⟨fd, F⟩ := c.def_ 5 (d := dd__law_by_position) rfl
  exact ⟨fd, F, He.glo_ok X G (c.fact 5 (f := .glo "_law_by_position") rfl), F.bindsN fun _ _ _ _ _ _ us hl => match us, hl with | [_], _ => rfl⟩
theorem df__law_by_name {K : PySem.W.Frag} {h : Heap} {mg : Str → Option Value} (X : K.In h) (G : h.Ns mainGlobals mg) (c : He.SaysD hdFa hdFn K) : ∃ fd, Df K mg "_law_by_name" s__law_by_name P__law_by_name fd := by
  obtain ⟨fd, F⟩ := c.def_ 6 (d := dd__law_by_name) rfl
  exact ⟨fd, F, He.glo_ok X G (c.fact 6 (f := .glo "_law_by_name") rfl), F.bindsN fun _ _ _ _ _ _ us hl => match us, hl with | [_], _ => rfl⟩
theorem df__law_kinds {K : PySem.W.Frag} {h : Heap} {mg : Str → Option Value} (X : K.In h) (G : h.Ns mainGlobals mg) (c : He.SaysD hdFa hdFn K) : ∃ fd, Df K mg "_law_kinds" s__law_kinds P__law_kinds fd := by
  obtain ⟨fd, F⟩ := c.def_ 7 (d := dd__law_kinds) rfl
  exact ⟨fd, F, He.glo_ok X G (c.fact 7 (f := .glo "_law_kinds") rfl), F.bindsN fun _ _ _ _ _ _ us hl => match us, hl with | [_], _ => rfl⟩
theorem df__law_is_own {K : PySem.W.Frag} {h : Heap} {mg : Str → Option Value} (X : K.In h) (G : h.Ns mainGlobals mg) (c : He.SaysD hdFa hdFn K) : ∃ fd, Df K mg "_law_is_own" s__law_is_own P__law_is_own fd := by
  obtain ⟨fd, F⟩ := c.def_ 8 (d := dd__law_is_own) rfl
  exact ⟨fd, F, He.glo_ok X G (c.fact 8 (f := .glo "_law_is_own") rfl), F.bindsN fun _ _ _ _ _ _ us hl => match us, hl with | [_, _], _ => rfl⟩
theorem df__law_raise {K : PySem.W.Frag} {h : Heap} {mg : Str → Option Value} (X : K.In h) (G : h.Ns mainGlobals mg) (c : He.SaysD hdFa hdFn K) : ∃ fd, Df K mg "_law_raise" s__law_raise P__law_raise fd := by
  obtain ⟨fd, F⟩ := c.def_ 9 (d := dd__law_raise) rfl
  exact ⟨fd, F, He.glo_ok X G (c.fact 9 (f := .glo "_law_raise") rfl), F.bindsN fun _ _ _ _ _ _ us hl => match us, hl with | [_, _], _ => rfl⟩
theorem df__law_caught {K : PySem.W.Frag} {h : Heap} {mg : Str → Option Value} (X : K.In h) (G : h.Ns mainGlobals mg) (c : He.SaysD hdFa hdFn K) : ∃ fd, Df K mg "_law_caught" s__law_caught P__law_caught fd := by
  obtain ⟨fd, F⟩ := c.def_ 10 (d := dd__law_caught) rfl
  exact ⟨fd, F, He.glo_ok X G (c.fact 10 (f := .glo "_law_caught") rfl), F.bindsN fun _ _ _ _ _ _ us hl => match us, hl with | [_, _], _ => rfl⟩
theorem df__law_caught_as_base {K : PySem.W.Frag} {h : Heap} {mg : Str → Option Value} (X : K.In h) (G : h.Ns mainGlobals mg) (c : He.SaysD hdFa hdFn K) : ∃ fd, Df K mg "_law_caught_as_base" s__law_caught_as_base P__law_caught_as_base fd := by
  obtain ⟨fd, F⟩ := c.def_ 11 (d := dd__law_caught_as_base) rfl
  exact ⟨fd, F, He.glo_ok X G (c.fact 11 (f := .glo "_law_caught_as_base") rfl), F.bindsN fun _ _ _ _ _ _ us hl => match us, hl with | [_, _], _ => rfl⟩
theorem df__law_carried {K : PySem.W.Frag} {h : Heap} {mg : Str → Option Value} (X : K.In h) (G : h.Ns mainGlobals mg) (c : He.SaysD hdFa hdFn K) : ∃ fd, Df K mg "_law_carried" s__law_carried P__law_carried fd := by
  obtain ⟨fd, F⟩ := c.def_ 12 (d := dd__law_carried) rfl
  exact ⟨fd, F, He.glo_ok X G (c.fact 12 (f := .glo "_law_carried") rfl), F.bindsN fun _ _ _ _ _ _ us hl => match us, hl with | [_], _ => rfl⟩
theorem df_law {K : PySem.W.Frag} {h : Heap} {mg : Str → Option Value} (X : K.In h) (G : h.Ns mainGlobals mg) (c : He.SaysD hdFa hdFn K) : ∃ fd, Df K mg "law" s_law P_law fd := by
  obtain ⟨fd, F⟩ := c.def_ 13 (d := dd_law) rfl
  exact ⟨fd, F, He.glo_ok X G (c.fact 13 (f := .glo "law") rfl), F.bindsN fun _ _ _ _ _ _ us hl => match us, hl with | [_], _ => rfl⟩
theorem dm_BadTree___init__ {K : PySem.W.Frag} (c : He.SaysD hdFa hdFn K) : ∃ fd, FunD K "__init__" "BadTree.__init__" (defArgs m_BadTree___init__) (defBody m_BadTree___init__) (defScope m_BadTree___init__) [] [] (He.fAd K ("BadTree", some "__init__")) fd ∧ Binds K fd (["self", "thing"] : List Str) [] ∧ KB1 fd (["self", "thing"] : List Str) (["thing"] : List Str) := by
  obtain ⟨fd, F⟩ := c.def_ 14 (d := dd_BadTree___init__) rfl
  exact ⟨fd, F, F.bindsN fun _ _ _ _ _ _ us hl => match us, hl with | [_, _], _ => rfl, kb1_of F fun _ _ _ _ _ _ ws _ hl => match ws, hl with | [_], _ => rfl⟩
theorem dm_BadProgram___init__ {K : PySem.W.Frag} (c : He.SaysD hdFa hdFn K) : ∃ fd, FunD K "__init__" "BadProgram.__init__" (defArgs m_BadProgram___init__) (defBody m_BadProgram___init__) (defScope m_BadProgram___init__) [] [] (He.fAd K ("BadProgram", some "__init__")) fd ∧ Binds K fd (["self", "thing"] : List Str) [] ∧ KB1 fd (["self", "thing"] : List Str) (["thing"] : List Str) := by
  obtain ⟨fd, F⟩ := c.def_ 15 (d := dd_BadProgram___init__) rfl
  exact ⟨fd, F, F.bindsN fun _ _ _ _ _ _ us hl => match us, hl with | [_, _], _ => rfl, kb1_of F fun _ _ _ _ _ _ ws _ hl => match ws, hl with | [_], _ => rfl⟩
theorem dm_BadWord___init__ {K : PySem.W.Frag} (c : He.SaysD hdFa hdFn K) : ∃ fd, FunD K "__init__" "BadWord.__init__" (defArgs m_BadWord___init__) (defBody m_BadWord___init__) (defScope m_BadWord___init__) [] [] (He.fAd K ("BadWord", some "__init__")) fd ∧ Binds K fd (["self", "thing"] : List Str) [] ∧ KB1 fd (["self", "thing"] : List Str) (["thing"] : List Str) := by
  obtain ⟨fd, F⟩ := c.def_ 16 (d := dd_BadWord___init__) rfl
  exact ⟨fd, F, F.bindsN fun _ _ _ _ _ _ us hl => match us, hl with | [_, _], _ => rfl, kb1_of F fun _ _ _ _ _ _ ws _ hl => match ws, hl with | [_], _ => rfl⟩
theorem dm_BadText___init__ {K : PySem.W.Frag} (c : He.SaysD hdFa hdFn K) : ∃ fd, FunD K "__init__" "BadText.__init__" (defArgs m_BadText___init__) (defBody m_BadText___init__) (defScope m_BadText___init__) [] [] (He.fAd K ("BadText", some "__init__")) fd ∧ Binds K fd (["self", "at"] : List Str) [] ∧ KB1 fd (["self", "at"] : List Str) (["at"] : List Str) := by
  obtain ⟨fd, F⟩ := c.def_ 17 (d := dd_BadText___init__) rfl
  exact ⟨fd, F, F.bindsN fun _ _ _ _ _ _ us hl => match us, hl with | [_, _], _ => rfl, kb1_of F fun _ _ _ _ _ _ ws _ hl => match ws, hl with | [_], _ => rfl⟩
theorem dm_BadPath___init__ {K : PySem.W.Frag} (c : He.SaysD hdFa hdFn K) : ∃ fd, FunD K "__init__" "BadPath.__init__" (defArgs m_BadPath___init__) (defBody m_BadPath___init__) (defScope m_BadPath___init__) [] [] (He.fAd K ("BadPath", some "__init__")) fd ∧ Binds K fd (["self", "thing"] : List Str) [] ∧ KB1 fd (["self", "thing"] : List Str) (["thing"] : List Str) := by
  obtain ⟨fd, F⟩ := c.def_ 18 (d := dd_BadPath___init__) rfl
  exact ⟨fd, F, F.bindsN fun _ _ _ _ _ _ us hl => match us, hl with | [_, _], _ => rfl, kb1_of F fun _ _ _ _ _ _ ws _ hl => match ws, hl with | [_], _ => rfl⟩
theorem dm_BadRaw___init__ {K : PySem.W.Frag} (c : He.SaysD hdFa hdFn K) : ∃ fd, FunD K "__init__" "BadRaw.__init__" (defArgs m_BadRaw___init__) (defBody m_BadRaw___init__) (defScope m_BadRaw___init__) [] [] (He.fAd K ("BadRaw", some "__init__")) fd ∧ Binds K fd (["self", "thing"] : List Str) [] ∧ KB1 fd (["self", "thing"] : List Str) (["thing"] : List Str) := by
  obtain ⟨fd, F⟩ := c.def_ 19 (d := dd_BadRaw___init__) rfl
  exact ⟨fd, F, F.bindsN fun _ _ _ _ _ _ us hl => match us, hl with | [_, _], _ => rfl, kb1_of F fun _ _ _ _ _ _ ws _ hl => match ws, hl with | [_], _ => rfl⟩
theorem dm_BadName___init__ {K : PySem.W.Frag} (c : He.SaysD hdFa hdFn K) : ∃ fd, FunD K "__init__" "BadName.__init__" (defArgs m_BadName___init__) (defBody m_BadName___init__) (defScope m_BadName___init__) [] [] (He.fAd K ("BadName", some "__init__")) fd ∧ Binds K fd (["self", "thing"] : List Str) [] ∧ KB1 fd (["self", "thing"] : List Str) (["thing"] : List Str) := by
  obtain ⟨fd, F⟩ := c.def_ 20 (d := dd_BadName___init__) rfl
  exact ⟨fd, F, F.bindsN fun _ _ _ _ _ _ us hl => match us, hl with | [_, _], _ => rfl, kb1_of F fun _ _ _ _ _ _ ws _ hl => match ws, hl with | [_], _ => rfl⟩
theorem dm_BadInputs___init__ {K : PySem.W.Frag} (c : He.SaysD hdFa hdFn K) : ∃ fd, FunD K "__init__" "BadInputs.__init__" (defArgs m_BadInputs___init__) (defBody m_BadInputs___init__) (defScope m_BadInputs___init__) [] [] (He.fAd K ("BadInputs", some "__init__")) fd ∧ Binds K fd (["self", "thing"] : List Str) [] ∧ KB1 fd (["self", "thing"] : List Str) (["thing"] : List Str) := by
  obtain ⟨fd, F⟩ := c.def_ 21 (d := dd_BadInputs___init__) rfl
  exact ⟨fd, F, F.bindsN fun _ _ _ _ _ _ us hl => match us, hl with | [_, _], _ => rfl, kb1_of F fun _ _ _ _ _ _ ws _ hl => match ws, hl with | [_], _ => rfl⟩
theorem dm_BadPoly___init__ {K : PySem.W.Frag} (c : He.SaysD hdFa hdFn K) : ∃ fd, FunD K "__init__" "BadPoly.__init__" (defArgs m_BadPoly___init__) (defBody m_BadPoly___init__) (defScope m_BadPoly___init__) [] [] (He.fAd K ("BadPoly", some "__init__")) fd ∧ Binds K fd (["self", "thing"] : List Str) [] ∧ KB1 fd (["self", "thing"] : List Str) (["thing"] : List Str) := by
  obtain ⟨fd, F⟩ := c.def_ 22 (d := dd_BadPoly___init__) rfl
  exact ⟨fd, F, F.bindsN fun _ _ _ _ _ _ us hl => match us, hl with | [_, _], _ => rfl, kb1_of F fun _ _ _ _ _ _ ws _ hl => match ws, hl with | [_], _ => rfl⟩
theorem dm_BadTable___init__ {K : PySem.W.Frag} (c : He.SaysD hdFa hdFn K) : ∃ fd, FunD K "__init__" "BadTable.__init__" (defArgs m_BadTable___init__) (defBody m_BadTable___init__) (defScope m_BadTable___init__) [] [] (He.fAd K ("BadTable", some "__init__")) fd ∧ Binds K fd (["self", "thing"] : List Str) [] ∧ KB1 fd (["self", "thing"] : List Str) (["thing"] : List Str) := by
  obtain ⟨fd, F⟩ := c.def_ 23 (d := dd_BadTable___init__) rfl
  exact ⟨fd, F, F.bindsN fun _ _ _ _ _ _ us hl => match us, hl with | [_, _], _ => rfl, kb1_of F fun _ _ _ _ _ _ ws _ hl => match ws, hl with | [_], _ => rfl⟩
theorem dm_BadNumber___init__ {K : PySem.W.Frag} (c : He.SaysD hdFa hdFn K) : ∃ fd, FunD K "__init__" "BadNumber.__init__" (defArgs m_BadNumber___init__) (defBody m_BadNumber___init__) (defScope m_BadNumber___init__) [] [] (He.fAd K ("BadNumber", some "__init__")) fd ∧ Binds K fd (["self", "thing"] : List Str) [] ∧ KB1 fd (["self", "thing"] : List Str) (["thing"] : List Str) := by
  obtain ⟨fd, F⟩ := c.def_ 24 (d := dd_BadNumber___init__) rfl
  exact ⟨fd, F, F.bindsN fun _ _ _ _ _ _ us hl => match us, hl with | [_, _], _ => rfl, kb1_of F fun _ _ _ _ _ _ ws _ hl => match ws, hl with | [_], _ => rfl⟩
theorem dm_BadStep___init__ {K : PySem.W.Frag} (c : He.SaysD hdFa hdFn K) : ∃ fd, FunD K "__init__" "BadStep.__init__" (defArgs m_BadStep___init__) (defBody m_BadStep___init__) (defScope m_BadStep___init__) [] [] (He.fAd K ("BadStep", some "__init__")) fd ∧ Binds K fd (["self", "thing"] : List Str) [] ∧ KB1 fd (["self", "thing"] : List Str) (["thing"] : List Str) := by
  obtain ⟨fd, F⟩ := c.def_ 25 (d := dd_BadStep___init__) rfl
  exact ⟨fd, F, F.bindsN fun _ _ _ _ _ _ us hl => match us, hl with | [_, _], _ => rfl, kb1_of F fun _ _ _ _ _ _ ws _ hl => match ws, hl with | [_], _ => rfl⟩
theorem dm_BadUnit___init__ {K : PySem.W.Frag} (c : He.SaysD hdFa hdFn K) : ∃ fd, FunD K "__init__" "BadUnit.__init__" (defArgs m_BadUnit___init__) (defBody m_BadUnit___init__) (defScope m_BadUnit___init__) [] [] (He.fAd K ("BadUnit", some "__init__")) fd ∧ Binds K fd (["self", "thing"] : List Str) [] ∧ KB1 fd (["self", "thing"] : List Str) (["thing"] : List Str) := by
  obtain ⟨fd, F⟩ := c.def_ 26 (d := dd_BadUnit___init__) rfl
  exact ⟨fd, F, F.bindsN fun _ _ _ _ _ _ us hl => match us, hl with | [_, _], _ => rfl, kb1_of F fun _ _ _ _ _ _ ws _ hl => match ws, hl with | [_], _ => rfl⟩
theorem dm_BadStanding___init__ {K : PySem.W.Frag} (c : He.SaysD hdFa hdFn K) : ∃ fd, FunD K "__init__" "BadStanding.__init__" (defArgs m_BadStanding___init__) (defBody m_BadStanding___init__) (defScope m_BadStanding___init__) [] [] (He.fAd K ("BadStanding", some "__init__")) fd ∧ Binds K fd (["self", "thing"] : List Str) [] ∧ KB1 fd (["self", "thing"] : List Str) (["thing"] : List Str) := by
  obtain ⟨fd, F⟩ := c.def_ 27 (d := dd_BadStanding___init__) rfl
  exact ⟨fd, F, F.bindsN fun _ _ _ _ _ _ us hl => match us, hl with | [_, _], _ => rfl, kb1_of F fun _ _ _ _ _ _ ws _ hl => match ws, hl with | [_], _ => rfl⟩
theorem dm_BadSharing___init__ {K : PySem.W.Frag} (c : He.SaysD hdFa hdFn K) : ∃ fd, FunD K "__init__" "BadSharing.__init__" (defArgs m_BadSharing___init__) (defBody m_BadSharing___init__) (defScope m_BadSharing___init__) [] [] (He.fAd K ("BadSharing", some "__init__")) fd ∧ Binds K fd (["self", "thing"] : List Str) [] ∧ KB1 fd (["self", "thing"] : List Str) (["thing"] : List Str) := by
  obtain ⟨fd, F⟩ := c.def_ 28 (d := dd_BadSharing___init__) rfl
  exact ⟨fd, F, F.bindsN fun _ _ _ _ _ _ us hl => match us, hl with | [_, _], _ => rfl, kb1_of F fun _ _ _ _ _ _ ws _ hl => match ws, hl with | [_], _ => rfl⟩
theorem dm_BadBytes___init__ {K : PySem.W.Frag} (c : He.SaysD hdFa hdFn K) : ∃ fd, FunD K "__init__" "BadBytes.__init__" (defArgs m_BadBytes___init__) (defBody m_BadBytes___init__) (defScope m_BadBytes___init__) [] [] (He.fAd K ("BadBytes", some "__init__")) fd ∧ Binds K fd (["self", "at"] : List Str) [] ∧ KB1 fd (["self", "at"] : List Str) (["at"] : List Str) := by
  obtain ⟨fd, F⟩ := c.def_ 29 (d := dd_BadBytes___init__) rfl
  exact ⟨fd, F, F.bindsN fun _ _ _ _ _ _ us hl => match us, hl with | [_, _], _ => rfl, kb1_of F fun _ _ _ _ _ _ ws _ hl => match ws, hl with | [_], _ => rfl⟩
theorem dm_BadUnits___init__ {K : PySem.W.Frag} (c : He.SaysD hdFa hdFn K) : ∃ fd, FunD K "__init__" "BadUnits.__init__" (defArgs m_BadUnits___init__) (defBody m_BadUnits___init__) (defScope m_BadUnits___init__) [] [] (He.fAd K ("BadUnits", some "__init__")) fd ∧ Binds K fd (["self", "thing"] : List Str) [] ∧ KB1 fd (["self", "thing"] : List Str) (["thing"] : List Str) := by
  obtain ⟨fd, F⟩ := c.def_ 30 (d := dd_BadUnits___init__) rfl
  exact ⟨fd, F, F.bindsN fun _ _ _ _ _ _ us hl => match us, hl with | [_, _], _ => rfl, kb1_of F fun _ _ _ _ _ _ ws _ hl => match ws, hl with | [_], _ => rfl⟩
theorem dm_BadMachine___init__ {K : PySem.W.Frag} (c : He.SaysD hdFa hdFn K) : ∃ fd, FunD K "__init__" "BadMachine.__init__" (defArgs m_BadMachine___init__) (defBody m_BadMachine___init__) (defScope m_BadMachine___init__) [] [] (He.fAd K ("BadMachine", some "__init__")) fd ∧ Binds K fd (["self", "thing"] : List Str) [] ∧ KB1 fd (["self", "thing"] : List Str) (["thing"] : List Str) := by
  obtain ⟨fd, F⟩ := c.def_ 31 (d := dd_BadMachine___init__) rfl
  exact ⟨fd, F, F.bindsN fun _ _ _ _ _ _ us hl => match us, hl with | [_, _], _ => rfl, kb1_of F fun _ _ _ _ _ _ ws _ hl => match ws, hl with | [_], _ => rfl⟩
theorem fa_ArithmeticError {K : PySem.W.Frag} {h : Heap} {mg : Str → Option Value} (X : K.In h) (G : h.Ns mainGlobals mg) (c : He.SaysD hdFa hdFn K) : mg "ArithmeticError" = none := He.free_ok X G (c.fact 14 (f := .free "ArithmeticError") rfl)
theorem fa_AttributeError {K : PySem.W.Frag} {h : Heap} {mg : Str → Option Value} (X : K.In h) (G : h.Ns mainGlobals mg) (c : He.SaysD hdFa hdFn K) : mg "AttributeError" = none := He.free_ok X G (c.fact 15 (f := .free "AttributeError") rfl)
theorem fa_Exception {K : PySem.W.Frag} {h : Heap} {mg : Str → Option Value} (X : K.In h) (G : h.Ns mainGlobals mg) (c : He.SaysD hdFa hdFn K) : mg "Exception" = none := He.free_ok X G (c.fact 16 (f := .free "Exception") rfl)
theorem fa_LookupError {K : PySem.W.Frag} {h : Heap} {mg : Str → Option Value} (X : K.In h) (G : h.Ns mainGlobals mg) (c : He.SaysD hdFa hdFn K) : mg "LookupError" = none := He.free_ok X G (c.fact 17 (f := .free "LookupError") rfl)
theorem fa_RuntimeError {K : PySem.W.Frag} {h : Heap} {mg : Str → Option Value} (X : K.In h) (G : h.Ns mainGlobals mg) (c : He.SaysD hdFa hdFn K) : mg "RuntimeError" = none := He.free_ok X G (c.fact 18 (f := .free "RuntimeError") rfl)
theorem fa_TypeError {K : PySem.W.Frag} {h : Heap} {mg : Str → Option Value} (X : K.In h) (G : h.Ns mainGlobals mg) (c : He.SaysD hdFa hdFn K) : mg "TypeError" = none := He.free_ok X G (c.fact 19 (f := .free "TypeError") rfl)
theorem fa_ValueError {K : PySem.W.Frag} {h : Heap} {mg : Str → Option Value} (X : K.In h) (G : h.Ns mainGlobals mg) (c : He.SaysD hdFa hdFn K) : mg "ValueError" = none := He.free_ok X G (c.fact 20 (f := .free "ValueError") rfl)
theorem fa_dict {K : PySem.W.Frag} {h : Heap} {mg : Str → Option Value} (X : K.In h) (G : h.Ns mainGlobals mg) (c : He.SaysD hdFa hdFn K) : mg "dict" = none := He.free_ok X G (c.fact 21 (f := .free "dict") rfl)
theorem fa_enumerate {K : PySem.W.Frag} {h : Heap} {mg : Str → Option Value} (X : K.In h) (G : h.Ns mainGlobals mg) (c : He.SaysD hdFa hdFn K) : mg "enumerate" = none := He.free_ok X G (c.fact 22 (f := .free "enumerate") rfl)
theorem fa_int {K : PySem.W.Frag} {h : Heap} {mg : Str → Option Value} (X : K.In h) (G : h.Ns mainGlobals mg) (c : He.SaysD hdFa hdFn K) : mg "int" = none := He.free_ok X G (c.fact 23 (f := .free "int") rfl)
theorem fa_isinstance {K : PySem.W.Frag} {h : Heap} {mg : Str → Option Value} (X : K.In h) (G : h.Ns mainGlobals mg) (c : He.SaysD hdFa hdFn K) : mg "isinstance" = none := He.free_ok X G (c.fact 24 (f := .free "isinstance") rfl)
theorem fa_len {K : PySem.W.Frag} {h : Heap} {mg : Str → Option Value} (X : K.In h) (G : h.Ns mainGlobals mg) (c : He.SaysD hdFa hdFn K) : mg "len" = none := He.free_ok X G (c.fact 25 (f := .free "len") rfl)
theorem fa_list {K : PySem.W.Frag} {h : Heap} {mg : Str → Option Value} (X : K.In h) (G : h.Ns mainGlobals mg) (c : He.SaysD hdFa hdFn K) : mg "list" = none := He.free_ok X G (c.fact 26 (f := .free "list") rfl)
theorem fa_max {K : PySem.W.Frag} {h : Heap} {mg : Str → Option Value} (X : K.In h) (G : h.Ns mainGlobals mg) (c : He.SaysD hdFa hdFn K) : mg "max" = none := He.free_ok X G (c.fact 27 (f := .free "max") rfl)
theorem fa_range {K : PySem.W.Frag} {h : Heap} {mg : Str → Option Value} (X : K.In h) (G : h.Ns mainGlobals mg) (c : He.SaysD hdFa hdFn K) : mg "range" = none := He.free_ok X G (c.fact 28 (f := .free "range") rfl)
theorem fa_repr {K : PySem.W.Frag} {h : Heap} {mg : Str → Option Value} (X : K.In h) (G : h.Ns mainGlobals mg) (c : He.SaysD hdFa hdFn K) : mg "repr" = none := He.free_ok X G (c.fact 29 (f := .free "repr") rfl)
theorem fa_tuple {K : PySem.W.Frag} {h : Heap} {mg : Str → Option Value} (X : K.In h) (G : h.Ns mainGlobals mg) (c : He.SaysD hdFa hdFn K) : mg "tuple" = none := He.free_ok X G (c.fact 30 (f := .free "tuple") rfl)
theorem fa_QuickError {K : PySem.W.Frag} {h : Heap} {mg : Str → Option Value} (X : K.In h) (G : h.Ns mainGlobals mg) (c : He.SaysD hdFa hdFn K) : mg "QuickError" = some (.ref (He.ga K "QuickError")) := He.glo_ok X G (c.fact 31 (f := .glo "QuickError") rfl)
theorem fa_BadTree {K : PySem.W.Frag} {h : Heap} {mg : Str → Option Value} (X : K.In h) (G : h.Ns mainGlobals mg) (c : He.SaysD hdFa hdFn K) : mg "BadTree" = some (.ref (He.ga K "BadTree")) := He.glo_ok X G (c.fact 32 (f := .glo "BadTree") rfl)
theorem fa_BadProgram {K : PySem.W.Frag} {h : Heap} {mg : Str → Option Value} (X : K.In h) (G : h.Ns mainGlobals mg) (c : He.SaysD hdFa hdFn K) : mg "BadProgram" = some (.ref (He.ga K "BadProgram")) := He.glo_ok X G (c.fact 33 (f := .glo "BadProgram") rfl)
theorem fa_BadWord {K : PySem.W.Frag} {h : Heap} {mg : Str → Option Value} (X : K.In h) (G : h.Ns mainGlobals mg) (c : He.SaysD hdFa hdFn K) : mg "BadWord" = some (.ref (He.ga K "BadWord")) := He.glo_ok X G (c.fact 34 (f := .glo "BadWord") rfl)
theorem fa_BadText {K : PySem.W.Frag} {h : Heap} {mg : Str → Option Value} (X : K.In h) (G : h.Ns mainGlobals mg) (c : He.SaysD hdFa hdFn K) : mg "BadText" = some (.ref (He.ga K "BadText")) := He.glo_ok X G (c.fact 35 (f := .glo "BadText") rfl)
theorem fa_BadPath {K : PySem.W.Frag} {h : Heap} {mg : Str → Option Value} (X : K.In h) (G : h.Ns mainGlobals mg) (c : He.SaysD hdFa hdFn K) : mg "BadPath" = some (.ref (He.ga K "BadPath")) := He.glo_ok X G (c.fact 36 (f := .glo "BadPath") rfl)
theorem fa_BadRaw {K : PySem.W.Frag} {h : Heap} {mg : Str → Option Value} (X : K.In h) (G : h.Ns mainGlobals mg) (c : He.SaysD hdFa hdFn K) : mg "BadRaw" = some (.ref (He.ga K "BadRaw")) := He.glo_ok X G (c.fact 37 (f := .glo "BadRaw") rfl)
theorem fa_BadName {K : PySem.W.Frag} {h : Heap} {mg : Str → Option Value} (X : K.In h) (G : h.Ns mainGlobals mg) (c : He.SaysD hdFa hdFn K) : mg "BadName" = some (.ref (He.ga K "BadName")) := He.glo_ok X G (c.fact 38 (f := .glo "BadName") rfl)
theorem fa_BadInputs {K : PySem.W.Frag} {h : Heap} {mg : Str → Option Value} (X : K.In h) (G : h.Ns mainGlobals mg) (c : He.SaysD hdFa hdFn K) : mg "BadInputs" = some (.ref (He.ga K "BadInputs")) := He.glo_ok X G (c.fact 39 (f := .glo "BadInputs") rfl)
theorem fa_BadPoly {K : PySem.W.Frag} {h : Heap} {mg : Str → Option Value} (X : K.In h) (G : h.Ns mainGlobals mg) (c : He.SaysD hdFa hdFn K) : mg "BadPoly" = some (.ref (He.ga K "BadPoly")) := He.glo_ok X G (c.fact 40 (f := .glo "BadPoly") rfl)
theorem fa_BadTable {K : PySem.W.Frag} {h : Heap} {mg : Str → Option Value} (X : K.In h) (G : h.Ns mainGlobals mg) (c : He.SaysD hdFa hdFn K) : mg "BadTable" = some (.ref (He.ga K "BadTable")) := He.glo_ok X G (c.fact 41 (f := .glo "BadTable") rfl)
theorem fa_BadNumber {K : PySem.W.Frag} {h : Heap} {mg : Str → Option Value} (X : K.In h) (G : h.Ns mainGlobals mg) (c : He.SaysD hdFa hdFn K) : mg "BadNumber" = some (.ref (He.ga K "BadNumber")) := He.glo_ok X G (c.fact 42 (f := .glo "BadNumber") rfl)
theorem fa_BadStep {K : PySem.W.Frag} {h : Heap} {mg : Str → Option Value} (X : K.In h) (G : h.Ns mainGlobals mg) (c : He.SaysD hdFa hdFn K) : mg "BadStep" = some (.ref (He.ga K "BadStep")) := He.glo_ok X G (c.fact 43 (f := .glo "BadStep") rfl)
theorem fa_BadUnit {K : PySem.W.Frag} {h : Heap} {mg : Str → Option Value} (X : K.In h) (G : h.Ns mainGlobals mg) (c : He.SaysD hdFa hdFn K) : mg "BadUnit" = some (.ref (He.ga K "BadUnit")) := He.glo_ok X G (c.fact 44 (f := .glo "BadUnit") rfl)
theorem fa_BadStanding {K : PySem.W.Frag} {h : Heap} {mg : Str → Option Value} (X : K.In h) (G : h.Ns mainGlobals mg) (c : He.SaysD hdFa hdFn K) : mg "BadStanding" = some (.ref (He.ga K "BadStanding")) := He.glo_ok X G (c.fact 45 (f := .glo "BadStanding") rfl)
theorem fa_BadSharing {K : PySem.W.Frag} {h : Heap} {mg : Str → Option Value} (X : K.In h) (G : h.Ns mainGlobals mg) (c : He.SaysD hdFa hdFn K) : mg "BadSharing" = some (.ref (He.ga K "BadSharing")) := He.glo_ok X G (c.fact 46 (f := .glo "BadSharing") rfl)
theorem fa_BadBytes {K : PySem.W.Frag} {h : Heap} {mg : Str → Option Value} (X : K.In h) (G : h.Ns mainGlobals mg) (c : He.SaysD hdFa hdFn K) : mg "BadBytes" = some (.ref (He.ga K "BadBytes")) := He.glo_ok X G (c.fact 47 (f := .glo "BadBytes") rfl)
theorem fa_BadUnits {K : PySem.W.Frag} {h : Heap} {mg : Str → Option Value} (X : K.In h) (G : h.Ns mainGlobals mg) (c : He.SaysD hdFa hdFn K) : mg "BadUnits" = some (.ref (He.ga K "BadUnits")) := He.glo_ok X G (c.fact 48 (f := .glo "BadUnits") rfl)
theorem fa_BadMachine {K : PySem.W.Frag} {h : Heap} {mg : Str → Option Value} (X : K.In h) (G : h.Ns mainGlobals mg) (c : He.SaysD hdFa hdFn K) : mg "BadMachine" = some (.ref (He.ga K "BadMachine")) := He.glo_ok X G (c.fact 49 (f := .glo "BadMachine") rfl)
theorem ec_BadTree {P : Program} {w : World} {K : PySem.W.Frag} {h base : Heap} {mg : Str → Option Value} (X : K.In h) (G : h.Ns mainGlobals mg) (c : He.SaysD hdFa hdFn K) (k : QB.allB K = true) : ∃ fd, Ec P w K mg base "BadTree" "thing" fd := by
  obtain ⟨fd, F, b, kb⟩ := dm_BadTree___init__ c
  exact ⟨fd, allB_ok k (by simp [clsL]), fa_BadTree X G c, oi_BadTree F, b, kb⟩
theorem ec_BadProgram {P : Program} {w : World} {K : PySem.W.Frag} {h base : Heap} {mg : Str → Option Value} (X : K.In h) (G : h.Ns mainGlobals mg) (c : He.SaysD hdFa hdFn K) (k : QB.allB K = true) : ∃ fd, Ec P w K mg base "BadProgram" "thing" fd := by
  obtain ⟨fd, F, b, kb⟩ := dm_BadProgram___init__ c
  exact ⟨fd, allB_ok k (by simp [clsL]), fa_BadProgram X G c, oi_BadProgram F, b, kb⟩
theorem ec_BadWord {P : Program} {w : World} {K : PySem.W.Frag} {h base : Heap} {mg : Str → Option Value} (X : K.In h) (G : h.Ns mainGlobals mg) (c : He.SaysD hdFa hdFn K) (k : QB.allB K = true) : ∃ fd, Ec P w K mg base "BadWord" "thing" fd := by
  obtain ⟨fd, F, b, kb⟩ := dm_BadWord___init__ c
  exact ⟨fd, allB_ok k (by simp [clsL]), fa_BadWord X G c, oi_BadWord F, b, kb⟩
theorem ec_BadText {P : Program} {w : World} {K : PySem.W.Frag} {h base : Heap} {mg : Str → Option Value} (X : K.In h) (G : h.Ns mainGlobals mg) (c : He.SaysD hdFa hdFn K) (k : QB.allB K = true) : ∃ fd, Ec P w K mg base "BadText" "at" fd := by
  obtain ⟨fd, F, b, kb⟩ := dm_BadText___init__ c
  exact ⟨fd, allB_ok k (by simp [clsL]), fa_BadText X G c, oi_BadText F, b, kb⟩
theorem ec_BadPath {P : Program} {w : World} {K : PySem.W.Frag} {h base : Heap} {mg : Str → Option Value} (X : K.In h) (G : h.Ns mainGlobals mg) (c : He.SaysD hdFa hdFn K) (k : QB.allB K = true) : ∃ fd, Ec P w K mg base "BadPath" "thing" fd := by
  obtain ⟨fd, F, b, kb⟩ := dm_BadPath___init__ c
  exact ⟨fd, allB_ok k (by simp [clsL]), fa_BadPath X G c, oi_BadPath F, b, kb⟩
theorem ec_BadRaw {P : Program} {w : World} {K : PySem.W.Frag} {h base : Heap} {mg : Str → Option Value} (X : K.In h) (G : h.Ns mainGlobals mg) (c : He.SaysD hdFa hdFn K) (k : QB.allB K = true) : ∃ fd, Ec P w K mg base "BadRaw" "thing" fd := by
  obtain ⟨fd, F, b, kb⟩ := dm_BadRaw___init__ c
  exact ⟨fd, allB_ok k (by simp [clsL]), fa_BadRaw X G c, oi_BadRaw F, b, kb⟩
theorem ec_BadName {P : Program} {w : World} {K : PySem.W.Frag} {h base : Heap} {mg : Str → Option Value} (X : K.In h) (G : h.Ns mainGlobals mg) (c : He.SaysD hdFa hdFn K) (k : QB.allB K = true) : ∃ fd, Ec P w K mg base "BadName" "thing" fd := by
  obtain ⟨fd, F, b, kb⟩ := dm_BadName___init__ c
  exact ⟨fd, allB_ok k (by simp [clsL]), fa_BadName X G c, oi_BadName F, b, kb⟩
theorem ec_BadInputs {P : Program} {w : World} {K : PySem.W.Frag} {h base : Heap} {mg : Str → Option Value} (X : K.In h) (G : h.Ns mainGlobals mg) (c : He.SaysD hdFa hdFn K) (k : QB.allB K = true) : ∃ fd, Ec P w K mg base "BadInputs" "thing" fd := by
  obtain ⟨fd, F, b, kb⟩ := dm_BadInputs___init__ c
  exact ⟨fd, allB_ok k (by simp [clsL]), fa_BadInputs X G c, oi_BadInputs F, b, kb⟩
theorem ec_BadPoly {P : Program} {w : World} {K : PySem.W.Frag} {h base : Heap} {mg : Str → Option Value} (X : K.In h) (G : h.Ns mainGlobals mg) (c : He.SaysD hdFa hdFn K) (k : QB.allB K = true) : ∃ fd, Ec P w K mg base "BadPoly" "thing" fd := by
  obtain ⟨fd, F, b, kb⟩ := dm_BadPoly___init__ c
  exact ⟨fd, allB_ok k (by simp [clsL]), fa_BadPoly X G c, oi_BadPoly F, b, kb⟩
theorem ec_BadTable {P : Program} {w : World} {K : PySem.W.Frag} {h base : Heap} {mg : Str → Option Value} (X : K.In h) (G : h.Ns mainGlobals mg) (c : He.SaysD hdFa hdFn K) (k : QB.allB K = true) : ∃ fd, Ec P w K mg base "BadTable" "thing" fd := by
  obtain ⟨fd, F, b, kb⟩ := dm_BadTable___init__ c
  exact ⟨fd, allB_ok k (by simp [clsL]), fa_BadTable X G c, oi_BadTable F, b, kb⟩
theorem ec_BadNumber {P : Program} {w : World} {K : PySem.W.Frag} {h base : Heap} {mg : Str → Option Value} (X : K.In h) (G : h.Ns mainGlobals mg) (c : He.SaysD hdFa hdFn K) (k : QB.allB K = true) : ∃ fd, Ec P w K mg base "BadNumber" "thing" fd := by
  obtain ⟨fd, F, b, kb⟩ := dm_BadNumber___init__ c
  exact ⟨fd, allB_ok k (by simp [clsL]), fa_BadNumber X G c, oi_BadNumber F, b, kb⟩
theorem ec_BadStep {P : Program} {w : World} {K : PySem.W.Frag} {h base : Heap} {mg : Str → Option Value} (X : K.In h) (G : h.Ns mainGlobals mg) (c : He.SaysD hdFa hdFn K) (k : QB.allB K = true) : ∃ fd, Ec P w K mg base "BadStep" "thing" fd := by
  obtain ⟨fd, F, b, kb⟩ := dm_BadStep___init__ c
  exact ⟨fd, allB_ok k (by simp [clsL]), fa_BadStep X G c, oi_BadStep F, b, kb⟩
theorem ec_BadUnit {P : Program} {w : World} {K : PySem.W.Frag} {h base : Heap} {mg : Str → Option Value} (X : K.In h) (G : h.Ns mainGlobals mg) (c : He.SaysD hdFa hdFn K) (k : QB.allB K = true) : ∃ fd, Ec P w K mg base "BadUnit" "thing" fd := by
  obtain ⟨fd, F, b, kb⟩ := dm_BadUnit___init__ c
  exact ⟨fd, allB_ok k (by simp [clsL]), fa_BadUnit X G c, oi_BadUnit F, b, kb⟩
theorem ec_BadStanding {P : Program} {w : World} {K : PySem.W.Frag} {h base : Heap} {mg : Str → Option Value} (X : K.In h) (G : h.Ns mainGlobals mg) (c : He.SaysD hdFa hdFn K) (k : QB.allB K = true) : ∃ fd, Ec P w K mg base "BadStanding" "thing" fd := by
  obtain ⟨fd, F, b, kb⟩ := dm_BadStanding___init__ c
  exact ⟨fd, allB_ok k (by simp [clsL]), fa_BadStanding X G c, oi_BadStanding F, b, kb⟩
theorem ec_BadSharing {P : Program} {w : World} {K : PySem.W.Frag} {h base : Heap} {mg : Str → Option Value} (X : K.In h) (G : h.Ns mainGlobals mg) (c : He.SaysD hdFa hdFn K) (k : QB.allB K = true) : ∃ fd, Ec P w K mg base "BadSharing" "thing" fd := by
  obtain ⟨fd, F, b, kb⟩ := dm_BadSharing___init__ c
  exact ⟨fd, allB_ok k (by simp [clsL]), fa_BadSharing X G c, oi_BadSharing F, b, kb⟩
theorem ec_BadBytes {P : Program} {w : World} {K : PySem.W.Frag} {h base : Heap} {mg : Str → Option Value} (X : K.In h) (G : h.Ns mainGlobals mg) (c : He.SaysD hdFa hdFn K) (k : QB.allB K = true) : ∃ fd, Ec P w K mg base "BadBytes" "at" fd := by
  obtain ⟨fd, F, b, kb⟩ := dm_BadBytes___init__ c
  exact ⟨fd, allB_ok k (by simp [clsL]), fa_BadBytes X G c, oi_BadBytes F, b, kb⟩
theorem ec_BadUnits {P : Program} {w : World} {K : PySem.W.Frag} {h base : Heap} {mg : Str → Option Value} (X : K.In h) (G : h.Ns mainGlobals mg) (c : He.SaysD hdFa hdFn K) (k : QB.allB K = true) : ∃ fd, Ec P w K mg base "BadUnits" "thing" fd := by
  obtain ⟨fd, F, b, kb⟩ := dm_BadUnits___init__ c
  exact ⟨fd, allB_ok k (by simp [clsL]), fa_BadUnits X G c, oi_BadUnits F, b, kb⟩
theorem ec_BadMachine {P : Program} {w : World} {K : PySem.W.Frag} {h base : Heap} {mg : Str → Option Value} (X : K.In h) (G : h.Ns mainGlobals mg) (c : He.SaysD hdFa hdFn K) (k : QB.allB K = true) : ∃ fd, Ec P w K mg base "BadMachine" "thing" fd := by
  obtain ⟨fd, F, b, kb⟩ := dm_BadMachine___init__ c
  exact ⟨fd, allB_ok k (by simp [clsL]), fa_BadMachine X G c, oi_BadMachine F, b, kb⟩
theorem ec_all {P : Program} {w : World} {K : PySem.W.Frag} {h base : Heap} {mg : Str → Option Value} (X : K.In h) (G : h.Ns mainGlobals mg) (c : He.SaysD hdFa hdFn K) (k : QB.allB K = true) : ∀ p ∈ clsL, ∃ fd, Ec P w K mg base p.1 p.2 fd := by
  intro p hp
  simp only [clsL, List.mem_cons, List.not_mem_nil, or_false] at hp
  rcases hp with rfl | rfl | rfl | rfl | rfl | rfl | rfl | rfl | rfl | rfl | rfl | rfl | rfl | rfl | rfl | rfl | rfl | rfl
  · exact ec_BadTree X G c k
  · exact ec_BadProgram X G c k
  · exact ec_BadWord X G c k
  · exact ec_BadText X G c k
  · exact ec_BadPath X G c k
  · exact ec_BadRaw X G c k
  · exact ec_BadName X G c k
  · exact ec_BadInputs X G c k
  · exact ec_BadPoly X G c k
  · exact ec_BadTable X G c k
  · exact ec_BadNumber X G c k
  · exact ec_BadStep X G c k
  · exact ec_BadUnit X G c k
  · exact ec_BadStanding X G c k
  · exact ec_BadSharing X G c k
  · exact ec_BadBytes X G c k
  · exact ec_BadUnits X G c k
  · exact ec_BadMachine X G c k
theorem one_f : ∀ p ∈ clsL, ∀ q ∈ clsL, p.1 = q.1 → p.2 = q.2 := by decide +kernel
open Classical in
theorem ers_of {P : Program} {w : World} {K : PySem.W.Frag} {h base : Heap} {mg : Str → Option Value} (X : K.In h) (G : h.Ns mainGlobals mg) (c : He.SaysD hdFa hdFn K) (k : QB.allB K = true) (f0 : FuncData) : ∃ fi, Ers P w K mg base fi := by
  refine ⟨fun x => if e : ∃ fd f, (x, f) ∈ clsL ∧ Ec P w K mg base x f fd then choose e else f0, fa_QuickError X G c, fun x f hx => ?_⟩
  obtain ⟨fd, E⟩ := ec_all X G c k (x, f) hx (P := P) (w := w) (base := base)
  have e : ∃ fd f, (x, f) ∈ clsL ∧ Ec P w K mg base x f fd := ⟨fd, f, hx, E⟩
  obtain ⟨f', h1, h2⟩ := choose_spec e
  have ef : f' = f := one_f _ h1 _ hx rfl
  rw [ef] at h2
  rw [dif_pos e]
  exact h2
theorem tl_of {K : PySem.W.Frag} {h : Heap} {mg : Str → Option Value} (X : K.In h) (G : h.Ns mainGlobals mg) (c : He.SaysD hdFa hdFn K) : TbL mg where
  list := fa_list X G c
  tuple := fa_tuple X G c
  dict := fa_dict X G c
  len := fa_len X G c
  enumerate := fa_enumerate X G c
  isinstance := fa_isinstance X G c
  repr := fa_repr X G c
  range := fa_range X G c
  Exception := fa_Exception X G c
  ValueError := fa_ValueError X G c
  TypeError := fa_TypeError X G c
  LookupError := fa_LookupError X G c
  ArithmeticError := fa_ArithmeticError X G c
  RuntimeError := fa_RuntimeError X G c
  AttributeError := fa_AttributeError X G c
theorem law_g {q : PySem.W.OpenLaw} {w : World} {h : Heap} {K : PySem.W.Frag} {mg : Str → Option Value} {fa : Addr} (X : K.In h) (G : h.Ns mainGlobals mg) (c : He.SaysX hdFa hdFn [] hdTf hdEx w h K) (hfa : mg ("law" : Str) = some (.ref fa)) :
    LawG q w K 61 63 "_law_script" mg fa h := by
  have cd := c.t.d
  obtain ⟨f0, D0⟩ := df__law_deck X G cd
  obtain ⟨f1, D1⟩ := df__law_draw X G cd
  obtain ⟨f2, D2⟩ := df__law_pick X G cd
  obtain ⟨f3, D3⟩ := df__law_any X G cd
  obtain ⟨f4, D4⟩ := df__law_is_same X G cd
  obtain ⟨f5, D5⟩ := df__law_by_position X G cd
  obtain ⟨f6, D6⟩ := df__law_by_name X G cd
  obtain ⟨f7, D7⟩ := df__law_kinds X G cd
  obtain ⟨f8, D8⟩ := df__law_is_own X G cd
  obtain ⟨f9, D9⟩ := df__law_raise X G cd
  obtain ⟨f10, D10⟩ := df__law_caught X G cd
  obtain ⟨f11, D11⟩ := df__law_caught_as_base X G cd
  obtain ⟨f12, D12⟩ := df__law_carried X G cd
  obtain ⟨f13, D13⟩ := df_law X G cd
  have e := hfa.symm.trans D13.g
  cases e
  refine ⟨f13, [], spLaw K, (fun p hp => by cases hp), (fun p hp => by cases hp), (fun p hp => by cases hp), ?_, ?_, ?_⟩
  · intro s u
    exact FunD.bindsA (ps := ["_law_script"]) D13.F (fun _ _ _ _ _ _ us hl => match us, hl with | [_], _ => rfl) s [u] rfl
  · intro H a ns hl hb hT hS
    exact ⟨a, ns, rfl, hS, fun _ => rfl⟩
  · intro base hb hn hmods hT
    obtain ⟨fi, Er⟩ := ers_of X G cd c.more f13 (P := q.prog) (w := w) (base := base)
    exact ok_law hmods (tl_of X G cd) ⟨fa_int X G cd, fa_list X G cd, fa_max X G cd, fa_len X G cd, fa_range X G cd, fa_tuple X G cd, fa_isinstance X G cd, fa_repr X G cd⟩ Er D13 D0 D1 D2 D3 D4 D5 D6 D7 D8 D9 D10 D11 D12
end TZ
open PySem PySem.W PySem.Calls PyProof.Rows
theorem PySem.Challenge.cw_quicktongue_k00_errors_by_position_and_b_holds : PySem.Challenge.rw_quicktongue_k00_errors_by_position_and_b.Holds := by
  w_on; o_law
  refine HandSHeadRun.head_any (r := OpenLaw.row PySem.Challenge.rw_quicktongue_k00_errors_by_position_and_b) (q := view (OpenLaw.row PySem.Challenge.rw_quicktongue_k00_errors_by_position_and_b).prog [34]) (H := TZ.hdK) (ob := TZ.hdOb) (M := 8000) (loose := TZ.hdLoose) (d := HandSHeadRun.topDef (OpenLaw.row PySem.Challenge.rw_quicktongue_k00_errors_by_position_and_b).prog 34) (kwd := []) TZ.hdOb_eq
    (by kernel_rfl) (fun s => by kernel_rfl) TZ.hdRun (by kernel_rfl) (by kernel_rfl) (by kernel_rfl) (by rfl) (by first | assumption | decide +kernel) (by decide +kernel) ⟨rfl, rfl, rfl, rfl, rfl, by decide +kernel⟩ ?hw ?hc
  case hw => w_witness2
  case hc =>
    refine KT.walkG (l := PySem.Challenge.rw_quicktongue_k00_errors_by_position_and_b) (n := 63) (k := 61) (x := "_law_script") rfl (by decide) (by kernel_rfl) (by kernel_rfl) ⟨rfl, by decide, by decide⟩ ?F
    intro w mg fa h Y G hmg0
    obtain ⟨K, KX, c⟩ := Y
    have hmg : mg ("law" : PySem.Str) = some (.ref fa) := by
      have e : (HandSHeadRun.topDef (OpenLaw.row PySem.Challenge.rw_quicktongue_k00_errors_by_position_and_b).prog 34).name = ("law" : PySem.Str) := by kernel_rfl
      rw [← e]
      exact hmg0
    exact ⟨K, KX, TZ.law_g KX G c hmg⟩




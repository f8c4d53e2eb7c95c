import PyProof.Rows.All
import Wide.All
import OpenK.AllK
import Wide.FinOn
import HandS.ForMost
import HandS.Style
import HandS.Codes
import HandS.IsInst
import HandS.AnyAll
import HandS.StrMore
import HandS.Defaults
import HandS.HeadHook4
import HandS.HeadWalk
import HandS.Head2
import HandS.Walk
import HandS.GenList
import HandS.RaiseMore
import PyProof.EqAt
import PyProof.EqKinds
import PyProof.NeKinds
import PyProof.NeData
import HandS.ExcInit
import HandS.ExcIs
import HandS.ExcField
import HandS.TryMany
import HandS.ExcValue
import KE.KExcIs
import HandS.HotCalls
import HandS.WordsExc
import HandS.Small
import HandS.Dict
import HandS.Zip
import HandS.TupAny
import PySem.Challenge.RW_quicktongue_k95_texts_as_words
import HandS.Wide
import HandS.Text
import HandS.More
import KE.DataCmp
import HandS.Flow
import HandS.DictComp
import HandS.SetKeys
import HandS.Iter
import HandS.TupMul
import HandS.Flt
import HandS.Lambda
import HandS.CallSlots
set_option Elab.async false
set_option linter.all false
set_option maxRecDepth 100000
set_option maxHeartbeats 4000000
/-! Tools over the hand layer: a def's call by keywords alone, repr of data, a def that knows its code object. -/
namespace KT
open PySem PySem.Spec PyProof.Rows L2
section
variable {X : Cx} {CX : CXT} {k : Nat} {f : Addr} {fd : FuncData} {ps ks : List Str} {sp : Sp} {E : XK} {x : Str} {p pos : Pos} {kws : List Keyword} {tk : TA}
/-- how a call with keywords alone binds: g puts the keywords' values in the parameters' order -/
structure KB0 (fd : FuncData) (ps ks : List Str) (g : {α : Type} → List α → List α) : Prop where
  to : ∀ (s : Shared) (ws : List Value), (g ws).length = ps.length → BindsTo s fd ⟨[], ks.zip ws⟩ (ps.zip (g ws))
  rel : ∀ {zs : List V} {ws : List Value}, Vals zs ws → Vals (g zs) (g ws)
def tCallK0 (sp : Sp) (g : {α : Type} → List α → List α) (E : XK) (tk : TA) : TE := fun σ H Q => tk σ H fun zs H2 => sp (g zs) H2 Q E
theorem pe_callK0 {g : {α : Type} → List α → List α} (F : FnOk X.prog X.w X.K X.mg X.base CX k f fd ps sp) (hr : Room k X.A) (hg : Gl X x) (hm : X.mg x = some (.ref f)) (hk : PySem.W.keepIn X.K (.ref f) = true) (hb : KB0 fd ps ks g) (hx : Passes CX X E)
    (hkw : PK X kws tk) (hall : (backToKw pos (keywordEach kws X.env)).all (·.1.isSome) = true := by rfl) (hks : (backToKw pos (keywordEach kws X.env)).filterMap (·.1) = ks := by rfl)
    (hdb : (x == ("__debug__" : Str)) = false := by decide) (hpl : ((backTo pos (starEach [] X.env)).any (·.1) || (backToKw pos (keywordEach kws X.env)).any (·.1.isNone)) = false := by rfl) :
    PE X (.Call (.Name x p) [] kws pos) (tCallK0 sp g E tk) := by
  refine ⟨fun pins s σ H Q I h => ?_⟩
  refine wpAny_Call_Name_kw (ld_glob I hg hm ?_ hdb)
  refine PySem.W.callWith_KW0 (h₀ := X.base) I.ok.mod.kin hk hall ?_ hpl
  refine thn (hkw.run pos pins s σ H _ I h) fun ws s2 ⟨zs, H2, I2, rz, q2⟩ => ⟨I2.kIn, ?_⟩
  rw [hks]
  have r2 := hb.rel rz
  have hl : (g ws).length = ps.length := by rw [← r2.length]; exact F.len _ _ _ _ q2
  refine wpAny_call (codeAny_mono (F.run X.A X.stack s2 H2 ⟨[] ++ [], ks.zip ws⟩ (g ws) (g zs) Q E hr I2.env0 (hb.to s2 ws hl) r2 q2) fun r s' hq => ?_)
  cases r with
  | error e => exact hx pins σ H2 s2 e s' I2 hq
  | ok fl =>
    cases fl with
    | ret u => exact I2.after hq
    | next => exact False.elim hq
    | brk => exact False.elim hq
    | cont => exact False.elim hq
end
/-! ### a def by its datum -/
section
variable {P : Program} {w : World} {K : PySem.W.Frag} {mg : Str → Option Value} {base : Heap}
abbrev FnP (K : PySem.W.Frag) (x : Str) (st : Stmt) (f : Addr) (fd : FuncData) : Prop := FunD K x x (defArgs st) (defBody st) (defScope st) [] [] f fd
theorem fun_of {x : Str} {st : Stmt} {f : Addr} {fd : FuncData} (F : FnP K x st f fd) : Fun K x x st f fd := by
  obtain ⟨⟨oc, od, dV, kV, doc, pm, an, cdv, ct, osl, e, l, c, d, _⟩, kp⟩ := F
  have hd : dV = .none := by
    rcases d with ⟨_, h⟩ | ⟨h, _⟩
    · exact h
    · exact absurd rfl h
  subst hd
  exact ⟨⟨oc, od, kV, doc, pm, an, cdv, ct, osl, e, l, c⟩, kp⟩
/-- the rule for a def, its code object told -/
theorem okC {x : Str} {st : Stmt} {fd : FuncData} {N ps : List Str} {k : Nat} {sp : Sp} (F : FnP K x st (He.fAd K (x, none)) fd) (S : FnScope N ps (defScope st)) (len : ∀ vs H Q E, sp vs H Q E → vs.length = ps.length)
    (hbody : ∀ (cdv : Value) (A : Around) (outer : List Env) (s : Shared) (H : Hp) (vs : List V) (Q : VK) (E : XK), cdv = .ref (He.codeOf K (x, none)) → Room k (A.deeper (envOfC x (defScope st) s.heap.objs.size (He.fAd K (x, none)) cdv)) → sp vs H Q E →
      ∃ t, PSs (cxOf CX0 P w K mg base N x (defScope st) (He.fAd K (x, none)) cdv A outer s H E).nox (defBody st) t ∧ t { nx := fun _ H' => Q .non H', rt := Q } (start N vs) H) : FnOk P w K mg base CX0 (k + 1) (He.fAd K (x, none)) fd ps sp := by
  obtain ⟨oc, od, kV, doc, pm, an, cdv, ct, osl, rfl, lk, hcd⟩ := (fun_of F).ex
  refine fn_of lk hcd S len fun A outer s H vs Q E hr hsp => ?_
  obtain ⟨c, ec⟩ := He.codeIn_ref hcd
  have e2 : He.codeOf K (x, none) = c := He.codeOf_eq lk ec
  obtain ⟨t, h, q⟩ := hbody cdv A outer s H vs Q E (by rw [ec, e2]) hr hsp
  exact ⟨t, h.nox, q⟩
end
/-! ### repr of data -/
section
variable {X : Cx}
def rReprD (K : PySem.W.Frag) : List V → Hp → VK → Prop := fun xs H Q => ∃ a d, xs = [.ref a] ∧ Dp K H (.ref a) d ∧ d.showable = true ∧ d.canLay0 = true ∧ d.depth ≤ 62 ∧ d.shown.length ≤ sizeLine ∧ Q (.str d.shown) H
theorem call_reprD {k : Nat} (hr : Room k X.A) (hg : X.A.guards = some []) : CallR X (.builtin "repr") (rReprD X.K) := by
  intro pins s σ H xs us Q I r h
  obtain ⟨a, d, rfl, hd, hs, hc, hdep, hsz, q⟩ := h
  obtain ⟨u, rfl, r1⟩ := vals1 r
  cases (show u = Value.ref a from r1)
  obtain ⟨as, hrd⟩ := Dp.reads I d _ _ hd rfl
  have hu := hr.units
  refine PySem.repr_of_reads' hrd hs (fun z => ?_) hg (by omega) (fun b o e => e) (fun h' u tk kk => ?_) hsz
  · rw [PyData.hasDict_of_canLay d hc] at z
    cases z
  · exact ⟨.str d.shown, H, I.kept (t' := tk) kk, ⟨u, rfl⟩, q⟩
end
/-! ### promises that may lean on «no repr is under way» -/
structure FnG (P : Program) (w : World) (K : PySem.W.Frag) (mg : Str → Option Value) (base : Heap) (k : Nat) (f : Addr) (fd : FuncData) (ps : List Str) (sp : Sp) : Prop where
  len : ∀ vs H Q E, sp vs H Q E → vs.length = ps.length
  run : ∀ (A : Around) (outer : List Env) (s : Shared) (H : Hp) (args : Args) (us : List Value) (vs : List V) (Q : VK) (E : XK), A.guards = some [] → Room k A → Env0 P w K mg base A outer s H → BindsTo s fd args (ps.zip us) → Vals vs us → sp vs H Q E →
    codeAny (model P w) A (.call (.ref f) args) (CR CX0 outer P w H s Q E) s
section
variable {P : Program} {w : World} {K : PySem.W.Frag} {mg : Str → Option Value} {base : Heap}
theorem FnG.of {k : Nat} {f : Addr} {fd : FuncData} {ps : List Str} {sp : Sp} (F : FnOk P w K mg base CX0 k f fd ps sp) : FnG P w K mg base k f fd ps sp := ⟨F.len, fun A outer s H args us vs Q E _ => F.run A outer s H args us vs Q E⟩
theorem okG {x : Str} {st : Stmt} {f : Addr} {fd : FuncData} {N ps : List Str} {k : Nat} {sp : Sp} (F : Fun K x x st f fd) (S : FnScope N ps (defScope st)) (len : ∀ vs H Q E, sp vs H Q E → vs.length = ps.length)
    (hbody : ∀ (cdv : Value) (A : Around) (outer : List Env) (s : Shared) (H : Hp) (vs : List V) (Q : VK) (E : XK), A.guards = some [] → Room k (A.deeper (envOfC x (defScope st) s.heap.objs.size f cdv)) → sp vs H Q E →
      ∃ t, PSs (cxOf CX0 P w K mg base N x (defScope st) f cdv A outer s H E).nox (defBody st) t ∧ t { nx := fun _ H' => Q .non H', rt := Q } (start N vs) H) : FnG P w K mg base (k + 1) f fd ps sp := by
  obtain ⟨oc, od, kV, doc, pm, an, cdv, ct, osl, rfl, lk, hcd⟩ := F.ex
  refine ⟨len, fun A outer s H args us vs Q E hA hr e0 hb r hsp => ?_⟩
  -- at this around alone: the def's rule over a promise that is asked here
  have KX : K.In s.heap := e0.mod.kin.keeps fun b o e => (e0.bs b o e).1
  have li : s.heap.NoLimit := e0.mod.nolimit.keeps fun b o e => (e0.bs b o e).1
  have knd : ∀ y ∈ ps.zip us, (defScope st).names.lookup y.1 = some .local ∨ ((defScope st).names.lookup y.1 = some .cell ∧ ((cellsFrom (s.heap.objs.size + 1) (defScope st).names []).lookup y.1).isSome = true) := by
    rintro ⟨n, v⟩ hy
    exact (S.par n (List.of_mem_zip hy).1).imp id fun q => ⟨q, PySem.W.cellsFrom_some _ _ _ (.inl q)⟩
  refine codeAny_call_function (hr.depth) (KX _ _ lk) rfl S.co S.gen rfl (PySem.W.codeRec_of KX hcd) (hb _ _ _ _ (wpAny_newFunctionEnv_cells S.kind knd fun env he s1 x1 => ?_))
  subst he
  obtain ⟨t, ht, hq⟩ := hbody cdv A outer s H vs Q E hA (hr.deeper _) hsp
  have J := inv_start (CX := CX0) (E := E) (mg := mg) (cd := cdv) (f := f) (qual := x) S hr.hd e0 (len _ _ _ _ hsp) r x1
  refine ⟨li.keeps x1.toInCall.keep, codeAny_func (wpAny_mono (ht.nox.run [] s1 (start N vs) H _ J hq) (fun fl s' hs => ?_) fun e s' z => z)⟩
  have done : ∀ {σ' : L2.St} {H' : Hp} {v : V} {u : Value}, Inv (cxOf CX0 P w K mg base N x (defScope st) f cdv A outer s H E) [] σ' H' s' → RelV v u → Q v H' → CE outer P w H s Q u s' := fun j rv q => ⟨_, _, j.os, j.bare, j.base, j.hok, rv, q⟩
  cases fl with
  | ret u =>
    obtain ⟨v, σ', H', j, rv, q⟩ := hs
    exact done j rv q
  | next =>
    obtain ⟨σ', H', j, q⟩ := hs
    exact done (v := V.non) (u := Value.none) j rfl q
  | brk => exact hs.elim fun _ z => z.elim fun _ z => z.2.elim
  | cont => exact hs.elim fun _ z => z.elim fun _ z => z.2.elim
end
section
variable {X : Cx} {k : Nat} {f : Addr} {fd : FuncData} {ps ks : List Str} {sp : Sp} {x : Str} {p pos : Pos} {e : Expr} {es : List Expr} {t : TA}
theorem run_g {pins : List (Addr × Obj)} {σ : L2.St} {H : Hp} {s : Shared} {Q : VK} {us : List Value} {vs : List V} (F : FnG X.prog X.w X.K X.mg X.base k f fd ps sp) (hA : X.A.guards = some []) (hr : Room k X.A) (hb : Binds X.K fd ps [])
    (I : Inv X pins σ H s) (r : Vals vs us) (h : sp vs H Q E0) : wpAny (model X.prog X.w) X.A (call (.ref f) us) (EP X pins σ Q) X.xe s := by
  have hl : us.length = ps.length := r.length.symm.trans (F.len _ _ _ _ h)
  have hb2 : BindsTo s fd ⟨us, []⟩ (ps.zip us) := by
    have z := hb s us I.kIn (by rw [List.append_nil]; exact hl)
    rw [List.append_nil] at z
    exact z
  refine wpAny_call (codeAny_mono (F.run X.A X.stack s H ⟨us, []⟩ us vs Q E0 hA hr I.env0 hb2 r h) fun rr s' hq => ?_)
  match rr, hq with
  | .error e, hq => exact hq.elim
  | .ok (.ret u), hq => exact I.after hq
  | .ok .next, hq => exact hq.elim
  | .ok .brk, hq => exact hq.elim
  | .ok .cont, hq => exact hq.elim
theorem pe_callG (F : FnG X.prog X.w X.K X.mg X.base k f fd ps sp) (hA : X.A.guards = some []) (hr : Room k X.A) (hg : Gl X x) (hm : X.mg x = some (.ref f)) (hk : PySem.W.keepIn X.K (.ref f) = true) (hb : Binds X.K fd ps [])
    (ha : PA X (e :: es) t) (hdb : (x == ("__debug__" : Str)) = false := by decide) (he : starEach (e :: es) X.env = (false, eval e X.env) :: starEach es X.env := by rfl) (hpl : (backTo pos (starEach es X.env)).any (·.1) = false := by rfl) :
    PE X (.Call (.Name x p) (e :: es) [] pos) (tCall sp [] E0 t) := by
  refine ⟨fun pins s σ H Q I h => wpAny_Call_Name_kw (ld_glob I hg hm (PySem.W.callWith_K (h₀ := X.base) I.ok.mod.kin hk (thn (ha.run pos pins s σ H _ I h) fun us s1 ⟨vs, H1, I1, r, q⟩ => ⟨I1.kIn, ?_⟩) he hpl) hdb)⟩
  have q2 : sp vs H1 Q E0 := by
    have z : sp (vs ++ []) H1 Q E0 := q
    rw [List.append_nil] at z
    exact z
  exact run_g F hA hr hb I1 r q2
end
/-! ### the end of a law's row: the tables of code objects tracked, the script known to its object -/
section
open GxR
def tabsH (cs : List (Addr × Addr)) : Hp := fun b => if b ∈ cs.map (·.2) then some (.tbl #[]) else none
theorem tabsH_in {cs : List (Addr × Addr)} {p : Addr × Addr} (h : p ∈ cs) : tabsH cs p.2 = some (.tbl #[]) := if_pos (List.mem_map.mpr ⟨p, h, rfl⟩)
theorem tabsH_some {cs : List (Addr × Addr)} {b : Addr} {o : HO} (h : tabsH cs b = some o) : o = .tbl #[] ∧ ∃ p ∈ cs, p.2 = b := by
  unfold tabsH at h
  split at h
  · rename_i hb
    obtain ⟨p, hp, e⟩ := List.mem_map.mp hb
    exact ⟨(Option.some.inj h).symm, p, hp, e⟩
  · cases h
def NoTab : Obj := { cls := .none, data := .fields #[] }
/-- what the head says of a state s₁: the script at a, the tables at cs -/
structure At1 (K : PySem.W.Frag) (mg : Str → Option Value) (cs : List (Addr × Addr)) (a : Addr) (ns : List Int) (s₁ : Shared) : Prop where
  kin : K.In s₁.heap
  ns_ : s₁.heap.Ns mainGlobals mg
  blt : ∃ mb, s₁.heap.Ns builtinsNs mb ∧ ∀ x : Str, x ≠ "__name__" → mb x = bootBuiltins x
  lim : s₁.heap.NoLimit
  gens : s₁.gens = #[]
  tabs : ∀ p ∈ cs, s₁.heap.get? p.2 = some NoTab
  out : ∀ p ∈ cs, K.lookup p.2 = none
  code : ∀ p ∈ cs, PySem.W.CodeHd s₁.heap p.1 p.2
  bm : ∃ (bm : Addr) (ob : Obj), mg "__builtins__" = some (.ref bm) ∧ bm ≠ builtinsNs ∧ s₁.heap.get? bm = some ob ∧ ob.cls = .type "module" ∧ ob.dict = some builtinsNs ∧ ob.data = .plain
  scr : ∃ vs : List Value, s₁.heap.get? a = some { cls := .type "list", data := .seq vs.toArray } ∧ IntsAre vs ns
  len : ns.length ≤ sizeLine
/-- an abstract heap of such a state -/
structure Good (K : PySem.W.Frag) (cs : List (Addr × Addr)) (a : Addr) (s₁ : Shared) (H : Hp) : Prop where
  at_ : ∀ b o, H b = some o → (o = .tbl #[] ∧ s₁.heap.get? b = some NoTab ∧ ∃ p ∈ cs, p.2 = b) ∨ (b = a ∧ (∃ ob xs, o = .frz ob (.lst xs)) ∧ ∃ vs : List Value, s₁.heap.get? a = some { cls := .type "list", data := .seq vs.toArray })
  tb : ∀ p ∈ cs, H p.2 = some (.tbl #[])
  k : H a ≠ none → K.lookup a = none
theorem At1.good {P : Program} {w : World} {K : PySem.W.Frag} {mg : Str → Option Value} {cs : List (Addr × Addr)} {a : Addr} {ns : List Int} {s₁ : Shared} (h : At1 K mg cs a ns s₁) :
    ∃ H : Hp, Good K cs a s₁ H ∧ SqL K H a (ns.map V.int) ∧ HOk P w H s₁.heap := by
  obtain ⟨vs, ha, hi⟩ := h.scr
  have rv := vals_ints hi
  have tabAt : ∀ b o, tabsH cs b = some o → o = .tbl #[] ∧ s₁.heap.get? b = some NoTab ∧ ∃ p ∈ cs, p.2 = b := fun b o e => by
    obtain ⟨e1, p, hp, e2⟩ := tabsH_some e
    exact ⟨e1, by rw [← e2]; exact h.tabs p hp, p, hp, e2⟩
  have na : tabsH cs a = none := by
    cases e : tabsH cs a with
    | none => rfl
    | some o =>
      have z := (tabAt a o e).2.1
      rw [ha] at z
      cases z
  have okT : ∀ b o, tabsH cs b = some o → ∀ H : Hp, ObjOk P w H s₁.heap b o := fun b o e H => by
    obtain ⟨e1, e2, _⟩ := tabAt b o e
    subst e1
    exact e2
  cases hk : K.lookup a with
  | some o =>
    have z := h.kin a o hk
    rw [ha] at z
    cases z
    refine ⟨tabsH cs, ⟨fun b o e => .inl (tabAt b o e), fun p hp => tabsH_in hp, fun z => absurd na z⟩, .inr ⟨_, vs.toArray, _, hk, rfl, rfl, rfl, ?_, by simpa using rv⟩, fun b o e => okT b o e _⟩
    rw [List.size_toArray, hi.length]
    exact h.len
  | none =>
    refine ⟨upd (tabsH cs) a (.frz { cls := .type "list", data := .seq vs.toArray } (.lst (ns.map V.int))), ⟨fun b o e => ?_, fun p hp => ?_, fun _ => hk⟩, .inl (.inr ⟨_, upd_same⟩), fun b o e => ?_⟩
    · by_cases hb : b = a
      · subst hb
        rw [upd_same] at e
        exact .inr ⟨rfl, ⟨_, _, (Option.some.inj e).symm⟩, vs, ha⟩
      · rw [upd_ne hb] at e
        exact .inl (tabAt b o e)
    · rw [upd_ne (ne_of_none (tabsH_in hp) na)]
      exact tabsH_in hp
    · by_cases hb : b = a
      · subst hb
        rw [upd_same] at e
        cases e
        exact ⟨ha, by rw [List.length_map]; exact h.len, vs, _, rv, ha⟩
      · rw [upd_ne hb] at e
        exact okT b o e _
variable {P : Program} {w : World} {K : PySem.W.Frag} {mg : Str → Option Value}
theorem Good.free {cs : List (Addr × Addr)} {a : Addr} {s₁ : Shared} {H : Hp} (g : Good K cs a s₁ H) {b : Addr} {o : Obj} (e : s₁.heap.get? b = some o) (h1 : ∀ vs n, o.data ≠ .seq vs n) (h2 : o.data ≠ .fields #[]) : H b = none := by
  cases q : H b with
  | none => rfl
  | some u =>
    rcases g.at_ b u q with ⟨_, z, _⟩ | ⟨rfl, _, vs, z⟩
    · rw [e] at z
      cases z
      exact (h2 rfl).elim
    · rw [e] at z
      cases z
      exact (h1 _ _ rfl).elim
theorem At1.call {cs : List (Addr × Addr)} {a fa : Addr} {ns : List Int} {s₁ : Shared} {k : Nat} {fd : FuncData} {x : Str} {sp : Sp} (h : At1 K mg cs a ns s₁) (hr : Room k callerA)
    (F : ∀ base : Heap, K.In base → base.Ns mainGlobals mg → (∀ (b : Addr) (m : Str → Option Value), s₁.heap.Ns b m → base.Ns b m) → (∀ p ∈ cs, TabB base mg p.1 p.2) → FnG P w K mg base k fa fd [x] sp) (hbind : ∀ (s : Shared) (u : Value), BindsTo s fd ⟨[u], []⟩ [(x, u)])
    (hsp : ∀ H : Hp, (∀ p ∈ cs, H p.2 = some (.tbl #[])) → SqL K H a (ns.map V.int) → sp [.ref a] H (fun v _ => v = .bl true) E0) :
    codeAny (model P w) callerA (.call (.ref fa) ⟨[.ref a], []⟩) (fun r s' => r = .ok (.ret (.bool true)) ∧ OldK s₁.heap s'.heap ∧ s'.os = s₁.os ∧ AllBare s'.gens) s₁ := by
  obtain ⟨H, g, hS, hok⟩ := h.good (P := P) (w := w)
  have dict_free : ∀ {b : Addr} {o : Obj} {es : Array DictEntry} {ep : Nat}, s₁.heap.get? b = some o → o.data = .dict es ep → H b = none := fun {b o es ep} e d => g.free e (fun vs n z => by rw [d] at z; cases z) fun z => by rw [d] at z; cases z
  have space : ∀ {b : Addr} {m : Str → Option Value}, s₁.heap.Ns b m → (hidT s₁.heap H).Ns b m := fun {b m} ⟨o, es, ep, e, d, r⟩ => ⟨o, es, ep, hidT_get e (dict_free e d), d, r⟩
  have kb : K.In (hidT s₁.heap H) := fun b o e => hidT_get (h.kin b o e) (by
    cases q : H b with
    | none => rfl
    | some u =>
      rcases g.at_ b u q with ⟨_, _, p, hp, e2⟩ | ⟨rfl, _, _⟩
      · rw [← e2, h.out p hp] at e
        cases e
      · rw [g.k (by rw [q]; exact fun z => nomatch z)] at e
        cases e)
  obtain ⟨mb, hb, hbb⟩ := h.blt
  have md : L2.Mod K mg (hidT s₁.heap H) := ⟨kb, space h.ns_, ⟨mb, space hb, hbb⟩, let ⟨mc, h1, h2⟩ := h.lim; ⟨mc, space h1, h2⟩⟩
  have tb : ∀ p ∈ cs, TabB (hidT s₁.heap H) mg p.1 p.2 := fun p hp => by
    have hTp := h.tabs p hp
    have ng : mainGlobals ≠ p.2 := fun z => by
      obtain ⟨o, es, ep, e, hd, _⟩ := h.ns_
      rw [z, hTp] at e
      cases e
      cases hd
    obtain ⟨o, us, file, tf, flags, tg, inF, text, tt, e1, r1, r2, r3, r⟩ := h.code p hp
    obtain ⟨bm, ob, b1, b2, b3, b4, b5, b6⟩ := h.bm
    have f1 : H p.1 = none := g.free e1 (fun vs n z => by rw [r2] at z; cases z) fun z => by
      rw [r2] at z
      cases z
      simp at r3
    have f2 : H bm = none := g.free b3 (fun vs n z => by rw [b6] at z; cases z) fun z => by rw [b6] at z; cases z
    refine ⟨⟨o, us, file, tf, flags, tg, inF, text, tt, hidT_get e1 f1, r1, r2, r3, r⟩, ⟨bm, ob, b1, b2, fun q => ?_, fun q => ?_, hidT_get b3 f2, b4, b5, b6⟩, ng⟩
    · obtain ⟨o2, es, ep, e, hd, _⟩ := h.ns_
      rw [← q, b3] at e
      cases e
      rw [b6] at hd
      cases hd
    · rw [q, hTp] at b3
      cases b3
      cases b6
  have e0 : Env0 P w K mg (hidT s₁.heap H) callerA [] s₁ H := ⟨rfl, md, fun b o e => of_hidT e, Nat.le_of_eq (hidT_size _ _), trivial, fun b hb => absurd (show b ∈ ([] : List Addr) from hb) (by simp), hok, .of_eq h.gens⟩
  refine codeAny_mono ((F _ kb (space h.ns_) (fun _ _ z => space z) tb).run callerA [] s₁ H ⟨[.ref a], []⟩ [.ref a] [.ref a] _ _ rfl hr e0 (hbind s₁ (.ref a)) (.cons rfl .nil) (hsp H g.tb hS)) fun r s' hq => ?_
  match r, hq with
  | .error e, hq => exact hq.elim
  | .ok .next, hq => exact hq.elim
  | .ok .brk, hq => exact hq.elim
  | .ok .cont, hq => exact hq.elim
  | .ok (.ret u), hq =>
    obtain ⟨v, H', os, bare, un, hok', r', q⟩ := hq
    obtain rfl : v = .bl true := q
    obtain rfl : u = Value.bool true := r'
    have keep : ∀ b o, s₁.heap.get? b = some o → s'.heap.get? b = some o ∨ (o = NoTab ∧ (∃ p ∈ cs, p.2 = b) ∧ ∃ more : Array Value, s'.heap.get? b = some { cls := .none, data := .fields more }) := fun b o e => by
      cases q : H b with
      | none => exact .inl (un.keep b o e q (by intro z; exact absurd (show b ∈ ([] : List Addr) from z) (by simp)) (by simp))
      | some u =>
        rcases g.at_ b u q with ⟨rfl, z, p⟩ | ⟨rfl, ⟨ob, xs, rfl⟩, _⟩
        · rw [e] at z
          cases z
          obtain ⟨more, z2⟩ := un.tbls b #[] q
          exact .inr ⟨rfl, p, _, hok' b _ z2⟩
        · obtain ⟨e1, _⟩ := hok b _ q
          obtain ⟨e2, _⟩ := hok' b _ (un.frzs b ob _ q)
          rw [e] at e1
          cases e1
          exact .inl e2
    refine ⟨rfl, ⟨fun b o e => ?_, fun b o e => ?_⟩, os, bare⟩
    · rcases keep b o e with z | ⟨rfl, ⟨p, hp, rfl⟩, more, z⟩
      · exact .inl z
      · exact .inr (.inl ⟨((h.code p hp).tab (h.tabs p hp)).isCodeTable, rfl, #[], more, rfl, by rw [Array.empty_append]; exact z⟩)
    · rcases keep b o e with z | ⟨_, _, more, z⟩
      · exact ⟨o, z⟩
      · exact ⟨_, z⟩
/-- sys.modules stands in the base -/
def HasMods (base : Heap) : Prop := ∃ mm, base.Ns sysModules mm
/-- the row's end by such promises -/
def LawG (l : PySem.W.OpenLaw) (w : World) (K : PySem.W.Frag) (k n : Nat) (x : Str) (mg : Str → Option Value) (fa : Addr) (h : Heap) : Prop :=
  ∃ (fd : FuncData) (cs : List (Addr × Addr)) (sp : Sp), (∀ p ∈ cs, h.get? p.2 = some NoTab) ∧ (∀ p ∈ cs, K.lookup p.2 = none) ∧ (∀ p ∈ cs, PySem.W.CodeHd h p.1 p.2) ∧ (∀ (s : Shared) (u : Value), BindsTo s fd ⟨[u], []⟩ [(x, u)]) ∧
    (∀ (H : Hp) (a : Addr) (ns : List Int), ns.length ≤ n → (∀ z ∈ ns, Builtin.Int.intBits z ≤ 1048576) → (∀ p ∈ cs, H p.2 = some (.tbl #[])) → SqL K H a (ns.map V.int) → sp [.ref a] H (fun v _ => v = .bl true) E0) ∧
    ∀ base : Heap, K.In base → base.Ns mainGlobals mg → HasMods base → (∀ p ∈ cs, TabB base mg p.1 p.2) → FnG l.prog w K mg base k fa fd [x] sp
theorem walkG {l : PySem.W.OpenLaw} {n k : Nat} {q : Program} {loose : List Str} {XP : (Str → Option Value) → Heap → Prop} {YP : World → Heap → Prop} {d : DefRec} {x : Str}
    (hn : l.most = some n) (hn2 : n ≤ sizeLine) (hdf : d.params.defaults = []) (hi : importsNone q = true) (hr : Room k callerA)
    (F : ∀ (w : World) (mg : Str → Option Value) (fa : Addr) (h : Heap), YP w h → h.Ns mainGlobals mg → mg d.name = some (.ref fa) → ∃ K : PySem.W.Frag, K.In h ∧ LawG l w K k n x mg fa h) :
    PySem.W.WalkO q loose XP YP l.row.toRowW d [] (fun f vs => PySem.call f vs) := by
  refine Att.attach_callB hn hdf fun w s₀ s₁ mg mb fa o pm cd doc a vs ns G Y ho hd hcd hmg hobj hints hlen hbits hg => ?_
  obtain ⟨K, kx, fd, cs, sp, hT, nT, C, hb, hsp, hF⟩ := F w mg fa _ Y G.T.g hmg
  exact At1.call (K := K) (cs := cs) (sp := sp) ⟨kx, G.T.g, ⟨mb, G.T.b, G.T.builtins⟩, G.T.nolimit, hg, hT, nT, C, G.T.bmain, ⟨vs, hobj, hints⟩, Nat.le_trans hlen hn2⟩ hr (fun base kb nb sp tb => hF base kb nb (let ⟨mm, z, _⟩ := (G.T.seer hi).mods; ⟨mm, sp _ _ z⟩) tb) hb fun H hH hS => hsp H a ns hlen hbits hH hS
end
/-! ### a def of the text: its datum, its name, how it binds -/
structure Df (K : PySem.W.Frag) (mg : Str → Option Value) (x : Str) (st : Stmt) (ps : List Str) (fd : FuncData) : Prop where
  F : FnP K x st (He.fAd K (x, none)) fd
  g : mg x = some (.ref (He.fAd K (x, none)))
  b : Binds K fd ps []
/-- a promise that none asks -/
def spNo : Sp := fun _ _ _ _ => False
theorem ok_no {P : Program} {w : World} {K : PySem.W.Frag} {mg : Str → Option Value} {base : Heap} {CX : CXT} {k : Nat} {f : Addr} {fd : FuncData} {ps : List Str} : FnOk P w K mg base CX k f fd ps spNo := ⟨fun _ _ _ _ h => h.elim, fun _ _ _ _ _ _ _ _ _ _ _ _ _ h => h.elim⟩
/-! ### isinstance of a built-in class -/
def isS : V → Bool
  | .str _ => true
  | _ => false
/-- x has a class, told, and whether it is T is told by b -/
def IsA (K : PySem.W.Frag) (H : Hp) (x : V) (T : String) (b : Bool) : Prop := ∃ t, TyX K H x (.type t) ∧ kitB t T = some b
theorem rIsi_of {K : PySem.W.Frag} {H : Hp} {x : V} {T : String} {b : Bool} {Q : VK} (h : IsA K H x T b) (q : Q (.bl b) H) : rIsi K [x, .ty T] H Q := by
  obtain ⟨t, h1, h2⟩ := h
  exact ⟨x, .ty T, .type t, .type T, b, rfl, .ty T, h1, kit_ty h2, q⟩
end KT

set_option Elab.async false
set_option linter.all false
set_option maxRecDepth 100000
set_option maxHeartbeats 4000000
/-! all(e for x in it), any(e for x in it): any element, calls of defs in it too. -/
namespace KG
open PySem PySem.Spec PyProof.Rows L2 GxR GenW KT
theorem over_cs {A : Around} {elt tg iter : Expr} {ifs : List Expr} {scope : Scope} {pos : Pos} {it acc : Value} {env : Env} : A.over (.compStart (.GeneratorExp elt [⟨tg, iter, ifs, 0⟩] scope pos) 0 it acc env) [] = A.deeper env := rfl
theorem over_cl {A : Around} {elt tg iter : Expr} {ifs : List Expr} {scope : Scope} {pos : Pos} {it acc : Value} {env : Env} : A.over (.compLoop (.GeneratorExp elt [⟨tg, iter, ifs, 0⟩] scope pos) 0 it acc env) [] = A.deeper env := rfl
/-- the context of a generator expression's frame: entered at s -/
abbrev gX (X : Cx) (s : Shared) (H : Hp) (cenv : Env) (fp : List Addr) : Cx := { X with s_0 := s, H_0 := H, env := cenv, A := X.A.in1.in1.deeper cenv, outer := X.stack, stack := cenv :: X.stack, ex := fp, fn := fun _ => false, pn := [], xe := fun _ _ => False }
theorem room_gen {k : Nat} {A : Around} {env : Env} (r : Room (k + 3) A) : Room k (A.in1.in1.deeper env) := (r.in1.in1).deeper env
structure GnOk (N : List Str) (sc scope : Scope) (own : List (Str × Nat)) : Prop where
  blk : BlkOk N sc scope own
  co : scope.isCoroutine = false
  cell : ∀ y ∈ scope.names, y.2 ≠ .cell
  dot : scope.names.lookup (".0" : Str) = some NameKind.local
def gnC (N : List Str) (sc scope : Scope) (own : List (Str × Nat)) : Bool :=
  blkC N sc scope own && (!scope.isCoroutine && ((scope.names.all fun y => decide (y.2 ≠ .cell)) && decide (scope.names.lookup (".0" : Str) = some NameKind.local)))
theorem gnOk_by {N : List Str} {sc scope : Scope} {own : List (Str × Nat)} (h : gnC N sc scope own = true) : GnOk N sc scope own := by
  unfold gnC at h
  obtain ⟨h1, h⟩ := Bool.and_eq_true_iff.mp h
  obtain ⟨h2, h⟩ := Bool.and_eq_true_iff.mp h
  obtain ⟨h3, h4⟩ := Bool.and_eq_true_iff.mp h
  refine ⟨blkOk_by h1, ?_, fun y hy => of_decide_eq_true (List.all_eq_true.mp h3 y hy), of_decide_eq_true h4⟩
  cases e : scope.isCoroutine with
  | false => rfl
  | true =>
    rw [e] at h2
    cases h2
section
variable {X : Cx} {pins : List (Addr × Obj)} {σ : L2.St} {H : Hp} {s : Shared}
theorem Inv_gens {X : Cx} {pins : List (Addr × Obj)} {σ : L2.St} {H : Hp} {s : Shared} {g' : Array GenState} {t' : Nat} (I : L2.Inv X pins σ H s) (hg : AllBare g') : L2.Inv X pins σ H { s with gens := g', toks := t' } := by
  refine I.step (h' := s.heap) (g' := g') (t' := t') (d' := s.drawn) (ch := []) (fun b hb => absurd hb (by simp)) (fun b o _ _ _ e _ => e) (fun b o _ _ _ e _ => ⟨o.slots, e⟩) (fun b o _ _ n => n) (fun b o _ e => ⟨o, e⟩) (fun _ _ e => e) (fun _ _ _ e => e) (fun b ps e => ⟨#[], by rw [e]; simp⟩) (fun m hm => hm) I.hok hg
theorem gen_start {scope : Scope} {own : List (Str × Nat)} {fp : List Addr} {code : Value} {h' : Heap} {o : Obj} {gs : GenState} {tk : Nat} {m0 : Str → Option Value} (I : L2.Inv X pins σ H s) (ok : GnOk X.N X.env.scope scope own) (hN : X.N.Nodup) (hfp : ∀ b ∈ fp, FpOk X pins H b ∧ b < s.heap.objs.size)
    (hn : h'.Ns s.heap.objs.size m0) (hsz : h'.objs.size = s.heap.objs.size + 1) (kp : ∀ b o, s.heap.get? b = some o → h'.get? b = some o) (hod : ∀ v, o.data ≠ .cell v) (hoc : o.isFreed = false) (hg : gs.bare = true) :
    L2.Inv (gX X s H (genEnv scope (cloFrom X.env.cells scope.names []) s.heap.objs.size code builtinsNs X.env) fp) [(h'.objs.size, o)] (wipe σ (own.map (·.2))) H { s with gens := s.gens.push gs, toks := tk, heap := h'.push o } := by
  have bk := ok.blk
  have hfree : ∀ y ∈ scope.names, y.2 = .free → ∃ c, X.env.cells.lookup y.1 = some c := fun y hy e => (bk.free y hy e).elim (fun k => I.ok.has _ (.inl k)) fun k => I.ok.has _ (.inr k)
  have kp2 : ∀ b u, s.heap.get? b = some u → (h'.push o).get? b = some u := fun b u e => Heap.get?_push_of_some _ (kp b u e)
  have cm : ∀ {y c}, (cloFrom X.env.cells scope.names []).lookup y = some c → X.env.cells.lookup y = some c ∧ (y, NameKind.free) ∈ scope.names := fun {y c} e => by
    rcases cloFrom_mem (PySem.mem_of_lookup e) with z | ⟨h1, rfl⟩
    · cases z
    · obtain ⟨c, hc⟩ := hfree _ h1 rfl
      rw [hc]
      exact ⟨rfl, h1⟩
  have clt : ∀ {y c}, X.env.cells.lookup y = some c → c < s.heap.objs.size := fun {y c} e => by
    obtain ⟨v, z⟩ := I.cell _ _ e
    exact z.lt
  have look : ∀ {y}, scope.names.lookup y = some .free → ∃ c, (cloFrom X.env.cells scope.names []).lookup y = some c ∧ X.env.cells.lookup y = some c := fun {y} hl => by
    obtain ⟨c, e⟩ := mem_lookup (cloFrom_has (cells := X.env.cells) (acc := []) (PySem.mem_of_lookup hl))
    exact ⟨c, e, (cm e).1⟩
  have bLt : ∀ b ∈ fp, b ≠ s.heap.objs.size := fun b hb => Nat.ne_of_lt (hfp b hb).2
  have kind_of : ∀ {y k}, scope.names.lookup y = some k → k = .cell ∨ k = .free → scope.names.lookup y = some .free := fun {y k} e hk => by
    rcases hk with rfl | rfl
    · exact absurd rfl (ok.cell _ (PySem.mem_of_lookup e))
    · exact e
  have okB : (gX X s H (genEnv scope (cloFrom X.env.cells scope.names []) s.heap.objs.size code builtinsNs X.env) fp).Ok := by
    refine { mod := I.ok.mod, kind := bk.kind, glob := I.ok.glob, blt := rfl, above := Nat.le_refl _, inj := fun y z c e1 e2 => I.ok.inj y z c (cm e1).1 (cm e2).1, has := fun y hy => ?_, cab := fun y c z _ => absurd z Bool.false_ne_true, hd := I.ok.hd, frames := Around.frames_deeper I.ok.frames, stk := .inr ⟨rfl, rfl⟩, exf := fun b hb => ⟨bLt b hb, fun y c e z => ?_⟩, bs := I.bs, bsz := Nat.le_trans I.ok.bsz I.sz, noex := fun b u e hb => ?_, exfs := fun b hb z => ?_, funs := I.stack, frf := I.stkFree }
    · rcases hy with hy | hy
      · obtain ⟨c, e, _⟩ := look (kind_of hy (.inl rfl))
        exact ⟨c, e⟩
      · obtain ⟨c, e, _⟩ := look hy
        exact ⟨c, e⟩
    · exact (hfp b hb).1.2.2.2.2.1 y c (cm e).1 z
    · rcases (hfp b hb).1.2.2.2.1 with z | z
      · exact I.ok.noex b u e z
      · exact absurd (Nat.lt_of_lt_of_le (Heap.lt_size e) (Nat.le_trans I.ok.bsz z)) (Nat.lt_irrefl _)
    · rcases List.mem_cons.mp (I.stkSub b z) with z | z
      · exact (hfp b hb).1.2.1 z
      · exact (hfp b hb).1.2.2.1 z
  have fsLt : ∀ b ∈ frs X.stack, b < s.heap.objs.size := fun b hb => by
    rcases List.mem_cons.mp (I.stkSub b hb) with z | z
    · rw [z]; exact I.lt
    · exact Nat.lt_of_not_le fun q => I.nofs q z
  refine ⟨okB, rfl, I.bare.push hg, Un.kept kp2, ⟨m0, hn.push _, fun i y av e1 e2 e3 => ?_⟩, fun y c e => ?_, I.hok.fresh (Nat.le_refl _), fun y c e => I.freeC y c (cm e).1, fun p hp => ?_, I.hok.kept kp2, by rw [wipe_length]; exact I.len⟩
  · obtain ⟨e2, hne⟩ := wipe_some e2
    have no : ∀ k, scope.names.lookup y = some k → k = .local ∨ k = .cell → False := fun k hk hh => by
      rcases bk.own _ (PySem.mem_of_lookup hk) hh with e' | e'
      · obtain ⟨p, hp, hpy⟩ := List.mem_map.mp e'
        have e3 := bk.ix p hp
        have q : p.1 = y := hpy
        rw [q] at e3
        exact hne (List.mem_map.mpr ⟨p, hp, nodup_ix hN e3 e1⟩)
      · exact e' (List.mem_of_getElem? e1)
    have fr : scope.names.lookup y = some .free := by
      have e3 : Vis scope y := e3
      rcases e3 with e3 | e3 | e3
      · exact (no _ e3 (.inl rfl)).elim
      · exact (no _ e3 (.inr rfl)).elim
      · exact e3
    obtain ⟨m, _, hl⟩ := I.loc
    have hv : Vis X.env.scope y := (bk.free _ (PySem.mem_of_lookup fr) rfl).elim (fun k => .inr (.inl k)) fun k => .inr (.inr k)
    obtain ⟨u, r, q⟩ := hl i y av e1 e2 hv
    obtain ⟨c, h1, h2⟩ := look fr
    refine ⟨u, r, .inr ⟨.inr fr, c, h1, ?_⟩⟩
    rcases q with ⟨k, _⟩ | ⟨_, c', e', z⟩
    · have k : X.env.scope.names.lookup y = some .local := k
      rcases bk.free _ (PySem.mem_of_lookup fr) rfl with k' | k' <;> rw [show X.env.scope.names.lookup y = _ from k'] at k <;> cases k
    · rw [h2] at e'
      cases e'
      exact z.keeps kp2
  · obtain ⟨v, z⟩ := I.cell y c (cm e).1
    exact ⟨v, z.keeps kp2⟩
  · obtain rfl : p = (h'.objs.size, o) := List.mem_singleton.mp hp
    refine ⟨Heap.get?_push_size _ hoc, I.hok.fresh (by rw [hsz]; exact Nat.le_succ _), ?_, fun z => ?_, hod⟩
    · show h'.objs.size ≠ s.heap.objs.size
      rw [hsz]
      exact Nat.succ_ne_self _
    · have q : h'.objs.size < s.heap.objs.size := fsLt _ z
      rw [hsz] at q
      exact Nat.lt_irrefl _ (Nat.lt_trans (Nat.lt_succ_self _) q)
end
section
variable {X : Cx}
/-- what the consumer sees at a yield: b0 lets it go on -/
def gY (X : Cx) (pa : List (Addr × Obj)) (σ : L2.St) (fp : List Addr) (tn : Nat → Heap → Prop) (b0 : Bool) (W : Nat → Nat → Hp → Prop) (Qf : Hp → Prop) : Protocol := fun n _ v s kap =>
  ∃ (i : Nat) (H : Hp) (b : Bool), v = .bool b ∧ L2.Inv X pa σ H s ∧ tn i s.heap ∧ (∀ b ∈ fp, H b = none) ∧ (b ≠ b0 → Qf H) ∧
    (b = b0 → (∃ m, m < n ∧ W i m H) ∧ ∀ s' : Shared, s'.heap = s.heap → s'.os = s.os → s'.drawn = s.drawn → AllBare s'.gens → kap (.send .none) s')
def gR (X : Cx) (pa : List (Addr × Obj)) (σ : L2.St) (Qe : Hp → Prop) : Nat → Shared → Shared → Prop := fun _ _ s => ∃ H, L2.Inv X pa σ H s ∧ Qe H
/-- the turns of such a walk, as the reading tells them -/
def Turns (J : It) (g : TG) (te : TE) (σ : L2.St) (vs : List Nat) (b0 : Bool) (W : Nat → Nat → Hp → Prop) (Qe Qf : Hp → Prop) : Prop := ∀ i m H, W i m H →
  (J.stop i H ∧ Qe H) ∨ (J.go i H ∧ ∃ Nx : Hp → Prop, (∀ H', Nx H' → ∃ m', m' < m ∧ W (i + 1) m' H') ∧ ∀ x H', J.yld i H x H' → g x (wipe σ vs) H' fun σ2 H2 => wipe σ2 vs = wipe σ vs ∧ te σ2 H2 fun y H3 => ∃ b, y = .bl b ∧ if b = b0 then Nx H3 else Qf H3)
theorem seg_turns {A : Around} {elt tg iter : Expr} {scope : Scope} {pos : Pos} {it : Addr} {fp : List Addr} {tn : Nat → Heap → Prop} {J : It} {g : TG} {te : TE} {σ : L2.St} {vs : List Nat} {b0 : Bool} {W : Nat → Nat → Hp → Prop} {Qe Qf : Hp → Prop} {pa : List (Addr × Obj)}
    (hA : A.deeper X.env = X.A) (hc : X.calm = true) (hpn : X.pn = []) (hpa : ∀ p ∈ pa, p.1 ∉ fp) (hex : X.ex = fp) (hco : X.env.scope.isCoroutine = false) (T : Turn X.prog X.w X.K tg J fp it tn) (pg : PG X tg g) (pe : PE X elt te) (hxe : X.xe = fun _ _ => False)
    (turn : Turns J g te σ vs b0 W Qe Qf) :
    ∀ (n m i : Nat) (s₀ s : Shared) (H : Hp), m < n → W i m H → L2.Inv X pa (wipe σ vs) H s → tn i s.heap → (∀ b ∈ fp, H b = none) →
      Seg (model X.prog X.w) A (fun n s₀ r s₁ => r = .ok .next ∧ gR X pa (wipe σ vs) Qe n s₀ s₁) (gY X pa (wipe σ vs) fp tn b0 W Qf) n s₀ (.compLoop (.GeneratorExp elt [⟨tg, iter, [], 0⟩] scope pos) 0 (.ref it) .none X.env)
        ((model X.prog X.w).den (.compLoop (.GeneratorExp elt [⟨tg, iter, [], 0⟩] scope pos) 0 (.ref it) .none X.env)) [] s := by
  have stat : ∀ {σ' : L2.St} {H' : Hp} {s' : Shared}, L2.Inv X pa σ' H' s' → (∀ b ∈ fp, H' b = none) → ∀ b ∈ fp, FpOk X pa H' b := fun {σ' H' s'} I' hn b hb => by
    have hb' : b ∈ X.ex := by rw [hex]; exact hb
    refine ⟨hn b hb, (I'.ok.exf b hb').1, I'.ok.exfs b hb', .inl hb', fun x c e => (I'.ok.exf b hb').2 x c e, fun p hp z => ?_⟩
    rw [hpn, List.nil_append] at hp
    exact hpa p hp (z ▸ hb)
  have ov : A.over (.compLoop (.GeneratorExp elt [⟨tg, iter, [], 0⟩] scope pos) 0 (.ref it) .none X.env) [] = X.A := by
    rw [over_cl]
    exact hA
  intro n
  induction n with
  | zero => intro m i s₀ s H h; exact absurd h (Nat.not_lt_zero _)
  | succ n ih =>
    intro m i s₀ s H hm w I st nf
    show Seg _ A _ _ _ s₀ _ ((compTurn (.GeneratorExp elt [⟨tg, iter, [], 0⟩] scope pos) 0 (.ref it) .none X.env).onRaise (leaving X.env)) [] s
    rw [compTurn_gen, Sem.onRaise_eq_wrap]
    refine seg_bind_wrap (wpAny_standAt ?_)
    rcases turn i m H w with ⟨stop, qe⟩ | ⟨go, Nx, hNx, step⟩
    · refine seg_bind_wrap ?_
      rw [ov]
      refine thnF (T.done X rfl rfl rfl hc i pa s _ H (fun _ _ => False) I (stat I nf) st stop) fun r s1 ⟨hr, I1⟩ => ?_
      subst hr
      exact seg_end (.ok .next) ⟨rfl, H, I1, qe⟩
    · refine seg_bind_wrap ?_
      rw [ov]
      refine thnF (T.item X rfl rfl rfl hc i pa s _ H (fun _ _ => False) I (stat I nf) st go) fun r s1 ⟨u, hr, h1⟩ => ?_
      subst hr
      refine seg_bind_wrap ?_
      rw [ov]
      refine thnF h1 fun _ s2 ⟨x, H2, I2, r2, y2, st2, n2⟩ => ?_
      have I2' := I2.pinned (stat I2 n2) (T.obj _ _ st2)
      refine seg_bind_wrap ?_
      rw [ov]
      have e0 : X.xe = fun _ _ => False := hxe
      have pgr := pg.run _ s2 _ H2 x u _ I2' r2 (step x H2 y2)
      rw [e0] at pgr
      refine thnF pgr fun _ s3 ⟨σ3, H3, I3, hw3, q3⟩ => ?_
      refine seg_bind_wrap ?_
      simp only [List.forIn_nil]
      refine wpAny_pure ?_
      simp only [if_true]
      have hy : ∀ v, yieldOut X.env v = yieldValue v := fun v => by simp only [yieldOut, hco, Bool.false_eq_true, if_false]
      simp only [hy]
      rw [Sem.bind_eq_wrap', Sem.bind_eq_wrap', Sem.wrap_wrap, Sem.wrap_wrap]
      refine seg_wrap ?_
      rw [ov]
      have per := pe.run _ s3 σ3 H3 _ I3 q3
      rw [e0] at per
      refine thnF per fun z s4 ⟨yv, H4, I4, r4, b, eb, q4⟩ => ?_
      subst eb
      obtain rfl : z = Value.bool b := r4
      have pin' : ∀ b ∈ fp, ∀ o, s2.heap.get? b = some o → s4.heap.get? b = some o ∧ H4 b = none := fun b hb o e =>
        let z := I4.pin (b, o) (List.mem_append_right _ (List.mem_append_right _ (mem_pinsAt hb e)))
        ⟨z.1, z.2.1⟩
      have hl : (wipe σ vs).length = σ3.length := by rw [← hw3, wipe_length]
      have J4 : L2.Inv X pa (wipe σ vs) H4 s4 := (I4.pins_of fun p hp => I4.pin p (List.mem_append_right _ (List.mem_append_left _ hp))).weak hl fun j v e => by
        rw [← hw3] at e
        exact (wipe_some e).1
      have st4 : tn (i + 1) s4.heap := T.keep _ _ _ st2 fun b hb o e => (pin' b hb o e).1
      have n4 : ∀ b ∈ fp, H4 b = none := fun b hb => by
        obtain ⟨o, e, _⟩ := T.obj _ _ st2 b hb
        exact (pin' b hb o e).2
      refine seg_at (seg_yield rfl rfl rfl ⟨i + 1, H4, b, rfl, J4, st4, n4, fun hb => ?_, fun hb => ?_⟩)
      · rw [if_neg hb] at q4
        exact q4
      · rw [if_pos hb] at q4
        obtain ⟨m', hm', w'⟩ := hNx H4 q4
        refine ⟨⟨m', by omega, w'⟩, fun s' h1 h2 h3 h4 => ?_⟩
        refine seg_again rfl (ih m' (i + 1) s' s' H4 (by omega) w' ?_ (by rw [h1]; exact st4) n4)
        have J5 := Inv_gens (g' := s'.gens) (t' := s'.toks) J4 h4
        obtain ⟨hp', g', d', t', o'⟩ := s'
        obtain rfl : hp' = s4.heap := h1
        obtain rfl : o' = s4.os := h2
        obtain rfl : d' = s4.drawn := h3
        exact J5
theorem seg_begin {A : Around} {elt tg iter : Expr} {scope : Scope} {pos : Pos} {it : Addr} {R : GenEnd} {Y : Protocol} {n : Nat} {s₀ s : Shared} {env : Env}
    (hs : ∀ (B : Around) (Q : Value → Shared → Prop) (E : Value → Shared → Prop), Q (.ref it) s → wpAny (model X.prog X.w) B (pyIter (.ref it)) Q E s)
    (loop : Seg (model X.prog X.w) A R Y n s₀ (.compLoop (.GeneratorExp elt [⟨tg, iter, [], 0⟩] scope pos) 0 (.ref it) .none env) ((model X.prog X.w).den (.compLoop (.GeneratorExp elt [⟨tg, iter, [], 0⟩] scope pos) 0 (.ref it) .none env)) [] s) :
    Seg (model X.prog X.w) A R Y n s₀ (.compStart (.GeneratorExp elt [⟨tg, iter, [], 0⟩] scope pos) 0 (.ref it) .none env) ((model X.prog X.w).den (.compStart (.GeneratorExp elt [⟨tg, iter, [], 0⟩] scope pos) 0 (.ref it) .none env)) [] s := by
  show Seg _ A _ _ _ s₀ _ ((compStart (.GeneratorExp elt [⟨tg, iter, [], 0⟩] scope pos) 0 (.ref it) .none env).onRaise (leaving env)) [] s
  unfold compStart
  rw [Sem.onRaise_eq_wrap]
  show Seg _ A R Y n s₀ _ ((ask >>= _).wrap _ _ _ _) [] s
  refine seg_bind_wrap (wpAny_askSetting ?_)
  split
  · exact seg_again rfl loop
  · first
      | exact seg_bind_wrap (wpAny_rule (seg_bind_wrap (wpAny_standAt (seg_bind_wrap (hs _ _ _ (seg_again rfl loop))))))
      | (refine seg_bind_wrap (wpAny_rule ?_); show Seg _ A R Y n s₀ _ ((standAt iter.pos >>= _).wrap _ _ _ _) [] s; exact seg_bind_wrap (wpAny_standAt (seg_bind_wrap (hs _ _ _ (seg_again rfl loop)))))
/-- a generator expression's object stands ready -/
def GRdy (X : Cx) (A : Around) (pa : List (Addr × Obj)) (σ : L2.St) (fp : List Addr) (tn : Nat → Heap → Prop) (b0 : Bool) (W : Nat → Nat → Hp → Prop) (Qe Qf : Hp → Prop) (a : Addr) (g n : Nat) (s : Shared) : Prop :=
  s.heap.IsGen a g ∧ s.heap.NoLimit ∧ ∃ gs, s.gens[g]? = some gs ∧ gs.Goes (model X.prog X.w) A (fun n s₀ r s₁ => r = .ok .next ∧ gR X pa σ Qe n s₀ s₁) (gY X pa σ fp tn b0 W Qf) n (.send .none) (s.setGen g .running)
theorem all_loop {A B : Around} {pa : List (Addr × Obj)} {σ : L2.St} {fp : List Addr} {tn : Nat → Heap → Prop} {W : Nat → Nat → Hp → Prop} {Qe Qf : Hp → Prop} {a : Addr} {g : Nat} {R : Result → Shared → Prop} (hB : A.in1.in1 = B) (hh : A.handled = none) (hd : A.depth < recursionLimit)
    (hag : ∀ {σ' : L2.St} {H' : Hp} {s' : Shared}, L2.Inv X pa σ' H' s' → s'.heap.IsGen a g)
    (he : ∀ H' s', L2.Inv X pa σ H' s' → Qe H' → R (.ok (.ret (.bool true))) s') (hf : ∀ H' s', L2.Inv X pa σ H' s' → Qf H' → R (.ok (.ret (.bool false))) s') :
    ∀ (n : Nat) (s : Shared), GRdy X B pa σ fp tn true W Qe Qf a g n s → codeAny (model X.prog X.w) A (.builtin "all.loop" ⟨[.ref a], []⟩) R s := by
  subst hB
  have step : ∀ (n : Nat) (s : Shared), (∀ m s', n = m + 1 → GRdy X A.in1.in1 pa σ fp tn true W Qe Qf a g m s' → codeAny (model X.prog X.w) A (.builtin "all.loop" ⟨[.ref a], []⟩) R s') → GRdy X A.in1.in1 pa σ fp tn true W Qe Qf a g n s → codeAny (model X.prog X.w) A (.builtin "all.loop" ⟨[.ref a], []⟩) R s := by
    intro n s ih ⟨hg, hl, gs, hgs, hgo⟩
    have hgl : g < s.gens.size := (Array.getElem?_eq_some_iff.mp hgs).1
    refine codeAny_builtin F.entry_all_loop ?_
    rw [Around.under_plainId F.plain_all_loop _]
    show wpAny _ A.in1 (pyNext (.ref a) >>= _) _ _ s
    refine wpAny_bind (wpAny_gsz (n := g + 1) hgl (wpAny_pyNext_genexpQ (A := A.in1) hh hl hd hg hgs hgo (fun v s₁ gs' hbare hv hsz => ?_) (fun s₁ hp h' hk hsz => ?_)))
    · obtain ⟨i, H', b, rfl, I, st, nf, qf, qn⟩ := hv
      have hsz1 : g < s₁.gens.size := by
        have q : (s₁.setGen g gs').gens.size = s₁.gens.size := setGen_size _ _ _
        have q2 : g + 1 ≤ (s₁.setGen g gs').gens.size := hsz
        omega
      have J : L2.Inv X pa σ H' (s₁.setGen g gs') := Inv_gens I (allBare_setGen I.bare hbare)
      refine wpAny_bind (wpAny_holding (wpAny_truthy_bool ?_))
      refine wpAny_bind (wpAny_letGo ?_)
      cases b with
      | true =>
        obtain ⟨_, kap⟩ := qn rfl
        simp only [if_true]
        cases n with
        | zero => exact (kap s₁ rfl rfl rfl I.bare).elim
        | succ m =>
          refine wpAny_pure ⟨plainId_quiet F.plain_all_loop _, ih m _ rfl ⟨hag J, J.nolimit, gs', setGen_at hsz1, ?_⟩⟩
          exact kap _ rfl rfl rfl (allBare_setGen J.bare rfl)
      | false =>
        simp only [Bool.false_eq_true, if_false]
        exact wpAny_bind (wpAny_rule (wpAny_pure (hf H' _ J (qf Bool.false_ne_true))))
    · obtain ⟨H', I, qe⟩ := hp
      refine wpAny_bind (wpAny_rule (wpAny_pure (he H' _ ?_ qe)))
      have J : L2.Inv X pa σ H' (s₁.setGen g .finished) := Inv_gens I (allBare_setGen I.bare rfl)
      exact J.kept (t' := (s₁.setGen g .finished).toks) hk
  intro n
  induction n with
  | zero => exact fun s => step 0 s fun m s' h => nomatch h
  | succ n ih =>
    refine fun s => step (n + 1) s fun m s' h => ?_
    obtain rfl : n = m := Nat.succ.inj h
    exact ih s'
theorem any_loop {A B : Around} {pa : List (Addr × Obj)} {σ : L2.St} {fp : List Addr} {tn : Nat → Heap → Prop} {W : Nat → Nat → Hp → Prop} {Qe Qf : Hp → Prop} {a : Addr} {g : Nat} {R : Result → Shared → Prop} (hB : A.in1.in1 = B) (hh : A.handled = none) (hd : A.depth < recursionLimit)
    (hag : ∀ {σ' : L2.St} {H' : Hp} {s' : Shared}, L2.Inv X pa σ' H' s' → s'.heap.IsGen a g)
    (he : ∀ H' s', L2.Inv X pa σ H' s' → Qe H' → R (.ok (.ret (.bool false))) s') (hf : ∀ H' s', L2.Inv X pa σ H' s' → Qf H' → R (.ok (.ret (.bool true))) s') :
    ∀ (n : Nat) (s : Shared), GRdy X B pa σ fp tn false W Qe Qf a g n s → codeAny (model X.prog X.w) A (.builtin "any.loop" ⟨[.ref a], []⟩) R s := by
  subst hB
  have step : ∀ (n : Nat) (s : Shared), (∀ m s', n = m + 1 → GRdy X A.in1.in1 pa σ fp tn false W Qe Qf a g m s' → codeAny (model X.prog X.w) A (.builtin "any.loop" ⟨[.ref a], []⟩) R s') → GRdy X A.in1.in1 pa σ fp tn false W Qe Qf a g n s → codeAny (model X.prog X.w) A (.builtin "any.loop" ⟨[.ref a], []⟩) R s := by
    intro n s ih ⟨hg, hl, gs, hgs, hgo⟩
    have hgl : g < s.gens.size := (Array.getElem?_eq_some_iff.mp hgs).1
    refine codeAny_builtin F.entry_any_loop ?_
    rw [Around.under_plainId F.plain_any_loop _]
    show wpAny _ A.in1 (pyNext (.ref a) >>= _) _ _ s
    refine wpAny_bind (wpAny_gsz (n := g + 1) hgl (wpAny_pyNext_genexpQ (A := A.in1) hh hl hd hg hgs hgo (fun v s₁ gs' hbare hv hsz => ?_) (fun s₁ hp h' hk hsz => ?_)))
    · obtain ⟨i, H', b, rfl, I, st, nf, qf, qn⟩ := hv
      have hsz1 : g < s₁.gens.size := by
        have q : (s₁.setGen g gs').gens.size = s₁.gens.size := setGen_size _ _ _
        have q2 : g + 1 ≤ (s₁.setGen g gs').gens.size := hsz
        omega
      have J : L2.Inv X pa σ H' (s₁.setGen g gs') := Inv_gens I (allBare_setGen I.bare hbare)
      refine wpAny_bind (wpAny_holding (wpAny_truthy_bool ?_))
      refine wpAny_bind (wpAny_letGo ?_)
      cases b with
      | true =>
        simp only [if_true]
        exact wpAny_bind (wpAny_rule (wpAny_pure (hf H' _ J (qf fun z => nomatch z))))
      | false =>
        obtain ⟨_, kap⟩ := qn rfl
        simp only [Bool.false_eq_true, if_false]
        cases n with
        | zero => exact (kap s₁ rfl rfl rfl I.bare).elim
        | succ m =>
          refine wpAny_pure ⟨plainId_quiet F.plain_any_loop _, ih m _ rfl ⟨hag J, J.nolimit, gs', setGen_at hsz1, ?_⟩⟩
          exact kap _ rfl rfl rfl (allBare_setGen J.bare rfl)
    · obtain ⟨H', I, qe⟩ := hp
      refine wpAny_bind (wpAny_rule (wpAny_pure (he H' _ ?_ qe)))
      have J : L2.Inv X pa σ H' (s₁.setGen g .finished) := Inv_gens I (allBare_setGen I.bare rfl)
      exact J.kept (t' := (s₁.setGen g .finished).toks) hk
  intro n
  induction n with
  | zero => exact fun s => step 0 s fun m s' h => nomatch h
  | succ n ih =>
    refine fun s => step (n + 1) s fun m s' h => ?_
    obtain rfl : n = m := Nat.succ.inj h
    exact ih s'
/-- b0: true for all, false for any; vs: the expression's own slots; P: the def's table -/
def tAG (b0 : Bool) (wi : TI) (g : TG) (te : TE) (vs : List Nat) (P : Addr) : TE := fun σ H Q => wi σ H fun J H1 => TabG H1 P ∧ ∀ H2, Tabbed P H1 H2 → ∃ W : Nat → Nat → Hp → Prop, (∃ m, W 0 m H2) ∧ Turns J g te σ vs b0 W (fun H => Q (.bl b0) H) fun H => Q (.bl (!b0)) H
variable {pins : List (Addr × Obj)} {σ : L2.St} {H : Hp} {s : Shared}
theorem gen_make {c P : Addr} {elt tg iter : Expr} {scope : Scope} {gpos : Pos} {own : List (Str × Nat)} {wi : TI} {g : TG} {te : TE} {k : Nat} {b0 : Bool} {Q : VK} {Q' : Value → Shared → Prop} (hc : X.calm = true) (hN : X.N.Nodup)
    (hr : Room k X.A) (TB : TabB X.base X.mg c P) (hcode : X.env.code = .ref c) (ok : GnOk X.N X.env.scope scope own) (hi : PI X tg iter wi)
    (hg : ∀ (s : Shared) (H : Hp) (cl : List (Str × Addr)) (C : Addr) (code : Value) (fp : List Addr), PG (gX X s H (genEnv scope cl C code builtinsNs X.env) fp) tg g)
    (he : ∀ (s : Shared) (H : Hp) (cl : List (Str × Addr)) (C : Addr) (code : Value) (fp : List Addr), PE (gX X s H (genEnv scope cl C code builtinsNs X.env) fp) elt te)
    (hs : ∀ v, genFold iter X.env v = pure v) (I : L2.Inv X pins σ H s) (h : tAG b0 wi g te (own.map (·.2)) P σ H Q)
    (hQ : ∀ (Y : Cx) (pa : List (Addr × Obj)) (fp : List Addr) (tn : Nat → Heap → Prop) (W : Nat → Nat → Hp → Prop) (a : Addr) (gn n : Nat) (s5 : Shared), Y.prog = X.prog → Y.w = X.w → (∀ {σ' : L2.St} {H' : Hp} {s' : Shared}, L2.Inv Y pa σ' H' s' → s'.heap.IsGen a gn) →
      (∀ H' s', L2.Inv Y pa (wipe σ (own.map (·.2))) H' s' → L2.Inv X pins σ H' s') → s5.heap.IsGen a gn → GRdy Y X.A.in1.in1 pa (wipe σ (own.map (·.2))) fp tn b0 W (fun H => Q (.bl b0) H) (fun H => Q (.bl (!b0)) H) a gn n s5 → Q' (.ref a) s5) :
    wpAny (model X.prog X.w) X.A (eval (.GeneratorExp elt [⟨tg, iter, [], 0⟩] scope gpos) X.env) Q' X.xe s := by
  have bk := ok.blk
  have hfree : ∀ y ∈ scope.names, y.2 = .free → ∃ c, X.env.cells.lookup y.1 = some c := fun y hy e => (bk.free y hy e).elim (fun k => I.ok.has _ (.inl k)) fun k => I.ok.has _ (.inr k)
  refine wpAny_GeneratorExp_make ok.co (closure_ok hfree) ok.cell ok.dot bk.kind (by have := hr.dp; omega) (thn (hi.run pins s σ H _ I h) fun xv s1 hx => thn hx fun itv s2 h2 => ?_) hs
  obtain ⟨it, fp, tn, J, H1, rfl, I1, T, st, hf, ⟨ps, hP, ht⟩, q⟩ := h2
  have hPs : s2.heap.get? P = some { cls := .none, data := .fields ps } := I1.hok P _ hP
  have cd : PySem.W.CodeHd s2.heap c P := TB.code.keeps fun b u e => I1.bk b u e
  have nP : ∀ b ∈ fp, b ≠ P := fun b hb z => by
    have q := (hf b hb).1
    rw [z, hP] at q
    cases q
  have cont : ∀ (code : Value) (h3 : Heap) (tk : Nat) (more : Array Value), Heap.ExtBut P s2.heap h3 → s2.heap.objs.size ≤ h3.objs.size → h3.get? P = some { cls := .none, data := .fields (ps ++ more) } → TriplesOk (ps ++ more).toList →
      wpAny (model X.prog X.w) X.A (builtinsFor X.env.globals X.env.builtins) (fun bi s₄ => ∀ h', h'.Ns s₄.heap.objs.size (fun y => if y = ".0" then some (Value.ref it) else none) → Heap.SameBut s₄.heap.objs.size (s₄.heap.push { cls := .type "frame", data := .dict #[] }) h' →
          Q' (.ref h'.objs.size) { s₄ with
            gens := s₄.gens.push (.fresh (.compStart (.GeneratorExp elt [⟨tg, iter, [], 0⟩] scope gpos) 0 (.ref it) .none (genEnv scope (cloFrom X.env.cells scope.names []) s₄.heap.objs.size code bi X.env)))
            toks := s₄.toks + 1 + 1 + 1
            heap := h'.push { cls := .type "generator", data := .fields #[.int s₄.gens.size 0, .str "<genexpr>" (s₄.toks + 1), .str (X.env.qual ++ "<genexpr>") (s₄.toks + 1 + 1)] } }) X.xe { s2 with heap := h3, toks := tk } := by
    intro code h3 tk more hx hsz hP3 ht3
    obtain ⟨bm, ob, e1, e2, e3, e4, e5, e6, e7, e8⟩ := TB.bm
    have J3 : L2.Inv X pins σ (upd H1 P (.tbl (ps ++ more))) { s2 with heap := h3, toks := tk } := inv_tab (more := more) (h' := h3) (g' := s2.gens) (d' := s2.drawn) (t' := tk) I1 hP (fun b u hb e => hx b u hb e) hP3 I1.bare
    refine wpAny_builtinsFor (m := X.mg) (by rw [I1.ok.glob]; exact J3.mod.glob.keeps J3.bk) e1 e2 (J3.bk _ _ e5) e6 e7 e8 ?_
    intro h' hn' hs'
    obtain ⟨W, ⟨m0, w0⟩, turn⟩ := q (upd H1 P (.tbl (ps ++ more))) ⟨⟨ps ++ more, upd_same, ht3⟩, fun b hb => upd_ne hb⟩
    have hsz' : h'.objs.size = h3.objs.size + 1 := by rw [hs'.1, Heap.size_push]
    have kp : ∀ b o, h3.get? b = some o → h'.get? b = some o := fun b o e => hs'.extBut b o (Nat.ne_of_lt (Heap.lt_size e)) (Heap.get?_push_of_some _ e)
    have hf3 : ∀ b ∈ fp, FpOk X pins (upd H1 P (.tbl (ps ++ more))) b ∧ b < h3.objs.size := fun b hb => by
      obtain ⟨o, e, _⟩ := T.obj _ _ st b hb
      refine ⟨⟨?_, (hf b hb).2⟩, Nat.lt_of_lt_of_le (Heap.lt_size e) hsz⟩
      rw [upd_ne (nP b hb)]
      exact (hf b hb).1
    have st3 : tn 0 h3 := T.keep _ _ _ st fun b hb o e => hx b o (nP b hb) e
    have st4 : tn 0 h' := T.keep _ _ _ st3 fun b hb o e => kp b o e
    have I5 := gen_start (fp := fp) (own := own) (scope := scope) (code := code) (h' := h') (o := { cls := .type "generator", data := .fields #[.int s2.gens.size 0, .str "<genexpr>" (tk + 1), .str (X.env.qual ++ "<genexpr>") (tk + 1 + 1)] })
      (gs := .fresh (.compStart (.GeneratorExp elt [⟨tg, iter, [], 0⟩] scope gpos) 0 (.ref it) .none (genEnv scope (cloFrom X.env.cells scope.names []) h3.objs.size code builtinsNs X.env))) (tk := tk + 1 + 1 + 1) J3 ok hN hf3 hn' hsz' kp (fun v z => by cases z) rfl rfl
    have pgx := hg { s2 with heap := h3, toks := tk } (upd H1 P (.tbl (ps ++ more))) (cloFrom X.env.cells scope.names []) h3.objs.size code fp
    have pex := he { s2 with heap := h3, toks := tk } (upd H1 P (.tbl (ps ++ more))) (cloFrom X.env.cells scope.names []) h3.objs.size code fp
    have gen : ∀ {σ' : L2.St} {H' : Hp} {s' : Shared}, L2.Inv (gX X { s2 with heap := h3, toks := tk } (upd H1 P (.tbl (ps ++ more))) (genEnv scope (cloFrom X.env.cells scope.names []) h3.objs.size code builtinsNs X.env) fp) [(h'.objs.size, _)] σ' H' s' → s'.heap.IsGen h'.objs.size s2.gens.size := fun {σ' H' s'} Z =>
      ⟨_, _, _, (Z.pin (h'.objs.size, { cls := .type "generator", data := .fields #[.int s2.gens.size 0, .str "<genexpr>" (tk + 1), .str (X.env.qual ++ "<genexpr>") (tk + 1 + 1)] }) (List.mem_append_right _ List.mem_cons_self)).1, rfl, rfl, rfl⟩
    refine hQ (gX X { s2 with heap := h3, toks := tk } (upd H1 P (.tbl (ps ++ more))) (genEnv scope (cloFrom X.env.cells scope.names []) h3.objs.size code builtinsNs X.env) fp) [(h'.objs.size, _)] fp tn W h'.objs.size s2.gens.size (m0 + 1) _ rfl rfl gen (fun H' s' Z => ?_) (gen I5) ⟨gen I5, I5.nolimit, _, Array.getElem?_push_size .., rfl, ?_⟩
    · exact J3.call' (ch := fp) Z.os Z.base Z.hok Z.bare fun b hb => ⟨(hf3 b hb).1.2.2.2.1, (hf3 b hb).1.2.1, (hf3 b hb).1.2.2.2.2.1, (hf3 b hb).1.2.2.2.2.2⟩
    · have I6 := Inv_gens (g' := (Shared.setGen _ s2.gens.size .running).gens) (t' := tk + 1 + 1 + 1) I5 (allBare_setGen (g := s2.gens.size) (x := .running) I5.bare rfl)
      have st6 : tn 0 (h'.push { cls := .type "generator", data := .fields #[.int s2.gens.size 0, .str "<genexpr>" (tk + 1), .str (X.env.qual ++ "<genexpr>") (tk + 1 + 1)] }) := T.keep _ _ _ st4 fun b hb o e => Heap.get?_push_of_some _ e
      refine seg_begin (X := X) (fun B Q E z => T.self B 0 _ Q E st6 z) ?_
      refine seg_turns (X := gX X { s2 with heap := h3, toks := tk } (upd H1 P (.tbl (ps ++ more))) (genEnv scope (cloFrom X.env.cells scope.names []) h3.objs.size code builtinsNs X.env) fp) rfl hc rfl (fun p hp z => ?_) rfl ok.co T pgx pex rfl turn (m0 + 1) m0 0 _ _ (upd H1 P (.tbl (ps ++ more))) (Nat.lt_succ_self _) w0 I6 st6 fun b hb => (hf3 b hb).1.1
      obtain rfl : p = (h'.objs.size, _) := List.mem_singleton.mp hp
      have z2 : h'.objs.size < h3.objs.size := (hf3 _ z).2
      omega
  refine ⟨I1.nolimit, ?_⟩
  cases hf' : codeAmong gpos ps.toList with
  | none =>
    refine wpAny_genexprCodeX hcode (cd.code hPs ht) (cd.tab hPs) hf' fun c' h' tk hx hge hlt hco' _ htab' _ => ?_
    obtain ⟨o1, vs, f1, tf, fl, tgg, inF, tx, tt, op, _, _, _, _, _, _, _, _, _, htr, _⟩ := hco'
    exact cont _ h' tk _ hx (Nat.le_trans hge (Nat.le_of_lt hlt)) htab'.2 htr
  | some cv =>
    refine wpAny_genexprCode_hit hcode (cd.code hPs ht) hf' ?_
    have e : ps ++ #[] = ps := by simp
    exact cont cv s2.heap s2.toks #[] (Heap.ExtBut.refl _ _) (Nat.le_refl _) (by rw [e]; exact hPs) (by rw [e]; exact ht)
theorem pe_all {c P : Addr} {elt tg iter : Expr} {scope : Scope} {p pos gpos : Pos} {own : List (Str × Nat)} {wi : TI} {g : TG} {te : TE} {k : Nat} (hc : X.calm = true) (hN : X.N.Nodup)
    (hr : Room k X.A) (hgl : Gl X "all") (hm : X.mg "all" = none) (TB : TabB X.base X.mg c P) (hcode : X.env.code = .ref c) (ok : GnOk X.N X.env.scope scope own) (hi : PI X tg iter wi)
    (hg : ∀ (s : Shared) (H : Hp) (cl : List (Str × Addr)) (C : Addr) (code : Value) (fp : List Addr), PG (gX X s H (genEnv scope cl C code builtinsNs X.env) fp) tg g)
    (he : ∀ (s : Shared) (H : Hp) (cl : List (Str × Addr)) (C : Addr) (code : Value) (fp : List Addr), PE (gX X s H (genEnv scope cl C code builtinsNs X.env) fp) elt te)
    (hs : ∀ v, genFold iter X.env v = pure v := by intro _; rfl)
    (hst : starEach [.GeneratorExp elt [⟨tg, iter, [], 0⟩] scope gpos] X.env = (false, eval (.GeneratorExp elt [⟨tg, iter, [], 0⟩] scope gpos) X.env) :: starEach [] X.env := by rfl) :
    PE X (.Call (.Name "all" p) [.GeneratorExp elt [⟨tg, iter, [], 0⟩] scope gpos] [] pos) (tAG true wi g te (own.map (·.2)) P) := by
  refine ⟨fun pins s σ H Q I h => wpAny_Call_Name_kw (ld_blt I hgl hm (by decide +kernel : bootBuiltins "all" = some (.builtin "all")) (PyProof.Rows.callWith_builtin1 ?_ hst (by rfl)))⟩
  rw [hst]
  show wpAny _ _ (spliced ((false, eval (.GeneratorExp elt [⟨tg, iter, [], 0⟩] scope gpos) X.env) :: backTo pos (starEach [] X.env))) _ _ s
  refine Calls.spliced_cons (gen_make (b0 := true) (Q := Q) hc hN hr TB hcode ok hi hg he hs I h fun Y pa fp tn W a gn n s5 e1 e2 hag back hg5 rdy => Calls.spliced_nil ?_)
  refine call_function_tree F.kind_all F.plain_all F.entry_all (F.args_all1 _) ?_
  unfold Builtin.«all»
  refine wpAny_bind (m := oneArg "all" _) (wpAny_pure (wpAny_bind (wpAny_pyIter_gen hg5 (wpAny_pure ⟨plainId_quiet F.plain_all_loop _, ?_⟩))))
  rw [← e1, ← e2]
  exact all_loop rfl hr.hd (by have := hr.dp; omega) hag (fun H' s' z q => ⟨.bl true, H', back H' s' z, rfl, q⟩) (fun H' s' z q => ⟨.bl false, H', back H' s' z, rfl, q⟩) n s5 rdy
theorem pe_any {c P : Addr} {elt tg iter : Expr} {scope : Scope} {p pos gpos : Pos} {own : List (Str × Nat)} {wi : TI} {g : TG} {te : TE} {k : Nat} (hc : X.calm = true) (hN : X.N.Nodup)
    (hr : Room k X.A) (hgl : Gl X "any") (hm : X.mg "any" = none) (TB : TabB X.base X.mg c P) (hcode : X.env.code = .ref c) (ok : GnOk X.N X.env.scope scope own) (hi : PI X tg iter wi)
    (hg : ∀ (s : Shared) (H : Hp) (cl : List (Str × Addr)) (C : Addr) (code : Value) (fp : List Addr), PG (gX X s H (genEnv scope cl C code builtinsNs X.env) fp) tg g)
    (he : ∀ (s : Shared) (H : Hp) (cl : List (Str × Addr)) (C : Addr) (code : Value) (fp : List Addr), PE (gX X s H (genEnv scope cl C code builtinsNs X.env) fp) elt te)
    (hs : ∀ v, genFold iter X.env v = pure v := by intro _; rfl)
    (hst : starEach [.GeneratorExp elt [⟨tg, iter, [], 0⟩] scope gpos] X.env = (false, eval (.GeneratorExp elt [⟨tg, iter, [], 0⟩] scope gpos) X.env) :: starEach [] X.env := by rfl) :
    PE X (.Call (.Name "any" p) [.GeneratorExp elt [⟨tg, iter, [], 0⟩] scope gpos] [] pos) (tAG false wi g te (own.map (·.2)) P) := by
  refine ⟨fun pins s σ H Q I h => wpAny_Call_Name_kw (ld_blt I hgl hm (by decide +kernel : bootBuiltins "any" = some (.builtin "any")) (PyProof.Rows.callWith_builtin1 ?_ hst (by rfl)))⟩
  rw [hst]
  show wpAny _ _ (spliced ((false, eval (.GeneratorExp elt [⟨tg, iter, [], 0⟩] scope gpos) X.env) :: backTo pos (starEach [] X.env))) _ _ s
  refine Calls.spliced_cons (gen_make (b0 := false) (Q := Q) hc hN hr TB hcode ok hi hg he hs I h fun Y pa fp tn W a gn n s5 e1 e2 hag back hg5 rdy => Calls.spliced_nil ?_)
  refine call_function_tree F.kind_any F.plain_any F.entry_any (F.args_any1 _) ?_
  unfold Builtin.«any»
  refine wpAny_bind (m := oneArg "any" _) (wpAny_pure (wpAny_bind (wpAny_pyIter_gen hg5 (wpAny_pure ⟨plainId_quiet F.plain_any_loop _, ?_⟩))))
  rw [← e1, ← e2]
  exact any_loop rfl hr.hd (by have := hr.dp; omega) hag (fun H' s' z q => ⟨.bl false, H', back H' s' z, rfl, q⟩) (fun H' s' z q => ⟨.bl true, H', back H' s' z, rfl, q⟩) n s5 rdy
end
/-- such a walk over anything that HandS.Walk knows -/
theorem turns_it {J : It} {n : Nat} {G : Hp → Prop} {Y : Nat → Hp → V → Hp → Prop} (w : Walk J n G Y) {g : TG} {te : TE} {vs : List Nat} {σ : L2.St} {b0 : Bool} {Hs : Hp} {Qe Qf : Hp → Prop} (Pv : Nat → Hp → Prop) (h0 : Pv 0 Hs) (hG : ∀ i H, i ≤ n → Pv i H → G H)
    (hs : ∀ i x H H', i < n → Pv i H → Y i H x H' → g x (wipe σ vs) H' fun σ2 H2 => wipe σ2 vs = wipe σ vs ∧ te σ2 H2 fun y H3 => ∃ b, y = .bl b ∧ if b = b0 then Pv (i + 1) H3 else Qf H3) (hd : ∀ H, Pv n H → Qe H) :
    ∃ W : Nat → Nat → Hp → Prop, (∃ m, W 0 m Hs) ∧ Turns J g te σ vs b0 W Qe Qf := by
  refine ⟨fun i m H => i ≤ n ∧ m + i = n ∧ Pv i H, ⟨n, Nat.zero_le _, rfl, h0⟩, fun i m H hW => ?_⟩
  obtain ⟨hi, hm, p⟩ := hW
  have q := hG i H hi p
  rcases Nat.lt_or_eq_of_le hi with hlt | rfl
  · exact .inr ⟨w.goes i H hlt q, Pv (i + 1), fun H' p' => ⟨m - 1, by omega, hlt, by omega, p'⟩, fun x H' y => hs i x H H' hlt p (w.yields i H x H' hlt q y)⟩
  · exact .inl ⟨w.stops H q, hd H p⟩
end KG

set_option Elab.async false
set_option linter.all false
set_option maxRecDepth 100000
set_option maxHeartbeats 4000000
/-! Data at any depth with dicts in it; its repr; a row's end that knows where sys.modules is. -/
namespace KX
open PySem PySem.Spec PyProof.Rows L2 KT
def keyD : Key → PyData
  | .inl i => .int i
  | .inr x => .str x
/-! ### a value's data; M are addresses that may change -/
mutual
inductive Dx (M : Addr → Prop) (H : Hp) : V → PyData → Prop
  | non : Dx M H .non .none
  | bl (b : Bool) : Dx M H (.bl b) (.bool b)
  | int (i : Int) : Dx M H (.int i) (.int i)
  | str (x : Str) : Dx M H (.str x) (.str x)
  | lst {a : Addr} {xs : List V} {ds : List PyData} : ¬ M a → H a = some (.lst xs) → DxAll M H xs ds → Dx M H (.ref a) (.list ds)
  | tup {a : Addr} {xs : List V} {ds : List PyData} : H a = some (.tup xs) → DxAll M H xs ds → Dx M H (.ref a) (.tuple ds)
  | dk {a : Addr} {kvs : List (Key × V)} {ds : List (PyData × PyData)} : ¬ M a → H a = some (.dK kvs) → DxKv M H kvs ds → Dx M H (.ref a) (.dict ds)
inductive DxAll (M : Addr → Prop) (H : Hp) : List V → List PyData → Prop
  | nil : DxAll M H [] []
  | cons {v : V} {vs : List V} {d : PyData} {ds : List PyData} : Dx M H v d → DxAll M H vs ds → DxAll M H (v :: vs) (d :: ds)
inductive DxKv (M : Addr → Prop) (H : Hp) : List (Key × V) → List (PyData × PyData) → Prop
  | nil : DxKv M H [] []
  | cons {k : Key} {v : V} {r : List (Key × V)} {d : PyData} {ds : List (PyData × PyData)} : Dx M H v d → DxKv M H r ds → DxKv M H ((k, v) :: r) ((keyD k, d) :: ds)
end
/-- what is no table and may not change is kept; what may change is no tuple -/
structure Kp (M : Addr → Prop) (H H' : Hp) : Prop where
  st : ∀ a o, ¬ M a → (∀ ps, o ≠ .tbl ps) → H a = some o → H' a = some o
  tp : ∀ a xs, H a = some (.tup xs) → H' a = some (.tup xs)
theorem Kp.refl (M : Addr → Prop) (H : Hp) : Kp M H H := ⟨fun _ _ _ _ e => e, fun _ _ e => e⟩
theorem Kp.trans {M : Addr → Prop} {H H1 H2 : Hp} (a : Kp M H H1) (b : Kp M H1 H2) : Kp M H H2 := ⟨fun c o n t e => b.st c o n t (a.st c o n t e), fun c xs e => b.tp c xs (a.tp c xs e)⟩
theorem Kp.same {M : Addr → Prop} {H H' : Hp} (s : Same H H') : Kp M H H' := ⟨fun a o _ _ e => s a o e, fun a xs e => s a _ e⟩
theorem Kp.less {M N : Addr → Prop} {H H' : Hp} (k : Kp M H H') (h : ∀ a, M a → N a) : Kp N H H' := ⟨fun a o n => k.st a o fun z => n (h a z), k.tp⟩
mutual
theorem Dx.kp {M : Addr → Prop} {H H' : Hp} (k : Kp M H H') : ∀ (d : PyData) (v : V), Dx M H v d → Dx M H' v d
  | .none, _, h => by
    cases h
    exact .non
  | .bool b, _, h => by
    cases h
    exact .bl b
  | .int i, _, h => by
    cases h
    exact .int i
  | .str x, _, h => by
    cases h
    exact .str x
  | .list ds, _, h => by
    cases h with
    | lst n e r => exact .lst n (k.st _ _ n (fun _ z => by cases z) e) (Dx.kpAll k ds _ r)
  | .tuple ds, _, h => by
    cases h with
    | tup e r => exact .tup (k.tp _ _ e) (Dx.kpAll k ds _ r)
  | .dict ds, _, h => by
    cases h with
    | dk n e r => exact .dk n (k.st _ _ n (fun _ z => by cases z) e) (Dx.kpKv k ds _ r)
theorem Dx.kpAll {M : Addr → Prop} {H H' : Hp} (k : Kp M H H') : ∀ (ds : List PyData) (vs : List V), DxAll M H vs ds → DxAll M H' vs ds
  | [], _, h => by
    cases h
    exact .nil
  | d :: ds, _, h => by
    cases h with
    | cons h1 h2 => exact .cons (Dx.kp k d _ h1) (Dx.kpAll k ds _ h2)
theorem Dx.kpKv {M : Addr → Prop} {H H' : Hp} (k : Kp M H H') : ∀ (ds : List (PyData × PyData)) (vs : List (Key × V)), DxKv M H vs ds → DxKv M H' vs ds
  | [], _, h => by
    cases h
    exact .nil
  | (_, d) :: ds, _, h => by
    cases h with
    | cons h1 h2 => exact .cons (Dx.kp k d _ h1) (Dx.kpKv k ds _ h2)
end
theorem DxAll.length {M : Addr → Prop} {H : Hp} : ∀ {vs : List V} {ds : List PyData}, DxAll M H vs ds → vs.length = ds.length
  | [], [], _ => rfl
  | _ :: _, _ :: _, h => by
    cases h with
    | cons _ h2 => simp [DxAll.length h2]
  | [], _ :: _, h => by cases h
  | _ :: _, [], h => by cases h
theorem DxAll.at {M : Addr → Prop} {H : Hp} : ∀ {vs : List V} {ds : List PyData} {i : Nat} {v : V}, DxAll M H vs ds → vs[i]? = some v → ∃ d, ds[i]? = some d ∧ Dx M H v d
  | [], _, _, _, _, e => by simp at e
  | _ :: _, [], _, _, h, _ => by cases h
  | x :: vs, d :: ds, i, v, h, e => by
    cases h with
    | cons h1 h2 =>
      cases i with
      | zero =>
        cases e
        exact ⟨d, rfl, h1⟩
      | succ i => exact DxAll.at (i := i) h2 (by simpa using e)
theorem DxAll.app {M : Addr → Prop} {H : Hp} : ∀ {vs ws : List V} {ds es : List PyData}, DxAll M H vs ds → DxAll M H ws es → DxAll M H (vs ++ ws) (ds ++ es)
  | [], _, [], _, _, h => h
  | _ :: _, _, _ :: _, _, h, k => by
    cases h with
    | cons h1 h2 => exact .cons h1 (DxAll.app h2 k)
  | [], _, _ :: _, _, h, _ => by cases h
  | _ :: _, _, [], _, h, _ => by cases h
theorem DxAll.take {M : Addr → Prop} {H : Hp} : ∀ {vs : List V} {ds : List PyData} (n : Nat), DxAll M H vs ds → DxAll M H (vs.take n) (ds.take n)
  | _, _, 0, _ => .nil
  | [], [], _ + 1, _ => .nil
  | _ :: _, _ :: _, n + 1, h => by
    cases h with
    | cons h1 h2 => exact .cons h1 (DxAll.take n h2)
  | [], _ :: _, _ + 1, h => by cases h
  | _ :: _, [], _ + 1, h => by cases h
theorem DxAll.drop {M : Addr → Prop} {H : Hp} : ∀ {vs : List V} {ds : List PyData} (n : Nat), DxAll M H vs ds → DxAll M H (vs.drop n) (ds.drop n)
  | _, _, 0, h => h
  | [], [], _ + 1, _ => .nil
  | _ :: _, _ :: _, n + 1, h => by
    cases h with
    | cons h1 h2 => exact DxAll.drop n h2
  | [], _ :: _, _ + 1, h => by cases h
  | _ :: _, [], _ + 1, h => by cases h
theorem DxAll.rev {M : Addr → Prop} {H : Hp} : ∀ {vs : List V} {ds : List PyData}, DxAll M H vs ds → DxAll M H vs.reverse ds.reverse
  | [], [], h => h
  | _ :: _, _ :: _, h => by
    cases h with
    | cons h1 h2 =>
      rw [List.reverse_cons, List.reverse_cons]
      exact (DxAll.rev h2).app (.cons h1 .nil)
  | [], _ :: _, h => by cases h
  | _ :: _, [], h => by cases h
/-! ### such a value reads as its data -/
section
variable {X : Cx} {pins : List (Addr × Obj)} {σ : L2.St} {H : Hp} {s : Shared} {M : Addr → Prop}
theorem kv_reads {P : Program} {w : World} : ∀ {kvs : List (Key × V)} {vs : List (Key × Value)} {es : List DictEntry}, KV kvs vs → Pairs (mixKind P w) es vs →
    (∀ h : Heap, ∃ as, ReadsAll h (es.map (·.key)) (kvs.map fun p => keyD p.1) as ∧ sysModules ∉ as) ∧ Vals (kvs.map (·.2)) (es.map (·.val))
  | [], [], [], _, _ => ⟨fun _ => ⟨[], .nil, fun h => by cases h⟩, .nil⟩
  | (k, v) :: kvs, (k', v') :: vs, e :: es, r, p => by
    cases r with
    | cons r1 r2 =>
      cases p with
      | cons p1 p2 p3 =>
        obtain ⟨h1, h2⟩ := kv_reads r2 p3
        obtain ⟨rk, rv⟩ := r1
        dsimp only at rk rv p2
        subst rk
        refine ⟨fun h => ?_, ?_⟩
        · obtain ⟨as, q, nq⟩ := h1 h
          have key : Reads h e.key (keyD k) [] := by
            rcases keyIs_shape p1 with ⟨i, t, e1, e2⟩ | ⟨x, t, e1, e2⟩
            · rw [show k = Sum.inl i from e1, e2]
              exact .int i t
            · rw [show k = Sum.inr x from e1, e2]
              exact .str x t
          exact ⟨[] ++ as, .cons key q, nq⟩
        · refine .cons ?_ h2
          show L2.RelV v e.val
          rw [p2]
          exact rv
  | [], _ :: _, _, r, _ => by cases r
  | _ :: _, [], _, r, _ => by cases r
  | _, [], _ :: _, _, p => by cases p
  | _, _ :: _, [], _, p => by cases p
theorem not_mods {base : Heap} (hm : HasMods base) (hb : ∀ b o, base.get? b = some o → s.heap.get? b = some o) {a : Addr} {o : Obj} {vs : Array Value} {n : Nat} (e : s.heap.get? a = some o) (hd : o.data = .seq vs n) : a ≠ sysModules := fun z => by
  obtain ⟨mm, o2, es, ep, e2, d2, _⟩ := hm
  have q := hb _ _ e2
  rw [← z, e] at q
  cases q
  rw [hd] at d2
  cases d2
theorem kv_split {M : Addr → Prop} {H : Hp} : ∀ {kvs : List (Key × V)} {ds : List (PyData × PyData)}, DxKv M H kvs ds → (ds.map (·.1)) = kvs.map (fun p => keyD p.1) ∧ DxAll M H (kvs.map (·.2)) (ds.map (·.2))
  | [], [], _ => ⟨rfl, .nil⟩
  | (k, v) :: r, (k', d) :: ds, h => by
    cases h with
    | cons h1 h2 =>
      obtain ⟨q1, q2⟩ := kv_split h2
      exact ⟨by rw [List.map_cons, List.map_cons, q1], .cons h1 q2⟩
  | [], _ :: _, h => by cases h
  | _ :: _, [], h => by cases h
mutual
theorem Dx.reads (hm : HasMods X.base) (I : Inv X pins σ H s) : ∀ (d : PyData) (v : V) (u : Value), Dx M H v d → RelV v u → ∃ as, Reads s.heap u d as ∧ sysModules ∉ as
  | .none, _, _, h, r => by
    cases h
    cases r
    exact ⟨_, Reads.none, fun h => by cases h⟩
  | .bool b, _, _, h, r => by
    cases h
    cases r
    exact ⟨_, Reads.bool b, fun h => by cases h⟩
  | .int i, _, _, h, r => by
    cases h
    obtain ⟨t, rfl⟩ := r
    exact ⟨_, Reads.int i t, fun h => by cases h⟩
  | .str x, _, _, h, r => by
    cases h
    obtain ⟨t, rfl⟩ := r
    exact ⟨_, Reads.str x t, fun h => by cases h⟩
  | .list ds, _, _, h, r => by
    cases h with
    | lst n e ha =>
      cases r
      obtain ⟨z, its, n, rv, hl, ho⟩ := I.lstM e
      obtain ⟨as, hr, nr⟩ := Dx.readsAll hm I ds _ its ha rv
      refine ⟨_, Reads.list ho rfl rfl (by simpa using hr), fun hz => ?_⟩
      rcases List.mem_cons.mp hz with hz | hz
      · exact not_mods hm I.bk ho rfl hz.symm
      · exact nr hz
  | .tuple ds, _, _, h, r => by
    cases h with
    | tup e ha =>
      cases r
      obtain ⟨its, rv, ⟨o, ho, hc, n, hd⟩, _⟩ := I.tuple (SqT.of e)
      obtain ⟨as, hr, nr⟩ := Dx.readsAll hm I ds _ its ha rv
      exact ⟨_, Reads.tuple ho hc hd (by simpa using hr), nr⟩
  | .dict ds, _, _, h, r => by
    cases h with
    | dk n e ha =>
      cases r
      obtain ⟨_, nm, vs, rv, o, es, ep, ho, hx, hd, _, hp, _⟩ := dk_of I.hok e
      obtain ⟨q1, q2⟩ := kv_reads rv hp
      obtain ⟨w1, w2⟩ := kv_split ha
      obtain ⟨as, hr, nr⟩ := q1 s.heap
      obtain ⟨bs, hs, ns⟩ := Dx.readsKv hm I ds _ _ w2 q2
      refine ⟨_, Reads.dict ho hx.1 hd (by rw [w1]; exact hr) hs, fun hz => ?_⟩
      rcases List.mem_append.mp hz with hz | hz
      · rcases List.mem_cons.mp hz with hz | hz
        · rw [← hz] at nm
          simp at nm
        · exact nr hz
      · exact ns hz
theorem Dx.readsAll (hm : HasMods X.base) (I : Inv X pins σ H s) : ∀ (ds : List PyData) (vs : List V) (us : List Value), DxAll M H vs ds → Vals vs us → ∃ as, ReadsAll s.heap us ds as ∧ sysModules ∉ as
  | [], _, _, h, r => by
    cases h
    cases r
    exact ⟨_, ReadsAll.nil, fun h => by cases h⟩
  | d :: ds, _, _, h, r => by
    cases h with
    | cons h1 h2 =>
      cases r with
      | cons r1 r2 =>
        obtain ⟨as, q1, n1⟩ := Dx.reads hm I d _ _ h1 r1
        obtain ⟨bs, q2, n2⟩ := Dx.readsAll hm I ds _ _ h2 r2
        exact ⟨_, ReadsAll.cons q1 q2, fun hz => (List.mem_append.mp hz).elim n1 n2⟩
theorem Dx.readsKv (hm : HasMods X.base) (I : Inv X pins σ H s) : ∀ (ds : List (PyData × PyData)) (vs : List V) (us : List Value), DxAll M H vs (ds.map (·.2)) → Vals vs us → ∃ as, ReadsAll s.heap us (ds.map (·.2)) as ∧ sysModules ∉ as
  | [], _, _, h, r => by
    cases h
    cases r
    exact ⟨_, ReadsAll.nil, fun h => by cases h⟩
  | (_, d) :: ds, _, _, h, r => by
    cases h with
    | cons h1 h2 =>
      cases r with
      | cons r1 r2 =>
        obtain ⟨as, q1, n1⟩ := Dx.reads hm I d _ _ h1 r1
        obtain ⟨bs, q2, n2⟩ := Dx.readsKv hm I ds _ _ h2 r2
        exact ⟨_, ReadsAll.cons q1 q2, fun hz => (List.mem_append.mp hz).elim n1 n2⟩
end
/-- repr of any such value -/
def rReprX (M : Addr → Prop) : List V → Hp → VK → Prop := fun xs H Q => ∃ v d, xs = [v] ∧ Dx M H v d ∧ d.showable = true ∧ d.depth ≤ 150 ∧ d.shown.length ≤ sizeLine ∧ Q (.str d.shown) H
theorem call_reprX {k : Nat} (hr : Room k X.A) (hg : X.A.guards = some []) (hm : HasMods X.base) (M : Addr → Prop) : CallR X (.builtin "repr") (rReprX M) := by
  intro pins s σ H xs us Q I r h
  obtain ⟨v, d, rfl, hd, hs, hdep, hsz, q⟩ := h
  obtain ⟨u, rfl, r1⟩ := vals1 r
  have hu := hr.un
  have heap : ∀ {a : Addr}, v = .ref a → wpAny (model X.prog X.w) X.A (call (.builtin "repr") [u]) (EP X pins σ Q) X.xe s := fun {a} e => by
    subst e
    cases (show u = Value.ref a from r1)
    obtain ⟨as, hrd, nr⟩ := Dx.reads hm I d _ _ hd rfl
    refine PySem.repr_of_reads' hrd hs (fun _ => nr) hg (by omega) (fun b o e => e) (fun h' u tk kk => ?_) hsz
    exact ⟨.str d.shown, H, I.kept (t' := tk) kk, ⟨u, rfl⟩, q⟩
  cases hd with
  | non =>
    cases r1
    exact PySem.P.repr_of_none ⟨.str _, H, I.tok _, ⟨_, rfl⟩, q⟩
  | bl b =>
    cases r1
    exact PySem.P.repr_of_bool ⟨.str _, H, I.tok _, ⟨_, rfl⟩, q⟩
  | int i =>
    obtain ⟨t, rfl⟩ := r1
    exact PySem.P.repr_of_int (of_decide_eq_true hs) ⟨.str _, H, I.tok _, ⟨_, rfl⟩, q⟩
  | str x =>
    obtain ⟨t, rfl⟩ := r1
    exact PySem.P.repr_of_str ⟨.str _, H, I.tok _, ⟨_, rfl⟩, q⟩ hsz
  | lst n e r => exact heap rfl
  | tup e r => exact heap rfl
  | dk n e r => exact heap rfl
end
end KX

set_option Elab.async false
set_option linter.all false
set_option maxRecDepth 100000
set_option maxHeartbeats 4000000
/-! Any value against a text: ==, !=, in a tuple of texts. -/
namespace KQ
open PySem PySem.Spec PyProof.Rows L2 KT KX PySem.SeqAt
theorem sub_sd : isSubtype (.type "str") (.type "dict") = pure false := by rw [isSubtype_type]; kernel_rfl
theorem sub_ds : isSubtype (.type "dict") (.type "str") = pure false := by rw [isSubtype_type]; kernel_rfl
theorem dict_eq_no (l : Addr) (es : Array DictEntry) (ep : Nat) (dd : Option Addr) (sl : Array (Option Value)) (b : Str) (u : Tok) :
    Meets (Builtin.«dict.__eq__» ⟨[.ref l, .str b u], []⟩) (fun _ R s => s.heap.get? l = some { cls := .type "dict", dict := dd, data := .dict es ep, slots := sl } ∧ R (.ok (.ret .notImplemented)) s) :=
  .of_wp fun prog w A R s h => by obtain ⟨hp, g, d, tk, os⟩ := s; obtain ⟨hl, h⟩ := h; have f1 := sub_sd; wp_walk using wpAny_loadPart' hl, wpAny_load hl; exact ⟨_, rfl, h⟩
theorem dict_ne_no (l : Addr) (es : Array DictEntry) (ep : Nat) (dd : Option Addr) (sl : Array (Option Value)) (b : Str) (u : Tok) :
    Meets (Builtin.«dict.__ne__» ⟨[.ref l, .str b u], []⟩) (fun _ R s => s.heap.get? l = some { cls := .type "dict", dict := dd, data := .dict es ep, slots := sl } ∧ R (.ok (.ret .notImplemented)) s) :=
  .of_wp fun prog w A R s h => by obtain ⟨hp, g, d, tk, os⟩ := s; obtain ⟨hl, h⟩ := h; have f1 := sub_sd; wp_walk using wpAny_loadPart' hl, wpAny_load hl; exact ⟨_, rfl, h⟩
theorem str_eq_no (b : Str) (u : Tok) (l : Addr) (c : Value) (es : Array DictEntry) (ep : Nat) (dd : Option Addr) (sl : Array (Option Value)) :
    Meets (Builtin.«str.__eq__» ⟨[.str b u, .ref l], []⟩) (fun _ R s => s.heap.get? l = some { cls := c, dict := dd, data := .dict es ep, slots := sl } ∧ R (.ok (.ret .notImplemented)) s) :=
  .of_wp fun prog w A R s h => by obtain ⟨hp, g, d, tk, os⟩ := s; obtain ⟨hl, h⟩ := h; wp_walk using wpAny_loadPart' hl, wpAny_load hl; exact ⟨_, rfl, h⟩
theorem str_ne_no (b : Str) (u : Tok) (l : Addr) (c : Value) (es : Array DictEntry) (ep : Nat) (dd : Option Addr) (sl : Array (Option Value)) :
    Meets (Builtin.«str.__ne__» ⟨[.str b u, .ref l], []⟩) (fun _ R s => s.heap.get? l = some { cls := c, dict := dd, data := .dict es ep, slots := sl } ∧ R (.ok (.ret .notImplemented)) s) :=
  .of_wp fun prog w A R s h => by obtain ⟨hp, g, d, tk, os⟩ := s; obtain ⟨hl, h⟩ := h; wp_walk using wpAny_loadPart' hl, wpAny_load hl; exact ⟨_, rfl, h⟩
def IsDct (h : Heap) (l : Addr) : Prop := ∃ (dd : Option Addr) (es : Array DictEntry) (ep : Nat) (sl : Array (Option Value)), h.get? l = some { cls := .type "dict", dict := dd, data := .dict es ep, slots := sl }
section
variable {A : Around} {s : Shared} {l : Addr}
theorem rc_ds (b : Str) (u : Tok) (hl : IsDct s.heap l) (hu : A.units < cLine) : RcAt A s (.ref l) (.str b u) false := fun prog w E Q h => by
  obtain ⟨dd, es, ep, sl, ho⟩ := hl
  exact rc_eq_decline_or (k := false) ⟨_, ho, rfl⟩ (typeIs_str s b u) (by decide) sub_sd F.slot_dict_eq F.slot_str_eq_refl
    (fun _ hq => call_meets F.slot_dict_eq ⟨_, ho, rfl⟩ F.entry_dict_eq (F.args_dict_eq_2 _ _) (dict_eq_no l es ep dd sl b u) ⟨ho, hq⟩)
    (fun _ hq => call_meets F.slot_str_eq_refl (typeIs_str s b u) F.entry_str_eq (F.args_str_eq_2 _ _) (str_eq_no b u l (.type "dict") es ep dd sl) ⟨ho, hq⟩)
    (fun _ hq => wpAny_of_eq (rfl : isSame (.ref l) (.str b u) = pure false) hq) (.inr hu) h
theorem rc_sd (b : Str) (u : Tok) (hl : IsDct s.heap l) (hu : A.units < cLine) : RcAt A s (.str b u) (.ref l) false := fun prog w E Q h => by
  obtain ⟨dd, es, ep, sl, ho⟩ := hl
  exact rc_eq_decline_or (k := false) (typeIs_str s b u) ⟨_, ho, rfl⟩ (by decide) sub_ds F.slot_str_eq F.slot_dict_eq_refl
    (fun _ hq => call_meets F.slot_str_eq (typeIs_str s b u) F.entry_str_eq (F.args_str_eq_2 _ _) (str_eq_no b u l (.type "dict") es ep dd sl) ⟨ho, hq⟩)
    (fun _ hq => call_meets F.slot_dict_eq_refl ⟨_, ho, rfl⟩ F.entry_dict_eq (F.args_dict_eq_2 _ _) (dict_eq_no l es ep dd sl b u) ⟨ho, hq⟩)
    (fun _ hq => wpAny_of_eq (rfl : isSame (.str b u) (.ref l) = pure false) hq) (.inr hu) h
theorem eq_sd (b : Str) (u : Tok) (hl : IsDct s.heap l) (hu : A.units < cLine) : EqAt A s (.str b u) (.ref l) false := fun prog w E Q h => by
  unfold eqBool
  refine wpAny_holding ?_
  refine wpAny_ite_split (fun hab => absurd (eq_of_beq hab) nofun) (fun _ => ?_)
  exact wpAny_bind (rc_sd b u hl hu prog w E _ (wpAny_truthy_bool h))
theorem rn_ds (b : Str) (u : Tok) (hl : IsDct s.heap l) (hu : A.units < cLine) : RcNeAt A s (.ref l) (.str b u) true := fun prog w E Q h => by
  obtain ⟨dd, es, ep, sl, ho⟩ := hl
  exact rc_ne_decline_or (k := false) ⟨_, ho, rfl⟩ (typeIs_str s b u) (by decide) sub_sd F.slot_dict_ne F.slot_str_ne_refl
    (fun _ hq => call_meets F.slot_dict_ne ⟨_, ho, rfl⟩ F.entry_dict_ne (F.args_dict_ne_2 _ _) (dict_ne_no l es ep dd sl b u) ⟨ho, hq⟩)
    (fun _ hq => call_meets F.slot_str_ne_refl (typeIs_str s b u) F.entry_str_ne (F.args_str_ne_2 _ _) (str_ne_no b u l (.type "dict") es ep dd sl) ⟨ho, hq⟩)
    (fun _ hq => wpAny_of_eq (rfl : isSame (.ref l) (.str b u) = pure false) hq) (.inr hu) h
end
section
variable {X : Cx} {pins : List (Addr × Obj)} {σ : L2.St} {H : Hp} {s : Shared} {M : Addr → Prop} {A : Around}
def isT (v : V) (z : Str) : Bool := decide (v = .str z)
theorem isT_str (x z : Str) : isT (.str x) z = (x == z) := by
  unfold isT
  by_cases h : x = z
  · subst h
    simp
  · have : ¬ V.str x = V.str z := fun e => h (by cases e; rfl)
    rw [decide_eq_false this]
    exact (beq_eq_false_iff_ne.mpr h).symm
theorem isT_strR (x z : Str) : isT (.str x) z = (z == x) := by
  rw [isT_str]
  exact Bool.beq_comm ..
theorem dct_of {kvs : List (Key × V)} (ok : HOk X.prog X.w H s.heap) {a : Addr} (e : H a = some (.dK kvs)) : IsDct s.heap a := by
  obtain ⟨_, _, vs, _, o, es, ep, ho, hx, hd, _⟩ := dk_of ok e
  obtain ⟨cls, dd, data, sl⟩ := o
  obtain ⟨h1, _, _⟩ := hx
  dsimp only at h1 hd
  subst h1 hd
  exact ⟨_, _, _, _, ho⟩
theorem rc_any (I : Inv X pins σ H s) {v : V} {d : PyData} {u : Value} {z : Str} {t : Tok} (h : Dx M H v d) (r : RelV v u) (hu : A.units < cLine) : RcAt A s u (.str z t) (isT v z) := by
  cases h with
  | non => cases r; exact RcAt.none_str z t
  | bl b => cases r; exact RcAt.bool_str b z t
  | int i => obtain ⟨t', rfl⟩ := r; exact RcAt.int_str i t' z t
  | str x =>
    obtain ⟨t', rfl⟩ := r
    rw [isT_str]
    exact RcAt.str_str x t' z t
  | lst n e ha =>
    cases r
    obtain ⟨_, its, k, _, _, ho⟩ := I.lstM e
    exact RcAt.list_str (items := its.toArray) z t ⟨_, ho, rfl, k, rfl⟩ hu
  | tup e ha =>
    cases r
    obtain ⟨its, _, p, _⟩ := I.tuple (SqT.of e)
    exact RcAt.tuple_str z t p hu
  | dk n e ha => cases r; exact rc_ds z t (dct_of I.hok e) hu
theorem rn_any (I : Inv X pins σ H s) {v : V} {d : PyData} {u : Value} {z : Str} {t : Tok} (h : Dx M H v d) (r : RelV v u) (hu : A.units < cLine) : RcNeAt A s u (.str z t) (!isT v z) := by
  cases h with
  | non => cases r; exact RcNeAt.none_str z t
  | bl b => cases r; exact RcNeAt.bool_str b z t
  | int i => obtain ⟨t', rfl⟩ := r; exact RcNeAt.int_str i t' z t
  | str x =>
    obtain ⟨t', rfl⟩ := r
    rw [isT_str]
    exact RcNeAt.str_str x t' z t
  | lst n e ha =>
    cases r
    obtain ⟨_, its, k, _, _, ho⟩ := I.lstM e
    exact RcNeAt.list_str (items := its.toArray) z t ⟨_, ho, rfl, k, rfl⟩ hu
  | tup e ha =>
    cases r
    obtain ⟨its, _, p, _⟩ := I.tuple (SqT.of e)
    exact RcNeAt.tuple_str z t p hu
  | dk n e ha => cases r; exact rn_ds z t (dct_of I.hok e) hu
theorem eq_any (I : Inv X pins σ H s) {v : V} {d : PyData} {u : Value} {z : Str} {t : Tok} (h : Dx M H v d) (r : RelV v u) (hu : A.units < cLine) : EqAt A s (.str z t) u (isT v z) := by
  cases h with
  | non => cases r; exact EqAt.str_none z t
  | bl b => cases r; exact EqAt.str_bool z t b
  | int i => obtain ⟨t', rfl⟩ := r; exact EqAt.str_int z t i t'
  | str x =>
    obtain ⟨t', rfl⟩ := r
    rw [isT_strR]
    exact EqAt.str_str z t x t'
  | lst n e ha =>
    cases r
    obtain ⟨_, its, k, _, _, ho⟩ := I.lstM e
    exact EqAt.str_list (items := its.toArray) z t ⟨_, ho, rfl, k, rfl⟩ hu
  | tup e ha =>
    cases r
    obtain ⟨its, _, p, _⟩ := I.tuple (SqT.of e)
    exact EqAt.str_tuple z t p hu
  | dk n e ha => cases r; exact eq_sd z t (dct_of I.hok e) hu
end
section
variable {X : Cx} {k : Nat}
/-- any value == a text -/
def rEqT (M : Addr → Prop) : R2 := fun x y H Q => ∃ d z, Dx M H x d ∧ y = .str z ∧ Q (.bl (isT x z)) H
def rNeT (M : Addr → Prop) : R2 := fun x y H Q => ∃ d z, Dx M H x d ∧ y = .str z ∧ Q (.bl (!isT x z)) H
theorem op_eqT (hr : Room k X.A) (M : Addr → Prop) : OpR X (compareOp .Eq) (rEqT M) := by
  intro pins s σ H x y v u Q I rx ry h
  obtain ⟨d, z, hd, rfl, q⟩ := h
  obtain ⟨t, rfl⟩ := ry
  exact rc_any I hd rx (by have := hr.un; omega) X.prog X.w X.xe _ ⟨.bl _, H, I, rfl, q⟩
theorem op_neT (hr : Room k X.A) (M : Addr → Prop) : OpR X (compareOp .NotEq) (rNeT M) := by
  intro pins s σ H x y v u Q I rx ry h
  obtain ⟨d, z, hd, rfl, q⟩ := h
  obtain ⟨t, rfl⟩ := ry
  exact rn_any I hd rx (by have := hr.un; omega) X.prog X.w X.xe _ ⟨.bl _, H, I, rfl, q⟩
/-- any value in a tuple of texts -/
def rInT (M : Addr → Prop) (K : PySem.W.Frag) : R2 := fun x y H Q => ∃ d p, ∃ zs : List Str, Dx M H x d ∧ y = .ref p ∧ SqT K H p (zs.map V.str) ∧ Q (.bl (zs.any fun z => isT x z)) H
theorem op_inT (hr : Room (k + 1) X.A) (M : Addr → Prop) : OpR X (compareOp .In) (rInT M X.K) := by
  intro pins s σ H x y v u Q I rx ry h
  obtain ⟨d, p, zs, hd, rfl, hp, q⟩ := h
  cases ry
  obtain ⟨its, r, pl, hz⟩ := I.tuple hp
  have hu : X.A.in1.units < cLine := by have := hr.in1.un; omega
  have key : ∀ {zs : List Str} {its : List Value}, Vals (zs.map V.str) its → (∀ y ∈ its, ∃ z t, y = .str z t) ∧ ∀ e : Value → Bool, (∀ z t, e (.str z t) = isT x z) → its.any e = zs.any fun z => isT x z := by
    intro zs
    induction zs with
    | nil =>
      intro its r
      cases r
      exact ⟨(fun y hy => by cases hy), fun e _ => rfl⟩
    | cons a zs ih =>
      intro its r
      cases r with
      | cons r1 r2 =>
        obtain ⟨t, rfl⟩ := r1
        obtain ⟨h1, h2⟩ := ih r2
        exact ⟨fun y hy => (List.mem_cons.mp hy).elim (fun e => ⟨a, t, e⟩) (h1 y), fun e he => by rw [List.any_cons, List.any_cons, he, h2 e he]⟩
  obtain ⟨k1, k2⟩ := key r
  let e : Value → Bool := fun y => match y with
    | .str z _ => isT x z
    | _ => false
  refine SeqAt.in_tupleAt e pl (fun y hy => ?_) ⟨.bl _, H, I, rfl, ?_⟩
  · obtain ⟨z, t, rfl⟩ := k1 y (by simpa using hy)
    exact eq_any I hd rx hu
  · rw [show its.toArray.any e = its.any e by simp, k2 e fun _ _ => rfl]
    exact q
end
end KQ

set_option Elab.async false
set_option linter.all false
set_option maxRecDepth 100000
set_option maxHeartbeats 4000000
/-! Looks at data that leave all as it was but tables; all(..) over a tuple's parts. -/
namespace LK
open PySem PySem.Spec PyProof.Rows L2 KT KG KX GxR
theorem same_new {H : Hp} {p : Addr} {o : HO} (np : H p = none) : Same H (upd H p o) := fun b u e => by
  rw [upd_ne (ne_of_none e np)]
  exact e
def allT (f : PyData → Bool) : PyData → Bool
  | .tuple ys => ys.all f
  | _ => false
theorem depth_mem : ∀ {ys : List PyData} {y : PyData}, y ∈ ys → y.depth ≤ PyData.depthAll ys
  | a :: r, y, h => by
    rcases List.mem_cons.mp h with rfl | h
    · simp only [PyData.depthAll]
      exact Nat.le_max_left _ _
    · simp only [PyData.depthAll]
      exact Nat.le_trans (depth_mem h) (Nat.le_max_right _ _)
/-! ### what a look leaves -/
def Ts (Tl : List Addr) (H : Hp) : Prop := ∀ P ∈ Tl, TabG H P
structure Lk (M : Addr → Prop) (Tl : List Addr) (H H' : Hp) : Prop where
  k : Kp M H H'
  t : Ts Tl H → Ts Tl H'
  on : ∀ a, H' a = none → H a = none
theorem Lk.refl (M : Addr → Prop) (Tl : List Addr) (H : Hp) : Lk M Tl H H := ⟨.refl _ _, id, fun _ z => z⟩
theorem Lk.trans {M : Addr → Prop} {Tl : List Addr} {H H1 H2 : Hp} (a : Lk M Tl H H1) (b : Lk M Tl H1 H2) : Lk M Tl H H2 := ⟨a.k.trans b.k, fun h => b.t (a.t h), fun c z => a.on c (b.on c z)⟩
theorem Lk.same {M : Addr → Prop} {Tl : List Addr} {H H' : Hp} (s : Same H H') : Lk M Tl H H' := ⟨.same s, fun h P hP => by
  obtain ⟨ps, e, ok⟩ := h P hP
  exact ⟨ps, s _ _ e, ok⟩, fun a z => by
  cases e : H a with
  | none => rfl
  | some o =>
    rw [s _ _ e] at z
    cases z⟩
theorem Lk.new {M : Addr → Prop} {Tl : List Addr} {H : Hp} {p : Addr} {o : HO} (n : H p = none) : Lk M Tl H (upd H p o) := .same (same_new n)
theorem Lk.tab {M : Addr → Prop} {Tl : List Addr} {H H' : Hp} {P : Addr} (g : TabG H P) (t : Tabbed P H H') : Lk M Tl H H' := by
  obtain ⟨ps, e, _⟩ := g
  refine ⟨⟨fun a o n nt ea => ?_, fun a xs ea => ?_⟩, fun h Q hQ => ?_, fun a z => ?_⟩
  · have : a ≠ P := fun z => by
      rw [z, e] at ea
      exact nt _ (Option.some.inj ea).symm
    rw [t.2 a this]
    exact ea
  · have : a ≠ P := fun z => by
      rw [z, e] at ea
      cases ea
    rw [t.2 a this]
    exact ea
  · by_cases z : Q = P
    · rw [z]
      exact t.1
    · obtain ⟨qs, f, ok⟩ := h Q hQ
      exact ⟨qs, by rw [t.2 Q z]; exact f, ok⟩
  · by_cases y : a = P
    · obtain ⟨qs, f, _⟩ := t.1
      rw [y, f] at z
      cases z
    · rw [t.2 a y] at z
      exact z
theorem Lk.tabs {M : Addr → Prop} {Tl : List Addr} {H H' : Hp} {P : Addr} (g : TabG H P) (t : Tabbed P H H' ∨ H' = H) : Lk M Tl H H' := by
  rcases t with t | rfl
  · exact Lk.tab g t
  · exact .refl _ _ _
section
variable {M : Addr → Prop} {H : Hp}
def isTup : PyData → Bool
  | .tuple _ => true
  | _ => false
theorem Dx.isaT {K : PySem.W.Frag} {v : V} {d : PyData} (h : Dx M H v d) : IsA K H v "tuple" (isTup d) := by
  cases h with
  | non => exact ⟨_, .base .non, by decide +kernel⟩
  | bl b => exact ⟨_, .base (.bl b), (by decide +kernel : kitB "bool" "tuple" = some false)⟩
  | int i => exact ⟨_, .base (.int i), (by decide +kernel : kitB "int" "tuple" = some false)⟩
  | str h => exact ⟨_, .base (.str _), (by decide +kernel : kitB "str" "tuple" = some false)⟩
  | lst n e _ => exact ⟨_, .base (.lst e), (by decide +kernel : kitB "list" "tuple" = some false)⟩
  | tup e _ => exact ⟨_, .base (.tup e), (by decide +kernel : kitB "tuple" "tuple" = some true)⟩
  | dk n e _ => exact ⟨_, .base (.dK e), (by decide +kernel : kitB "dict" "tuple" = some false)⟩
theorem Dx.tupOf {v : V} {ys : List PyData} (h : Dx M H v (.tuple ys)) : ∃ a xs, v = .ref a ∧ H a = some (.tup xs) ∧ DxAll M H xs ys := by
  cases h with
  | tup e r => exact ⟨_, _, rfl, e, r⟩
end
section
variable {P : Program} {w : World} {K : PySem.W.Frag} {mg : Str → Option Value} {base : Heap} {Tl : List Addr}
theorem all_take {f : PyData → Bool} {ys : List PyData} {i : Nat} {y : PyData} (h : (ys.take i).all f = true) (e : ys[i]? = some y) (hf : f y = true) : (ys.take (i + 1)).all f = true := by
  rw [List.take_add_one, e, List.all_append, h]
  show (true && (f y && true)) = true
  rw [hf]
  rfl
theorem all_false {f : PyData → Bool} {ys : List PyData} {i : Nat} {y : PyData} (e : ys[i]? = some y) (hf : f y = false) : ys.all f = false := by
  rw [List.all_eq_false]
  exact ⟨y, List.mem_of_getElem? e, by rw [hf]; exact Bool.false_ne_true⟩
/-- the turns of all(look(part, ..) for part in a tuple) -/
theorem turns_tup {H2 : Hp} {M : Addr → Prop} {a : Addr} {xs : List V} {ys : List PyData} {f : PyData → Bool} {g : TG} {te : TE} {vs : List Nat} {σ : L2.St} {Qe Qf : Hp → Prop}
    (e : H2 a = some (.tup xs)) (r : DxAll M H2 xs ys) (t : Ts Tl H2)
    (hs : ∀ (x : V) (y : PyData) (H : Hp) (R : Hp → Bool → Prop), y ∈ ys → Dx M H x y → Ts Tl H → Lk M Tl H2 H → (∀ H', Lk M Tl H H' → R H' (f y)) → g x (wipe σ vs) H fun σ2 H3 => wipe σ2 vs = wipe σ vs ∧ te σ2 H3 fun b H4 => ∃ c, b = .bl c ∧ R H4 c)
    (he : ∀ H, Lk M Tl H2 H → ys.all f = true → Qe H) (hf : ∀ H, Lk M Tl H2 H → ys.all f = false → Qf H) :
    ∃ W : Nat → Nat → Hp → Prop, (∃ m, W 0 m H2) ∧ KG.Turns (Itt K a) g te σ vs true W Qe Qf := by
  have hl := DxAll.length r
  refine turns_it (n := xs.length) walk_tup (fun i H => Lk M Tl H2 H ∧ (ys.take i).all f = true) ⟨.refl _ _ _, rfl⟩ (fun i H hi p => SqT.of (p.1.k.tp _ _ e)) (fun i x H H' hi p y => ?_) (fun H p => ?_)
  · obtain ⟨rfl, hx⟩ := y
    obtain ⟨lk, al⟩ := p
    obtain ⟨d, hd, hxd⟩ := DxAll.at r hx
    refine hs x d H' (fun H4 c => if c = true then (Lk M Tl H2 H4 ∧ (ys.take (i + 1)).all f = true) else Qf H4) (List.mem_of_getElem? hd) (Dx.kp lk.k _ _ hxd) (lk.t t) lk (fun H4 l4 => ?_)
    cases hfd : f d with
    | true =>
      rw [if_pos rfl]
      exact ⟨lk.trans l4, all_take al hd hfd⟩
    | false =>
      rw [if_neg Bool.false_ne_true]
      exact hf H4 (lk.trans l4) (all_false hd hfd)
  · refine he H p.1 ?_
    have := p.2
    rw [hl, List.take_length] at this
    exact this
end
theorem len2 {M : Addr → Prop} {H : Hp} {xs : List V} {ys : List PyData} (r : DxAll M H xs ys) (h : xs.length = 2) : ∃ a b p q, xs = [a, b] ∧ ys = [p, q] ∧ Dx M H a p ∧ Dx M H b q :=
  match xs, ys, r, h with
  | [_, _], [_, _], .cons h1 (.cons h2 .nil), _ => ⟨_, _, _, _, rfl, rfl, h1, h2⟩
theorem decV (n m : Nat) : decide (V.int (n : Int) = V.int (m : Int)) = decide (n = m) := by
  apply decide_eq_decide.mpr
  constructor
  · intro h
    have : (n : Int) = (m : Int) := by cases h; rfl
    omega
  · intro h
    rw [h]
end LK

set_option Elab.async false
set_option linter.all false
set_option maxRecDepth 100000
set_option maxHeartbeats 4000000
/-! An own exception class over an own class over Exception, with an __init__ of its own: its making, with a value by position or by name. -/
namespace PySem
namespace QX
open Builtin HandSPX
section
variable {M : Model} {A : Around} {E : Value → Shared → Prop} {h : Heap} {g : Array GenState} {d : Drawn} {t : Nat} {os : OsState}
variable {nm q : Str} {C N : Addr} {bs bm bmB : List Value} {hdct : Bool} {sn : List Str} {sub : List Value} {ab : Bool} {col : Option Bool} {dd : Option Addr} {k0 k1 k2 k3 k5 : Option Value} {B newId initId : String}
theorem q_check (F : ExcBaseFacts B newId initId bmB) (hT : ∀ X : String, bm.contains (.type X) = bmB.contains (.type X)) {us : List Value} {kw : List (Str × Value)} {Q : Unit → Shared → Prop}
    (hC : h.get? C = some (excClassObj nm q C N bs bm hdct sn sub ab col dd k0 k1 k2 k3 k5 newId)) (hq : Q () ⟨h, g, d, t, os⟩) : wpAny M A (checkBuiltinCall newId ⟨.ref C :: us, kw⟩) Q E ⟨h, g, d, t, os⟩ := by
  have has : (Value.ref C :: bm).contains (.type B) = true := by
    rw [List.contains_cons, hT, F.hasB]
    exact Bool.or_true _
  have ns := F.noStar
  simp only [checkBuiltinCall, F.newKind, F.newSplit, F.newRow]
  repeat (first
    | refine wpAny_loadPart_at hC ?_
    | (refine wpAny_isSubtype_exc hC ?_
       rw [has])
    | refine wpAny_staticBase_exc hC ?_
    | refine wpAny_madeBy_exc hC ?_
    | simp only [bne_self_eq_false, Bool.false_eq_true, if_false]
    | wp_step)
  exact hq
end
section
variable {prog : Program} {w : World} {A : Around} {E : Value → Shared → Prop} {R : Result → Shared → Prop} {h : Heap} {g : Array GenState} {d : Drawn} {t : Nat} {os : OsState}
variable {nm q : Str} {C N : Addr} {bs bm bmB : List Value} {hdct : Bool} {sn : List Str} {sub : List Value} {ab : Bool} {col : Option Bool} {dd : Option Addr} {k0 k1 k2 k3 k5 : Option Value} {B newId initId : String}
/-- what __new__ leaves: the tuple of the values by position, then the exception -/
def born (h : Heap) (us : List Value) (C : Addr) : Heap := (h.push (W.kdv_tup us)).push (excO C h.objs.size)
theorem born_old {us : List Value} {b : Addr} {o : Obj} (e : h.get? b = some o) : (born h us C).get? b = some o := Heap.get?_push_of_some _ (Heap.get?_push_of_some _ e)
theorem born_at {us : List Value} : (born h us C).get? (h.objs.size + 1) = some (excO C h.objs.size) := by
  unfold born
  heap_get
theorem q_new (F : ExcBaseFacts B newId initId bmB) (hT : ∀ X : String, bm.contains (.type X) = bmB.contains (.type X)) {us : List Value} {kw : List (Str × Value)}
    (hC : h.get? C = some (excClassObj nm q C N bs bm hdct sn sub ab col dd k0 k1 k2 k3 k5 newId)) (hz : us.length ≤ sizeLine)
    (hq : R (.ok (.ret (.ref (h.objs.size + 1)))) ⟨born h us C, g, d, t, os⟩) : codeAny (model prog w) A (.builtin newId ⟨.ref C :: us, kw⟩) R ⟨h, g, d, t, os⟩ := by
  have he := F.ends
  have c1 : (Value.ref C :: bm).contains (.type B) = true := by
    rw [List.contains_cons, hT, F.hasB]
    exact Bool.or_true _
  have c2 : (Value.ref C :: bm).contains (.type "AttributeError") = false := by
    rw [List.contains_cons, hT, F.noAttr]
    rfl
  have c3 : (Value.ref C :: bm).contains (.type "NameError") = false := by
    rw [List.contains_cons, hT, F.noName]
    rfl
  refine codeAny_builtinAt F.entry ?_
  unfold Builtin.«BaseException.__new__»
  refine wpAt_bind ?_
  show wpAt _ _ _ (stack >>= _) _ _ _
  refine wpAt_bind (wpAt_stack fun p lo => wpAt_of_wpAny ?_)
  wp_walk
  refine wpAt_of_wpAny ?_
  rw [F.owner]
  repeat (first
    | with_reducible refine wpAny_madeHere_exc F.canon hC ?_
    | with_reducible refine wpAny_loadPart_at hC ?_
    | (with_reducible refine wpAny_isSubtype_exc hC ?_
       first
         | rw [c1]
         | rw [c2]
         | rw [c3])
    | wp_step)
  show R _ _
  rw [Heap.size_push]
  exact hq
theorem q_tcheck {M : Model} {us : List Value} {kw : List (Str × Value)} {Q : Unit → Shared → Prop} {E : Value → Shared → Prop} (hC : h.get? C = some (excClassObj nm q C N bs bm hdct sn sub ab col dd k0 k1 k2 k3 k5 newId)) (hq : Q () ⟨h, g, d, t, os⟩) :
    wpAny M A (checkBuiltinCall "type.__call__" ⟨.ref C :: us, kw⟩) Q E ⟨h, g, d, t, os⟩ := by
  have f3 := tc_sub
  have hTy : (⟨h, g, d, t, os⟩ : Shared).TypeIs (.ref C) "type" := ⟨_, hC, rfl⟩
  simp only [checkBuiltinCall, tc_kind, tc_split]
  repeat (any_goals (first
    | assumption
    | with_reducible refine wpAny_loadPart_at hC ?_
    | with_reducible refine wpAny_onRaise ?_
    | with_reducible refine wpAny_map ?_
    | wp_step))
theorem q_call (F : ExcBaseFacts B newId initId bmB) (hT : ∀ X : String, bm.contains (.type X) = bmB.contains (.type X)) {us : List Value} {kw : List (Str × Value)} {fI : Addr}
    (hC : h.get? C = some (excClassObj nm q C N bs bm hdct sn sub ab col dd k0 k1 k2 k3 k5 newId))
    (hi : W.Looks (model prog w) h (typeLookup (.ref C) "__init__") (some (.ref fI))) (hb : ∀ self, W.Looks (model prog w) h (bindSpecial (.ref fI) self) (.ref fI, [self])) (hz : us.length ≤ sizeLine)
    (hq : codeAny (model prog w) (A.under (.builtin "type.__call__" ⟨.ref C :: us, kw⟩)) (.call (.ref fI) ⟨.ref (h.objs.size + 1) :: us, kw⟩) (W.InitBack (h.objs.size + 1) R) ⟨born h us C, g, d, t, os⟩) :
    codeAny (model prog w) A (.call (.ref C) ⟨us, kw⟩) R ⟨h, g, d, t, os⟩ := by
  have f1 := tc_lookup
  have f2 := tc_bind (.ref C)
  have hTy : (⟨h, g, d, t, os⟩ : Shared).TypeIs (.ref C) "type" := ⟨_, hC, rfl⟩
  refine codeAny_of_tree ?_
  show wpAny _ _ (callAny (.ref C) _) _ _ _
  repeat (any_goals (first
    | assumption
    | with_reducible refine wpAny_loadPart_at hC ?_
    | wp_step))
  refine ⟨rfl, ?_⟩
  refine codeAny_call_builtin_at (Code.quiet_builtin _ (by decide +kernel)) entry_typeCall (q_tcheck hC ?_)
  show wpAny (model prog w) _ (Builtin.«type.__call__» ⟨.ref C :: us, kw⟩) _ _ _
  repeat (first
    | with_reducible refine wpAny_loadPart_at hC ?_
    | with_reducible refine wpAny_madeBy_exc hC ?_
    | wp_step)
  refine codeAny_call_builtin_code (Code.quiet_builtin _ F.quiet) (q_check F hT hC ?_)
  refine q_new F hT hC hz ?_
  show wpAny _ _ _ _ _ _
  have hC1 := born_old (us := us) (C := C) hC
  have hx : (born h us C).get? (h.objs.size + 1) = some (excO C h.objs.size) := born_at
  have own : (Value.ref C :: bm).contains (.ref C) = true := by simp
  have i1 := hi.keeps fun b o e => born_old (us := us) (C := C) e
  have b1 := (hb (.ref (h.objs.size + 1))).keeps fun b o e => born_old (us := us) (C := C) e
  unfold isInstance
  repeat (first
    | with_reducible refine wpAny_loadPart_at hx ?_
    | (with_reducible refine wpAny_isSubtype_exc hC1 ?_
       rw [own])
    | wp_step)
  show wpAny _ _ (typeLookup (.ref C) _) _ _ _
  refine i1.at ?_
  refine wpAny_holding (wpAny_bind (b1.at ?_))
  refine wpAny_bind ?_
  refine wpAny_call (codeAny_mono hq fun r s' z => ?_)
  cases r with
  | error e => exact z
  | ok fl =>
    cases fl with
    | ret v =>
      obtain ⟨rfl, z⟩ := z
      exact wpAny_pure (wpAny_pure z)
    | next => exact False.elim z
    | brk => exact False.elim z
    | cont => exact False.elim z
end
/-! ### self.name = v on such an exception that has no dict yet -/
abbrev exTail : List Value := [.type "Exception", .type "BaseException", .type "object"]
theorem q_pass (C Q : Addr) (self : Value) : refuseLoop self "__setattr__" (.ref C :: .ref Q :: exTail) = pure () := by
  rw [refuseLoop_ref, refuseLoop_ref]
  exact F.store_Exception.passes self
theorem q_has (Q : Addr) (X : String) : (Value.ref Q :: exTail).contains (.type X) = exTail.contains (.type X) := by
  rw [List.contains_cons]
  rfl
section
open Builtin.ObjectAttr
variable {prog : Program} {w : World} {A : Around} {E : Value → Shared → Prop} {R : Result → Shared → Prop} {hp : Heap} {g : Array GenState} {d : Drawn} {t : Nat} {os : OsState}
theorem q_osa {K : W.Frag} {name : Str} {tk : Tok} {v : Value} {x C Q : Addr} {fv : Array Value} {cd : ClassData}
    (X : K.In hp) (hx : hp.get? x = some { cls := .ref C, data := .fields fv }) (hcd : W.clsIn K C = some cd) (hm : cd.mro = .ref C :: .ref Q :: exTail) (hh : cd.hasDict = true) (ha : W.findIn K (.ref C) name = some none)
    (hq : ∀ h' tk' dx, (∀ b o, b ≠ x → hp.get? b = some o → h'.get? b = some o) → hp.objs.size ≤ dx → dx ≠ x → h'.get? x = some { cls := .ref C, dict := some dx, data := .fields fv } → h'.Ns1 dx (fun y => if y = name then some v else none) → R (.ok (.ret .none)) ⟨h', g, d, tk', os⟩) :
    codeAny (model prog w) A (.call (.builtin "object.__setattr__") ⟨[.ref x, .str name tk, v], []⟩) R ⟨hp, g, d, t, os⟩ := by
  have I : W.InstAt hp x { cls := .ref C, data := .fields fv } C none := ⟨hx, rfl, rfl, trivial⟩
  have ob : cd.mro.contains (.type "object") = true := by
    rw [hm]
    simp
  have xs : x ≠ hp.objs.size := Nat.ne_of_lt (Heap.lt_size hx)
  have sub : W.Looks (model prog w) hp (isInstance (.ref x) (.type "object")) true := I.type.andThen (W.looks_mroIn X (by
    unfold W.mroIn
    rw [hcd, Option.bind_some, if_neg (by rw [hm]; exact Bool.false_ne_true), ob]))
  have S0 := F.store_object
  refine codeAny_call_builtin S0.slot.plain S0.entry (@W.check_slot (model prog w) _ _ ⟨hp, g, d, t, os⟩ "object.__setattr__" "object" "__setattr__" (.ref x) [.str name tk, v] [] _ S0.kind S0.split sub (S0.args (.ref x) (.str name tk) v) ?_)
  have lm : W.Looks (model prog w) hp (mroOf (.ref C)) cd.mro := (W.looks_clsIn X hcd).andThen .now
  have ls : W.Looks (model prog w) hp (storeTaker? none) none := .now
  have lc : W.Looks (model prog w) hp (classData C) cd := W.looks_clsIn X hcd
  rw [W.osa_eq, refuse_eq]
  refine wpAny_bind (wpAny_bind (I.type.at (wpAny_bind (lm.at ?_))))
  rw [hm, q_pass]
  refine wpAny_pure (wpAny_bind (I.type.at (wpAny_bind ((W.looks_findIn X ha).at (wpAny_bind (ls.at ?_))))))
  show wpAny _ _ (storeInOwnDict (.ref x) (.ref C) (.str name tk) name v false) _ _ _
  obtain ⟨nm, bs, mro, ns, qn, hd, sn, sb, ab, col, del⟩ := cd
  dsimp only at hh
  subst hh
  unfold storeInOwnDict ownDictForStores
  repeat (first
    | with_reducible refine store_in_new ?_ ?_
    | with_reducible refine wpAny_loadPart_at hx ?_
    | with_reducible refine lc.at ?_
    | wp_step)
  · exact ⟨_, #[], _, (Heap.get?_update_ne _ _ _ _ xs.symm).trans (Heap.get?_push_at rfl rfl), rfl, fun e he => absurd he (by simp), fun _ => rfl⟩
  · intro h' tk' hn' hs
    have hx1 : (hp.push { cls := .type "dict", data := .dict #[] }).get? x = some { cls := .ref C, data := .fields fv } := Heap.get?_push_of_some _ hx
    exact hq h' tk' hp.objs.size (fun b o hb ho => (hs.2 b (Nat.ne_of_lt (Heap.lt_size ho))).trans ((Heap.get?_update_ne _ _ _ _ hb).trans (Heap.get?_push_of_some _ ho))) (Nat.le_refl _) xs.symm ((hs.2 x xs).trans (Heap.get?_update_self _ hx1 rfl)) hn'
end
end QX
end PySem

set_option Elab.async false
set_option linter.all false
set_option maxRecDepth 100000
set_option maxHeartbeats 4000000
/-! Rules for such errors: the store in __init__, the making as a value, a field, raise. -/
namespace QY
open PySem PySem.Spec PyProof.Rows L2 KT
open PySem.QX (exTail q_osa q_call q_has born born_old born_at)
/-- what the written part says of such a class at C, its __init__ at fI, its field f -/
structure Qc (K : PySem.W.Frag) (C fI : Addr) (f : Str) : Prop where
  cls : ∃ nm q N bs Q sn sub ab col dd k0 k1 k2 k3 k5, K.lookup C = some (excClassObj nm q C N bs (.ref Q :: exTail) true sn sub ab col dd k0 k1 k2 k3 k5 "Exception.__new__")
  sa : PySem.W.findIn K (.ref C) "__setattr__" = some (some (.builtin "object.__setattr__"))
  no : PySem.W.findIn K (.ref C) f = some none
  iC : PySem.W.findIn K (.ref C) "__init__" = some (some (.ref fI))
  tI : PySem.W.typeIn K (.ref fI) = some (.type "function")
  kC : PySem.W.keepIn K (.ref C) = true
  exC : PySem.W.subIn K (.ref C) (.type "BaseException") = some true
  tyC : PySem.W.typeIn K (.ref C) = some (.type "type")
  ga : PySem.W.findIn K (.ref C) "__getattribute__" = some (some (.builtin "BaseException.__getattribute__"))
  gg : PySem.W.findIn K (.ref C) "__getattr__" = some none
  hd : PySem.W.hasDictIn K C = true
section
variable {X : Cx} {pins : List (Addr × Obj)} {σ : L2.St} {H : Hp} {s : Shared} {a C dx fI : Addr} {f : Str} {y : V} {u : Value} {Q : Unit → Shared → Prop} {E : Value → Shared → Prop} {A : Around}
/-- self.f = y on a new one -/
theorem qst_new (T : Qc X.K C fI f) (I : Inv X pins σ H s) (e : H a = some (exo a C none)) (ry : RelV y u)
    (h : ∀ dx s', H dx = none → dx ≠ a → Inv X pins σ (upd (upd H dx (exd dx [(f, y)])) a (exo a C (some dx))) s' → Q () s') : wpAny (model X.prog X.w) A (setAttr (.ref a) f u) Q E s := by
  obtain ⟨nm, q, N, bs, Qa, sn, sub, ab, col, dd, k0, k1, k2, k3, k5, hC⟩ := T.cls
  have hcl : PySem.W.clsIn X.K C = some { name := nm, bases := bs, mro := .ref C :: .ref Qa :: exTail, ns := N, qualname := q, hasDict := true, slotNames := sn, subclasses := sub, abstract := ab, collection := col, hasDel := false } := by
    unfold PySem.W.clsIn
    rw [hC] <;> rfl
  obtain ⟨t1, ho⟩ := exo_at I.hok e
  obtain ⟨hp, g, d, t, os⟩ := s
  refine PySem.W.set_plain I.kIn (ox := { cls := .ref C, dict := none, data := .fields #[.ref t1, .none, .none, .none, .bool false, .none] }) (od := none) ⟨ho, rfl, rfl, trivial⟩ T.sa ?_
  refine q_osa I.kIn ho hcl rfl rfl T.no (fun h' tk' dx k dn dne hx hn => ?_)
  have fdx : H dx = none := I.hok.fresh dn
  have neD : ∀ {b : Addr} {o : Obj}, hp.get? b = some o → b ≠ dx := fun {b o} q => Nat.ne_of_lt (Nat.lt_of_lt_of_le (Heap.lt_size q) dn)
  have neA : ∀ {b : Addr}, H b = none → b ≠ a := fun {b} n z => by
    rw [z, e] at n
    cases n
  have far : ∀ {b : Addr} {o : HO}, H b = some o → o ≠ exo a C none → (upd (upd H dx (exd dx [(f, y)])) a (exo a C (some dx))) b = some o := fun {b o} q n => by
    rw [upd_ne (fun z => n (by rw [z, e] at q; exact (Option.some.inj q).symm)), upd_ne (ne_of_none q fdx)]
    exact q
  have U : Un X.fs [] H (upd (upd H dx (exd dx [(f, y)])) a (exo a C (some dx))) hp h' :=
    ⟨fun b o q n _ _ => k b o (neA n) q, fun b o q n _ _ => ⟨o.slots, k b o (neA n) q⟩, fun b o q n _ => by
      rw [upd_ne (neA n), upd_ne (neD q)]
      exact n, fun b o q _ => by
      by_cases hb : b = a
      · exact ⟨_, by rw [hb]; exact hx⟩
      · exact ⟨o, k b o hb q⟩, fun b xs q => far q (fun z => exo_tup z.symm), fun b o v q => far q (fun z => exo_frz z.symm), fun b ps q => ⟨#[], by rw [far q (fun z => exo_tbl z.symm)]; simp⟩⟩
  refine h dx _ fdx dne (I.un (t' := tk') U fun b o q => ?_)
  by_cases hb : b = a
  · subst hb
    rw [upd_same] at q
    cases q
    exact exo_ok hx
  · rw [upd_ne hb] at q
    by_cases hd : b = dx
    · subst hd
      rw [upd_same] at q
      cases q
      exact exd_ok hn (relO_put (fs := []) ry fun g => True.intro)
    · rw [upd_ne hd] at q
      exact (I.hok b o q).stay (fun c v hc z => k c v (hc.elim (fun hc => by rw [hc]; exact hb) fun hc => at_ne e hc exo_own) z) (fun c hc => far hc fun z => exo_own z.symm) (fun c xs hc => far hc fun z => exo_tup z.symm)
end
/-- self.f = e in such an __init__ -/
def tQst (K : PySem.W.Frag) (f : Str) (to te : TE) : TS := fun D σ H => te σ H fun y H1 => to σ H1 fun x H2 => ∃ a C fI : Addr, x = .ref a ∧ Qc K C fI f ∧ H2 a = some (exo a C none) ∧ ∀ dx, H2 dx = none → dx ≠ a → D.nx σ (upd (upd H2 dx (exd dx [(f, y)])) a (exo a C (some dx)))
section
variable {X : Cx} {o e : Expr} {es : List Expr} {to te : TE} {ta : TA} {f : Str} {p p' p1 p2 pos : Pos} {kws : List Keyword}
theorem ps_qst (ho : PE X o to) (he : PE X e te) (hs : swapsWith e (some (.Attribute o f p')) pos.line X.env = pure false := by rfl) : PS X (.Assign [.Attribute o f p'] e pos) (tQst X.K f to te) := by
  refine ⟨fun pins s σ H D I h => ?_⟩
  refine plainObj_wpAny_Assign_Attribute (thn (he.run pins s σ H _ I h) fun v s1 ⟨y, H1, I1, r1, q1⟩ => thn (ho.run pins s1 σ H1 _ I1 q1) fun u s2 ⟨x, H2, I2, r2, a, C, fI, ex, T, ea, q⟩ => ?_) hs
  subst ex
  obtain rfl : u = Value.ref a := r2
  exact qst_new T I2 ea r1 fun dx s' n ne J => ⟨σ, _, J, q dx n ne⟩
/-- C(e, ..) as a value -/
def tQmk (C : Addr) (sp : Sp) (ta : TA) : TE := fun σ H Q => ta σ H fun vs H1 => vs.length ≤ 1000 ∧ ∀ a, H1 a = none → sp (.ref a :: vs) (upd H1 a (exo a C none)) (fun v H2 => v = .non ∧ Q (.ref a) H2) (fun _ _ _ => False)
theorem q_make {CX : CXT} {C fI : Addr} {k : Nat} {fd : FuncData} {ps : List Str} {sp : Sp} {f : Str} {pins : List (Addr × Obj)} {σ : L2.St} {H1 : Hp} {s1 : Shared} {us : List Value} {kw : List (Str × Value)} {zs : List V} {ws : List Value} {Q : VK}
    (T : Qc X.K C fI f) (F1 : FnOk X.prog X.w X.K X.mg X.base CX k fI fd ps sp) (hr : Room (k + 1) X.A) (hx : Passes CX X (fun _ _ _ => False)) (I1 : Inv X pins σ H1 s1) (hz : us.length ≤ sizeLine)
    (hb : ∀ (s : Shared) (a : Addr), X.K.In s.heap → (Value.ref a :: ws).length = ps.length → BindsTo s fd ⟨.ref a :: us, kw⟩ (ps.zip (.ref a :: ws))) (r1 : Vals zs ws)
    (q1 : ∀ a, H1 a = none → sp (.ref a :: zs) (upd H1 a (exo a C none)) (fun v H2 => v = .non ∧ Q (.ref a) H2) (fun _ _ _ => False)) :
    wpAny (model X.prog X.w) X.A (call (.ref C) us kw) (EP X pins σ Q) X.xe s1 := by
  obtain ⟨nm, q, N, bs, Qa, sn, sub, ab, col, dd, k0, k1, k2, k3, k5, hC⟩ := T.cls
  obtain ⟨hp, g, dr, tk, os⟩ := s1
  have hsz : hp.objs.size ≤ hp.objs.size + 1 := Nat.le_succ _
  have hn : H1 (hp.objs.size + 1) = none := I1.hok.fresh hsz
  have hq := q1 (hp.objs.size + 1) hn
  have I2 : Inv X pins σ (upd H1 (hp.objs.size + 1) (exo (hp.objs.size + 1) C none)) ⟨born hp us C, g, dr, tk, os⟩ :=
    I1.laid (t' := tk) (a := hp.objs.size + 1) (o := exo (hp.objs.size + 1) C none) (h' := born hp us C) (fun b o e => born_old e) hsz (exo_ok born_at)
  have r2 : Vals (V.ref (hp.objs.size + 1) :: zs) (Value.ref (hp.objs.size + 1) :: ws) := .cons rfl r1
  have hl : (Value.ref (hp.objs.size + 1) :: ws).length = ps.length := by
    have e := r2.length
    rw [F1.len _ _ _ _ hq] at e
    exact e.symm
  refine wpAny_call (q_call PySem.F.excBase_Exception (q_has Qa) (I1.kIn _ _ hC) (PySem.W.looks_findIn I1.kIn T.iC) (fun self => PySem.W.bind_fn I1.kIn self T.tI) hz
    (codeAny_mono (F1.run _ X.stack _ _ ⟨Value.ref (hp.objs.size + 1) :: us, kw⟩ (Value.ref (hp.objs.size + 1) :: ws) _ _ (fun _ _ _ => False) (hr.make C us kw) (I2.env0.make C us kw) (hb _ _ I2.kIn hl) r2 hq) fun r s' hq' => ?_))
  cases r with
  | error er => exact hx pins σ _ _ er s' I2 hq'
  | ok fl =>
    cases fl with
    | ret u =>
      obtain ⟨v, H2, J, rv, rfl, q2⟩ := I2.after hq'
      cases rv
      exact ⟨rfl, .ref (hp.objs.size + 1), _, J, rfl, q2⟩
    | next => exact False.elim hq'
    | brk => exact False.elim hq'
    | cont => exact False.elim hq'
/-- C(e), by position -/
theorem pe_qmk {CX : CXT} {x : Str} {C fI : Addr} {k : Nat} {fd : FuncData} {ps : List Str} {sp : Sp} {n : Str} (T : Qc X.K C fI n) (F1 : FnOk X.prog X.w X.K X.mg X.base CX k fI fd ps sp) (hr : Room (k + 1) X.A) (hb : Binds X.K fd ps []) (hx : Passes CX X (fun _ _ _ => False)) (hg : Gl X x) (hm : X.mg x = some (.ref C)) (ha : PA X (e :: es) ta)
    (hdb : (x == ("__debug__" : Str)) = false := by decide) (he : starEach (e :: es) X.env = (false, eval e X.env) :: starEach es X.env := by rfl) (hpl : (backTo pos (starEach es X.env)).any (·.1) = false := by rfl) :
    PE X (.Call (.Name x p) (e :: es) [] pos) (tQmk C sp ta) := by
  refine ⟨fun pins s σ H Q I h => ?_⟩
  refine wpAny_Call_Name_kw (ld_glob I hg hm ?_ hdb)
  refine PySem.W.callWith_K (h₀ := X.base) I.ok.mod.kin T.kC (thn (ha.run pos pins s σ H _ I h) fun us s1 ⟨vs, H1, I1, r1, hz, q1⟩ => ⟨I1.kIn, ?_⟩) he hpl
  show wpAny _ _ (call (.ref C) us) _ _ _
  refine q_make (kw := []) (ws := us) T F1 hr hx I1 (by rw [← Paired.length r1, sizeLine_eq]; omega) (fun s a kI hl => by
    have z := hb s (.ref a :: us) kI (by rw [List.append_nil]; exact hl)
    rw [List.append_nil] at z
    exact z) r1 q1
/-- C(n=e), by name -/
structure KB1 (fd : FuncData) (ps ks : List Str) : Prop where
  to : ∀ (s : Shared) (a : Addr) (ws : List Value), (Value.ref a :: ws).length = ps.length → BindsTo s fd ⟨[.ref a], ks.zip ws⟩ (ps.zip (.ref a :: ws))
theorem pe_qmkK {CX : CXT} {x : Str} {C fI : Addr} {k : Nat} {fd : FuncData} {ps ks : List Str} {sp : Sp} {n : Str} (T : Qc X.K C fI n) (F1 : FnOk X.prog X.w X.K X.mg X.base CX k fI fd ps sp) (hr : Room (k + 1) X.A) (hb : KB1 fd ps ks) (hx : Passes CX X (fun _ _ _ => False)) (hg : Gl X x) (hm : X.mg x = some (.ref C)) (hkw : PK X kws ta)
    (hall : (backToKw pos (keywordEach kws X.env)).all (·.1.isSome) = true := by rfl) (hks : (backToKw pos (keywordEach kws X.env)).filterMap (·.1) = ks := by rfl)
    (hdb : (x == ("__debug__" : Str)) = false := by decide) (hpl : ((backTo pos (starEach [] X.env)).any (·.1) || (backToKw pos (keywordEach kws X.env)).any (·.1.isNone)) = false := by rfl) :
    PE X (.Call (.Name x p) [] kws pos) (tQmk C sp ta) := by
  refine ⟨fun pins s σ H Q I h => ?_⟩
  refine wpAny_Call_Name_kw (ld_glob I hg hm ?_ hdb)
  refine PySem.W.callWith_KW0 (h₀ := X.base) I.ok.mod.kin T.kC hall ?_ hpl
  refine thn (hkw.run pos pins s σ H _ I h) fun ws s2 ⟨zs, H2, I2, rz, hz, q2⟩ => ⟨I2.kIn, ?_⟩
  rw [hks]
  exact q_make (us := []) (kw := ks.zip ws) (ws := ws) T F1 hr hx I2 (Nat.zero_le _) (fun s a _ hl => hb.to s a ws hl) rz q2
end
end QY

set_option Elab.async false
set_option linter.all false
set_option maxRecDepth 100000
set_option maxHeartbeats 4000000
/-! Such an error as a value: its field, isinstance; raised. -/
namespace QZ
open PySem PySem.Spec PyProof.Rows L2 KT QY
/-- at a: an exception of the class at C, its dict at d; what else it holds is not told -/
def exq (a C : Addr) (d : Option Addr) : HO := .ext fun h => ∃ oe : Obj, h.get? a = some oe ∧ Zc (.ref C) d oe ∧ ∃ vs, oe.data = .fields vs
/-- an error stands at a: of the class at C, its field f holds v -/
def Xo (H : Hp) (a C : Addr) (f : Str) (v : V) : Prop := ∃ (dx : Addr) (fs : List (Str × V)), (H a = some (exo a C (some dx)) ∨ H a = some (exq a C (some dx))) ∧ (H dx = some (exd dx fs) ∨ H dx = some (.xd fs)) ∧ fs.lookup f = some v
theorem Xo.same {H H' : Hp} {a C : Addr} {f : Str} {v : V} (s : Same H H') (h : Xo H a C f v) : Xo H' a C f v := by
  obtain ⟨dx, fs, h1, h2, h3⟩ := h
  exact ⟨dx, fs, h1.imp (s _ _) (s _ _), h2.imp (s _ _) (s _ _), h3⟩
section
variable {X : Cx} {pins : List (Addr × Obj)} {σ : L2.St} {H : Hp} {s : Shared} {a C fI : Addr} {f : Str} {v : V}
theorem Xo.inst (I : Inv X pins σ H s) (h : Xo H a C f v) : ∃ (ox : Obj) (od : Obj) (u : Value), PySem.W.InstAt s.heap a ox C (some od) ∧ PySem.W.lookIn f od = some (some u) ∧ RelV v u := by
  obtain ⟨dx, fs, h1, h2, h3⟩ := h
  have hx : ∃ oe : Obj, s.heap.get? a = some oe ∧ Zc (.ref C) (some dx) oe ∧ ∃ vs, oe.data = .fields vs := by
    rcases h1 with h1 | h1
    · obtain ⟨t1, e⟩ := exo_at I.hok h1
      exact ⟨_, e, ⟨rfl, rfl⟩, _, rfl⟩
    · have z : ObjOk X.prog X.w H s.heap a (.ext fun h => ∃ oe : Obj, h.get? a = some oe ∧ Zc (.ref C) (some dx) oe ∧ ∃ vs, oe.data = .fields vs) := I.hok a _ h1
      exact z.1
  have hd : ∃ mA, s.heap.Ns1 dx mA ∧ ∀ f, RelO (fs.lookup f) (mA f) := by
    rcases h2 with h2 | h2
    · exact exd_at I.hok h2
    · have z : ObjOk X.prog X.w H s.heap dx (.xd fs) := I.hok dx _ h2
      exact z
  obtain ⟨oe, e, hz, vs, hv⟩ := hx
  obtain ⟨mA, hns, hr⟩ := hd
  obtain ⟨od, ho, hl⟩ := lookIn_ns hns
  obtain ⟨u, hu, ru⟩ := RelO.some_of (v := v) (o := mA f) (by rw [← h3]; exact hr f)
  refine ⟨oe, od, u, ⟨e, hz.1, by unfold PySem.W.notCls; rw [hv] <;> rfl, by rw [hz.2]; exact ho⟩, by rw [hl, hu], ru⟩
end
/-- e.f -/
def tQf (K : PySem.W.Frag) (f : Str) (te : TE) : TE := fun σ H Q => te σ H fun x H1 => ∃ (a C fI : Addr) (v : V), x = .ref a ∧ Qc K C fI f ∧ Xo H1 a C f v ∧ Q v H1
theorem pe_qf {X : Cx} {e : Expr} {te : TE} {pos : Pos} {n : Str} (he : PE X e te) (hb : attributeBase e n X.env (eval e X.env) = eval e X.env := by rfl) : PE X (.Attribute e n pos) (tQf X.K n te) := by
  refine ⟨fun pins s σ H Q I h => ?_⟩
  refine attr_of hb (thn (he.run pins s σ H _ I h) fun u s1 ⟨x, H1, I1, rx, a, C, fI, v, ex, T, xo, q⟩ => ?_)
  subst ex
  obtain rfl : u = Value.ref a := rx
  obtain ⟨ox, od, u, J, hl, ru⟩ := xo.inst I1
  exact HandSPX.exc_get I1.kIn J T.ga T.gg T.exC (PySem.W.findObj_own T.hd T.no rfl hl) (handed_of ru) ⟨v, H1, I1.tok _, ru, q⟩
/-- what isinstance asks of the class besides -/
structure Qi (K : PySem.W.Frag) (C : Addr) : Prop where
  ha : PySem.W.findIn K (.ref C) "__class__" = some (some (.builtin "object.__class__"))
  hn : PySem.W.specialIn K (.builtin "object.__class__") "__get__" = some (some (.builtin "getset_descriptor.__get__"))
  ht : PySem.W.takesIn K (.builtin "object.__class__") = some true
  hm : PySem.W.mroIn K C (.type "object") = some true
theorem kit_q {K : PySem.W.Frag} {a C fI : Addr} {f : Str} {ox : Obj} {od : Option Obj} (T : Qc K C fI f) (U : Qi K C) : PySem.W.KitX K (.ref a) (.ref C) (fun h => PySem.W.InstAt h a ox C od) := by
  refine PySem.W.kitx_exc ?_ T.ga T.gg T.exC U.ha U.hn U.ht U.hm
  have z := T.hd
  obtain ⟨cd, hc, _⟩ := PySem.W.any_some z
  rw [hc]
  rfl
def rIsQ (K : PySem.W.Frag) : List V → Hp → VK → Prop := fun xs H Q => ∃ (a C fI : Addr) (f : Str) (v c : V) (cv : Value) (b : Bool), xs = [.ref a, c] ∧ Xo H a C f v ∧ Qc K C fI f ∧ Qi K C ∧ ClsV c cv ∧ PySem.W.kitOne K (.ref C) cv = some b ∧ Q (.bl b) H
theorem call_isQ {X : Cx} : CallR X (.builtin "isinstance") (rIsQ X.K) := by
  intro pins s σ H xs us Q I r h
  obtain ⟨a, C, fI, f, v, c, cv, b, rfl, xo, T, U, k, e, q⟩ := h
  obtain ⟨u1, u2, rfl, r1, r2⟩ := vals2 r
  have e2 := k.eq r2
  subst e2
  obtain rfl : u1 = Value.ref a := r1
  obtain ⟨ox, od, u, J, hl, ru⟩ := xo.inst I
  exact PySem.W.kia_one (kit_q T U) I.kIn J e (fun z => nomatch z) fun tk => ⟨.bl b, H, I.kept (t' := tk) fun _ _ z => z, rfl, q⟩
def rIsQT (K : PySem.W.Frag) : List V → Hp → VK → Prop := fun xs H Q => ∃ (a C fI : Addr) (f : Str) (v : V) (tp : Addr) (cs : List V) (us : List Value) (b : Bool), xs = [.ref a, .ref tp] ∧ Xo H a C f v ∧ Qc K C fI f ∧ Qi K C ∧ H tp = some (.tup cs) ∧ Paired ClsV cs us ∧ PySem.W.kitAny K (.ref C) us = some b ∧ Q (.bl b) H
theorem call_isQT {X : Cx} : CallR X (.builtin "isinstance") (rIsQT X.K) := by
  intro pins s σ H xs us Q I r h
  obtain ⟨a, C, fI, f, v, tp, cs, ws, b, rfl, xo, T, U, hT, k, e, q⟩ := h
  obtain ⟨u1, u2, rfl, r1, r2⟩ := vals2 r
  cases (show u2 = Value.ref tp from r2)
  obtain rfl : u1 = Value.ref a := r1
  obtain ⟨ox, od, u, J, hl, ru⟩ := xo.inst I
  obtain ⟨_, its, rv, o, h1, h2, n, h3⟩ := (show ObjOk X.prog X.w H s.heap tp (.tup cs) from I.hok tp _ hT)
  have e3 := ClsV.all k rv
  subst e3
  obtain ⟨oc, oz, dt, sl⟩ := o
  dsimp only at h2 h3
  subst h2 h3
  exact PySem.W.kia_tup (kit_q T U) I.kIn J h1 e (fun z => nomatch z) fun tk => ⟨.bl b, H, I.kept (t' := tk) fun _ _ z => z, rfl, q⟩
/-- raise of what makes such an error -/
theorem pmk_q {X : Cx} {e : Expr} {te : TE} (hx : X.ex = []) (he : PE X e te) :
    PMk X e (fun σ H Q => te σ H fun x H1 => ∃ (a C fI d : Addr) (f : Str) (fs : List (Str × V)), x = .ref a ∧ Qc X.K C fI f ∧ H1 a = some (exo a C (some d)) ∧ H1 d = some (exd d fs) ∧ Fr0 X.H_0 a ∧ Q (.ref C) (some d) (upd (delH H1 a) d (.xd fs))) := by
  intro pins s σ H Q I h
  refine wpAny_mono (he.run pins s σ H _ I h) (fun u s1 hu => ?_) fun _ _ x => x
  obtain ⟨v, H1, I1, r1, a, C, fI, d, f, fs, rfl, T, ha, hd, h0, q⟩ := hu
  cases r1
  obtain ⟨t1, ho⟩ := exo_at I1.hok ha
  obtain ⟨mA, hns, rel⟩ := exd_at I1.hok hd
  have hda : d ≠ a := fun z => by
    obtain ⟨o, es, ep, e1, e2, _⟩ := hns
    rw [z, ho] at e1
    have z2 := Option.some.inj e1
    subst z2
    cases e2
  obtain ⟨G, gs, ga, J⟩ := I1.untrack (φ := fun h => ∃ t1 : Addr, h.get? a = some ({ cls := .ref C, dict := some d, data := .fields #[.ref t1, .none, .none, .none, .bool false, .none] } : Obj)) ha h0 hx
  have hd2 : delH H1 a d = some (exd d fs) := by
    rw [delH_ne hda]
    exact hd
  obtain ⟨mB, hn2, rel2⟩ := exd_at J.hok hd2
  have hg : ∃ o, G.get? d = some o := by
    obtain ⟨o, _, _, e, _⟩ := hn2
    exact ⟨o, e⟩
  have J2 := J.write (x := d) (e := d) (o := .xd fs) (h' := G) (t' := s1.toks) (by rw [hd2]; exact True.intro) (.inl rfl) (fun _ _ _ e => e) hg ⟨mB, hn2, rel2⟩
  exact ⟨a, _, _, _, _, .ref C, some d, rfl, J2, gs, ga, ho, ⟨rfl, rfl⟩, rfl, rfl, by rw [upd_ne hda.symm, delH_same], rfl, I1.bare, raises_own T.exC T.tyC, q⟩
end QZ

set_option Elab.async false
set_option linter.all false
set_option maxRecDepth 100000
set_option maxHeartbeats 4000000
/-! A def whose promise holds under a handled exception too: its body's rules ask no calm. -/
namespace QH
open PySem PySem.Spec PyProof.Rows L2 KT
open L2H (RoomH)
/-- the context of such a body -/
def cxQ (CX : CXT) (P : Program) (w : World) (K : PySem.W.Frag) (mg : Str → Option Value) (base : Heap) (N : List Str) (qual : Str) (scope : Scope) (f : Addr) (cd : Value) (A : Around) (outer : List Env) (s : Shared) (H : Hp) (E : XK) : Cx :=
  { cxOf CX P w K mg base N qual scope f cd A outer s H E with calm := false }
section
variable {CX : CXT} {P : Program} {w : World} {K : PySem.W.Frag} {mg : Str → Option Value} {base : Heap} {N ps : List Str} {qual : Str} {scope : Scope} {f : Addr} {cd : Value} {A : Around} {outer : List Env} {s s1 : Shared} {H : Hp} {E : XK} {us : List Value} {vs : List V}
theorem startQ (S : FnScope N ps scope) (e0 : Env0 P w K mg base A outer s H) (hl : vs.length = ps.length) (r : Vals vs us)
    (x : InCallC s s.heap.objs.size (bindL (envOfC qual scope s.heap.objs.size f cd).kindOf (ps.zip us) fun _ => none) (cellsFrom (s.heap.objs.size + 1) scope.names []) (bindC (envOfC qual scope s.heap.objs.size f cd).kindOf (ps.zip us) fun _ => none) s1) :
    Inv (cxQ CX P w K mg base N qual scope f cd A outer s H E) [] (L2.start N vs) H s1 := by
  have e1 : Env0 P w K mg base { A with handled := none } outer s H := ⟨e0.frames, e0.mod, e0.bs, e0.bsz, e0.funs, e0.frf, e0.hok, e0.bare⟩
  have I := L2.inv_start (CX := CX) (E := E) (A := { A with handled := none }) S rfl e1 hl r x
  have k := I.ok
  exact ⟨⟨k.mod, k.kind, k.glob, k.blt, k.above, k.inj, k.has, k.cab, (fun z => Bool.noConfusion (show false = true from z)), Around.frames_deeper e0.frames, k.stk, k.exf, k.bs, k.bsz, k.noex, k.exfs, k.funs, k.frf⟩,
    I.os, I.bare, I.base, I.loc, I.cell, I.free, I.freeC, I.pin, I.hok, I.len⟩
end
structure FnQ (P : Program) (w : World) (K : PySem.W.Frag) (mg : Str → Option Value) (base : Heap) (k : Nat) (f : Addr) (fd : FuncData) (ps : List Str) (sp : Sp) : Prop where
  len : ∀ vs H Q E, sp vs H Q E → vs.length = ps.length
  run : ∀ (A : Around) (outer : List Env) (s : Shared) (H : Hp) (args : Args) (us : List Value) (vs : List V) (Q : VK), RoomH k A → Env0 P w K mg base A outer s H → BindsTo s fd args (ps.zip us) → Vals vs us → sp vs H Q E0 →
    codeAny (model P w) A (.call (.ref f) args) (CR CX0 outer P w H s Q E0) s
section
variable {P : Program} {w : World} {K : PySem.W.Frag} {mg : Str → Option Value} {base : Heap} {k : Nat} {f : Addr} {x qual : Str} {st : Stmt} {fd : FuncData} {N ps : List Str} {sp : Sp}
theorem okQ (F : Fun K x qual st f fd) (S : FnScope N ps (defScope st)) (len : ∀ vs H Q E, sp vs H Q E → vs.length = ps.length)
    (body : ∀ (cdv : Value) (A : Around) (outer : List Env) (s : Shared) (H : Hp) (vs : List V) (Q : VK), RoomH k (A.deeper (envOfC qual (defScope st) s.heap.objs.size f cdv)) → sp vs H Q E0 →
      ∃ t, PSs (cxQ CX0 P w K mg base N qual (defScope st) f cdv A outer s H E0) (defBody st) t ∧ t { nx := fun _ H' => Q .non H', rt := Q } (L2.start N vs) H) : FnQ P w K mg base (k + 1) f fd ps sp := by
  obtain ⟨oc, od, kV, doc, pm, an, cdv, ct, osl, e, l, c⟩ := F.ex
  subst e
  refine ⟨len, fun A outer s H args us vs Q hr e0 hb r hsp => ?_⟩
  have hl := len _ _ _ _ hsp
  have inK : K.In s.heap := e0.mod.kin.keeps fun b o e => (e0.bs b o e).1
  have kinds : ∀ y ∈ ps.zip us, (defScope st).names.lookup y.1 = some .local ∨ ((defScope st).names.lookup y.1 = some .cell ∧ ((cellsFrom (s.heap.objs.size + 1) (defScope st).names []).lookup y.1).isSome = true) := fun ⟨n, v⟩ hy =>
    (S.par n (List.of_mem_zip hy).1).imp id fun q => ⟨q, PySem.W.cellsFrom_some _ _ _ (.inl q)⟩
  refine codeAny_call_function hr.depth (inK _ _ l) rfl S.co S.gen rfl (PySem.W.codeRec_of inK c) (hb _ _ _ _ ?_)
  refine wpAny_newFunctionEnv_cells S.kind kinds fun env he s1 x => ?_
  subst he
  refine ⟨(e0.mod.nolimit.keeps fun b o e => (e0.bs b o e).1).keeps x.toInCall.keep, codeAny_func ?_⟩
  obtain ⟨t, ht, hq⟩ := body cdv A outer s H vs Q (hr.deeper _) hsp
  have I : Inv (cxQ CX0 P w K mg base N qual (defScope st) f cdv A outer s H E0) [] (L2.start N vs) H s1 := startQ S e0 hl r x
  have fin : ∀ {σ' : L2.St} {s' : Shared} {H' : Hp} {v : V} {u : Value}, Inv (cxQ CX0 P w K mg base N qual (defScope st) f cdv A outer s H E0) [] σ' H' s' → RelV v u → Q v H' → CE outer P w H s Q u s' :=
    fun {σ' s' H' v u} J rv q => ⟨v, H', J.os, J.bare, J.base, J.hok, rv, q⟩
  refine wpAny_mono (ht.run [] s1 (L2.start N vs) H _ I hq) (fun fl s' hs => ?_) fun e s' hs => hs
  match fl, hs with
  | .ret u, ⟨v, σ', H', J, rv, q⟩ => exact fin J rv q
  | .next, ⟨σ', H', J, q⟩ => exact fin (v := V.non) (u := Value.none) J rfl q
  | .brk, ⟨_, _, _, q⟩ => exact q.elim
  | .cont, ⟨_, _, _, q⟩ => exact q.elim
end
section
variable {X : Cx} {k : Nat} {f : Addr} {fd : FuncData} {ps : List Str} {sp : Sp} {x : Str} {q pos : Pos} {e : Expr} {es : List Expr} {t : TA}
theorem pe_callQ (F : FnQ X.prog X.w X.K X.mg X.base k f fd ps sp) (hr : RoomH k X.A) (hg : Gl X x) (hm : X.mg x = some (.ref f)) (hk : PySem.W.keepIn X.K (.ref f) = true) (hb : L2.Binds X.K fd ps [])
    (ha : PA X (e :: es) t) (hdb : (x == ("__debug__" : Str)) = false := by decide) (he : starEach (e :: es) X.env = (false, eval e X.env) :: starEach es X.env := by rfl) (hpl : (backTo pos (starEach es X.env)).any (·.1) = false := by rfl) :
    PE X (.Call (.Name x q) (e :: es) [] pos) (fun σ H Q => t σ H fun vs H1 => sp vs H1 Q E0) := by
  refine ⟨fun pins s σ H Q I h => ?_⟩
  refine wpAny_Call_Name_kw (ld_glob I hg hm ?_ hdb)
  refine PySem.W.callWith_K (h₀ := X.base) I.ok.mod.kin hk (thn (ha.run pos pins s σ H _ I h) fun us s1 ⟨vs, H1, I1, r, q1⟩ => ⟨I1.kIn, ?_⟩) he hpl
  have hl : us.length = ps.length := by
    rw [← r.length]
    exact F.len _ _ _ _ q1
  have b := hb s1 us I1.kIn (by rw [List.append_nil]; exact hl)
  rw [List.append_nil] at b
  refine wpAny_call (codeAny_mono (F.run X.A X.stack s1 H1 ⟨us, []⟩ us vs Q hr I1.env0 b r q1) fun r s' hq => ?_)
  match r, hq with
  | .error e, hq => exact pass0 pins σ H1 s1 e s' I1 hq
  | .ok (.ret u), hq => exact I1.after hq
  | .ok .next, hq => exact False.elim hq
  | .ok .brk, hq => exact False.elim hq
  | .ok .cont, hq => exact False.elim hq
end
end QH

set_option Elab.async false
set_option linter.all false
set_option maxRecDepth 100000
set_option maxHeartbeats 4000000
/-! The class facts, as one Bool of the written part. -/
namespace QB
open PySem PySem.Spec PyProof.Rows L2 KT QY QZ
open PySem.QX (exTail)
open He (ga ma eqO eqO_ok)
variable {K : PySem.W.Frag}
def qclsB (K : PySem.W.Frag) (C Q : Addr) : Bool := match K.lookup C with
  | some ⟨.type T, _, .cls cd, sl⟩ => decide (T = "type") && (match sl.toList with
    | [_, _, _, _, some (.builtin n), _] => decide (n = "Exception.__new__") && (decide (cd.mro = .ref C :: .ref Q :: exTail) && (cd.hasDict && !cd.hasDel))
    | _ => false)
  | _ => false
theorem and2 {a b : Bool} (h : (a && b) = true) : a = true ∧ b = true := (Bool.and_eq_true _ _).mp h
theorem qclsB_ok {C Q : Addr} (h : qclsB K C Q = true) :
    ∃ nm q N bs Q sn sub ab col dd k0 k1 k2 k3 k5, K.lookup C = some (excClassObj nm q C N bs (.ref Q :: exTail) true sn sub ab col dd k0 k1 k2 k3 k5 "Exception.__new__") := by
  unfold qclsB at h
  split at h
  · rename_i T dd cd sl e
    obtain ⟨h1, h2⟩ := and2 h
    have eT := of_decide_eq_true h1
    split at h2
    · rename_i k0 k1 k2 k3 n k5 es
      obtain ⟨g1, g2⟩ := and2 h2
      obtain ⟨g3, g4⟩ := and2 g2
      obtain ⟨g5, g6⟩ := and2 g4
      have en := of_decide_eq_true g1
      have em := of_decide_eq_true g3
      obtain ⟨sl⟩ := sl
      have es2 : sl = [k0, k1, k2, k3, some (.builtin n), k5] := es
      subst eT en es2
      obtain ⟨a1, a2, a3, a4, a5, a6, a7, a8, a9, a10, a11⟩ := cd
      dsimp only at em g5 g6
      have g7 : a11 = false := by
        cases a11
        · rfl
        · cases g6
      subst em g5 g7
      exact ⟨_, _, _, _, Q, _, _, _, _, _, _, _, _, _, _, e⟩
    · cases h2
  · cases h
def qB (K : PySem.W.Frag) (x f : Str) : Bool :=
  qclsB K (ga K x) (ga K "QuickError") && (eqO (PySem.W.findIn K (.ref (ga K x)) "__setattr__") (some (some (.builtin "object.__setattr__"))) && (eqO (PySem.W.findIn K (.ref (ga K x)) f) (some none) &&
  (eqO (PySem.W.findIn K (.ref (ga K x)) "__init__") (some (some (.ref (ma K (ga K x) "__init__")))) && (decide (PySem.W.typeIn K (.ref (ma K (ga K x) "__init__")) = some (.type "function")) && (PySem.W.keepIn K (.ref (ga K x)) &&
  (decide (PySem.W.subIn K (.ref (ga K x)) (.type "BaseException") = some true) && (decide (PySem.W.typeIn K (.ref (ga K x)) = some (.type "type")) && (eqO (PySem.W.findIn K (.ref (ga K x)) "__getattribute__") (some (some (.builtin "BaseException.__getattribute__"))) &&
  (eqO (PySem.W.findIn K (.ref (ga K x)) "__getattr__") (some none) && (PySem.W.hasDictIn K (ga K x) && (eqO (PySem.W.findIn K (.ref (ga K x)) "__class__") (some (some (.builtin "object.__class__"))) &&
  (decide (PySem.W.mroIn K (ga K x) (.type "object") = some true) && (eqO (PySem.W.specialIn K (.builtin "object.__class__") "__get__") (some (some (.builtin "getset_descriptor.__get__"))) && decide (PySem.W.takesIn K (.builtin "object.__class__") = some true))))))))))))))
theorem qB_ok {x f : Str} (h : qB K x f = true) : Qc K (ga K x) (ma K (ga K x) "__init__") f ∧ Qi K (ga K x) := by
  obtain ⟨h1, h⟩ := and2 h
  obtain ⟨h2, h⟩ := and2 h
  obtain ⟨h3, h⟩ := and2 h
  obtain ⟨h4, h⟩ := and2 h
  obtain ⟨h5, h⟩ := and2 h
  obtain ⟨h6, h⟩ := and2 h
  obtain ⟨h7, h⟩ := and2 h
  obtain ⟨h8, h⟩ := and2 h
  obtain ⟨h9, h⟩ := and2 h
  obtain ⟨h10, h⟩ := and2 h
  obtain ⟨h11, h⟩ := and2 h
  obtain ⟨h12, h⟩ := and2 h
  obtain ⟨h13, h⟩ := and2 h
  obtain ⟨h14, h15⟩ := and2 h
  exact ⟨⟨qclsB_ok h1, eqO_ok h2, eqO_ok h3, eqO_ok h4, of_decide_eq_true h5, h6, of_decide_eq_true h7, of_decide_eq_true h8, eqO_ok h9, eqO_ok h10, h11⟩, ⟨eqO_ok h12, eqO_ok h14, of_decide_eq_true h15, of_decide_eq_true h13⟩⟩
/-- the classes, each with its field -/
def clsL : List (Str × Str) := [("BadTree", "thing"), ("BadProgram", "thing"), ("BadWord", "thing"), ("BadText", "at"), ("BadPath", "thing"), ("BadRaw", "thing"), ("BadName", "thing"), ("BadInputs", "thing"), ("BadPoly", "thing"),
  ("BadTable", "thing"), ("BadNumber", "thing"), ("BadStep", "thing"), ("BadUnit", "thing"), ("BadStanding", "thing"), ("BadSharing", "thing"), ("BadBytes", "at"), ("BadUnits", "thing"), ("BadMachine", "thing")]
def farL : List Value := [.type "ValueError", .type "TypeError", .type "LookupError", .type "ArithmeticError", .type "RuntimeError", .type "AttributeError"]
def oneB (K : PySem.W.Frag) (x : Str) : Bool :=
  decide (PySem.W.kitOne K (.ref (ga K x)) (.ref (ga K "QuickError")) = some true) && (decide (PySem.W.kitOne K (.ref (ga K x)) (.type "Exception") = some true) && (decide (PySem.W.kitAny K (.ref (ga K x)) farL = some false) &&
  (decide (PySem.W.exmOne K (.ref (ga K x)) (.ref (ga K "QuickError")) = some true) && clsL.all fun q => decide (PySem.W.kitOne K (.ref (ga K x)) (.ref (ga K q.1)) = some (decide (x = q.1))) && decide (PySem.W.exmOne K (.ref (ga K x)) (.ref (ga K q.1)) = some (decide (x = q.1))))))
def allB (K : PySem.W.Frag) : Bool := clsL.all fun p => qB K p.1 p.2 && oneB K p.1
/-- what the written part says of such a class, by its name -/
structure Qk (K : PySem.W.Frag) (x f : Str) : Prop where
  c : Qc K (ga K x) (ma K (ga K x) "__init__") f
  i : Qi K (ga K x)
  own : PySem.W.kitOne K (.ref (ga K x)) (.ref (ga K "QuickError")) = some true
  exc : PySem.W.kitOne K (.ref (ga K x)) (.type "Exception") = some true
  far : PySem.W.kitAny K (.ref (ga K x)) farL = some false
  base : PySem.W.exmOne K (.ref (ga K x)) (.ref (ga K "QuickError")) = some true
  is : ∀ q ∈ clsL, PySem.W.kitOne K (.ref (ga K x)) (.ref (ga K q.1)) = some (decide (x = q.1)) ∧ PySem.W.exmOne K (.ref (ga K x)) (.ref (ga K q.1)) = some (decide (x = q.1))
theorem allB_ok (h : allB K = true) {x f : Str} (m : (x, f) ∈ clsL) : Qk K x f := by
  obtain ⟨h1, h⟩ := and2 (List.all_eq_true.mp h _ m)
  obtain ⟨h2, h⟩ := and2 h
  obtain ⟨h3, h⟩ := and2 h
  obtain ⟨h4, h⟩ := and2 h
  obtain ⟨h5, h6⟩ := and2 h
  obtain ⟨g1, g2⟩ := qB_ok h1
  exact ⟨g1, g2, of_decide_eq_true h2, of_decide_eq_true h3, of_decide_eq_true h4, of_decide_eq_true h5, fun q hq => by
    obtain ⟨e1, e2⟩ := and2 (List.all_eq_true.mp h6 q hq)
    exact ⟨of_decide_eq_true e1, of_decide_eq_true e2⟩⟩
end QB

set_option Elab.async false
set_option linter.all false
set_option maxRecDepth 100000
set_option maxHeartbeats 4000000
/-! Such errors by their names: made, kept in a list. -/
namespace QE
open PySem PySem.Spec PyProof.Rows L2 KT QY QZ QB QH
open L2H (RoomH)
open He (ga ma)
section
variable {K : PySem.W.Frag} {x qual : Str} {st : Stmt} {params : Arguments} {body : List Stmt} {scope : Scope} {f : Addr} {fd : FuncData} {ps ks : List Str}
theorem fun_ofM (F : FunD K x qual (defArgs st) (defBody st) (defScope st) [] [] f fd) : Fun K x qual st f fd := by
  obtain ⟨⟨oc, od, dV, kV, doc, pm, an, cdv, ct, osl, e, l, c, d, _⟩, kp⟩ := F
  obtain rfl : dV = .none := by
    rcases d with ⟨_, h⟩ | ⟨h, _⟩
    · exact h
    · exact absurd rfl h
  exact ⟨⟨oc, od, kV, doc, pm, an, cdv, ct, osl, e, l, c⟩, kp⟩
theorem kb1_of (F : FunD K x qual params body scope [] [] f fd)
    (h : ∀ (kV doc pm : Value) (an : Option Addr) (cdv ct : Value) (ws : List Value) (a : Addr), (Value.ref a :: ws).length = ps.length → bindArgs (PySem.W.fnOf x qual params body scope .none kV doc pm an cdv ct) ⟨[.ref a], ks.zip ws⟩ = pure (ps.zip (.ref a :: ws))) : KB1 fd ps ks := by
  obtain ⟨oc, od, dV, kV, doc, pm, an, cdv, ct, osl, rfl, lk, hcd, hD, hK⟩ := F.ex
  rcases hD with ⟨_, rfl⟩ | ⟨e, _⟩
  · exact ⟨fun s a ws hl => .of_eq (h kV doc pm an cdv ct ws a hl)⟩
  · exact absurd rfl e
end
/-- a promise under a handled exception is one under none -/
theorem _root_.QH.FnQ.ok {P : Program} {w : World} {K : PySem.W.Frag} {mg : Str → Option Value} {base : Heap} {k : Nat} {f : Addr} {fd : FuncData} {ps : List Str} {sp : Sp} (F : FnQ P w K mg base k f fd ps sp) (h : ∀ vs H Q E, sp vs H Q E → sp vs H Q E0) :
    FnOk P w K mg base CX0 k f fd ps sp := ⟨F.len, fun A outer s H args us vs Q E hr e0 hb r q => codeAny_mono (F.run A outer s H args us vs Q (L2H.roomH_of hr) e0 hb r (h _ _ _ _ q)) fun rr s' hq => match rr, hq with
  | .ok (.ret _), hq => hq
  | .ok .next, hq => hq.elim
  | .ok .brk, hq => hq.elim
  | .ok .cont, hq => hq.elim
  | .error _, hq => False.elim hq⟩
/-! ### made -/
/-- a new error of the class x at a, its field f -/
def New (K : PySem.W.Frag) (H H' : Hp) (a : Addr) (x f : Str) (y : V) : Prop :=
  Same H H' ∧ H a = none ∧ ∃ dx, H dx = none ∧ dx ≠ a ∧ H' a = some (exo a (ga K x) (some dx)) ∧ H' dx = some (exd dx [(f, y)])
theorem New.xo {K : PySem.W.Frag} {H H' : Hp} {a : Addr} {x f : Str} {y : V} (n : New K H H' a x f y) : Xo H' a (ga K x) f y := by
  obtain ⟨_, _, dx, _, _, h1, h2⟩ := n
  refine ⟨dx, _, .inl h1, .inl h2, ?_⟩
  rw [List.lookup_cons]
  simp
/-- what such an __init__ does -/
def spI (K : PySem.W.Frag) (f : Str) : Sp := fun vs H Q _ => ∃ (a C fI : Addr) (y : V), vs = [.ref a, y] ∧ Qc K C fI f ∧ H a = some (exo a C none) ∧ ∀ dx, H dx = none → dx ≠ a → Q .non (upd (upd H dx (exd dx [(f, y)])) a (exo a C (some dx)))
/-- what is known of the class x: its facts, its name, its __init__ -/
structure Ec (P : Program) (w : World) (K : PySem.W.Frag) (mg : Str → Option Value) (base : Heap) (x f : Str) (fd : FuncData) : Prop where
  k : Qk K x f
  g : mg x = some (.ref (ga K x))
  F : FnOk P w K mg base CX0 1 (ma K (ga K x) "__init__") fd ["self", f] (spI K f)
  b : Binds K fd ["self", f] []
  kb : KB1 fd ["self", f] [f]
structure Ers (P : Program) (w : World) (K : PySem.W.Frag) (mg : Str → Option Value) (base : Heap) (fi : Str → FuncData) : Prop where
  q : mg "QuickError" = some (.ref (ga K "QuickError"))
  of : ∀ x f, (x, f) ∈ clsL → Ec P w K mg base x f (fi x)
theorem mk_of {K : PySem.W.Frag} {x f : Str} {Q : VK} (k : Qk K x f) {y : V} {H1 : Hp} (h : ∀ a H2, New K H1 H2 a x f y → Q (.ref a) H2) :
    ∀ a, H1 a = none → spI K f (.ref a :: [y]) (upd H1 a (exo a (ga K x) none)) (fun v H2 => v = .non ∧ Q (.ref a) H2) (fun _ _ _ => False) := fun a ha => by
  refine ⟨a, ga K x, ma K (ga K x) "__init__", y, rfl, k.c, upd_same, fun dx hd ne => ⟨rfl, h a _ ⟨fun b o e => ?_, ha, dx, ?_, ne, upd_same, ?_⟩⟩⟩
  · have n1 : b ≠ a := ne_of_none e ha
    rw [upd_ne ne] at hd
    rw [upd_ne n1, upd_ne (ne_of_none e hd), upd_ne n1]
    exact e
  · rw [upd_ne ne] at hd
    exact hd
  · rw [upd_ne ne, upd_same]
section
variable {X : Cx} {x f : Str} {fd : FuncData} {e : Expr} {te : TE} {p pos p2 : Pos}
theorem pe_new (E : Ec X.prog X.w X.K X.mg X.base x f fd) (hr : Room 2 X.A) (he : PE X e te) (hg : Gl X x) (hdb : (x == ("__debug__" : Str)) = false := by decide) (hse : starEach [e] X.env = (false, eval e X.env) :: starEach [] X.env := by rfl)
    (hpl : (backTo pos (starEach [] X.env)).any (·.1) = false := by rfl) : PE X (.Call (.Name x p) [e] [] pos) (tQmk (ga X.K x) (spI X.K f) (tCons te tNil)) :=
  pe_qmk E.k.c E.F hr E.b pass0 hg E.g (pa_cons he pa_nil hse) hdb hse hpl
theorem pe_newK {kws : List Keyword} {ta : TA} (E : Ec X.prog X.w X.K X.mg X.base x f fd) (hr : Room 2 X.A) (hkw : PK X kws ta) (hg : Gl X x)
    (hall : (backToKw pos (keywordEach kws X.env)).all (·.1.isSome) = true := by rfl) (hks : (backToKw pos (keywordEach kws X.env)).filterMap (·.1) = [f] := by rfl)
    (hdb : (x == ("__debug__" : Str)) = false := by decide) (hpl : ((backTo pos (starEach [] X.env)).any (·.1) || (backToKw pos (keywordEach kws X.env)).any (·.1.isNone)) = false := by rfl) :
    PE X (.Call (.Name x p) [] kws pos) (tQmk (ga X.K x) (spI X.K f) ta) :=
  pe_qmkK E.k.c E.F hr E.kb pass0 hg E.g hkw hall hks hdb hpl
end
/-! ### several, made one behind the other -/
def Made (K : PySem.W.Frag) (H : Hp) (y : V) : List Addr → List (Str × Str) → Prop
  | [], [] => True
  | a :: as, p :: ps => Xo H a (ga K p.1) p.2 y ∧ Made K H y as ps
  | _, _ => False
theorem Made.same {K : PySem.W.Frag} {H H' : Hp} {y : V} (s : Same H H') : ∀ {as : List Addr} {ps : List (Str × Str)}, Made K H y as ps → Made K H' y as ps
  | [], [], _ => trivial
  | _ :: _, _ :: _, h => ⟨h.1.same s, Made.same s h.2⟩
  | [], _ :: _, h => h
  | _ :: _, [], h => h
theorem Made.app {K : PySem.W.Frag} {H : Hp} {y : V} : ∀ {as bs : List Addr} {ps qs : List (Str × Str)}, Made K H y as ps → Made K H y bs qs → Made K H y (as ++ bs) (ps ++ qs)
  | [], _, [], _, _, k => k
  | _ :: _, _, _ :: _, _, h, k => ⟨h.1, Made.app h.2 k⟩
  | [], _, _ :: _, _, h, _ => h.elim
  | _ :: _, _, [], _, h, _ => h.elim
theorem Made.len {K : PySem.W.Frag} {H : Hp} {y : V} : ∀ {as : List Addr} {ps : List (Str × Str)}, Made K H y as ps → as.length = ps.length
  | [], [], _ => rfl
  | _ :: _, _ :: _, h => congrArg (· + 1) (Made.len h.2)
  | [], _ :: _, h => h.elim
  | _ :: _, [], h => h.elim
theorem Made.at {K : PySem.W.Frag} {H : Hp} {y : V} : ∀ {as : List Addr} {ps : List (Str × Str)} {i : Nat} {p : Str × Str}, Made K H y as ps → ps[i]? = some p → ∃ a, as[i]? = some a ∧ Xo H a (ga K p.1) p.2 y
  | a :: _, _ :: _, 0, _, h, e => by
    cases e
    exact ⟨a, rfl, h.1⟩
  | _ :: _, _ :: _, i + 1, _, h, e => Made.at (i := i) h.2 e
  | [], [], _, _, _, e => by simp at e
  | [], _ :: _, _, _, h, _ => h.elim
  | _ :: _, [], _, _, h, _ => h.elim
def tMks (K : PySem.W.Frag) (te : TA) : List (Str × Str) → TA
  | [] => tNil
  | p :: ps => tCons (tQmk (ga K p.1) (spI K p.2) te) (tMks K te ps)
theorem mks {K : PySem.W.Frag} {y : V} {te : TA} {σ : L2.St} (ht : ∀ H (R : List V → Hp → Prop), R [y] H → te σ H R) : ∀ (ps : List (Str × Str)) (H : Hp) (R : List V → Hp → Prop), (∀ p ∈ ps, Qk K p.1 p.2) →
    (∀ as H', Same H H' → Made K H' y as ps → R (as.map V.ref) H') → tMks K te ps σ H R
  | [], H, R, _, h => h [] H (fun _ _ e => e) trivial
  | p :: ps, H, R, k, h => by
    refine ht H _ ⟨by show 1 ≤ 1000; decide, mk_of (Q := fun x H1 => tMks K te ps σ H1 fun xs H2 => R (x :: xs) H2) (k p (List.mem_cons_self ..)) fun a H2 n => ?_⟩
    refine mks ht ps H2 _ (fun q hq => k q (List.mem_cons_of_mem _ hq)) fun as H3 s3 m => ?_
    exact h (a :: as) H3 (fun b o e => s3 _ _ (n.1 _ _ e)) ⟨n.xo.same s3, m⟩
theorem Xo.kept {H H' : Hp} {a C : Addr} {f : Str} {y : V} (k : ∀ b o, H b = some o → (∀ xs, o ≠ .lst xs) → H' b = some o) (h : Xo H a C f y) : Xo H' a C f y := by
  obtain ⟨dx, fs, h1, h2, h3⟩ := h
  exact ⟨dx, fs, h1.imp (fun e => k _ _ e fun _ z => nomatch z) (fun e => k _ _ e fun _ z => nomatch z), h2.imp (fun e => k _ _ e fun _ z => nomatch z) (fun e => k _ _ e fun _ z => nomatch z), h3⟩
theorem Made.kept {K : PySem.W.Frag} {H H' : Hp} {y : V} (k : ∀ b o, H b = some o → (∀ xs, o ≠ .lst xs) → H' b = some o) : ∀ {as : List Addr} {ps : List (Str × Str)}, Made K H y as ps → Made K H' y as ps
  | [], [], _ => trivial
  | _ :: _, _ :: _, h => ⟨Xo.kept k h.1, Made.kept k h.2⟩
  | [], _ :: _, h => h
  | _ :: _, [], h => h
/-- found.extend([C(y), ..]) -/
theorem ext_mks {K : PySem.W.Frag} {y : V} {te : TA} {σ : L2.St} {D : Ends} {H0 H : Hp} {L : Addr} {as : List Addr} {qs : List (Str × Str)} (ps : List (Str × Str)) (ht : ∀ H (R : List V → Hp → Prop), R [y] H → te σ H R) (hL : σ[1]? = some (some (.ref L)))
    (n0 : H0 L = none) (s0 : Same H0 H) (e : H L = some (.lst (as.map V.ref))) (m : Made K H y as qs) (k : ∀ p ∈ ps, Qk K p.1 p.2) (small : as.length + ps.length ≤ 100)
    (q : ∀ bs H', Same H0 H' → H' L = some (.lst ((as ++ bs).map V.ref)) → Made K H' y (as ++ bs) (qs ++ ps) → D.nx σ H') :
    tDrop (tBM K "list" rExtend (tVar 1) (tCons (tLst (tMks K te ps)) tNil)) D σ H := by
  refine ⟨_, hL, .inl ⟨rfl, _, SqL.of e⟩, ?_⟩
  refine mks ht ps H _ k fun bs H2 s2 m2 => ?_
  have lb := m2.len
  have ten : 100 ≤ sizeLine := by rw [sizeLine_eq]; decide
  refine ⟨by rw [List.length_map]; omega, fun p np => ?_⟩
  have s3 : Same H2 (upd H2 p (.lst (bs.map V.ref))) := fun b o eb => by
    rw [upd_ne (ne_of_none eb np)]
    exact eb
  have eL := s3 _ _ (s2 _ _ e)
  refine ⟨L, p, _, _, rfl, rfl, eL, upd_same, by rw [List.length_map, List.length_map]; omega, ?_⟩
  rw [← List.map_append]
  have nL : ∀ b o, H0 b = some o → b ≠ L := fun b o eb z => by
    rw [z, n0] at eb
    cases eb
  have kk : ∀ b o, (upd H2 p (.lst (bs.map V.ref))) b = some o → (∀ xs, o ≠ .lst xs) → (upd (upd H2 p (.lst (bs.map V.ref))) L (.lst ((as ++ bs).map V.ref))) b = some o := fun b o eb nl => by
    rw [upd_ne (fun z => by rw [z, eL] at eb; exact nl _ (Option.some.inj eb).symm)]
    exact eb
  refine q bs _ (fun b o eb => ?_) upd_same (Made.kept kk (Made.same s3 (Made.app (Made.same s2 m) m2)))
  rw [upd_ne (nL b o eb)]
  exact s3 _ _ (s2 _ _ (s0 _ _ eb))
/-! ### isinstance(e, C), many -/
def tIss (K : PySem.W.Frag) : List (Str × Str) → TA
  | [] => tNil
  | p :: ps => tCons (tCB (rIsQ K) (tCons (tVar 0) (tCons (tC (.ref (ga K p.1))) tNil))) (tIss K ps)
theorem iss {K : PySem.W.Frag} {a : Addr} {x f : Str} {v : V} {σ : L2.St} {H : Hp} (hσ : σ[0]? = some (some (.ref a))) (xo : Xo H a (ga K x) f v) (k : Qk K x f) : ∀ (ps : List (Str × Str)) (R : List V → Hp → Prop), (∀ p ∈ ps, p ∈ clsL) →
    R (ps.map fun q => .bl (decide (x = q.1))) H → tIss K ps σ H R
  | [], R, _, h => h
  | p :: ps, R, m, h => by
    refine ⟨_, hσ, a, ga K x, ma K (ga K x) "__init__", f, v, .ref (ga K p.1), .ref (ga K p.1), _, rfl, xo, k.c, k.i, .own _, (k.is p (m p (List.mem_cons_self ..))).1, ?_⟩
    exact iss hσ xo k ps _ (fun q hq => m q (List.mem_cons_of_mem _ hq)) h
theorem ext_iss {K : PySem.W.Frag} {a : Addr} {x f : Str} {v : V} {σ : L2.St} {D : Ends} {H0 H : Hp} {L : Addr} {qs : List (Str × Str)} (ps : List (Str × Str)) (hσ : σ[0]? = some (some (.ref a))) (xo : Xo H0 a (ga K x) f v) (k : Qk K x f) (hm : ∀ p ∈ ps, p ∈ clsL)
    (hL : σ[1]? = some (some (.ref L))) (n0 : H0 L = none) (s0 : Same H0 H) (e : H L = some (.lst (qs.map fun q => .bl (decide (x = q.1))))) (small : qs.length + ps.length ≤ 100)
    (q : ∀ H', Same H0 H' → H' L = some (.lst ((qs ++ ps).map fun q => .bl (decide (x = q.1)))) → D.nx σ H') :
    tDrop (tBM K "list" rExtend (tVar 1) (tCons (tLst (tIss K ps)) tNil)) D σ H := by
  refine ⟨_, hL, .inl ⟨rfl, _, SqL.of e⟩, ?_⟩
  refine iss hσ (xo.same s0) k ps _ hm ?_
  have ten : 100 ≤ sizeLine := by rw [sizeLine_eq]; decide
  refine ⟨by rw [List.length_map]; omega, fun p np => ?_⟩
  have eL : (upd H p (.lst (ps.map fun q => .bl (decide (x = q.1))))) L = some (.lst (qs.map fun q => .bl (decide (x = q.1)))) := by
    rw [upd_ne (ne_of_none e np)]
    exact e
  refine ⟨L, p, _, _, rfl, rfl, eL, upd_same, by rw [List.length_map, List.length_map]; omega, ?_⟩
  rw [← List.map_append]
  refine q _ (fun b o eb => ?_) upd_same
  have nL : b ≠ L := fun z => by
    rw [z, n0] at eb
    cases eb
  have e1 := s0 _ _ eb
  rw [upd_ne nL, upd_ne (ne_of_none e1 np)]
  exact e1
/-! ### made[i].f, many -/
def tCs (K : PySem.W.Frag) : Nat → List (Str × Str) → TA
  | _, [] => tNil
  | i, p :: ps => tCons (tQf K p.2 (tOp (rIxL K) (tVar 0) (tC (.int (i : Nat))))) (tCs K (i + 1) ps)
theorem cas {K : PySem.W.Frag} {M : Addr} {v : V} {σ : L2.St} {H : Hp} {as : List Addr} (hσ : σ[0]? = some (some (.ref M))) (hM : H M = some (.lst (as.map V.ref))) (m : Made K H v as clsL) (k : ∀ p ∈ clsL, Qk K p.1 p.2) : ∀ (ps : List (Str × Str)) (i : Nat) (R : List V → Hp → Prop),
    (∀ j p, ps[j]? = some p → clsL[i + j]? = some p) → R (List.replicate ps.length v) H → tCs K i ps σ H R
  | [], _, R, _, h => h
  | p :: ps, i, R, hp, h => by
    have hi := hp 0 p rfl
    rw [Nat.add_zero] at hi
    obtain ⟨a, ea, xo⟩ := m.at hi
    have e2 : (as.map V.ref)[i]? = some (.ref a) := by
      rw [List.getElem?_map, ea]
      rfl
    refine ⟨_, hσ, M, _, (i : Int), .ref a, rfl, rfl, SqL.of hM, atI_nat e2, a, ga K p.1, ma K (ga K p.1) "__init__", v, rfl, (k p (List.mem_of_getElem? hi)).c, xo, ?_⟩
    refine cas hσ hM m k ps (i + 1) _ (fun j q hq => ?_) h
    have z := hp (j + 1) q hq
    rw [show i + (j + 1) = i + 1 + j by omega] at z
    exact z
theorem ext_cas {K : PySem.W.Frag} {M : Addr} {v : V} {σ : L2.St} {D : Ends} {H0 H : Hp} {L : Addr} {as : List Addr} {n : Nat} (i : Nat) (ps : List (Str × Str)) (hσ : σ[0]? = some (some (.ref M))) (hM : H0 M = some (.lst (as.map V.ref))) (m : Made K H0 v as clsL)
    (k : ∀ p ∈ clsL, Qk K p.1 p.2) (hp : ∀ j p, ps[j]? = some p → clsL[i + j]? = some p) (hL : σ[1]? = some (some (.ref L))) (n0 : H0 L = none) (s0 : Same H0 H) (e : H L = some (.lst (List.replicate n v))) (small : n + ps.length ≤ 100)
    (q : ∀ H', Same H0 H' → H' L = some (.lst (List.replicate (n + ps.length) v)) → D.nx σ H') :
    tDrop (tBM K "list" rExtend (tVar 1) (tCons (tLst (tCs K i ps)) tNil)) D σ H := by
  refine ⟨_, hL, .inl ⟨rfl, _, SqL.of e⟩, ?_⟩
  refine cas hσ (s0 _ _ hM) (m.same s0) k ps i _ hp ?_
  have ten : 100 ≤ sizeLine := by rw [sizeLine_eq]; decide
  refine ⟨by rw [List.length_replicate]; omega, fun p np => ?_⟩
  have eL : (upd H p (.lst (List.replicate ps.length v))) L = some (.lst (List.replicate n v)) := by
    rw [upd_ne (ne_of_none e np)]
    exact e
  refine ⟨L, p, _, _, rfl, rfl, eL, upd_same, by rw [List.length_replicate, List.length_replicate]; omega, ?_⟩
  rw [List.replicate_append_replicate]
  refine q _ (fun b o eb => ?_) upd_same
  have nL : b ≠ L := fun z => by
    rw [z, n0] at eb
    cases eb
  have e1 := s0 _ _ eb
  rw [upd_ne nL, upd_ne (ne_of_none e1 np)]
  exact e1
end QE

set_option Elab.async false
set_option linter.all false
set_option maxRecDepth 100000
set_option maxHeartbeats 4000000
/-! Own errors raised out of a def, whatever other classes there are; a def that raises, its code object told. -/
namespace QF
open PySem PySem.Spec PyProof.Rows L2 KT QY QZ QB QE
open He (ga ma)
/-- what is known of one class -/
structure Eq1 (P : Program) (w : World) (K : PySem.W.Frag) (mg : Str → Option Value) (base : Heap) (x f : Str) (fd : FuncData) : Prop where
  c : Qc K (ga K x) (ma K (ga K x) "__init__") f
  i : Qi K (ga K x)
  g : mg x = some (.ref (ga K x))
  F : FnOk P w K mg base CX0 1 (ma K (ga K x) "__init__") fd ["self", f] (spI K f)
  b : Binds K fd ["self", f] []
section
variable {X : Cx} {x f : Str} {fd : FuncData} {e : Expr} {te : TE} {p pos : Pos}
theorem pe_new1 (E : Eq1 X.prog X.w X.K X.mg X.base x f fd) (hr : Room 2 X.A) (he : PE X e te) (hg : Gl X x) (hdb : (x == ("__debug__" : Str)) = false := by decide) (hse : starEach [e] X.env = (false, eval e X.env) :: starEach [] X.env := by rfl)
    (hpl : (backTo pos (starEach [] X.env)).any (·.1) = false := by rfl) : PE X (.Call (.Name x p) [e] [] pos) (tQmk (ga X.K x) (spI X.K f) (tCons te tNil)) :=
  pe_qmk E.c E.F hr E.b pass0 hg E.g (pa_cons he pa_nil hse) hdb hse hpl
end
/-- raise C(the value at slot j): the error is let out, its dict told -/
theorem raise1 {K : PySem.W.Frag} {H0 H : Hp} {σ : L2.St} {v : V} {x f : Str} {j : Nat} {E : XK} (c : Qc K (ga K x) (ma K (ga K x) "__init__") f) (hv : σ[j]? = some (some v)) (fr : ∀ a, H a = none → Fr0 H0 a)
    (q : ∀ d H', Same H H' → H' d = some (.xd [(f, v)]) → E (.ref (ga K x)) (some d) H') :
    tQmk (ga K x) (spI K f) (tCons (tVar j) tNil) σ H fun y H1 => ∃ (a C fI d : Addr) (f : Str) (fs : List (Str × V)), y = .ref a ∧ Qc K C fI f ∧ H1 a = some (exo a C (some d)) ∧ H1 d = some (exd d fs) ∧ Fr0 H0 a ∧ E (.ref C) (some d) (upd (delH H1 a) d (.xd fs)) := by
  refine ⟨_, hv, by show 1 ≤ 1000; decide, fun a ha => ?_⟩
  refine ⟨a, ga K x, ma K (ga K x) "__init__", v, rfl, c, upd_same, fun dx hd ne => ⟨rfl, a, ga K x, ma K (ga K x) "__init__", dx, f, _, rfl, c, upd_same, (by rw [upd_ne ne, upd_same]), fr a ha, q dx _ (fun b o e => ?_) upd_same⟩⟩
  have nd : H dx = none := by
    rw [upd_ne ne] at hd
    exact hd
  have na : b ≠ a := ne_of_none e ha
  have nb : b ≠ dx := ne_of_none e nd
  rw [upd_ne nb, delH_ne na, upd_ne na, upd_ne nb, upd_ne na]
  exact e
section
variable {P : Program} {w : World} {K : PySem.W.Frag} {mg : Str → Option Value} {base : Heap}
theorem okCX {x : Str} {st : Stmt} {fd : FuncData} {N ps : List Str} {k : Nat} {sp : Sp} (F : FnP K x st (He.fAd K (x, none)) fd) (S : FnScope N ps (defScope st)) (len : ∀ vs H Q E, sp vs H Q E → vs.length = ps.length)
    (body : ∀ (cdv : Value) (A : Around) (outer : List Env) (s : Shared) (H : Hp) (vs : List V) (Q : VK) (E : XK), cdv = .ref (He.codeOf K (x, none)) → Room k (A.deeper (envOfC x (defScope st) s.heap.objs.size (He.fAd K (x, none)) cdv)) → sp vs H Q E →
      ∃ t, PSs (cxOf (L2.CX P w) P w K mg base N x (defScope st) (He.fAd K (x, none)) cdv A outer s H E) (defBody st) t ∧ t { nx := fun _ H' => Q .non H', rt := Q } (start N vs) H) : FnOk P w K mg base (L2.CX P w) (k + 1) (He.fAd K (x, none)) fd ps sp := by
  obtain ⟨oc, od, kV, doc, pm, an, cdv, ct, osl, rfl, lk, hcd⟩ := (fun_of F).ex
  obtain ⟨c, ec⟩ := He.codeIn_ref hcd
  have told : cdv = .ref (He.codeOf K (x, none)) := by rw [He.codeOf_eq lk ec, ec]
  exact fn_of lk hcd S len fun A outer s H vs Q E hr hsp => body cdv A outer s H vs Q E told hr hsp
end
end QF

set_option Elab.async false
set_option linter.all false
set_option maxRecDepth 100000
set_option maxHeartbeats 4000000
/-! type(x) of any datum. -/
namespace KY
open PySem PySem.Spec PyProof.Rows L2 KT KX
def tyN : PyData → String
  | .none => "NoneType"
  | .bool _ => "bool"
  | .int _ => "int"
  | .str _ => "str"
  | .list _ => "list"
  | .tuple _ => "tuple"
  | .dict _ => "dict"
section
variable {X : Cx} {M : Addr → Prop} {H : Hp}
theorem ty_is {pins : List (Addr × Obj)} {σ : L2.St} {s : Shared} {v : V} {u : Value} {D : PyData} (h : Dx M H v D) (I : Inv X pins σ H s) (r : RelV v u) : s.TypeIs u (tyN D) ∧ (Value.type (tyN D) == Value.type "builtin_function_or_method") = false := by
  cases h with
  | non =>
    cases r
    exact ⟨rfl, by decide +kernel⟩
  | bl b =>
    cases r
    exact ⟨rfl, (by decide +kernel : (Value.type "bool" == Value.type "builtin_function_or_method") = false)⟩
  | int i =>
    obtain ⟨k, rfl⟩ := r
    exact ⟨typeIs_int s i k, (by decide +kernel : (Value.type "int" == Value.type "builtin_function_or_method") = false)⟩
  | str z =>
    obtain ⟨k, rfl⟩ := r
    exact ⟨typeIs_str s z k, (by decide +kernel : (Value.type "str" == Value.type "builtin_function_or_method") = false)⟩
  | lst n e _ =>
    cases r
    obtain ⟨its, rv, p, _⟩ := I.list (SqL.of e)
    exact ⟨p.isList.typeIs, (by decide +kernel : (Value.type "list" == Value.type "builtin_function_or_method") = false)⟩
  | tup e _ =>
    cases r
    obtain ⟨its, rv, p, _⟩ := I.tuple (SqT.of e)
    exact ⟨p.typeIs, (by decide +kernel : (Value.type "tuple" == Value.type "builtin_function_or_method") = false)⟩
  | dk n e _ =>
    cases r
    exact ⟨dict_typeIs I (DGet.k (k := Sum.inl 0) e), (by decide +kernel : (Value.type "dict" == Value.type "builtin_function_or_method") = false)⟩
def rTyX (M : Addr → Prop) : List V → Hp → VK → Prop := fun xs H Q => ∃ (v : V) (D : PyData), xs = [v] ∧ Dx M H v D ∧ Q (.ty (tyN D)) H
theorem call_typeX (M : Addr → Prop) : CallR X (.type "type") (rTyX M) := by
  intro pins s σ H xs us Q I r h
  obtain ⟨v, D, rfl, hD, q⟩ := h
  obtain ⟨u, rfl, rx⟩ := vals1 r
  obtain ⟨h1, h2⟩ := ty_is hD I rx
  exact call_type_of h1 h2 ⟨.ty (tyN D), H, I, rfl, q⟩
end
end KY

set_option Elab.async false
set_option linter.all false
set_option maxRecDepth 100000
set_option maxHeartbeats 4000000
/-! repr of any datum, also while an exception is handled. -/
namespace KZ
open PySem PySem.Spec PyProof.Rows L2 KT KX
section
variable {X : Cx}
theorem call_reprU (hu : X.A.units + 200 < cLine) (hg : X.A.guards = some []) (hm : HasMods X.base) (M : Addr → Prop) : CallR X (.builtin "repr") (rReprX M) := by
  intro pins s σ H xs us Q I r ⟨v, d, e, hd, hs, hdep, hsz, q⟩
  subst e
  obtain ⟨u, rfl, ru⟩ := vals1 r
  by_cases isR : ∃ a, v = V.ref a
  · obtain ⟨a, rfl⟩ := isR
    obtain rfl : u = Value.ref a := ru
    obtain ⟨as, reads, off⟩ := Dx.reads hm I d _ _ hd rfl
    refine PySem.repr_of_reads' reads hs (fun _ => off) hg (by omega) (fun b o z => z) (fun h' u tk kept => ⟨.str d.shown, H, I.kept (t' := tk) kept, ⟨u, rfl⟩, q⟩) hsz
  · cases hd with
    | non =>
      cases ru
      exact PySem.P.repr_of_none ⟨.str _, H, I.tok _, ⟨_, rfl⟩, q⟩
    | bl b =>
      cases ru
      exact PySem.P.repr_of_bool ⟨.str _, H, I.tok _, ⟨_, rfl⟩, q⟩
    | int i =>
      obtain ⟨t, rfl⟩ := ru
      exact PySem.P.repr_of_int (of_decide_eq_true hs) ⟨.str _, H, I.tok _, ⟨_, rfl⟩, q⟩
    | str x =>
      obtain ⟨t, rfl⟩ := ru
      exact PySem.P.repr_of_str ⟨.str _, H, I.tok _, ⟨_, rfl⟩, q⟩ hsz
    | lst n e r => exact absurd ⟨_, rfl⟩ isR
    | tup e r => exact absurd ⟨_, rfl⟩ isR
    | dk n e r => exact absurd ⟨_, rfl⟩ isR
end
end KZ

set_option Elab.async false
set_option linter.all false
set_option maxRecDepth 100000
set_option maxHeartbeats 4000000
/-! A list or tuple against an empty one; a comprehension whose filter calls. -/
namespace KE0
open PySem PySem.Spec PyProof.Rows L2 KT KX PySem.SeqAt
section
variable {X : Cx} {k : Nat}
theorem emp_range {n : Nat} {e : Nat → Bool} (he : n = 0 → True) : ((List.range (min n 0)).all e && n == 0) = (n == 0) := by
  rw [Nat.min_zero]
  rfl
/-- a list == [] -/
def rEqE (K : PySem.W.Frag) : R2 := fun x y H Q => ∃ a b xs, x = .ref a ∧ y = .ref b ∧ ((SqL K H a xs ∧ SqL K H b []) ∨ (SqT K H a xs ∧ SqT K H b [])) ∧ Q (.bl xs.isEmpty) H
def rNeE (K : PySem.W.Frag) : R2 := fun x y H Q => ∃ a b xs, x = .ref a ∧ y = .ref b ∧ ((SqL K H a xs ∧ SqL K H b []) ∨ (SqT K H a xs ∧ SqT K H b [])) ∧ Q (.bl (!xs.isEmpty)) H
theorem vals_emp {xs : List V} {its : List Value} (r : Vals xs its) : (its.toArray.size == 0) = xs.isEmpty := by
  have e := r.length
  rw [List.size_toArray, ← e]
  cases xs <;> rfl
theorem op_eqE (hr : Room k X.A) : OpR X (compareOp .Eq) (rEqE X.K) := by
  intro pins s σ H x y v u Q I rx ry h
  obtain ⟨a, b, xs, rfl, rfl, hs, q⟩ := h
  cases rx
  cases ry
  have hu : X.A.units < cLine := by have := hr.un; omega
  rcases hs with ⟨h1, h2⟩ | ⟨h1, h2⟩
  · obtain ⟨its, r, pl, _⟩ := I.list h1
    obtain ⟨its2, r2, pl2, _⟩ := I.list h2
    cases r2
    have e := vals_emp r
    cases he : xs.isEmpty with
    | true =>
      rw [he] at e q
      have hz : its.toArray.size = 0 := eq_of_beq e
      refine RcAt.lists (e := fun _ => true) pl.isList pl2.isList hz hu (fun j h1 h2 => absurd h2 (by simp)) X.prog X.w X.xe _ ?_
      rw [hz]
      exact ⟨.bl true, H, I, rfl, q⟩
    | false =>
      rw [he] at e q
      exact RcAt.lists_lengths pl.isList pl2.isList (by simpa using e) hu X.prog X.w X.xe _ ⟨.bl false, H, I, rfl, q⟩
  · obtain ⟨its, r, pl, _⟩ := I.tuple h1
    obtain ⟨its2, r2, pl2, _⟩ := I.tuple h2
    cases r2
    have e := vals_emp r
    refine RcAt.tuples (e := fun _ => true) pl pl2 hu (fun j h1 h2 => absurd h2 (by simp)) X.prog X.w X.xe _ ?_
    have e3 : ((List.range (min its.toArray.size ([] : List Value).toArray.size)).all (fun _ => true) && its.toArray.size == ([] : List Value).toArray.size) = xs.isEmpty := by
      show ((List.range (min its.toArray.size 0)).all (fun _ => true) && its.toArray.size == 0) = xs.isEmpty
      rw [Nat.min_zero, e]
      rfl
    rw [e3]
    exact ⟨.bl _, H, I, rfl, q⟩
theorem op_neE (hr : Room k X.A) : OpR X (compareOp .NotEq) (rNeE X.K) := by
  intro pins s σ H x y v u Q I rx ry h
  obtain ⟨a, b, xs, rfl, rfl, hs, q⟩ := h
  cases rx
  cases ry
  have hu : X.A.units < cLine := by have := hr.un; omega
  rcases hs with ⟨h1, h2⟩ | ⟨h1, h2⟩
  · obtain ⟨its, r, pl, _⟩ := I.list h1
    obtain ⟨its2, r2, pl2, _⟩ := I.list h2
    cases r2
    have e := vals_emp r
    cases he : xs.isEmpty with
    | true =>
      rw [he] at e q
      have hz : its.toArray.size = 0 := eq_of_beq e
      refine RcNeAt.lists (e := fun _ => true) pl.isList pl2.isList hz hu (fun j h1 h2 => absurd h2 (by simp)) X.prog X.w X.xe _ ?_
      rw [hz]
      exact ⟨.bl false, H, I, rfl, q⟩
    | false =>
      rw [he] at e q
      exact RcNeAt.lists_lengths pl.isList pl2.isList (by simpa using e) hu X.prog X.w X.xe _ ⟨.bl true, H, I, rfl, q⟩
  · obtain ⟨its, r, pl, _⟩ := I.tuple h1
    obtain ⟨its2, r2, pl2, _⟩ := I.tuple h2
    cases r2
    have e := vals_emp r
    refine RcNeAt.tuples (e := fun _ => true) pl pl2 hu (fun j h1 h2 => absurd h2 (by simp)) X.prog X.w X.xe _ ?_
    have e3 : (!((List.range (min its.toArray.size ([] : List Value).toArray.size)).all (fun _ => true) && its.toArray.size == ([] : List Value).toArray.size)) = !xs.isEmpty := by
      show (!((List.range (min its.toArray.size 0)).all (fun _ => true) && its.toArray.size == 0)) = !xs.isEmpty
      rw [Nat.min_zero, e]
      rfl
    rw [e3]
    exact ⟨.bl _, H, I, rfl, q⟩
end
end KE0

set_option Elab.async false
set_option linter.all false
set_option maxRecDepth 100000
set_option maxHeartbeats 4000000
/-! Data in place of heaps: the world that a def runs in, what its slots hold as data, blocks as statements about data alone. -/
namespace DL
open PySem PySem.Spec PyProof.Rows L2 KT KG KX KY KE0 LK GxR
/-- the content of an object that one slot alone knows -/
inductive OC where
  | lst (ds : List PyData)
  | dk (ds : List (Key × PyData))
/-- what a slot holds -/
inductive DV where
  | dat (d : PyData)
  | own (c : OC)
  | deck
  | gts (xs : List Str)
  | ob (v : V)
abbrev DEnv := List (Option DV)
def OC.pd : OC → PyData
  | .lst ds => .list ds
  | .dk ds => .dict (ds.map fun p => (keyD p.1, p.2))
def DV.pd : DV → Option PyData
  | .dat d => some d
  | .own c => some c.pd
  | _ => none
@[simp] theorem pd_dat (d : PyData) : (DV.dat d).pd = some d := rfl
@[simp] theorem pd_own (c : OC) : (DV.own c).pd = some c.pd := rfl
/-- what an invariant may speak of: what may change by calls alone, a table that no generator adds to, other things -/
def Fix (vol : Addr → Prop) (Tl : List Addr) (a : Addr) (o : HO) : Prop := vol a ∨ (∃ φ, o = .ext φ) ∨ (a ∉ Tl ∧ ∃ ps, o = .tbl ps)
/-- the world: what may change at any time (a deck), what is true of it, the tables -/
structure Wc where
  K : PySem.W.Frag
  vol : Addr → Prop
  inv : Hp → Prop
  deck : V → Prop
  Tl : List Addr
  keep : ∀ {H H' : Hp}, (∀ a o, Fix vol Tl a o → H a = some o → H' a = some o) → inv H → inv H'
  there : ∀ {H : Hp} {a : Addr}, inv H → vol a → ∃ o, H a = some o ∧ (∀ ps, o ≠ .tbl ps) ∧ ∀ xs, o ≠ .tup xs
/-- .. and where the def began: H0, and what might change then -/
structure Wd extends Wc where
  H0 : Hp
  M0 : Addr → Prop
instance : Coe Wd Wc := ⟨Wd.toWc⟩
section
variable (W : Wc)
def Wc.ok (H : Hp) : Prop := W.inv H ∧ Ts W.Tl H
/-- a step: all is as it was but what may change, and tables -/
structure Stp (H H' : Hp) : Prop where
  st : ∀ a o, ¬ W.vol a → (∀ ps, o ≠ .tbl ps) → H a = some o → H' a = some o
  tp : ∀ a xs, H a = some (.tup xs) → H' a = some (.tup xs)
  on : ∀ a, H' a = none → H a = none
  ok : W.ok H → W.ok H'
end
section
variable {W : Wc} {H H' H1 H2 : Hp} {M M' : Addr → Prop}
theorem Stp.refl : Stp W H H := ⟨fun _ _ _ _ e => e, fun _ _ e => e, fun _ e => e, id⟩
theorem Stp.trans (a : Stp W H H1) (b : Stp W H1 H2) : Stp W H H2 := ⟨fun c o n t e => b.st c o n t (a.st c o n t e), fun c xs e => b.tp c xs (a.tp c xs e), fun c e => a.on c (b.on c e), fun h => b.ok (a.ok h)⟩
theorem Stp.same (s : Same H H') : Stp W H H' := ⟨fun a o _ _ e => s a o e, fun a xs e => s a _ e, fun a e => s.free e, fun ⟨i, t⟩ => ⟨W.keep (fun a o _ e => s a o e) i, fun P hP => by
  obtain ⟨ps, e, ok⟩ := t P hP
  exact ⟨ps, s _ _ e, ok⟩⟩⟩
theorem Stp.new {p : Addr} {o : HO} (np : H p = none) : Stp W H (upd H p o) := .same (same_new np)
theorem Stp.tab {P : Addr} (hP : P ∈ W.Tl) (w : W.ok H) (g : TabG H P) (t : Tabbed P H H') : Stp W H H' := by
  have l : Lk (fun _ => False) W.Tl H H' := Lk.tab g t
  obtain ⟨ps, e, _⟩ := g
  have ne : ∀ a o, (∀ ps, o ≠ .tbl ps) → H a = some o → a ≠ P := fun a o n q z => by
    rw [z, e] at q
    exact n _ (Option.some.inj q).symm
  refine ⟨fun a o _ n q => by rw [t.2 a (ne a o n q)]; exact q, l.k.tp, l.on, fun ⟨i, ts⟩ => ⟨W.keep (fun a o v q => ?_) i, l.t ts⟩⟩
  rcases v with v | ⟨φ, rfl⟩ | ⟨nT, _⟩
  · obtain ⟨o', q', n, _⟩ := W.there i v
    rw [q] at q'
    cases q'
    rw [t.2 a (ne a o n q)]
    exact q
  · rw [t.2 a (ne a _ (fun _ z => by cases z) q)]
    exact q
  · rw [t.2 a (fun z => nT (by rw [z]; exact hP))]
    exact q
theorem Stp.kp (g : ∀ a, W.vol a → M a) (s : Stp W H H') : Kp M H H' := ⟨fun a o n t e => s.st a o (fun z => n (g a z)) t e, s.tp⟩
end
/-! ### data, other sets of what may change -/
mutual
theorem Dx.re {M M' : Addr → Prop} {H : Hp} (k : ∀ a o, H a = some o → M' a → M a) : ∀ (d : PyData) (v : V), Dx M H v d → Dx M' H v d
  | .none, _, h => by
    cases h
    exact .non
  | .bool b, _, h => by
    cases h
    exact .bl b
  | .int i, _, h => by
    cases h
    exact .int i
  | .str x, _, h => by
    cases h
    exact .str x
  | .list ds, _, h => by
    cases h with
    | lst n e r => exact .lst (fun z => n (k _ _ e z)) e (Dx.reAll k ds _ r)
  | .tuple ds, _, h => by
    cases h with
    | tup e r => exact .tup e (Dx.reAll k ds _ r)
  | .dict ds, _, h => by
    cases h with
    | dk n e r => exact .dk (fun z => n (k _ _ e z)) e (Dx.reKv k ds _ r)
theorem Dx.reAll {M M' : Addr → Prop} {H : Hp} (k : ∀ a o, H a = some o → M' a → M a) : ∀ (ds : List PyData) (vs : List V), DxAll M H vs ds → DxAll M' H vs ds
  | [], _, h => by
    cases h
    exact .nil
  | d :: ds, _, h => by
    cases h with
    | cons h1 h2 => exact .cons (Dx.re k d _ h1) (Dx.reAll k ds _ h2)
theorem Dx.reKv {M M' : Addr → Prop} {H : Hp} (k : ∀ a o, H a = some o → M' a → M a) : ∀ (ds : List (PyData × PyData)) (vs : List (Key × V)), DxKv M H vs ds → DxKv M' H vs ds
  | [], _, h => by
    cases h
    exact .nil
  | (_, d) :: ds, _, h => by
    cases h with
    | cons h1 h2 => exact .cons (Dx.re k d _ h1) (Dx.reKv k ds _ h2)
end
/-! ### what an object holds -/
inductive RelO (M : Addr → Prop) (H : Hp) : HO → OC → Prop
  | lst {xs : List V} {ds : List PyData} : DxAll M H xs ds → RelO M H (.lst xs) (.lst ds)
  | dk {kvs : List (Key × V)} {ds : List (Key × PyData)} : kvs.map (·.1) = ds.map (·.1) → DxAll M H (kvs.map (·.2)) (ds.map (·.2)) → RelO M H (.dK kvs) (.dk ds)
theorem kv_of {M : Addr → Prop} {H : Hp} : ∀ {kvs : List (Key × V)} {ds : List (Key × PyData)}, kvs.map (·.1) = ds.map (·.1) → DxAll M H (kvs.map (·.2)) (ds.map (·.2)) → DxKv M H kvs (ds.map fun p => (keyD p.1, p.2))
  | [], [], _, _ => .nil
  | (k1, v1) :: r, (k2, d2) :: ds, h, q => by
    simp only [List.map_cons, List.cons.injEq] at h
    obtain ⟨rfl, h⟩ := h
    cases q with
    | cons q1 q2 => exact .cons q1 (kv_of h q2)
  | [], _ :: _, h, _ => by cases h
  | _ :: _, [], h, _ => by cases h
def RelDV (W : Wc) (M : Addr → Prop) (H : Hp) (v : V) : DV → Prop
  | .dat d => Dx M H v d
  | .own c => ∃ a o, v = .ref a ∧ H a = some o ∧ RelO M H o c ∧ M a ∧ ¬ W.vol a
  | .deck => W.deck v
  | .gts xs => ∃ a, v = .ref a ∧ ∀ H, SqT W.K H a (xs.map V.str)
  | .ob u => v = u
def RelAll (W : Wc) (M : Addr → Prop) (H : Hp) : List V → List DV → Prop
  | [], [] => True
  | v :: vs, d :: ds => RelDV W M H v d ∧ RelAll W M H vs ds
  | _, _ => False
structure GoodH (W : Wd) (M : Addr → Prop) (H : Hp) : Prop where
  ok : W.ok H
  vol : ∀ a, W.vol a → M a
  all : ∀ a, M a → H a ≠ none
  stp : Stp W W.H0 H
  sub : ∀ a, W.M0 a → M a
  m0 : ∀ a, W.M0 a → W.H0 a ≠ none
structure GoodE (W : Wd) (M : Addr → Prop) (H : Hp) (σ : L2.St) (ρ : DEnv) : Prop where
  h : GoodH W M H
  len : σ.length = ρ.length
  at_ : ∀ (i : Nat) (dv : DV), ρ[i]? = some (some dv) → ∃ v, σ[i]? = some (some v) ∧ RelDV W M H v dv
section
variable {W : Wc} {H H' : Hp} {M M' : Addr → Prop}
theorem RelO.kp {o : HO} {c : OC} (k : Kp M H H') (h : RelO M H o c) : RelO M H' o c := by
  cases h with
  | lst h => exact .lst (Dx.kpAll k _ _ h)
  | dk h1 h2 => exact .dk h1 (Dx.kpAll k _ _ h2)
theorem RelO.re {o : HO} {c : OC} (k : ∀ a o, H a = some o → M' a → M a) (h : RelO M H o c) : RelO M' H o c := by
  cases h with
  | lst h => exact .lst (Dx.reAll k _ _ h)
  | dk h1 h2 => exact .dk h1 (Dx.reAll k _ _ h2)
theorem RelO.nt {o : HO} {c : OC} (h : RelO M H o c) : (∀ ps, o ≠ .tbl ps) ∧ ∀ xs, o ≠ .tup xs := by
  cases h with
  | lst h => exact ⟨(fun _ z => by cases z), (fun _ z => by cases z)⟩
  | dk h1 h2 => exact ⟨(fun _ z => by cases z), (fun _ z => by cases z)⟩
theorem RelDV.stp {v : V} {dv : DV} (g : ∀ a, W.vol a → M a) (s : Stp W H H') (h : RelDV W M H v dv) : RelDV W M H' v dv := by
  cases dv with
  | dat d => exact Dx.kp (s.kp g) d v h
  | own c =>
    obtain ⟨a, o, e, ho, r, m, n⟩ := h
    exact ⟨a, o, e, s.st a o n r.nt.1 ho, r.kp (s.kp g), m, n⟩
  | deck => exact h
  | gts xs => exact h
  | ob u => exact h
theorem RelAll.stp (g : ∀ a, W.vol a → M a) (s : Stp W H H') : ∀ {vs : List V} {ds : List DV}, RelAll W M H vs ds → RelAll W M H' vs ds
  | [], [], h => h
  | _ :: _, _ :: _, h => ⟨h.1.stp g s, RelAll.stp g s h.2⟩
theorem RelAll.length : ∀ {vs : List V} {ds : List DV}, RelAll W M H vs ds → vs.length = ds.length
  | [], [], _ => rfl
  | _ :: _, _ :: _, h => by simp [RelAll.length h.2]
end
section
variable {W : Wd} {H H' H0 : Hp} {M M' M0 : Addr → Prop} {σ : L2.St} {ρ : DEnv}
theorem GoodH.to (g : GoodH W M H) (s : Stp W H H') : GoodH W M H' := ⟨s.ok g.ok, g.vol, fun a m z => g.all a m (s.on a z), g.stp.trans s, g.sub, g.m0⟩
theorem GoodE.stp (g : GoodE W M H σ ρ) (s : Stp W H H') : GoodE W M H' σ ρ := ⟨g.h.to s, g.len, fun i dv e => by
  obtain ⟨v, e1, r⟩ := g.at_ i dv e
  exact ⟨v, e1, r.stp g.h.vol s⟩⟩
theorem setAt {α : Type} {l : List (Option α)} {i j : Nat} {x : Option α} {y : α} (h : (l.set i x)[j]? = some (some y)) : (i = j ∧ x = some y ∧ i < l.length) ∨ (i ≠ j ∧ l[j]? = some (some y)) := by
  by_cases e : i = j
  · subst e
    rw [List.getElem?_set_self'] at h
    cases q : l[i]? with
    | none => rw [q] at h; cases h
    | some z =>
      rw [q] at h
      have hl : i < l.length := by
        rcases Nat.lt_or_ge i l.length with z | z
        · exact z
        · rw [List.getElem?_eq_none z] at q
          cases q
      exact .inl ⟨rfl, by simpa using h, hl⟩
  · rw [List.getElem?_set_ne e] at h
    exact .inr ⟨e, h⟩
theorem GoodE.set {i : Nat} {v : V} {dv : DV} (g : GoodE W M H σ ρ) (r : RelDV W M H v dv) : GoodE W M H (σ.set i (some v)) (ρ.set i (some dv)) := by
  refine ⟨g.h, by simp [g.len], fun j d e => ?_⟩
  rcases setAt e with ⟨rfl, q, hl⟩ | ⟨ne, q⟩
  · cases q
    exact ⟨v, by rw [List.getElem?_set_self (by rw [g.len]; exact hl)], r⟩
  · obtain ⟨u, e1, r1⟩ := g.at_ j d q
    exact ⟨u, by rw [List.getElem?_set_ne ne]; exact e1, r1⟩
theorem GoodE.unset {i : Nat} {x : Option V} (g : GoodE W M H σ ρ) : GoodE W M H (σ.set i x) (ρ.set i none) := by
  refine ⟨g.h, by simp [g.len], fun j d e => ?_⟩
  rcases setAt e with ⟨rfl, q, hl⟩ | ⟨ne, q⟩
  · cases q
  · obtain ⟨u, e1, r1⟩ := g.at_ j d q
    exact ⟨u, by rw [List.getElem?_set_ne ne]; exact e1, r1⟩
def wipeD (ρ : DEnv) : List Nat → DEnv
  | [] => ρ
  | v :: vs => (wipeD ρ vs).set v none
theorem GoodE.wipe (g : GoodE W M H σ ρ) : ∀ vs : List Nat, GoodE W M H (L2.wipe σ vs) (wipeD ρ vs)
  | [] => g
  | v :: vs => (GoodE.wipe g vs).unset
end
/-! ### the frame of a def -/
/-- L: values that are alive beside the slots -/
structure Good (W : Wd) (L : List (V × PyData)) (M : Addr → Prop) (H : Hp) (σ : L2.St) (ρ : DEnv) : Prop where
  e : GoodE W M H σ ρ
  live : ∀ p ∈ L, Dx M H p.1 p.2
  fr : ∀ (i : Nat) (c : OC) (a : Addr), ρ[i]? = some (some (.own c)) → σ[i]? = some (some (.ref a)) → W.H0 a = none
  ne : ∀ (i j : Nat) (c c' : OC) (a : Addr), i ≠ j → ρ[i]? = some (some (.own c)) → ρ[j]? = some (some (.own c')) → σ[i]? = some (some (.ref a)) → σ[j]? ≠ some (some (.ref a))
section
variable {W : Wd} {H H' H0 : Hp} {M M' M0 : Addr → Prop} {σ : L2.St} {ρ : DEnv} {L : List (V × PyData)}
theorem Good.to (g : Good W L M H σ ρ) (s : Stp W H H') : Good W L M H' σ ρ := ⟨g.e.stp s, fun p hp => Dx.kp (s.kp g.e.h.vol) _ _ (g.live p hp), g.fr, g.ne⟩
def DV.isOwn : DV → Bool
  | .own _ => true
  | _ => false
theorem Good.set {i : Nat} {v : V} {dv : DV} (g : Good W L M H σ ρ) (r : RelDV W M H v dv) (n : dv.isOwn = false) : Good W L M H (σ.set i (some v)) (ρ.set i (some dv)) := by
  have no : ∀ {j : Nat} {c : OC}, (ρ.set i (some dv))[j]? = some (some (.own c)) → i ≠ j ∧ ρ[j]? = some (some (.own c)) := fun {j c} h => by
    rcases setAt h with ⟨rfl, q, _⟩ | q
    · cases q
      cases n
    · exact q
  refine ⟨g.e.set r, g.live, fun j c a h hs => ?_, fun j k c c' a hjk h h' hs => ?_⟩
  · obtain ⟨ne, q⟩ := no h
    rw [List.getElem?_set_ne ne] at hs
    exact g.fr j c a q hs
  · obtain ⟨n1, q1⟩ := no h
    obtain ⟨n2, q2⟩ := no h'
    rw [List.getElem?_set_ne n1] at hs
    rw [List.getElem?_set_ne n2]
    exact g.ne j k c c' a hjk q1 q2 hs
theorem Good.unset {i : Nat} {x : Option V} (g : Good W L M H σ ρ) : Good W L M H (σ.set i x) (ρ.set i none) := by
  have no : ∀ {j : Nat} {c : OC}, (ρ.set i none)[j]? = some (some (.own c)) → i ≠ j ∧ ρ[j]? = some (some (.own c)) := fun {j c} h => by
    rcases setAt h with ⟨rfl, q, _⟩ | q
    · cases q
    · exact q
  refine ⟨g.e.unset, g.live, fun j c a h hs => ?_, fun j k c c' a hjk h h' hs => ?_⟩
  · obtain ⟨ne, q⟩ := no h
    rw [List.getElem?_set_ne ne] at hs
    exact g.fr j c a q hs
  · obtain ⟨n1, q1⟩ := no h
    obtain ⟨n2, q2⟩ := no h'
    rw [List.getElem?_set_ne n1] at hs
    rw [List.getElem?_set_ne n2]
    exact g.ne j k c c' a hjk q1 q2 hs
/-- a new object that one slot alone knows -/
theorem Good.fresh {i : Nat} {p : Addr} {o : HO} {c : OC} (g : Good W L M H σ ρ) (np : H p = none) (r : RelO M H o c) : Good W L (fun a => M a ∨ a = p) (upd H p o) (σ.set i (some (.ref p))) (ρ.set i (some (.own c))) := by
  have nv : ¬ W.vol p := fun z => g.e.h.all p (g.e.h.vol p z) np
  have s : Stp W H (upd H p o) := .new np
  have k : ∀ a u, H a = some u → (M a ∨ a = p) → M a := fun a u e m => m.elim id fun z => by
    rw [z, np] at e
    cases e
  have vol : ∀ a, W.vol a → (M a ∨ a = p) := fun a z => .inl (g.e.h.vol a z)
  have kp : Kp (fun a => M a ∨ a = p) H (upd H p o) := s.kp vol
  have oldR : ∀ {v dv}, RelDV W M H v dv → RelDV W (fun a => M a ∨ a = p) (upd H p o) v dv := fun {v dv} h => by
    cases dv with
    | dat d => exact Dx.kp kp _ _ (Dx.re k _ _ h)
    | own c =>
      obtain ⟨a, u, e, ho, r, m, n⟩ := h
      exact ⟨a, u, e, s.st a u n r.nt.1 ho, (r.re k).kp kp, .inl m, n⟩
    | deck => exact h
    | gts xs => exact h
    | ob u => exact h
  have ownAt : ∀ {j : Nat} {c : OC} {a : Addr}, ρ[j]? = some (some (.own c)) → σ[j]? = some (some (.ref a)) → a ≠ p := fun {j c a} h hs => by
    obtain ⟨v, e, b, u, e2, ho, _⟩ := g.e.at_ j _ h
    rw [hs] at e
    cases e
    cases e2
    exact ne_of_none ho np
  refine ⟨⟨⟨s.ok g.e.h.ok, vol, fun a m z => ?_, g.e.h.stp.trans s, fun a m => .inl (g.e.h.sub a m), g.e.h.m0⟩, by simp [g.e.len], fun j d e => ?_⟩, fun q hq => Dx.kp kp _ _ (Dx.re k _ _ (g.live q hq)), fun j c' a h hs => ?_, fun j l c1 c2 a hjl h h' hs => ?_⟩
  · rcases m with m | rfl
    · exact g.e.h.all a m (s.on a z)
    · rw [upd_same] at z
      cases z
  · rcases setAt e with ⟨rfl, q, hl⟩ | ⟨ne, q⟩
    · cases q
      exact ⟨.ref p, by rw [List.getElem?_set_self (by rw [g.e.len]; exact hl)], p, o, rfl, upd_same, (r.re k).kp kp, .inr rfl, nv⟩
    · obtain ⟨u, e1, r1⟩ := g.e.at_ j d q
      exact ⟨u, by rw [List.getElem?_set_ne ne]; exact e1, oldR r1⟩
  · rcases setAt h with ⟨rfl, _, hl⟩ | ⟨ne, q⟩
    · rw [List.getElem?_set_self (by rw [g.e.len]; exact hl)] at hs
      cases hs
      exact g.e.h.stp.on _ np
    · rw [List.getElem?_set_ne ne] at hs
      exact g.fr j c' a q hs
  · rcases setAt h with ⟨rfl, _, hl⟩ | ⟨ne, q⟩
    · rw [List.getElem?_set_self (by rw [g.e.len]; exact hl)] at hs
      cases hs
      rcases setAt h' with ⟨z, _⟩ | ⟨ne2, q2⟩
      · exact absurd z hjl
      · rw [List.getElem?_set_ne ne2]
        exact fun z => ownAt q2 z rfl
    · rw [List.getElem?_set_ne ne] at hs
      rcases setAt h' with ⟨rfl, _, hl2⟩ | ⟨ne2, q2⟩
      · rw [List.getElem?_set_self (by rw [g.e.len]; exact hl2)]
        exact fun z => by
          cases z
          exact ownAt q hs rfl
      · rw [List.getElem?_set_ne ne2]
        exact g.ne j l c1 c2 a hjl q q2 hs
/-- such an object changes -/
theorem Good.mut {i : Nat} {a : Addr} {o o' : HO} {c c' : OC} (g : Good W L M H σ ρ) (hi : ρ[i]? = some (some (.own c))) (hs : σ[i]? = some (some (.ref a))) (ho : H a = some o) (hr : RelO M H o c) (ha : M a) (nv : ¬ W.vol a) (r : RelO M H o' c') :
    Good W L M (upd H a o') σ (ρ.set i (some (.own c'))) := by
  have h0 := g.fr i c a hi hs
  have kp : Kp M H (upd H a o') := ⟨fun b u n _ e => by
    rw [upd_ne (fun z => n (by rw [z]; exact ha))]
    exact e, fun b xs e => by
    rw [upd_ne (fun z => hr.nt.2 xs (by rw [z, ho] at e; exact Option.some.inj e))]
    exact e⟩
  have ok : W.ok (upd H a o') := by
    obtain ⟨i1, t1⟩ := g.e.h.ok
    refine ⟨W.keep (fun b u v e => ?_) i1, fun P hP => ?_⟩
    · rw [upd_ne (fun z => by
        rcases v with v | ⟨φ, rfl⟩ | ⟨_, ps, rfl⟩
        · exact nv (by rw [← z]; exact v)
        · rw [z, ho] at e
          cases e
          cases hr
        · rw [z, ho] at e
          cases e
          cases hr)]
      exact e
    · obtain ⟨ps, e, tr⟩ := t1 P hP
      refine ⟨ps, ?_, tr⟩
      rw [upd_ne (fun z => hr.nt.1 ps (by rw [z, ho] at e; exact Option.some.inj e))]
      exact e
  have stp : Stp W W.H0 (upd H a o') := ⟨fun b u n t e => by
    rw [upd_ne (fun z => by rw [z, h0] at e; cases e)]
    exact g.e.h.stp.st b u n t e, fun b xs e => by
    rw [upd_ne (fun z => by rw [z, h0] at e; cases e)]
    exact g.e.h.stp.tp b xs e, fun b e => by
    by_cases z : b = a
    · rw [z]
      exact h0
    · rw [upd_ne z] at e
      exact g.e.h.stp.on b e, fun _ => ok⟩
  have same : ∀ {j : Nat} {c1 : OC}, (ρ.set i (some (.own c')))[j]? = some (some (.own c1)) → ∃ c2, ρ[j]? = some (some (.own c2)) := fun {j c1} h => by
    rcases setAt h with ⟨rfl, _, _⟩ | ⟨_, q⟩
    · exact ⟨c, hi⟩
    · exact ⟨_, q⟩
  refine ⟨⟨⟨ok, g.e.h.vol, fun b m z => ?_, stp, g.e.h.sub, g.e.h.m0⟩, by simp [g.e.len], fun j d e => ?_⟩, fun q hq => Dx.kp kp _ _ (g.live q hq), fun j c1 b h hs1 => ?_, fun j l c1 c2 b hjl h h' hs1 => ?_⟩
  · by_cases y : b = a
    · rw [y, upd_same] at z
      cases z
    · rw [upd_ne y] at z
      exact g.e.h.all b m z
  · rcases setAt e with ⟨rfl, q, hl⟩ | ⟨ne, q⟩
    · cases q
      exact ⟨.ref a, hs, a, o', rfl, upd_same, r.kp kp, ha, nv⟩
    · obtain ⟨u, e1, r1⟩ := g.e.at_ j d q
      refine ⟨u, e1, ?_⟩
      cases d with
      | dat d => exact Dx.kp kp _ _ r1
      | own c2 =>
        obtain ⟨b, u', e2, hu, r2, m, n⟩ := r1
        subst e2
        have nb : b ≠ a := fun z => g.ne i j c c2 a ne hi q hs (by rw [e1, z])
        exact ⟨b, u', rfl, by rw [upd_ne nb]; exact hu, r2.kp kp, m, n⟩
      | deck => exact r1
      | gts xs => exact r1
      | ob u => exact r1
  · obtain ⟨c2, q⟩ := same h
    exact g.fr j c2 b q hs1
  · obtain ⟨c3, q⟩ := same h
    obtain ⟨c4, q'⟩ := same h'
    exact g.ne j l c3 c4 b hjl q q' hs1
/-- it is known to others from now on -/
theorem Good.release {i : Nat} {c : OC} (g : Good W L M H σ ρ) (hi : ρ[i]? = some (some (.own c))) : ∃ M', Good W L M' H σ (ρ.set i (some (.dat c.pd))) := by
  obtain ⟨v, hs, a, o, rfl, ho, r, m, nv⟩ := g.e.at_ i _ hi
  have h0 := g.fr i c a hi hs
  have k : ∀ b u, H b = some u → (M b ∧ b ≠ a) → M b := fun b u _ z => z.1
  have no : ∀ {j : Nat} {c1 : OC}, (ρ.set i (some (.dat c.pd)))[j]? = some (some (.own c1)) → i ≠ j ∧ ρ[j]? = some (some (.own c1)) := fun {j c1} h => by
    rcases setAt h with ⟨rfl, q, _⟩ | q
    · cases q
    · exact q
  refine ⟨fun b => M b ∧ b ≠ a, ⟨⟨g.e.h.ok, fun b z => ⟨g.e.h.vol b z, fun y => nv (by rw [← y]; exact z)⟩, fun b z => g.e.h.all b z.1, g.e.h.stp, fun b z => ⟨g.e.h.sub b z, fun y => g.e.h.m0 b z (by rw [y]; exact h0)⟩, g.e.h.m0⟩, by simp [g.e.len], fun j d e => ?_⟩, fun q hq => Dx.re k _ _ (g.live q hq), fun j c1 b h hs1 => ?_, fun j l c1 c2 b hjl h h' hs1 => ?_⟩
  · rcases setAt e with ⟨rfl, q, hl⟩ | ⟨ne, q⟩
    · cases q
      refine ⟨.ref a, hs, ?_⟩
      show Dx _ H (.ref a) c.pd
      cases r with
      | lst r => exact .lst (fun z => z.2 rfl) ho (Dx.reAll k _ _ r)
      | dk r1 r2 => exact .dk (fun z => z.2 rfl) ho (kv_of r1 (Dx.reAll k _ _ r2))
    · obtain ⟨u, e1, r1⟩ := g.e.at_ j d q
      refine ⟨u, e1, ?_⟩
      cases d with
      | dat d => exact Dx.re k _ _ r1
      | own c2 =>
        obtain ⟨b, u', e2, hu, r2, m2, n2⟩ := r1
        subst e2
        exact ⟨b, u', rfl, hu, r2.re k, ⟨m2, fun z => g.ne i j c c2 a ne hi q hs (by rw [e1, z])⟩, n2⟩
      | deck => exact r1
      | gts xs => exact r1
      | ob u => exact r1
  · obtain ⟨ne, q⟩ := no h
    exact g.fr j c1 b q hs1
  · obtain ⟨_, q⟩ := no h
    obtain ⟨_, q'⟩ := no h'
    exact g.ne j l c1 c2 b hjl q q' hs1
end
end DL

set_option Elab.async false
set_option linter.all false
set_option maxRecDepth 100000
set_option maxHeartbeats 1000000
/-! Rules whose readings speak of data alone: expressions, tests, arguments, statements. -/
namespace DL
open PySem PySem.Spec PyProof.Rows L2 KT KG KX KY KE0 LK GxR
abbrev FE := DEnv → (DV → Prop) → Prop
abbrev FT := DEnv → (Bool → Prop) → Prop
abbrev FA := DEnv → (List DV → Prop) → Prop
section
variable (W : Wd)
/-- what follows for each such value is what follows -/
def Cont (M : Addr → Prop) (H : Hp) (K : DV → Prop) (Q : VK) : Prop := ∀ dv, K dv → ∀ v H', Stp W H H' → RelDV W M H' v dv → Q v H'
def tD (f : FE) : TE := fun σ H Q => ∃ M ρ K, GoodE W M H σ ρ ∧ f ρ K ∧ Cont W M H K Q
def tDT (f : FT) : TT := fun σ H Q => ∃ M ρ K, GoodE W M H σ ρ ∧ f ρ K ∧ ∀ b, K b → ∀ H', Stp W H H' → Q b H'
def tDA (f : FA) : TA := fun σ H Q => ∃ M ρ K, GoodE W M H σ ρ ∧ f ρ K ∧ ∀ ds, K ds → ∀ vs H', Stp W H H' → RelAll W M H' vs ds → Q vs H'
/-- a new object -/
def tFr (f : DEnv → (OC → Prop) → Prop) : TE := fun σ H Q => ∃ M ρ K, GoodE W M H σ ρ ∧ f ρ K ∧ ∀ c, K c → ∀ p o H1, Stp W H H1 → H1 p = none → RelO M H1 o c → Q (.ref p) (upd H1 p o)
end
theorem Cont.stp {W : Wd} {M : Addr → Prop} {H H' : Hp} {K : DV → Prop} {Q : VK} (c : Cont W M H K Q) (s : Stp W H H') : Cont W M H' K Q := fun dv k v H2 s2 r => c dv k v H2 (s.trans s2) r
section
variable {X : Cx} {W : Wd} {e a b : Expr} {es : List Expr} {pos : Pos}
theorem _root_.L2.PE.imp {t t' : TE} (h : PE X e t) (k : ∀ σ H Q, t' σ H Q → t σ H Q) : PE X e t' := ⟨fun pins s σ H Q I q => h.run pins s σ H Q I (k σ H Q q)⟩
theorem _root_.L2.PT.imp {t t' : TT} (h : PT X e t) (k : ∀ σ H Q, t' σ H Q → t σ H Q) : PT X e t' := ⟨fun pins s σ H Q I q => h.run pins s σ H Q I (k σ H Q q)⟩
theorem _root_.L2.PW.imp {t t' : TT} (h : PW X e t) (k : ∀ σ H Q, t' σ H Q → t σ H Q) : PW X e t' := ⟨fun wh pins s σ H Q I q => h.run wh pins s σ H Q I (k σ H Q q)⟩
theorem _root_.L2.PA.imp {t t' : TA} (h : PA X es t) (k : ∀ σ H Q, t' σ H Q → t σ H Q) : PA X es t' := ⟨fun pos pins s σ H Q I q => h.run pos pins s σ H Q I (k σ H Q q)⟩
theorem _root_.L2.PS.imp {st : Stmt} {t t' : TS} (h : PS X st t) (k : ∀ D σ H, t' D σ H → t D σ H) : PS X st t' := ⟨fun pins s σ H D I q => h.run pins s σ H D I (k D σ H q)⟩
theorem _root_.L2.PSs.imp {st : List Stmt} {t t' : TS} (h : PSs X st t) (k : ∀ D σ H, t' D σ H → t D σ H) : PSs X st t' := ⟨fun pins s σ H D I q => h.run pins s σ H D I (k D σ H q)⟩
/-! ### names, constants -/
def fVar (i : Nat) : FE := fun ρ K => ∃ dv, ρ[i]? = some (some dv) ∧ K dv
def fC (d : PyData) : FE := fun _ K => K (.dat d)
theorem dv (i : Nat) {x : Str} {pos : Pos} (hN : X.N[i]? = some x := by rfl) (hv : Vis X.env.scope x := by first | exact Or.inl rfl | exact Or.inr (Or.inl rfl) | exact Or.inr (Or.inr rfl)) (hd : (x == ("__debug__" : Str)) = false := by decide)
    (hcd : (x == ("__classdict__" : Str)) = false := by decide) : PE X (.Name x pos) (tD W (fVar i)) := (pe_var hN hv hd hcd).imp fun σ H Q ⟨M, ρ, K, g, ⟨d, e, k⟩, c⟩ => by
  obtain ⟨v, e1, r⟩ := g.at_ i d e
  exact ⟨v, e1, c d k v H .refl r⟩
theorem de_int {i j pos} : PE X (.Constant (.int i) j pos) (tD W (fC (.int i))) := pe_int.imp fun σ H Q ⟨M, ρ, K, g, k, c⟩ => c _ k _ H .refl (Dx.int i)
theorem de_bl {b j pos} : PE X (.Constant (.bool b) j pos) (tD W (fC (.bool b))) := pe_bl.imp fun σ H Q ⟨M, ρ, K, g, k, c⟩ => c _ k _ H .refl (Dx.bl b)
theorem de_non {j pos} : PE X (.Constant .none j pos) (tD W (fC .none)) := pe_non.imp fun σ H Q ⟨M, ρ, K, g, k, c⟩ => c _ k _ H .refl Dx.non
theorem de_str {x j pos} : PE X (.Constant (.str x) j pos) (tD W (fC (.str x))) := pe_str.imp fun σ H Q ⟨M, ρ, K, g, k, c⟩ => c _ k _ H .refl (Dx.str x)
/-- a value of any kind, told -/
def fOb (v : V) : FE := fun _ K => K (.ob v)
theorem de_ob {v : V} (h : PE X e (tC v)) : PE X e (tD W (fOb v)) := h.imp fun σ H Q ⟨M, ρ, K, g, k, c⟩ => c _ k v H .refl rfl
/-- a tuple of texts of the top -/
def fGts (xs : List Str) : FE := fun _ K => K (.gts xs)
theorem de_gts {a : Addr} {xs : List Str} (h : PE X e (tC (.ref a))) (hK : W.K = X.K) (ha : ∀ H, SqT X.K H a (xs.map V.str)) : PE X e (tD W (fGts xs)) := h.imp fun σ H Q ⟨M, ρ, K, g, k, c⟩ => c _ k (.ref a) H .refl ⟨a, rfl, by rw [hK]; exact ha⟩
/-- a text, an int of the top -/
theorem de_gstr {x : Str} (h : PE X e (tC (.str x))) : PE X e (tD W (fC (.str x))) := h.imp fun σ H Q ⟨M, ρ, K, g, k, c⟩ => c _ k _ H .refl (Dx.str x)
theorem de_gint {i : Int} (h : PE X e (tC (.int i))) : PE X e (tD W (fC (.int i))) := h.imp fun σ H Q ⟨M, ρ, K, g, k, c⟩ => c _ k _ H .refl (Dx.int i)
/-! ### operators by values -/
def Snd2 (W : Wd) (r : R2) (o : DV → DV → (DV → Prop) → Prop) : Prop := ∀ {M H x y dx dy K Q}, GoodH W M H → RelDV W M H x dx → RelDV W M H y dy → o dx dy K → Cont W M H K Q → r x y H Q
def Snd1 (W : Wd) (r : V → Hp → VK → Prop) (o : DV → (DV → Prop) → Prop) : Prop := ∀ {M H x dx K Q}, GoodH W M H → RelDV W M H x dx → o dx K → Cont W M H K Q → r x H Q
def SndC (W : Wd) (r : List V → Hp → VK → Prop) (o : List DV → (DV → Prop) → Prop) : Prop := ∀ {M H xs ds K Q}, GoodH W M H → RelAll W M H xs ds → o ds K → Cont W M H K Q → r xs H Q
def f2 (o : DV → DV → (DV → Prop) → Prop) (f g : FE) : FE := fun ρ K => f ρ fun x => g ρ fun y => o x y K
def f1 (o : DV → (DV → Prop) → Prop) (f : FE) : FE := fun ρ K => f ρ fun x => o x K
def fCall (o : List DV → (DV → Prop) → Prop) (f : FA) : FE := fun ρ K => f ρ fun xs => o xs K
variable {f g : FE}
theorem imp2 {r : R2} {o : DV → DV → (DV → Prop) → Prop} (s : Snd2 W r o) (σ : L2.St) (H : Hp) (Q : VK) (h : tD W (f2 o f g) σ H Q) : tOp r (tD W f) (tD W g) σ H Q := by
  obtain ⟨M, ρ, K, ge, k, c⟩ := h
  refine ⟨M, ρ, _, ge, k, fun dx hx v H1 s1 r1 => ⟨M, ρ, _, ge.stp s1, hx, fun dy hy u H2 s2 r2 => ?_⟩⟩
  exact s ((ge.stp s1).stp s2).h (r1.stp ge.h.vol s2) r2 hy (c.stp (s1.trans s2))
theorem imp1 {r : V → Hp → VK → Prop} {o : DV → (DV → Prop) → Prop} (s : Snd1 W r o) (σ : L2.St) (H : Hp) (Q : VK) (h : tD W (f1 o f) σ H Q) : tUn r (tD W f) σ H Q := by
  obtain ⟨M, ρ, K, ge, k, c⟩ := h
  exact ⟨M, ρ, _, ge, k, fun dx hx v H1 s1 r1 => s (ge.stp s1).h r1 hx (c.stp s1)⟩
theorem de_op {op : Operator} {r : R2} {o : DV → DV → (DV → Prop) → Prop} (h : OpR X (binaryOp op) r) (s : Snd2 W r o) (ha : PE X a (tD W f)) (hb : PE X b (tD W g)) : PE X (.BinOp a op b pos) (tD W (f2 o f g)) := (pe_op h ha hb).imp (imp2 s)
theorem de_un {op : UnaryOp} {r : V → Hp → VK → Prop} {o : DV → (DV → Prop) → Prop} (h : UnR X (unaryOp op) r) (s : Snd1 W r o) (ha : PE X a (tD W f)) : PE X (.UnaryOp op a pos) (tD W (f1 o f)) := (pe_un h ha).imp (imp1 s)
theorem de_cmp {op : CmpOp} {r : R2} {o : DV → DV → (DV → Prop) → Prop} (h : OpR X (compareOp op) r) (s : Snd2 W r o) (ha : PE X a (tD W f)) (hb : PE X b (tD W g)) (hm : behindInMarks op b = false := by first | exact nobehind _ (by decide) (by decide) | rfl) : PE X (.Compare a [op] [b] pos) (tD W (f2 o f g)) := (pe_cmpR h ha hb hm).imp (imp2 s)
theorem de_ix {r : R2} {o : DV → DV → (DV → Prop) → Prop} (h : IxR X r) (s : Snd2 W r o) (ha : PE X a (tD W f)) (hb : PE X b (tD W g)) (hs : PlainIx b := by intro _ _; rfl) : PE X (.Subscript a b pos) (tD W (f2 o f g)) := (pe_ix h ha hb hs).imp (imp2 s)
/-- a bool's value -/
def fB (f : FE) : FT := fun ρ K => f ρ fun x => ∃ c, x = .dat (.bool c) ∧ K c
theorem impB (σ : L2.St) (H : Hp) (Q : Bool → Hp → Prop) (h : tDT W (fB f) σ H Q) : tB (tD W f) σ H Q := by
  obtain ⟨M, ρ, K, ge, k, c⟩ := h
  refine ⟨M, ρ, _, ge, k, fun dx hx v H1 s1 r1 => ?_⟩
  obtain ⟨b, rfl, hb⟩ := hx
  cases r1
  exact ⟨b, rfl, c b hb H1 s1⟩
theorem dt_val (h : PE X e (tD W f)) (he : ∀ whole, isTrue e X.env whole = (do let v ← whole; standAt e.pos; holding [v] (truthy v)) := by intro _; rfl) : PT X e (tDT W (fB f)) := (pt_val h he).imp impB
theorem dt_cmp {op : CmpOp} {r : R2} {o : DV → DV → (DV → Prop) → Prop} (h : OpR X (compareOp op) r) (s : Snd2 W r o) (ha : PE X a (tD W f)) (hb : PE X b (tD W g)) (hm : behindInMarks op b = false := by first | exact nobehind _ (by decide) (by decide) | rfl) : PT X (.Compare a [op] [b] pos) (tDT W (fB (f2 o f g))) :=
  (pt_cmpR h ha hb hm).imp fun σ H Q z => by
    obtain ⟨M, ρ, K, ge, k, c⟩ := impB σ H Q z
    exact imp2 s σ H _ ⟨M, ρ, K, ge, k, c⟩
/-- any data by its truth -/
def truD : PyData → Bool
  | .none => false
  | .bool b => b
  | .int i => i != 0
  | .str x => (x.length : Int) != 0
  | .list xs => !xs.isEmpty
  | .tuple xs => !xs.isEmpty
  | .dict xs => !xs.isEmpty
def fTru (f : FE) : FT := fun ρ K => f ρ fun x => ∃ d, x = .dat d ∧ (∀ z, d = .str z → z.length ≤ sizeLine) ∧ K (truD d)
theorem kv_length {M : Addr → Prop} {H : Hp} : ∀ {kvs : List (Key × V)} {ds : List (PyData × PyData)}, DxKv M H kvs ds → kvs.length = ds.length
  | [], [], _ => rfl
  | _ :: _, _ :: _, h => by
    cases h with
    | cons _ h2 => simp [kv_length h2]
  | [], _ :: _, h => by cases h
  | _ :: _, [], h => by cases h
theorem emp_of {α β : Type} {xs : List α} {ys : List β} (h : xs.length = ys.length) : xs.isEmpty = ys.isEmpty := by
  cases xs <;> cases ys <;> first | rfl | (simp at h)
theorem dt_tru (h : PE X e (tD W f)) (he : ∀ whole, isTrue e X.env whole = (do let v ← whole; standAt e.pos; holding [v] (truthy v)) := by intro _; rfl) : PT X e (tDT W (fTru f)) := (pt_truth h he).imp fun σ H Q ⟨M, ρ, K, ge, k, c⟩ => by
  refine ⟨M, ρ, _, ge, k, fun dx hx v H1 s1 r1 => ?_⟩
  obtain ⟨d, rfl, hz, hb⟩ := hx
  have fin := c _ hb H1 s1
  cases r1 with
  | non => exact ⟨_, rfl, fin⟩
  | bl b => exact ⟨_, rfl, fin⟩
  | int i => exact ⟨_, rfl, fin⟩
  | str x => exact ⟨_, ⟨hz x rfl, rfl⟩, fin⟩
  | lst n e r => exact ⟨_, .inl ⟨_, SqL.of e, by rw [emp_of (DxAll.length r)]; rfl⟩, fin⟩
  | tup e r => exact ⟨_, .inr (.inl ⟨_, SqT.of e, by rw [emp_of (DxAll.length r)]; rfl⟩), fin⟩
  | dk n e r => exact ⟨_, .inr (.inr ⟨_, e, by rw [emp_of (kv_length r)]; rfl⟩), fin⟩
/-- a branch -/
def iteB (c : Bool) (A B : Prop) : Prop := match c with
  | true => A
  | false => B
@[simp] theorem iteB_true {A B : Prop} : iteB true A B = A := rfl
@[simp] theorem iteB_false {A B : Prop} : iteB false A B = B := rfl
/-! ### and, or, not, if -/
def fAnd (f g : FE) : FE := fun ρ K => f ρ fun x => ∃ c, x = .dat (.bool c) ∧ iteB c (g ρ K) (K (.dat (.bool false)))
def fOr (f g : FE) : FE := fun ρ K => f ρ fun x => ∃ c, x = .dat (.bool c) ∧ iteB c (K (.dat (.bool true))) (g ρ K)
def fNot (f : FE) : FE := fun ρ K => f ρ fun x => ∃ c, x = .dat (.bool c) ∧ K (.dat (.bool (!c)))
def fIf (t : FT) (f g : FE) : FE := fun ρ K => t ρ fun c => iteB c (f ρ K) (g ρ K)
def tAndD (t u : FT) : FT := fun ρ K => t ρ fun c => iteB c (u ρ K) (K false)
def tOrD (t u : FT) : FT := fun ρ K => t ρ fun c => iteB c (K true) (u ρ K)
def tNotD (t : FT) : FT := fun ρ K => t ρ fun c => K (!c)
variable {rest : List Expr} {t u : FT}
theorem de_and (ha : PE X a (tD W f)) (hb : PE X (.BoolOp .And (b :: rest) pos) (tD W g)) : PE X (.BoolOp .And (a :: b :: rest) pos) (tD W (fAnd f g)) := (pe_and ha hb).imp fun σ H Q ⟨M, ρ, K, ge, k, c⟩ => by
  refine ⟨M, ρ, _, ge, k, fun dx hx v H1 s1 r1 => ?_⟩
  obtain ⟨b, rfl, hb⟩ := hx
  cases r1
  refine ⟨b, rfl, ?_⟩
  cases b with
  | true => exact iteT ⟨M, ρ, _, ge.stp s1, by simpa using hb, c.stp s1⟩
  | false => exact iteF (c (.dat (.bool false)) (by simpa using hb) _ H1 s1 (Dx.bl false))
theorem de_or (ha : PE X a (tD W f)) (hb : PE X (.BoolOp .Or (b :: rest) pos) (tD W g)) : PE X (.BoolOp .Or (a :: b :: rest) pos) (tD W (fOr f g)) := (pe_or ha hb).imp fun σ H Q ⟨M, ρ, K, ge, k, c⟩ => by
  refine ⟨M, ρ, _, ge, k, fun dx hx v H1 s1 r1 => ?_⟩
  obtain ⟨b, rfl, hb⟩ := hx
  cases r1
  refine ⟨b, rfl, ?_⟩
  cases b with
  | false => exact iteF ⟨M, ρ, _, ge.stp s1, by simpa using hb, c.stp s1⟩
  | true => exact iteT (c (.dat (.bool true)) (by simpa using hb) _ H1 s1 (Dx.bl true))
theorem de_not (ha : PE X a (tD W f)) : PE X (.UnaryOp .Not a pos) (tD W (fNot f)) := (pe_not ha).imp fun σ H Q ⟨M, ρ, K, ge, k, c⟩ => by
  refine ⟨M, ρ, _, ge, k, fun dx hx v H1 s1 r1 => ?_⟩
  obtain ⟨b, rfl, hb⟩ := hx
  cases r1
  exact ⟨b, rfl, c _ hb _ H1 s1 (Dx.bl _)⟩
theorem de_if {c : Expr} (hc : PT X c (tDT W t)) (ha : PE X a (tD W f)) (hb : PE X b (tD W g)) : PE X (.IfExp c a b pos) (tD W (fIf t f g)) := (pe_ifExp hc ha hb).imp fun σ H Q ⟨M, ρ, K, ge, k, q⟩ => by
  refine ⟨M, ρ, _, ge, k, fun d hd H1 s1 => ?_⟩
  cases d with
  | true => exact iteT ⟨M, ρ, _, ge.stp s1, by simpa using hd, q.stp s1⟩
  | false => exact iteF ⟨M, ρ, _, ge.stp s1, by simpa using hd, q.stp s1⟩
theorem dw_and1 (ha : PT X a (tDT W t)) : PW X (.BoolOp .And [a] pos) (tDT W t) := pw_and1 ha
theorem dw_or1 (ha : PT X a (tDT W t)) : PW X (.BoolOp .Or [a] pos) (tDT W t) := pw_or1 ha
theorem dw_and (ha : PT X a (tDT W t)) (hb : PW X (.BoolOp .And (b :: rest) pos) (tDT W u)) : PW X (.BoolOp .And (a :: b :: rest) pos) (tDT W (tAndD t u)) := (pw_and ha hb).imp fun σ H Q ⟨M, ρ, K, ge, k, q⟩ => by
  refine ⟨M, ρ, _, ge, k, fun d hd H1 s1 => ?_⟩
  cases d with
  | true => exact iteT ⟨M, ρ, _, ge.stp s1, by simpa using hd, fun b hb H2 s2 => q b hb H2 (s1.trans s2)⟩
  | false => exact iteF (q _ (by simpa using hd) H1 s1)
theorem dw_or (ha : PT X a (tDT W t)) (hb : PW X (.BoolOp .Or (b :: rest) pos) (tDT W u)) : PW X (.BoolOp .Or (a :: b :: rest) pos) (tDT W (tOrD t u)) := (pw_or ha hb).imp fun σ H Q ⟨M, ρ, K, ge, k, q⟩ => by
  refine ⟨M, ρ, _, ge, k, fun d hd H1 s1 => ?_⟩
  cases d with
  | false => exact iteF ⟨M, ρ, _, ge.stp s1, by simpa using hd, fun b hb H2 s2 => q b hb H2 (s1.trans s2)⟩
  | true => exact iteT (q _ (by simpa using hd) H1 s1)
theorem dt_not (ha : PT X a (tDT W t)) : PT X (.UnaryOp .Not a pos) (tDT W (tNotD t)) := (pt_not ha).imp fun σ H Q ⟨M, ρ, K, ge, k, q⟩ => ⟨M, ρ, _, ge, k, fun b hb H1 s1 => q (!b) hb H1 s1⟩
/-! ### arguments -/
def fNil : FA := fun _ K => K []
def fCons (f : FE) (g : FA) : FA := fun ρ K => f ρ fun x => g ρ fun xs => K (x :: xs)
theorem da_nil : PA X [] (tDA W fNil) := pa_nil.imp fun σ H Q ⟨M, ρ, K, ge, k, q⟩ => q [] k [] H .refl trivial
theorem da_cons {fa : FA} (h1 : PE X e (tD W f)) (h2 : PA X es (tDA W fa)) (he : starEach (e :: es) X.env = (false, eval e X.env) :: starEach es X.env := by rfl) : PA X (e :: es) (tDA W (fCons f fa)) := (pa_cons h1 h2 he).imp fun σ H Q ⟨M, ρ, K, ge, k, q⟩ => by
  refine ⟨M, ρ, _, ge, k, fun dx hx v H1 s1 r1 => ⟨M, ρ, _, ge.stp s1, hx, fun ds hd vs H2 s2 r2 => ?_⟩⟩
  exact q _ hd _ H2 (s1.trans s2) ⟨r1.stp ge.h.vol s2, r2⟩
/-- a built-in, called -/
theorem impC {r : List V → Hp → VK → Prop} {o : List DV → (DV → Prop) → Prop} {fa : FA} (s : SndC W r o) (σ : L2.St) (H : Hp) (Q : VK) (h : tD W (fCall o fa) σ H Q) : tCB r (tDA W fa) σ H Q := by
  obtain ⟨M, ρ, K, ge, k, c⟩ := h
  exact ⟨M, ρ, _, ge, k, fun ds hd vs H1 s1 r1 => s (ge.stp s1).h r1 hd (c.stp s1)⟩
/-! ### new tuples and lists -/
def asDat : List DV → Option (List PyData)
  | [] => some []
  | .dat d :: r => (asDat r).map (d :: ·)
  | _ :: _ => none
theorem asDat_all {M : Addr → Prop} {H : Hp} : ∀ {vs : List V} {ds : List DV} {es : List PyData}, asDat ds = some es → RelAll W M H vs ds → DxAll M H vs es
  | [], [], es, h, _ => by
    cases h
    exact .nil
  | v :: vs, .dat d :: ds, es, h, r => by
    simp only [asDat, Option.map_eq_some_iff] at h
    obtain ⟨z, h, rfl⟩ := h
    exact .cons r.1 (asDat_all h r.2)
theorem asDat_len : ∀ {ds : List DV} {es : List PyData}, asDat ds = some es → ds.length = es.length
  | [], es, h => by
    cases h
    rfl
  | .dat d :: ds, es, h => by
    simp only [asDat, Option.map_eq_some_iff] at h
    obtain ⟨z, h, rfl⟩ := h
    simp [asDat_len h]
def fTup (fa : FA) : FE := fun ρ K => fa ρ fun xs => ∃ ds, asDat xs = some ds ∧ ds.length ≤ sizeLine ∧ K (.dat (.tuple ds))
def fLst (fa : FA) : DEnv → (OC → Prop) → Prop := fun ρ K => fa ρ fun xs => ∃ ds, asDat xs = some ds ∧ ds.length ≤ sizeLine ∧ K (.lst ds)
theorem de_tup {fa : FA} {x1} (h : PA X es (tDA W fa)) : PE X (.Tuple es x1 pos) (tD W (fTup fa)) := (pe_tup h).imp fun σ H Q ⟨M, ρ, K, ge, k, c⟩ => by
  refine ⟨M, ρ, _, ge, k, fun ds hd vs H1 s1 r1 => ?_⟩
  obtain ⟨es, he, hl, hk⟩ := hd
  refine ⟨by rw [r1.length, asDat_len he]; exact hl, fun p np => c _ hk _ _ (s1.trans (.new np)) ?_⟩
  exact Dx.tup upd_same (Dx.kpAll (Stp.kp ge.h.vol (.new np)) _ _ (asDat_all he r1))
theorem df_lst {fa : FA} (h : PA X es (tDA W fa)) : PE X (.List es pos) (tFr W (fLst fa)) := (pe_lst h).imp fun σ H Q ⟨M, ρ, K, ge, k, c⟩ => by
  refine ⟨M, ρ, _, ge, k, fun ds hd vs H1 s1 r1 => ?_⟩
  obtain ⟨es, he, hl, hk⟩ := hd
  exact ⟨by rw [r1.length, asDat_len he]; exact hl, fun p np => c _ hk p _ H1 s1 np (.lst (asDat_all he r1))⟩
def fDnew : DEnv → (OC → Prop) → Prop := fun _ K => K (.dk [])
theorem df_dnew : PE X (.Dict [] [] pos) (tFr W fDnew) := pe_dnewK.imp fun σ H Q ⟨M, ρ, K, ge, k, c⟩ => fun p np => c _ k p _ H .refl np (.dk rfl .nil)
/-- a new object as any data -/
def fNew (f : DEnv → (OC → Prop) → Prop) : FE := fun ρ K => f ρ fun c => K (.dat c.pd)
theorem RelO.dx {M : Addr → Prop} {H : Hp} {a : Addr} {o : HO} {c : OC} (n : ¬ M a) (e : H a = some o) (r : RelO M H o c) : Dx M H (.ref a) c.pd := by
  cases r with
  | lst r => exact .lst n e r
  | dk r1 r2 => exact .dk n e (kv_of r1 r2)
theorem de_new {f : DEnv → (OC → Prop) → Prop} (h : PE X e (tFr W f)) : PE X e (tD W (fNew f)) := h.imp fun σ H Q ⟨M, ρ, K, ge, k, c⟩ => by
  refine ⟨M, ρ, _, ge, k, fun oc hc p o H1 s1 np r => c _ hc _ _ (s1.trans (.new np)) ?_⟩
  have nM : ¬ M p := fun z => (ge.stp s1).h.all p z np
  exact RelO.dx nM upd_same (r.kp (Stp.kp ge.h.vol (.new np)))
end
/-! ### statements -/
structure DEnds where
  nx : DEnv → Prop
  rt : PyData → Prop
  bk : DEnv → Prop := fun _ => False
  ct : DEnv → Prop := fun _ => False
abbrev FS := DEnds → DEnv → Prop
structure Le (W : Wd) (L : List (V × PyData)) (E : DEnds) (D : Ends) : Prop where
  nx : ∀ {M σ H ρ}, Good W L M H σ ρ → E.nx ρ → D.nx σ H
  bk : ∀ {M σ H ρ}, Good W L M H σ ρ → E.bk ρ → D.bk σ H
  ct : ∀ {M σ H ρ}, Good W L M H σ ρ → E.ct ρ → D.ct σ H
  rt : ∀ {v H d}, Stp W W.H0 H → Dx W.M0 H v d → E.rt d → D.rt v H
def tDS (W : Wd) (g : FS) : TS := fun D σ H => ∃ L M ρ E, Good W L M H σ ρ ∧ g E ρ ∧ Le W L E D
section
variable {X : Cx} {W : Wd} {st : Stmt} {sts : List Stmt} {e : Expr} {pos : Pos} {g g2 : FS} {f : FE}
def sNext : FS := fun E ρ => E.nx ρ
def sSeq (g g2 : FS) : FS := fun E ρ => g { E with nx := g2 E } ρ
theorem dss_nil : PSs X [] (tDS W sNext) := pss_nil.imp fun D σ H ⟨L, M, ρ, E, gd, k, le⟩ => le.nx gd k
theorem dss_cons (h1 : PS X st (tDS W g)) (h2 : PSs X sts (tDS W g2)) : PSs X (st :: sts) (tDS W (sSeq g g2)) := (pss_cons h1 h2).imp fun D σ H ⟨L, M, ρ, E, gd, k, le⟩ =>
  ⟨L, M, ρ, { E with nx := g2 E }, gd, k, fun gd' k' => ⟨L, _, _, E, gd', k', le⟩, le.bk, le.ct, le.rt⟩
theorem dss_one (h1 : PS X st (tDS W g)) : PSs X [st] (tDS W g) := pss_one h1
def sBreak : FS := fun E ρ => E.bk ρ
def sCont : FS := fun E ρ => E.ct ρ
theorem ds_pass : PS X (.Pass pos) (tDS W sNext) := ps_pass.imp fun D σ H ⟨L, M, ρ, E, gd, k, le⟩ => le.nx gd k
theorem ds_break : PS X (.Break pos) (tDS W sBreak) := ps_break.imp fun D σ H ⟨L, M, ρ, E, gd, k, le⟩ => le.bk gd k
theorem ds_continue : PS X (.Continue pos) (tDS W sCont) := ps_continue.imp fun D σ H ⟨L, M, ρ, E, gd, k, le⟩ => le.ct gd k
def sDrop (f : FE) : FS := fun E ρ => f ρ fun _ => E.nx ρ
theorem ds_expr (he : PE X e (tD W f)) (hs : swapsWith e none pos.line X.env = pure false := by rfl) : PS X (.Expr e pos) (tDS W (sDrop f)) := (ps_expr he hs).imp fun D σ H ⟨L, M, ρ, E, gd, k, le⟩ =>
  ⟨M, ρ, _, gd.e, k, fun dv hd v H1 s1 r1 => le.nx (gd.to s1) hd⟩
def sRet (f : FE) : FS := fun E ρ => f ρ fun x => ∃ d, x = .dat d ∧ E.rt d
theorem ds_ret (he : PE X e (tD W f)) : PS X (.Return (some e) pos) (tDS W (sRet f)) := (ps_ret he).imp fun D σ H ⟨L, M, ρ, E, gd, k, le⟩ => ⟨M, ρ, _, gd.e, k, fun dv hd v H1 s1 r1 => by
  obtain ⟨d, rfl, hd⟩ := hd
  exact le.rt (gd.e.h.stp.trans s1) (Dx.re (fun a _ _ m => gd.e.h.sub a m) _ _ r1) hd⟩
def sRetN : FS := fun E _ => E.rt .none
theorem ds_retN : PS X (.Return none pos) (tDS W sRetN) := ps_retN.imp fun D σ H ⟨L, M, ρ, E, gd, k, le⟩ => le.rt gd.e.h.stp Dx.non k
def sIf (t : FT) (g g2 : FS) : FS := fun E ρ => t ρ fun c => iteB c (g E ρ) (g2 E ρ)
theorem ds_if {c : Expr} {a b : List Stmt} {t : FT} (hc : PT X c (tDT W t)) (ha : PSs X a (tDS W g)) (hb : PSs X b (tDS W g2)) : PS X (.If c a b pos) (tDS W (sIf t g g2)) := (ps_if hc ha hb).imp fun D σ H ⟨L, M, ρ, E, gd, k, le⟩ => by
  refine ⟨M, ρ, _, gd.e, k, fun d hd H1 s1 => ?_⟩
  cases d with
  | true => exact iteT ⟨L, M, ρ, E, gd.to s1, by simpa using hd, le⟩
  | false => exact iteF ⟨L, M, ρ, E, gd.to s1, by simpa using hd, le⟩
/-! ### names stored -/
def sAsg (i : Nat) (f : FE) : FS := fun E ρ => f ρ fun x => x.isOwn = false ∧ E.nx (ρ.set i (some x))
theorem ds_set {i : Nat} {x : Str} {pos' : Pos} (hN : X.N.Nodup) (hi : X.N[i]? = some x) (hx : Loc X.env.scope x) (he : PE X e (tD W f)) (hs : swapsWith e (some (.Name x pos')) pos.line X.env = pure false := by rfl) (hf : X.fn x = true ∨ X.env.scope.names.lookup x = some .local := by first | exact .inl rfl | exact .inr rfl | assumption) :
    PS X (.Assign [.Name x pos'] e pos) (tDS W (sAsg i f)) := (ps_set hN hi hx he hs hf).imp fun D σ H ⟨L, M, ρ, E, gd, k, le⟩ =>
  ⟨M, ρ, _, gd.e, k, fun dv hd v H1 s1 r1 => le.nx ((gd.to s1).set r1 hd.1) hd.2⟩
def sNew (i : Nat) (f : DEnv → (OC → Prop) → Prop) : FS := fun E ρ => f ρ fun c => E.nx (ρ.set i (some (.own c)))
theorem ds_new {i : Nat} {x : Str} {pos' : Pos} {f : DEnv → (OC → Prop) → Prop} (hN : X.N.Nodup) (hi : X.N[i]? = some x) (hx : Loc X.env.scope x) (he : PE X e (tFr W f)) (hs : swapsWith e (some (.Name x pos')) pos.line X.env = pure false := by rfl) (hf : X.fn x = true ∨ X.env.scope.names.lookup x = some .local := by first | exact .inl rfl | exact .inr rfl | assumption) :
    PS X (.Assign [.Name x pos'] e pos) (tDS W (sNew i f)) := (ps_set hN hi hx he hs hf).imp fun D σ H ⟨L, M, ρ, E, gd, k, le⟩ =>
  ⟨M, ρ, _, gd.e, k, fun c hc p o H1 s1 np r => le.nx ((gd.to s1).fresh np r) hc⟩
/-- from here on others may know it -/
def rel (ρ : DEnv) (i : Nat) : DEnv := match ρ[i]? with
  | some (some (.own c)) => ρ.set i (some (.dat c.pd))
  | _ => ρ
def sRel (i : Nat) (g : FS) : FS := fun E ρ => g E (rel ρ i)
theorem Good.rel {L : List (V × PyData)} {M : Addr → Prop} {H : Hp} {σ : L2.St} {ρ : DEnv} (gd : Good W L M H σ ρ) (i : Nat) : ∃ M', Good W L M' H σ (DL.rel ρ i) := by
  unfold DL.rel
  split
  · rename_i c h
    exact gd.release h
  · exact ⟨M, gd⟩
theorem dss_rel (i : Nat) (h : PSs X sts (tDS W g)) : PSs X sts (tDS W (sRel i g)) := h.imp fun D σ H ⟨L, M, ρ, E, gd, k, le⟩ => by
  obtain ⟨M', gd'⟩ := gd.rel i
  exact ⟨L, M', _, E, gd', k, le⟩
theorem ds_rel (i : Nat) (h : PS X st (tDS W g)) : PS X st (tDS W (sRel i g)) := h.imp fun D σ H ⟨L, M, ρ, E, gd, k, le⟩ => by
  obtain ⟨M', gd'⟩ := gd.rel i
  exact ⟨L, M', _, E, gd', k, le⟩
/-! ### stores to what one slot alone knows -/
def sApp (i : Nat) (f : FE) : FS := fun E ρ => ∃ ds, ρ[i]? = some (some (.own (.lst ds))) ∧ f ρ fun x => ∃ d, x = .dat d ∧ ds.length < sizeLine ∧ E.nx (ρ.set i (some (.own (.lst (ds ++ [d])))))
theorem own_lst {M : Addr → Prop} {H : Hp} {v : V} {ds : List PyData} (r : RelDV W M H v (.own (.lst ds))) : ∃ a xs, v = .ref a ∧ H a = some (.lst xs) ∧ DxAll M H xs ds ∧ M a ∧ ¬ W.vol a := by
  obtain ⟨a, o, e, ho, r, m, n⟩ := r
  cases r with
  | lst r => exact ⟨a, _, e, ho, r, m, n⟩
theorem ds_append {i : Nat} {e : Expr} (h : PE X e (tBM X.K "list" rAppend (tVar i) (tCons (tD W f) tNil))) (hs : swapsWith e none pos.line X.env = pure false := by rfl) : PS X (.Expr e pos) (tDS W (sApp i f)) :=
  (ps_expr h hs).imp fun D σ H ⟨L, M, ρ, E, gd, ⟨ds, hi, k⟩, le⟩ => by
  obtain ⟨v, hσ, r⟩ := gd.e.at_ i _ hi
  obtain ⟨a, xs, rfl, ha, _⟩ := own_lst r
  refine ⟨_, hσ, .inl ⟨rfl, _, SqL.of ha⟩, M, ρ, _, gd.e, k, fun dv hd y H1 s1 r1 => ?_⟩
  obtain ⟨d, rfl, hl, hk⟩ := hd
  have gd1 := gd.to s1
  obtain ⟨v, hσ1, r2⟩ := gd1.e.at_ i _ hi
  rw [hσ] at hσ1
  cases hσ1
  obtain ⟨a', xs', e', ha', ra, ma, na⟩ := own_lst r2
  cases e'
  refine ⟨_, _, y, rfl, rfl, ha', by rw [DxAll.length ra]; exact hl, ?_⟩
  exact le.nx (gd1.mut hi hσ ha' (.lst ra) ma na (.lst (ra.app (.cons r1 .nil)))) hk
end
end DL

set_option Elab.async false
set_option linter.all false
set_option maxRecDepth 100000
set_option maxHeartbeats 1000000
/-! Targets, walks, loops, comprehensions, all and any, over data. -/
namespace DL
open PySem PySem.Spec PyProof.Rows L2 KT KG KX KY KE0 LK GxR
/-! ### targets -/
inductive Sets (W : Wd) (M : Addr → Prop) (H : Hp) (T : Nat → Prop) : L2.St → DEnv → L2.St → DEnv → Prop
  | refl {σ : L2.St} {ρ : DEnv} : Sets W M H T σ ρ σ ρ
  | set {σ σ' : L2.St} {ρ ρ' : DEnv} {i : Nat} {v : V} {dv : DV} : Sets W M H T σ ρ σ' ρ' → RelDV W M H v dv → dv.isOwn = false → T i → Sets W M H T σ ρ (σ'.set i (some v)) (ρ'.set i (some dv))
abbrev GD := PyData → DEnv → (DEnv → Prop) → Prop
abbrev GDs := List PyData → DEnv → (DEnv → Prop) → Prop
def SndG (W : Wd) (T : Nat → Prop) (g : TG) (gd : GD) : Prop := ∀ {M H v d σ0 ρ0 σ ρ K} {Q : L2.St → Hp → Prop}, Dx M H v d → Sets W M H T σ0 ρ0 σ ρ → gd d ρ K → (∀ σ' ρ', Sets W M H T σ0 ρ0 σ' ρ' → K ρ' → Q σ' H) → g v σ H Q
def SndGs (W : Wd) (T : Nat → Prop) (g : TGs) (gd : GDs) : Prop := ∀ {M H vs ds σ0 ρ0 σ ρ K} {Q : L2.St → Hp → Prop}, DxAll M H vs ds → Sets W M H T σ0 ρ0 σ ρ → gd ds ρ K → (∀ σ' ρ', Sets W M H T σ0 ρ0 σ' ρ' → K ρ' → Q σ' H) → g vs σ H Q
def gdN (i : Nat) : GD := fun d ρ K => K (ρ.set i (some (.dat d)))
def gdT (n : Nat) (gs : GDs) : GD := fun d ρ K => match d with
  | .tuple ds => ds.length = n ∧ gs ds ρ K
  | _ => False
def gdNil : GDs := fun ds ρ K => match ds with
  | [] => K ρ
  | _ :: _ => False
def gdCons (g : GD) (gs : GDs) : GDs := fun ds ρ K => match ds with
  | d :: r => g d ρ fun ρ' => gs r ρ' K
  | [] => False
theorem gdT_t (n : Nat) (gs : GDs) (ds : List PyData) (ρ : DEnv) (K : DEnv → Prop) : gdT n gs (.tuple ds) ρ K = (ds.length = n ∧ gs ds ρ K) := rfl
theorem gdNil_n (ρ : DEnv) (K : DEnv → Prop) : gdNil [] ρ K = K ρ := rfl
theorem gdCons_c (g : GD) (gs : GDs) (d : PyData) (r : List PyData) (ρ : DEnv) (K : DEnv → Prop) : gdCons g gs (d :: r) ρ K = g d ρ fun ρ' => gs r ρ' K := rfl
section
variable {W : Wd} {M M0 : Addr → Prop} {H H0 : Hp} {T : Nat → Prop} {σ σ' : L2.St} {ρ ρ' : DEnv}
theorem Sets.good {L : List (V × PyData)} (s : Sets W M H T σ ρ σ' ρ') (g : Good W L M H σ ρ) : Good W L M H σ' ρ' := by
  induction s with
  | refl => exact g
  | set _ r n _ ih => exact (ih g).set r n
theorem Sets.goodE (s : Sets W M H T σ ρ σ' ρ') (g : GoodE W M H σ ρ) : GoodE W M H σ' ρ' := by
  induction s with
  | refl => exact g
  | set _ r n _ ih => exact (ih g).set r
theorem wipe_set : ∀ {vs : List Nat} {i : Nat} {x : Option V}, i ∈ vs → L2.wipe (σ.set i x) vs = L2.wipe σ vs
  | v :: vs, i, x, h => by
    unfold L2.wipe
    by_cases e : i ∈ vs
    · rw [wipe_set e]
    · have ev : i = v := (List.mem_cons.mp h).resolve_right e
      subst ev
      have out : ∀ us : List Nat, i ∉ us → L2.wipe (σ.set i x) us = (L2.wipe σ us).set i x := fun us => by
        induction us with
        | nil => intro _; rfl
        | cons u us ih =>
          intro hu
          unfold L2.wipe
          rw [ih (fun z => hu (List.mem_cons_of_mem _ z)), List.set_comm _ _ (fun z => hu (by rw [z]; exact List.mem_cons_self))]
      rw [out vs e, List.set_set]
theorem Sets.wipe {vs : List Nat} (s : Sets W M H (· ∈ vs) σ ρ σ' ρ') : L2.wipe σ' vs = L2.wipe σ vs := by
  induction s with
  | refl => rfl
  | set _ _ _ h ih => rw [wipe_set h, ih]
theorem sg_name {i : Nat} (h : T i) : SndG W T (gName i) (gdN i) := fun hx s k q => q _ _ (s.set (dv := .dat _) hx rfl h) k
theorem sg_tup {K : PySem.W.Frag} {n : Nat} {t : TGs} {gs : GDs} (h : SndGs W T t gs) : SndG W T (gTup K n t) (gdT n gs) := fun {M H v d σ0 ρ0 σ ρ K' Q} hx s k q => by
  cases d with
  | tuple ds =>
    obtain ⟨hl, k⟩ := k
    obtain ⟨a, xs, rfl, e, r⟩ := Dx.tupOf hx
    exact ⟨a, xs, rfl, SqT.of e, by rw [DxAll.length r]; exact hl, h r s k q⟩
  | _ => exact k.elim
theorem sgs_nil : SndGs W T gNil gdNil := fun {M H vs ds σ0 ρ0 σ ρ K' Q} hx s k q => by
  cases hx with
  | nil => exact ⟨rfl, q _ _ s k⟩
  | cons _ _ => exact k.elim
theorem sgs_cons {g : TG} {t : TGs} {gd : GD} {gs : GDs} (h1 : SndG W T g gd) (h2 : SndGs W T t gs) : SndGs W T (gCons g t) (gdCons gd gs) := fun {M H vs ds σ0 ρ0 σ ρ K' Q} hx s k q => by
  cases hx with
  | nil => exact k.elim
  | cons x1 x2 => exact ⟨_, _, rfl, h1 x1 s k fun σ' ρ' s' k' => h2 x2 s' k' q⟩
end
section
variable {X : Cx} {W : Wd} {e tg iter : Expr} {pos : Pos} {f : FE}
def sAsgT (f : FE) (gd : GD) : FS := fun E ρ => f ρ fun x => ∃ d, x = .dat d ∧ gd d ρ E.nx
theorem ds_asg {g : TG} {gd : GD} (he : PE X e (tD W f)) (hg : PG X tg g) (sg : SndG W (fun _ => True) g gd) (hs : swapsWithSole [tg] e pos.line X.env = pure false := by rfl) (hw : swappedStores [tg] e X.env = pure none := by rfl)
    (h1 : (assignEach [tg] X.env).map (·.2) = [assign tg X.env] := by rfl) : PS X (.Assign [tg] e pos) (tDS W (sAsgT f gd)) := (ps_asg he hg hs hw h1).imp fun D σ H ⟨L, M, ρ, E, gd', k, le⟩ =>
  ⟨M, ρ, _, gd'.e, k, fun dv hd v H1 s1 r1 => by
    obtain ⟨d, rfl, hd⟩ := hd
    exact sg r1 .refl hd fun σ' ρ' s k' => le.nx (s.good (gd'.to s1)) k'⟩
/-! ### what is walked -/
structure WalkD (W : Wd) (J : It) (items : List PyData) (live : List (V × DV)) : Prop where
  go : ∀ {i H M}, (∀ p ∈ live, RelDV W M H p.1 p.2) → i < items.length → J.go i H
  stop : ∀ {H M}, (∀ p ∈ live, RelDV W M H p.1 p.2) → J.stop items.length H
  yld : ∀ {i H M x H'}, GoodH W M H → (∀ p ∈ live, RelDV W M H p.1 p.2) → i < items.length → J.yld i H x H' → Stp W H H' ∧ ∃ d, items[i]? = some d ∧ Dx M H' x d
def tDI (W : Wd) (st : Bool) (fi : DEnv → (List PyData → Prop) → Prop) : TI := fun σ H R => ∃ M ρ K, GoodE W M H σ ρ ∧ fi ρ K ∧ ∀ items, K items → ∀ J live H', Stp W H H' → (∀ p ∈ live, RelDV W M H' p.1 p.2) → (st = true → ∀ p ∈ live, ∃ d, p.2 = DV.dat d) → WalkD W J items live → R J H'
theorem _root_.L2.PI.imp {w w' : TI} (h : PI X tg iter w) (k : ∀ σ H R, w' σ H R → w σ H R) : PI X tg iter w' := ⟨fun pins s σ H R I q => h.run pins s σ H R I (k σ H R q)⟩
theorem pi_seqA {te : TE} (he : PE X e te) : PI X tg e (fun σ H R => te σ H fun x H1 => (∃ a, x = .ref a ∧ (∃ xs, SqT X.K H1 a xs) ∧ R (Itt X.K a) H1) ∨ (∃ a, x = .ref a ∧ (∃ xs, SqL X.K H1 a xs) ∧ R (Itl X.K a) H1) ∨ ∃ z, x = .str z ∧ R (Its z) H1) := by
  refine ⟨fun pins s σ H R I h => ?_⟩
  refine thn (he.run pins s σ H _ I h) fun v s1 ⟨x, H1, I1, r1, q1⟩ => ?_
  rcases q1 with ⟨a, rfl, ⟨xs, hq⟩, q⟩ | ⟨a, rfl, ⟨xs, hq⟩, q⟩ | ⟨z, rfl, q⟩
  · cases r1
    obtain ⟨its, rv, p, hz⟩ := I1.tuple hq
    refine wpAny_pyIter_tuple (show s1.heap.IsTuple a its.toArray from p) ?_
    refine ⟨s1.heap.objs.size, [s1.heap.objs.size], _, _, H1, rfl, I1.kept (t' := s1.toks) fun b o e => Heap.get?_push_of_some _ e, turn_tuple a _, ⟨_, Heap.get?_push_size _ rfl, rfl, rfl⟩, fun b hb => ?_, q⟩
    have e : b = s1.heap.objs.size := by simpa using hb
    subst e
    exact I1.fpOk (Nat.le_refl _) (I1.hok.fresh (Nat.le_refl _))
  · cases r1
    obtain ⟨its, rv, p, hz⟩ := I1.list hq
    refine wpAny_pyIter_list p.isList ?_
    refine ⟨s1.heap.objs.size, [s1.heap.objs.size], _, _, H1, rfl, I1.kept (t' := s1.toks) fun b o e => Heap.get?_push_of_some _ e, turn_list a _, ⟨_, Heap.get?_push_size _ rfl, rfl, rfl⟩, fun b hb => ?_, q⟩
    have e : b = s1.heap.objs.size := by simpa using hb
    subst e
    exact I1.fpOk (Nat.le_refl _) (I1.hok.fresh (Nat.le_refl _))
  · obtain ⟨t, rfl⟩ := r1
    cases ha : z.cps.all (· < 128)
    · exact wpAny_pyIter_wide ha (pi_one (tk := s1.toks) I1 _ (turn_str _ z t "str_iterator" (.inr rfl)) ⟨_, Heap.get?_push_size _ rfl, rfl, rfl⟩ q)
    · exact wpAny_pyIter_ascii ha (pi_one (tk := s1.toks) I1 _ (turn_str _ z t "str_ascii_iterator" (.inl rfl)) ⟨_, Heap.get?_push_size _ rfl, rfl, rfl⟩ q)
def signs (z : Str) : List PyData := z.cps.toList.map fun c => .str ⟨#[c]⟩
def itemsOf (st : Bool) : DV → Option (List PyData)
  | .dat (.tuple ds) => some ds
  | .dat (.list ds) => some ds
  | .dat (.str z) => some (signs z)
  | .own (.lst ds) => if st = true then none else some ds
  | .gts xs => if st = true then none else some (xs.map PyData.str)
  | _ => none
def fIt (st : Bool) (f : FE) : DEnv → (List PyData → Prop) → Prop := fun ρ K => f ρ fun x => ∃ ds, itemsOf st x = some ds ∧ K ds
theorem walkD_tup {K : PySem.W.Frag} {a : Addr} {ds : List PyData} : WalkD W (Itt K a) ds [(.ref a, .dat (.tuple ds))] := by
  have get : ∀ {M H}, (∀ p ∈ [((V.ref a), DV.dat (.tuple ds))], RelDV W M H p.1 p.2) → ∃ xs, SqT K H a xs ∧ DxAll M H xs ds := fun {M H} h => by
    obtain ⟨b, xs, e, e1, r⟩ := Dx.tupOf (h _ List.mem_cons_self)
    cases e
    exact ⟨xs, SqT.of e1, r⟩
  refine ⟨fun {i H M} h hi => ?_, fun h => ?_, fun g h hi y => ?_⟩
  · obtain ⟨xs, e, r⟩ := get h
    have h2 : i < xs.length := by
      rw [DxAll.length r]
      exact hi
    exact ⟨xs, xs[i], e, by simp [h2]⟩
  · obtain ⟨xs, e, r⟩ := get h
    exact ⟨xs, e, Nat.le_of_eq (DxAll.length r)⟩
  · obtain ⟨xs, e, r⟩ := get h
    obtain ⟨rfl, y⟩ := y
    obtain ⟨d, h1, h2⟩ := DxAll.at r (y xs e)
    exact ⟨.refl, d, h1, h2⟩
theorem walkD_lst {K : PySem.W.Frag} {a : Addr} {ds : List PyData} {dv : DV} (hd : dv = .dat (.list ds) ∨ dv = .own (.lst ds)) : WalkD W (Itl K a) ds [(.ref a, dv)] := by
  have get : ∀ {M H}, (∀ p ∈ [((V.ref a), dv)], RelDV W M H p.1 p.2) → ∃ xs, SqL K H a xs ∧ DxAll M H xs ds := fun {M H} h => by
    have h := h _ List.mem_cons_self
    rcases hd with rfl | rfl
    · cases (show Dx M H (.ref a) (.list ds) from h) with
      | lst n e r => exact ⟨_, SqL.of e, r⟩
    · obtain ⟨b, xs, e, e1, r, _⟩ := own_lst h
      cases e
      exact ⟨xs, SqL.of e1, r⟩
  refine ⟨fun {i H M} h hi => ?_, fun h => ?_, fun g h hi y => ?_⟩
  · obtain ⟨xs, e, r⟩ := get h
    have h2 : i < xs.length := by
      rw [DxAll.length r]
      exact hi
    exact ⟨xs, xs[i], e, by simp [h2]⟩
  · obtain ⟨xs, e, r⟩ := get h
    exact ⟨xs, e, Nat.le_of_eq (DxAll.length r)⟩
  · obtain ⟨xs, e, r⟩ := get h
    obtain ⟨rfl, y⟩ := y
    obtain ⟨d, h1, h2⟩ := DxAll.at r (y xs e)
    exact ⟨.refl, d, h1, h2⟩
theorem walkD_str {z : Str} : WalkD W (Its z) (signs z) [] := by
  have hl : (signs z).length = z.cps.size := by simp [signs]
  refine ⟨fun _ hi => ?_, fun _ => ?_, fun g _ hi y => ?_⟩
  · exact walk_str.goes _ _ (by rw [← hl]; exact hi) trivial
  · rw [hl]
    exact walk_str.stops _ trivial
  · obtain ⟨rfl, c, h1, rfl⟩ := walk_str.yields _ _ _ _ (by rw [← hl]; exact hi) trivial y
    refine ⟨.refl, _, ?_, Dx.str _⟩
    simp [signs, h1]
theorem walkD_gts {a : Addr} {xs : List Str} (h : ∀ H, SqT W.K H a (xs.map V.str)) : WalkD W (Itt W.K a) (xs.map PyData.str) [] := by
  refine ⟨fun {i H _} _ hi => ?_, fun {H _} _ => ?_, fun {i H M x H'} g _ hi y => ?_⟩
  · have hi : i < xs.length := by simpa using hi
    exact ⟨_, .str xs[i], h H, by simp [hi]⟩
  · exact ⟨_, h H, by simp⟩
  · have hi : i < xs.length := by simpa using hi
    obtain ⟨rfl, y⟩ := y
    have y := y _ (h _)
    simp only [List.getElem?_map, List.getElem?_eq_getElem hi, Option.map_some] at y
    cases y
    exact ⟨.refl, .str xs[i], by simp [hi], Dx.str _⟩
theorem di_seq {st : Bool} (he : PE X e (tD W f)) (hK : W.K = X.K) : PI X tg e (tDI W st (fIt st f)) := (pi_seqA he).imp fun σ H R ⟨M, ρ, K, g, k, c⟩ => by
  refine ⟨M, ρ, _, g, k, fun dv hd v H1 s1 r1 => ?_⟩
  obtain ⟨ds, hi, hk⟩ := hd
  match dv, hi, r1 with
  | .dat (.tuple ds'), hi, r1 =>
    cases hi
    obtain ⟨a, xs, rfl, e, r⟩ := Dx.tupOf r1
    exact .inl ⟨a, rfl, ⟨_, SqT.of e⟩, c _ hk _ _ H1 s1 (fun p hp => by rw [List.mem_singleton.mp hp]; exact r1) (fun _ p hp => by rw [List.mem_singleton.mp hp]; exact ⟨_, rfl⟩) walkD_tup⟩
  | .dat (.list ds'), hi, r1 =>
    cases hi
    have r1' := r1
    cases (show Dx M H1 v (.list ds) from r1) with
    | lst n e r => exact .inr (.inl ⟨_, rfl, ⟨_, SqL.of e⟩, c _ hk _ _ H1 s1 (fun p hp => by rw [List.mem_singleton.mp hp]; exact r1') (fun _ p hp => by rw [List.mem_singleton.mp hp]; exact ⟨_, rfl⟩) (walkD_lst (.inl rfl))⟩)
  | .dat (.str z), hi, r1 =>
    cases hi
    cases (show Dx M H1 v (.str z) from r1) with
    | str _ => exact .inr (.inr ⟨z, rfl, c _ hk _ [] H1 s1 (fun p hp => by cases hp) (fun _ p hp => by cases hp) walkD_str⟩)
  | .own (.lst ds'), hi, r1 =>
    have hi : (if st = true then none else some ds') = some ds := hi
    by_cases hs : st = true
    · rw [if_pos hs] at hi
      cases hi
    · rw [if_neg hs] at hi
      cases hi
      have r1' := r1
      obtain ⟨a, xs, rfl, e, r, m, n⟩ := own_lst r1
      exact .inr (.inl ⟨a, rfl, ⟨_, SqL.of e⟩, c _ hk _ _ H1 s1 (fun p hp => by rw [List.mem_singleton.mp hp]; exact r1') (fun z => absurd z hs) (walkD_lst (.inr rfl))⟩)
  | .gts xs, hi, r1 =>
    have hi : (if st = true then none else some (xs.map PyData.str)) = some ds := hi
    by_cases hs : st = true
    · rw [if_pos hs] at hi
      cases hi
    · rw [if_neg hs] at hi
      cases hi
      obtain ⟨a, rfl, h⟩ := r1
      refine .inl ⟨a, rfl, ⟨_, by rw [← hK]; exact h H1⟩, ?_⟩
      rw [← hK]
      exact c _ hk _ [] H1 s1 (fun p hp => by cases hp) (fun _ p hp => by cases hp) (walkD_gts h)
theorem di_gts {a : Addr} {xs : List Str} (h : PE X e (tC (.ref a))) (hK : W.K = X.K) (ha : ∀ H, SqT X.K H a (xs.map V.str)) : PI X tg e (tDI W true fun _ K => K (xs.map PyData.str)) := (pi_tup h).imp fun σ H R ⟨M, ρ, K, g, k, c⟩ => by
  refine ⟨a, rfl, ⟨_, ha H⟩, ?_⟩
  rw [← hK] at ha ⊢
  exact c _ k _ [] H .refl (fun p hp => by cases hp) (fun _ p hp => by cases hp) (walkD_gts ha)
def rngD (lo : Int) (n : Nat) : List PyData := (List.range n).map fun (i : Nat) => PyData.int (lo + (i : Int))
theorem walkD_rng {lo : Int} {n : Nat} : WalkD W (Itr lo n) (rngD lo n) [] := by
  have hl : (rngD lo n).length = n := by simp [rngD]
  refine ⟨fun _ hi => by rw [hl] at hi; exact hi, fun _ => by rw [hl]; exact Nat.le_refl _, fun g _ hi y => ?_⟩
  obtain ⟨rfl, rfl⟩ := y
  rw [hl] at hi
  exact ⟨.refl, _, by simp [rngD, hi], Dx.int _⟩
def fRng1 (fa : FA) : DEnv → (List PyData → Prop) → Prop := fun ρ K => fa ρ fun xs => ∃ n : Int, xs = [.dat (.int n)] ∧ -(2 ^ 62) ≤ n ∧ n < 2 ^ 62 ∧ K (rngD 0 n.toNat)
def fRng2 (fa : FA) : DEnv → (List PyData → Prop) → Prop := fun ρ K => fa ρ fun xs => ∃ i j : Int, xs = [.dat (.int i), .dat (.int j)] ∧ (-(2 ^ 62) ≤ i ∧ i < 2 ^ 62 ∧ -(2 ^ 62) ≤ j ∧ j < 2 ^ 62) ∧ K (rngD i (j - i).toNat)
theorem rel1 {M : Addr → Prop} {H : Hp} {vs : List V} {d : DV} (r : RelAll W M H vs [d]) : ∃ v, vs = [v] ∧ RelDV W M H v d := by
  match vs, r with
  | [v], r => exact ⟨v, rfl, r.1⟩
theorem rel2 {M : Addr → Prop} {H : Hp} {vs : List V} {d e : DV} (r : RelAll W M H vs [d, e]) : ∃ v u, vs = [v, u] ∧ RelDV W M H v d ∧ RelDV W M H u e := by
  match vs, r with
  | [v, u], r => exact ⟨v, u, rfl, r.1, r.2.1⟩
theorem rel3 {M : Addr → Prop} {H : Hp} {vs : List V} {d e f : DV} (r : RelAll W M H vs [d, e, f]) : ∃ v u z, vs = [v, u, z] ∧ RelDV W M H v d ∧ RelDV W M H u e ∧ RelDV W M H z f := by
  match vs, r with
  | [v, u, z], r => exact ⟨v, u, z, rfl, r.1, r.2.1, r.2.2.1⟩
theorem relI {M : Addr → Prop} {H : Hp} {v : V} {n : Int} (r : RelDV W M H v (.dat (.int n))) : v = .int n := by
  cases (show Dx M H v (.int n) from r)
  rfl
theorem di_range1 {st : Bool} {fa : FA} {a : Expr} {p : Pos} (hg : Gl X "range") (hm : X.mg "range" = none) (ha : PA X [a] (tDA W fa)) (hs : starEach [a] X.env = [(false, eval a X.env)] := by rfl) : PI X tg (.Call (.Name "range" p) [a] [] pos) (tDI W st (fRng1 fa)) := (pi_range1 hg hm ha hs).imp fun σ H R ⟨M, ρ, K, g, k, c⟩ => by
  refine ⟨M, ρ, _, g, k, fun ds hd vs H1 s1 r1 => ?_⟩
  obtain ⟨n, rfl, h1, h2, hk⟩ := hd
  obtain ⟨v, rfl, r⟩ := rel1 r1
  cases relI r
  exact ⟨n, rfl, h1, h2, c _ hk _ [] H1 s1 (fun p hp => by cases hp) (fun _ p hp => by cases hp) walkD_rng⟩
theorem di_range2 {st : Bool} {fa : FA} {a b : Expr} {p : Pos} (hg : Gl X "range") (hm : X.mg "range" = none) (ha : PA X [a, b] (tDA W fa)) (hs : starEach [a, b] X.env = [(false, eval a X.env), (false, eval b X.env)] := by rfl) (hs2 : starEach [b] X.env = [(false, eval b X.env)] := by rfl) : PI X tg (.Call (.Name "range" p) [a, b] [] pos) (tDI W st (fRng2 fa)) := (pi_range2 hg hm ha hs hs2).imp fun σ H R ⟨M, ρ, K, g, k, c⟩ => by
  refine ⟨M, ρ, _, g, k, fun ds hd vs H1 s1 r1 => ?_⟩
  obtain ⟨i, j, rfl, h1, hk⟩ := hd
  obtain ⟨v, u, rfl, r, r2⟩ := rel2 r1
  cases relI r
  cases relI r2
  exact ⟨i, j, rfl, h1, c _ hk _ [] H1 s1 (fun p hp => by cases hp) (fun _ p hp => by cases hp) walkD_rng⟩
/-! ### for -/
def forL (gd : GD) (body : FS) (E : DEnds) : List PyData → DEnv → Prop
  | [], ρ => E.nx ρ
  | d :: ds, ρ => gd d ρ fun ρ' => body { E with nx := forL gd body E ds, ct := forL gd body E ds, bk := E.nx } ρ'
def sFor (fi : DEnv → (List PyData → Prop) → Prop) (gd : GD) (body : FS) : FS := fun E ρ => fi ρ fun items => forL gd body E items ρ
theorem ds_for {fi : DEnv → (List PyData → Prop) → Prop} {g : TG} {gd : GD} {body : List Stmt} {fb : FS} (hp : PassesOwn (model X.prog X.w) X.A X.env X.xe) (hc : X.calm = true) (hi : PI X tg iter (tDI W true fi)) (hg : PG X tg g) (sg : SndG W (fun _ => True) g gd) (hb : PSs X body (tDS W fb))
    (hs : ∀ x, foldedSetIterable iter X.env x = pure x := by intro _; rfl) : PS X (.For tg iter body [] pos) (tDS W (sFor fi gd fb)) := (ps_for hp hc hi hg hb hs).imp fun D σ H ⟨L, M, ρ, E, gd', k, le⟩ => by
  refine ⟨M, ρ, _, gd'.e, k, fun items hk J live H1 s1 hl hst w => ?_⟩
  have hst := hst rfl
  have g1 := gd'.to s1
  -- the source stays alive
  let L' : List (V × PyData) := L ++ live.filterMap fun p => p.2.pd.map fun d => (p.1, d)
  have liveOf : ∀ {M2 H2 σ2 ρ2}, Good W L' M2 H2 σ2 ρ2 → ∀ p ∈ live, RelDV W M2 H2 p.1 p.2 := fun {M2 H2 σ2 ρ2} g2 p hp => by
    obtain ⟨d, e⟩ := hst p hp
    have z := g2.live (p.1, d) (List.mem_append_right _ (List.mem_filterMap.mpr ⟨p, hp, by rw [e]; rfl⟩))
    rw [e]
    exact z
  have gL : Good W L' M H1 σ ρ := ⟨g1.e, fun p hp => (List.mem_append.mp hp).elim (g1.live p) fun hp => by
    obtain ⟨q, hq, e⟩ := List.mem_filterMap.mp hp
    obtain ⟨d, e2⟩ := hst q hq
    rw [e2] at e
    cases e
    have z := hl q hq
    rw [e2] at z
    exact z, g1.fr, g1.ne⟩
  have unL : ∀ {M2 H2 σ2 ρ2}, Good W L' M2 H2 σ2 ρ2 → Good W L M2 H2 σ2 ρ2 := fun g2 => ⟨g2.e, fun p hp => g2.live p (List.mem_append_left _ hp), g2.fr, g2.ne⟩
  refine ⟨fun i m σ2 H2 => m = items.length - i ∧ i ≤ items.length ∧ ∃ M2 ρ2, Good W L' M2 H2 σ2 ρ2 ∧ forL gd fb E (items.drop i) ρ2, ⟨items.length, by simp, Nat.zero_le _, M, ρ, gL, by simpa using hk⟩, ?_⟩
  rintro i m σ2 H2 ⟨rfl, hi2, M2, ρ2, g2, k2⟩
  by_cases hlt : i < items.length
  · refine .inr ⟨w.go (liveOf g2) hlt, fun σ3 H3 => ∃ M3 ρ3, Good W L' M3 H3 σ3 ρ3 ∧ forL gd fb E (items.drop (i + 1)) ρ3, fun σ3 H3 h3 => ⟨items.length - (i + 1), by omega, rfl, hlt, h3⟩, fun x H3 y => ?_⟩
    obtain ⟨s3, d, hd, xd⟩ := w.yld g2.e.h (liveOf g2) hlt y
    have g3 := g2.to s3
    have ed : items.drop i = d :: items.drop (i + 1) := by
      have : items[i] = d := by simpa [List.getElem?_eq_getElem hlt] using hd
      rw [← this]
      exact List.drop_eq_getElem_cons hlt
    rw [ed] at k2
    refine sg xd .refl k2 fun σ4 ρ4 s4 k4 => ?_
    exact ⟨L', M2, ρ4, _, s4.good g3, k4, fun g5 k5 => ⟨_, _, g5, k5⟩, fun g5 k5 => le.nx (unL g5) k5, fun g5 k5 => ⟨_, _, g5, k5⟩, le.rt⟩
  · have e : i = items.length := by omega
    subst e
    rw [List.drop_length] at k2
    exact .inl ⟨w.stop (liveOf g2), le.nx (unL g2) k2⟩
/-! ### while -/
def whN (t : FT) (fb : FS) (E : DEnds) : Nat → DEnv → Prop
  | 0, _ => False
  | n + 1, ρ => t ρ fun c => iteB c (fb { E with nx := whN t fb E n, ct := whN t fb E n, bk := E.nx } ρ) (E.nx ρ)
def sWhile (t : FT) (fb : FS) : FS := fun E ρ => ∃ n, whN t fb E n ρ
theorem ds_while {c : Expr} {body : List Stmt} {t : FT} {fb : FS} (hp : PassesOwn (model X.prog X.w) X.A X.env X.xe) (hc : PT X c (tDT W t)) (hb : PSs X body (tDS W fb)) : PS X (.While c body [] pos) (tDS W (sWhile t fb)) := (ps_while hp hc hb).imp fun D σ H ⟨L, M, ρ, E, gd, ⟨n, k⟩, le⟩ => by
  refine ⟨fun m σ2 H2 => ∃ M2 ρ2, Good W L M2 H2 σ2 ρ2 ∧ whN t fb E m ρ2, ⟨n, M, ρ, gd, k⟩, ?_⟩
  rintro m σ2 H2 ⟨M2, ρ2, g2, k2⟩
  cases m with
  | zero => exact k2.elim
  | succ m =>
    refine ⟨M2, ρ2, _, g2.e, k2, fun b hb H3 s3 => ?_⟩
    cases b with
    | true => exact iteT ⟨fun σ4 H4 => ∃ M4 ρ4, Good W L M4 H4 σ4 ρ4 ∧ whN t fb E m ρ4, fun σ4 H4 h4 => ⟨m, Nat.lt_succ_self m, h4⟩, L, M2, ρ2, { E with nx := whN t fb E m, ct := whN t fb E m, bk := E.nx }, g2.to s3, by simpa using hb, fun g5 k5 => ⟨_, _, g5, k5⟩, fun g5 k5 => le.nx g5 k5, fun g5 k5 => ⟨_, _, g5, k5⟩, le.rt⟩
    | false => exact iteF (le.nx (g2.to s3) (by simpa using hb))
end
end DL

set_option Elab.async false
set_option linter.all false
set_option maxRecDepth 100000
set_option maxHeartbeats 1000000
/-! Comprehensions, all and any, calls and promises, errors raised, over data. -/
namespace DL
open PySem PySem.Spec PyProof.Rows L2 KT KG KX KY KE0 LK GxR QY QZ QB QE QF
open He (ga ma)
section
variable {W : Wd} {M : Addr → Prop} {H : Hp} {σ : L2.St} {ρ : DEnv}
/-- beside a new object p, which may change -/
theorem GoodE.beside {p : Addr} {o : HO} (g : GoodE W M H σ ρ) (np : H p = none) : GoodE W (fun a => M a ∨ a = p) (upd H p o) σ ρ := by
  have s : Stp W H (upd H p o) := .new np
  have k : ∀ a u, H a = some u → (M a ∨ a = p) → M a := fun a u e m => m.elim id fun z => by
    rw [z, np] at e
    cases e
  have vol : ∀ a, W.vol a → (M a ∨ a = p) := fun a z => .inl (g.h.vol a z)
  have kp : Kp (fun a => M a ∨ a = p) H (upd H p o) := s.kp vol
  refine ⟨⟨s.ok g.h.ok, vol, fun a m z => ?_, g.h.stp.trans s, fun a m => .inl (g.h.sub a m), g.h.m0⟩, g.len, fun i dv e => ?_⟩
  · rcases m with m | rfl
    · exact g.h.all a m (s.on a z)
    · rw [upd_same] at z
      cases z
  · obtain ⟨v, e1, r⟩ := g.at_ i dv e
    refine ⟨v, e1, ?_⟩
    cases dv with
    | dat d => exact Dx.kp kp _ _ (Dx.re k _ _ r)
    | own c =>
      obtain ⟨a, u, e, ho, r, m, n⟩ := r
      exact ⟨a, u, e, s.st a u n r.nt.1 ho, (r.re k).kp kp, .inl m, n⟩
    | deck => exact r
    | gts xs => exact r
    | ob u => exact r
theorem RelDV.beside {v : V} {dv : DV} {p : Addr} {o : HO} (g : GoodH W M H) (np : H p = none) (r : RelDV W M H v dv) : RelDV W (fun a => M a ∨ a = p) (upd H p o) v dv := by
  have s : Stp W H (upd H p o) := .new np
  have k : ∀ a u, H a = some u → (M a ∨ a = p) → M a := fun a u e m => m.elim id fun z => by
    rw [z, np] at e
    cases e
  have kp : Kp (fun a => M a ∨ a = p) H (upd H p o) := s.kp fun a z => .inl (g.vol a z)
  cases dv with
  | dat d => exact Dx.kp kp _ _ (Dx.re k _ _ r)
  | own c =>
    obtain ⟨a, u, e, ho, r, m, n⟩ := r
    exact ⟨a, u, e, s.st a u n r.nt.1 ho, (r.re k).kp kp, .inl m, n⟩
  | deck => exact r
  | gts xs => exact r
  | ob u => exact r
/-- the object at D changes, D may change -/
theorem GoodE.poke {D : Addr} {xs ys : List V} (g : GoodE W M H σ ρ) (hD : H D = some (.lst xs)) (mD : M D) (nv : ¬ W.vol D) (h0 : W.H0 D = none) : Kp M H (upd H D (.lst ys)) ∧ (GoodH W M H → GoodH W M (upd H D (.lst ys))) := by
  have kp : Kp M H (upd H D (.lst ys)) := ⟨fun b u n _ e => by
    rw [upd_ne (fun z => n (by rw [z]; exact mD))]
    exact e, fun b zs e => by
    rw [upd_ne (fun z => by rw [z, hD] at e; cases e)]
    exact e⟩
  refine ⟨kp, fun gh => ?_⟩
  have ok : W.ok (upd H D (.lst ys)) := by
    obtain ⟨i1, t1⟩ := gh.ok
    refine ⟨W.keep (fun b u v e => ?_) i1, fun P hP => ?_⟩
    · rw [upd_ne (fun z => by
        rcases v with v | ⟨φ, rfl⟩ | ⟨_, ps, rfl⟩
        · exact nv (by rw [← z]; exact v)
        · rw [z, hD] at e
          cases e
        · rw [z, hD] at e
          cases e)]
      exact e
    · obtain ⟨ps, e, tr⟩ := t1 P hP
      refine ⟨ps, ?_, tr⟩
      rw [upd_ne (fun z => by rw [z, hD] at e; cases e)]
      exact e
  refine ⟨ok, gh.vol, fun b m z => ?_, ⟨fun b u n t e => ?_, fun b zs e => ?_, fun b e => ?_, fun _ => ok⟩, gh.sub, gh.m0⟩
  · by_cases y : b = D
    · rw [y, upd_same] at z
      cases z
    · rw [upd_ne y] at z
      exact gh.all b m z
  · rw [upd_ne (fun z => by rw [z, h0] at e; cases e)]
    exact gh.stp.st b u n t e
  · rw [upd_ne (fun z => by rw [z, h0] at e; cases e)]
    exact gh.stp.tp b zs e
  · by_cases y : b = D
    · rw [y]
      exact h0
    · rw [upd_ne y] at e
      exact gh.stp.on b e
theorem GoodE.kpTo {H' : Hp} (g : GoodE W M H σ ρ) (k : Kp M H H') (gh : GoodH W M H') (no : ∀ (i : Nat) (c : OC), ρ[i]? = some (some (.own c)) → ∀ a : Addr, σ[i]? = some (some (.ref a)) → H' a = H a) : GoodE W M H' σ ρ := ⟨gh, g.len, fun i dv e => by
  obtain ⟨v, e1, r⟩ := g.at_ i dv e
  refine ⟨v, e1, ?_⟩
  cases dv with
  | dat d => exact Dx.kp k _ _ r
  | own c =>
    obtain ⟨a, u, rfl, ho, r, m, n⟩ := r
    exact ⟨a, u, rfl, by rw [no i c e a e1]; exact ho, r.kp k, m, n⟩
  | deck => exact r
  | gts xs => exact r
  | ob u => exact r⟩
end
theorem wipe_none {σ : L2.St} {i : Nat} : ∀ {vs : List Nat}, i ∈ vs → i < σ.length → (L2.wipe σ vs)[i]? = some none
  | v :: vs, h, hl => by
    unfold L2.wipe
    by_cases e : i = v
    · subst e
      rw [List.getElem?_set_self (by rw [wipe_length]; exact hl)]
    · rw [List.getElem?_set_ne (fun z => e z.symm)]
      exact wipe_none ((List.mem_cons.mp h).resolve_left e) hl
theorem wipe_wipe (σ : L2.St) (vs : List Nat) : L2.wipe (L2.wipe σ vs) vs = L2.wipe σ vs := by
  apply List.ext_getElem?
  intro i
  by_cases h : i ∈ vs
  · by_cases hl : i < σ.length
    · rw [wipe_none h (by rw [wipe_length]; exact hl), wipe_none h hl]
    · rw [List.getElem?_eq_none (by rw [wipe_length, wipe_length]; omega), List.getElem?_eq_none (by rw [wipe_length]; omega)]
  · rw [wipe_out h]
/-! ### comprehensions -/
def lcL (gd : GD) (t : FT) (f : FE) (ρ : DEnv) : List PyData → List PyData → (List PyData → Prop) → Prop
  | [], acc, K => K acc
  | d :: ds, acc, K => gd d ρ fun ρ' => t ρ' fun b => iteB b (f ρ' fun x => ∃ e, x = .dat e ∧ acc.length < sizeLine ∧ lcL gd t f ρ ds (acc ++ [e]) K) (lcL gd t f ρ ds acc K)
def fLc (fi : DEnv → (List PyData → Prop) → Prop) (vs : List Nat) (gd : GD) (t : FT) (f : FE) : DEnv → (OC → Prop) → Prop := fun ρ K => fi ρ fun items => lcL gd t f (wipeD ρ vs) items [] fun ds => K (.lst ds)
def tYesD : FT := fun _ K => K true
section
variable {X : Cx} {W : Wd} {e elt tg iter : Expr} {ifs : List Expr} {pos : Pos} {f : FE}
theorem dts_nil : PTs X [] (tDT W tYesD) := ⟨fun pins s σ H Q I ⟨M, ρ, K, g, k, c⟩ => pts_nil.run pins s σ H Q I (c true k H .refl)⟩
/-- the turns of a comprehension -/
theorem lc_turns {fi : DEnv → (List PyData → Prop) → Prop} {vs : List Nat} {g : TG} {gd : GD} {t : FT} {σ : L2.St} {H : Hp} {Q : VK} (sg : SndG W (· ∈ vs) g gd) (h : tFr W (fLc fi vs gd t f) σ H Q) : tLc (tDI W false fi) g (tDT W t) (tD W f) vs σ H Q := by
  obtain ⟨M, ρ, K, ge, k, c⟩ := h
  refine ⟨M, ρ, _, ge, k, fun items hk J live H1 s1 hl _ w D nD => ?_⟩
  have g1 := ge.stp s1
  have nv : ¬ W.vol D := fun z => g1.h.all D (g1.h.vol D z) nD
  have h0 : W.H0 D = none := g1.h.stp.on D nD
  let M' : Addr → Prop := fun a => M a ∨ a = D
  have nown : ∀ (i : Nat) (c : OC), ρ[i]? = some (some (.own c)) → ∀ a : Addr, σ[i]? = some (some (.ref a)) → a ≠ D := fun i c hi a ha => by
    obtain ⟨v, e1, b, u, rfl, ho, _⟩ := g1.at_ i _ hi
    rw [ha] at e1
    cases e1
    exact ne_of_none ho nD
  refine ⟨fun i m H2 => m = items.length - i ∧ i ≤ items.length ∧ GoodE W M' H2 σ ρ ∧ (∀ p ∈ live, RelDV W M' H2 p.1 p.2) ∧
    (∃ acc ds, H2 D = some (.lst acc) ∧ DxAll M' H2 acc ds ∧ lcL gd t f (wipeD ρ vs) (items.drop i) ds fun ds => K (.lst ds)) ∧ (∀ a o, ¬ W.vol a → a ≠ D → (∀ ps, o ≠ .tbl ps) → H1 a = some o → H2 a = some o) ∧ (∀ a xs, H1 a = some (.tup xs) → H2 a = some (.tup xs)) ∧ (∀ a, H2 a = none → H1 a = none),
    ⟨items.length, by simp, Nat.zero_le _, g1.beside nD, fun p hp => (hl p hp).beside g1.h nD, ⟨[], [], upd_same, .nil, by simpa using hk⟩, fun a o _ n _ e => by rw [upd_ne n]; exact e, fun a xs e => by rw [upd_ne (ne_of_none e nD)]; exact e, fun a e => ?_⟩, ?_⟩
  · by_cases z : a = D
    · rw [z]
      exact nD
    · rw [upd_ne z] at e
      exact e
  rintro i m H2 ⟨rfl, hi, g2, hl2, ⟨acc, ds, eD, da, hk2⟩, f1, f2, f3⟩
  by_cases hlt : i < items.length
  · refine .inr ⟨w.go hl2 hlt, fun H3 => i + 1 ≤ items.length ∧ GoodE W M' H3 σ ρ ∧ (∀ p ∈ live, RelDV W M' H3 p.1 p.2) ∧
      (∃ acc ds, H3 D = some (.lst acc) ∧ DxAll M' H3 acc ds ∧ lcL gd t f (wipeD ρ vs) (items.drop (i + 1)) ds fun ds => K (.lst ds)) ∧ (∀ a o, ¬ W.vol a → a ≠ D → (∀ ps, o ≠ .tbl ps) → H1 a = some o → H3 a = some o) ∧ (∀ a xs, H1 a = some (.tup xs) → H3 a = some (.tup xs)) ∧ (∀ a, H3 a = none → H1 a = none),
      fun H3 h3 => ⟨items.length - (i + 1), by omega, rfl, h3⟩, fun x H3 y => ?_⟩
    obtain ⟨s3, d, hd, xd⟩ := w.yld g2.h hl2 hlt y
    have ed : items.drop i = d :: items.drop (i + 1) := by
      have : items[i] = d := by simpa [List.getElem?_eq_getElem hlt] using hd
      rw [← this]
      exact List.drop_eq_getElem_cons hlt
    rw [ed] at hk2
    refine sg xd .refl hk2 fun σ' ρ' s4 k4 => ⟨by rw [s4.wipe, wipe_wipe], M', ρ', _, s4.goodE ((g2.stp s3).wipe vs), k4, fun b hb H4 s5 => ?_⟩
    have s35 := s3.trans s5
    cases b with
    | true =>
      refine iteT ⟨M', ρ', _, (s4.goodE ((g2.stp s3).wipe vs)).stp s5, by simpa using hb, fun dv hdv y H5 s6 r6 => ?_⟩
      obtain ⟨d2, rfl, hl6, hk6⟩ := hdv
      have s7 := s35.trans s6
      have eD5 := s7.st D _ nv (fun _ z => by cases z) eD
      have g5 := g2.stp s7
      obtain ⟨kp, gh⟩ := GoodE.poke (ys := acc ++ [y]) g5 eD5 (.inr rfl) nv h0
      have da5 := Dx.kpAll (s7.kp g2.h.vol) _ _ da
      refine ⟨acc, eD5, by rw [DxAll.length da]; exact hl6, hlt, g5.kpTo kp (gh g5.h) (fun i c hi a ha => by rw [upd_ne (nown i c hi a ha)]), fun p hp => ?_, ⟨_, _, upd_same, Dx.kpAll kp _ _ (da5.app (.cons r6 .nil)), hk6⟩, fun a o n1 n2 n3 e => ?_, fun a xs e => ?_, fun a e => ?_⟩
      · have r := (hl2 p hp).stp g2.h.vol s7
        have r0 := hl p hp
        generalize p.2 = dv at r r0
        generalize p.1 = v at r r0
        cases dv with
        | dat d => exact Dx.kp kp _ _ r
        | own c =>
          obtain ⟨a, u, rfl, ho, r, m, n⟩ := r
          obtain ⟨a', u', e', ho', _⟩ := r0
          cases e'
          exact ⟨a, u, rfl, by rw [upd_ne (ne_of_none ho' nD)]; exact ho, r.kp kp, m, n⟩
        | deck => exact r
        | gts xs => exact r
        | ob u => exact r
      · rw [upd_ne n2]
        exact s7.st a o n1 n3 (f1 a o n1 n2 n3 e)
      · rw [upd_ne (ne_of_none e nD)]
        exact s7.tp a xs (f2 a xs e)
      · by_cases z : a = D
        · rw [z]
          exact nD
        · rw [upd_ne z] at e
          exact f3 a (s7.on a e)
    | false =>
      refine iteF ⟨hlt, g2.stp s35, fun p hp => (hl2 p hp).stp g2.h.vol s35, ⟨acc, ds, s35.st D _ nv (fun _ z => by cases z) eD, Dx.kpAll (s35.kp g2.h.vol) _ _ da, by simpa using hb⟩, fun a o n1 n2 n3 e => s35.st a o n1 n3 (f1 a o n1 n2 n3 e), fun a xs e => s35.tp a xs (f2 a xs e), fun a e => f3 a (s35.on a e)⟩
  · have e : i = items.length := by omega
    subst e
    rw [List.drop_length] at hk2
    refine .inl ⟨w.stop hl2, ?_⟩
    have e2 : upd (delH H2 D) D (.lst acc) = H2 := by
      funext b
      by_cases z : b = D
      · rw [z, upd_same, eD]
      · rw [upd_ne z, delH_ne z]
    have s2 : Stp W H1 (delH H2 D) := ⟨fun a o n t e => by
      have na := ne_of_none e nD
      rw [delH_ne na]
      exact f1 a o n na t e, fun a xs e => by
      rw [delH_ne (ne_of_none e nD)]
      exact f2 a xs e, fun a e => by
      by_cases z : a = D
      · rw [z]
        exact nD
      · rw [delH_ne z] at e
        exact f3 a e, fun _ => by
      obtain ⟨i1, t1⟩ := g2.h.ok
      refine ⟨W.keep (fun b u v e => ?_) i1, fun P hP => ?_⟩
      · rw [delH_ne (fun z => by
          rcases v with v | ⟨φ, rfl⟩ | ⟨_, ps, rfl⟩
          · exact nv (by rw [← z]; exact v)
          · rw [z, eD] at e
            cases e
          · rw [z, eD] at e
            cases e)]
        exact e
      · obtain ⟨ps, e, tr⟩ := t1 P hP
        refine ⟨ps, ?_, tr⟩
        rw [delH_ne (fun z => by rw [z, eD] at e; cases e)]
        exact e⟩
    have kp : Kp M' H2 (delH H2 D) := ⟨fun b u n _ e => by
      rw [delH_ne (fun z => n (.inr z))]
      exact e, fun b zs e => by
      rw [delH_ne (fun z => by rw [z, eD] at e; cases e)]
      exact e⟩
    have fin := c _ hk2 D (.lst acc) _ (s1.trans s2) delH_same (.lst (Dx.reAll (fun a _ _ m => .inl m) _ _ (Dx.kpAll kp _ _ da)))
    rw [e2] at fin
    exact fin
theorem df_lc {scope : Scope} {own : List (Str × Nat)} {fi : DEnv → (List PyData → Prop) → Prop} {g : TG} {gd : GD} {t : FT} (hc : X.calm = true) (hN : X.N.Nodup) (hi : PI X tg iter (tDI W false fi)) (ok : BlkOk X.N X.env.scope scope own)
    (hg : ∀ (s : Shared) (H : Hp) (C : Addr) (cl : List (Str × Addr)) (fp : List Addr), PG (X.blk s H scope (compEnvC scope cl C X.env) fp) tg g) (sg : SndG W (· ∈ own.map (·.2)) g gd) (ht : ∀ (s : Shared) (H : Hp) (C : Addr) (cl : List (Str × Addr)) (fp : List Addr), PTs (X.blk s H scope (compEnvC scope cl C X.env) fp) ifs (tDT W t))
    (he : ∀ (s : Shared) (H : Hp) (C : Addr) (cl : List (Str × Addr)) (fp : List Addr), PE (X.blk s H scope (compEnvC scope cl C X.env) fp) elt (tD W f)) (hs : ∀ x, foldedSetIterable iter X.env x = pure x := by intro _; rfl) : PE X (.ListComp elt [⟨tg, iter, ifs, 0⟩] scope pos) (tFr W (fLc fi (own.map (·.2)) gd t f)) :=
  (pe_lc hc hN hi ok hg ht he hs).imp fun σ H Q h => lc_turns sg h
/-- y = [.. for ..] -/
theorem ds_newLc {i : Nat} {y : Str} {py : Pos} {scope : Scope} {own : List (Str × Nat)} {spos : Pos} {fi : DEnv → (List PyData → Prop) → Prop} {g : TG} {gd : GD} {t : FT} (hc : X.calm = true) (hN : X.N.Nodup) (hy : X.N[i]? = some y) (hyl : X.env.scope.names.lookup y = some .local)
    (hsw : swapsWith (.ListComp elt [⟨tg, iter, ifs, 0⟩] scope pos) (some (.Name y py)) spos.line X.env = pure true) (hi : PI X tg iter (tDI W false fi)) (ok : BlkOk X.N X.env.scope scope own)
    (hg : ∀ (s : Shared) (H : Hp) (C : Addr) (cl : List (Str × Addr)) (fp : List Addr), PG (X.blk s H scope (compEnvC scope cl C X.env) fp) tg g) (sg : SndG W (· ∈ own.map (·.2)) g gd) (ht : ∀ (s : Shared) (H : Hp) (C : Addr) (cl : List (Str × Addr)) (fp : List Addr), PTs (X.blk s H scope (compEnvC scope cl C X.env) fp) ifs (tDT W t))
    (he : ∀ (s : Shared) (H : Hp) (C : Addr) (cl : List (Str × Addr)) (fp : List Addr), PE (X.blk s H scope (compEnvC scope cl C X.env) fp) elt (tD W f)) (hs : ∀ x, foldedSetIterable iter X.env x = pure x := by intro _; rfl) : PS X (.Assign [.Name y py] (.ListComp elt [⟨tg, iter, ifs, 0⟩] scope pos) spos) (tDS W (sNew i (fLc fi (own.map (·.2)) gd t f))) :=
  (ps_setLc hc hN hy hyl hsw hi ok hg ht he hs).imp fun D σ H ⟨L, M, ρ, E, gd', k, le⟩ => by
    show tLc _ _ _ _ _ σ H _
    exact lc_turns sg ⟨M, ρ, _, gd'.e, k, fun c hc p o H1 s1 np r => le.nx ((gd'.to s1).fresh np r) hc⟩
/-! ### all, any -/
def agL (b0 : Bool) (gd : GD) (f : FE) (ρ : DEnv) : List PyData → (Bool → Prop) → Prop
  | [], K => K b0
  | d :: ds, K => gd d ρ fun ρ' => f ρ' fun x => ∃ b, x = .dat (.bool b) ∧ iteB (b == b0) (agL b0 gd f ρ ds K) (K (!b0))
def fAG (b0 : Bool) (fi : DEnv → (List PyData → Prop) → Prop) (vs : List Nat) (gd : GD) (f : FE) : FE := fun ρ K => fi ρ fun items => agL b0 gd f (wipeD ρ vs) items fun b => K (.dat (.bool b))
theorem ag_turns {b0 : Bool} {fi : DEnv → (List PyData → Prop) → Prop} {vs : List Nat} {g : TG} {gd : GD} {P : Addr} {σ : L2.St} {H : Hp} {Q : VK} (sg : SndG W (· ∈ vs) g gd) (hP : P ∈ W.Tl) (h : tD W (fAG b0 fi vs gd f) σ H Q) : tAG b0 (tDI W false fi) g (tD W f) vs P σ H Q := by
  obtain ⟨M, ρ, K, ge, k, c⟩ := h
  refine ⟨M, ρ, _, ge, k, fun items hk J live H1 s1 hl _ w => ⟨(ge.stp s1).h.ok.2 P hP, fun H2 tb => ?_⟩⟩
  have s2 : Stp W H1 H2 := .tab hP (ge.stp s1).h.ok ((ge.stp s1).h.ok.2 P hP) tb
  have s12 := s1.trans s2
  have g2 := ge.stp s12
  refine ⟨fun i m H3 => m = items.length - i ∧ i ≤ items.length ∧ Stp W H2 H3 ∧ agL b0 gd f (wipeD ρ vs) (items.drop i) fun b => K (.dat (.bool b)), ⟨items.length, by simp, Nat.zero_le _, .refl, by simpa using hk⟩, ?_⟩
  rintro i m H3 ⟨rfl, hi, s3, hk3⟩
  have g3 := g2.stp s3
  have hl3 : ∀ p ∈ live, RelDV W M H3 p.1 p.2 := fun p hp => (hl p hp).stp g2.h.vol (s2.trans s3)
  by_cases hlt : i < items.length
  · refine .inr ⟨w.go hl3 hlt, fun H4 => i + 1 ≤ items.length ∧ Stp W H2 H4 ∧ agL b0 gd f (wipeD ρ vs) (items.drop (i + 1)) fun b => K (.dat (.bool b)), fun H4 h4 => ⟨items.length - (i + 1), by omega, rfl, h4⟩, fun x H4 y => ?_⟩
    obtain ⟨s4, d, hd, xd⟩ := w.yld g3.h hl3 hlt y
    have ed : items.drop i = d :: items.drop (i + 1) := by
      have : items[i] = d := by simpa [List.getElem?_eq_getElem hlt] using hd
      rw [← this]
      exact List.drop_eq_getElem_cons hlt
    rw [ed] at hk3
    refine sg xd .refl hk3 fun σ' ρ' s5 k5 => ⟨by rw [s5.wipe, wipe_wipe], M, ρ', _, s5.goodE ((g3.stp s4).wipe vs), k5, fun dv hdv y H5 s6 r6 => ?_⟩
    obtain ⟨b, rfl, hb⟩ := hdv
    cases r6
    refine ⟨b, rfl, ?_⟩
    have s46 := (s3.trans s4).trans s6
    by_cases e : b = b0
    · rw [if_pos e]
      rw [show (b == b0) = true from by rw [e]; exact beq_self_eq_true _] at hb
      exact ⟨hlt, s46, hb⟩
    · rw [if_neg e]
      rw [show (b == b0) = false from by cases b <;> cases b0 <;> first | rfl | exact absurd rfl e] at hb
      exact c _ hb _ H5 (s12.trans s46) (Dx.bl _)
  · have e : i = items.length := by omega
    subst e
    rw [List.drop_length] at hk3
    exact .inl ⟨w.stop hl3, c _ hk3 _ H3 (s12.trans s3) (Dx.bl _)⟩
theorem de_all {c P : Addr} {scope : Scope} {p gpos : Pos} {own : List (Str × Nat)} {fi : DEnv → (List PyData → Prop) → Prop} {g : TG} {gd : GD} {k : Nat} (hc : X.calm = true) (hN : X.N.Nodup)
    (hr : Room k X.A) (hgl : Gl X "all") (hm : X.mg "all" = none) (TB : TabB X.base X.mg c P) (hcode : X.env.code = .ref c) (hP : P ∈ W.Tl) (ok : GnOk X.N X.env.scope scope own) (hi : PI X tg iter (tDI W false fi))
    (hg : ∀ (s : Shared) (H : Hp) (cl : List (Str × Addr)) (C : Addr) (code : Value) (fp : List Addr), PG (gX X s H (genEnv scope cl C code builtinsNs X.env) fp) tg g) (sg : SndG W (· ∈ own.map (·.2)) g gd)
    (he : ∀ (s : Shared) (H : Hp) (cl : List (Str × Addr)) (C : Addr) (code : Value) (fp : List Addr), PE (gX X s H (genEnv scope cl C code builtinsNs X.env) fp) elt (tD W f))
    (hs : ∀ v, genFold iter X.env v = pure v := by intro _; rfl)
    (hst : starEach [.GeneratorExp elt [⟨tg, iter, [], 0⟩] scope gpos] X.env = (false, eval (.GeneratorExp elt [⟨tg, iter, [], 0⟩] scope gpos) X.env) :: starEach [] X.env := by rfl) :
    PE X (.Call (.Name "all" p) [.GeneratorExp elt [⟨tg, iter, [], 0⟩] scope gpos] [] pos) (tD W (fAG true fi (own.map (·.2)) gd f)) := (pe_all hc hN hr hgl hm TB hcode ok hi hg he hs hst).imp fun σ H Q h => ag_turns sg hP h
theorem de_any {c P : Addr} {scope : Scope} {p gpos : Pos} {own : List (Str × Nat)} {fi : DEnv → (List PyData → Prop) → Prop} {g : TG} {gd : GD} {k : Nat} (hc : X.calm = true) (hN : X.N.Nodup)
    (hr : Room k X.A) (hgl : Gl X "any") (hm : X.mg "any" = none) (TB : TabB X.base X.mg c P) (hcode : X.env.code = .ref c) (hP : P ∈ W.Tl) (ok : GnOk X.N X.env.scope scope own) (hi : PI X tg iter (tDI W false fi))
    (hg : ∀ (s : Shared) (H : Hp) (cl : List (Str × Addr)) (C : Addr) (code : Value) (fp : List Addr), PG (gX X s H (genEnv scope cl C code builtinsNs X.env) fp) tg g) (sg : SndG W (· ∈ own.map (·.2)) g gd)
    (he : ∀ (s : Shared) (H : Hp) (cl : List (Str × Addr)) (C : Addr) (code : Value) (fp : List Addr), PE (gX X s H (genEnv scope cl C code builtinsNs X.env) fp) elt (tD W f))
    (hs : ∀ v, genFold iter X.env v = pure v := by intro _; rfl)
    (hst : starEach [.GeneratorExp elt [⟨tg, iter, [], 0⟩] scope gpos] X.env = (false, eval (.GeneratorExp elt [⟨tg, iter, [], 0⟩] scope gpos) X.env) :: starEach [] X.env := by rfl) :
    PE X (.Call (.Name "any" p) [.GeneratorExp elt [⟨tg, iter, [], 0⟩] scope gpos] [] pos) (tD W (fAG false fi (own.map (·.2)) gd f)) := (pe_any hc hN hr hgl hm TB hcode ok hi hg he hs hst).imp fun σ H Q h => ag_turns sg hP h
end
/-! ### promises -/
abbrev FnD := List DV → (PyData → Prop) → (Str → PyData → Prop) → Prop
def fld (c : Str) : Str := if c = "BadText" ∨ c = "BadBytes" then "at" else "thing"
/-- what is wanted of an error -/
def Lnk (W : Wd) (KE : Str → PyData → Prop) (E : XK) : Prop := ∀ c d, KE c d → ∀ v dd H', Stp W W.H0 H' → W.H0 dd = none → Dx W.M0 H' v d → H' dd = some (.xd [(fld c, v)]) → E (.ref (ga W.K c)) (some dd) H'
def noOwn : List DV → Bool
  | [] => true
  | d :: r => !d.isOwn && noOwn r
def spD (WP : Wc → Prop) (F : FnD) : Sp := fun vs H Q E => ∃ (W : Wd) (ds : List DV) (Kk : PyData → Prop) (KE : Str → PyData → Prop), WP W.toWc ∧ W.H0 = H ∧ GoodH W W.M0 H ∧ RelAll W W.M0 H vs ds ∧ noOwn ds = true ∧ F ds Kk KE ∧ (∀ d, Kk d → ∀ v H', Stp W H H' → Dx W.M0 H' v d → Q v H') ∧ Lnk W KE E
/-- the slots at the start -/
def start0 (n : Nat) (ds : List DV) : DEnv := ds.map some ++ List.replicate (n - ds.length) none
theorem good_start {W : Wd} {N : List Str} {vs : List V} {ds : List DV} (g : GoodH W W.M0 W.H0) (r : RelAll W W.M0 W.H0 vs ds) (no : noOwn ds = true) : Good W [] W.M0 W.H0 (start N vs) (start0 N.length ds) := by
  have hl := r.length
  have at_ : ∀ {vs : List V} {ds : List DV}, RelAll W W.M0 W.H0 vs ds → noOwn ds = true → ∀ (i : Nat) (dv : DV), (ds.map some)[i]? = some (some dv) → (∃ v, (vs.map some)[i]? = some (some v) ∧ RelDV W W.M0 W.H0 v dv) ∧ dv.isOwn = false := by
    intro vs
    induction vs with
    | nil =>
      intro ds r no i dv e
      cases ds with
      | nil => simp at e
      | cons _ _ => cases r
    | cons v vs ih =>
      intro ds r no i dv e
      cases ds with
      | nil => cases r
      | cons d ds =>
        simp only [noOwn, Bool.and_eq_true, Bool.not_eq_true'] at no
        cases i with
        | zero =>
          simp only [List.map_cons, List.getElem?_cons_zero, Option.some.injEq] at e
          subst e
          exact ⟨⟨v, rfl, r.1⟩, no.1⟩
        | succ i => exact ih r.2 no.2 i dv (by simpa using e)
  have pre : ∀ (i : Nat) (dv : DV), (start0 N.length ds)[i]? = some (some dv) → (∃ v, (start N vs)[i]? = some (some v) ∧ RelDV W W.M0 W.H0 v dv) ∧ dv.isOwn = false := fun i dv e => by
    unfold start0 at e
    unfold L2.start
    rw [List.getElem?_append] at e
    split at e
    · rename_i h
      obtain ⟨⟨v, h1, h2⟩, h3⟩ := at_ r no i dv e
      refine ⟨⟨v, ?_, h2⟩, h3⟩
      rw [List.getElem?_append_left (by simpa [hl] using h)]
      exact h1
    · rename_i h
      rw [List.getElem?_replicate] at e
      split at e <;> cases e
  refine ⟨⟨g, by simp [L2.start, start0, hl], fun i dv e => (pre i dv e).1⟩, (fun p hp => by cases hp), fun i c a e => ?_, fun i j c c' a _ e => ?_⟩
  · have := (pre i _ e).2
    cases this
  · have := (pre i _ e).2
    cases this
section
variable {P : Program} {w : World} {K : PySem.W.Frag} {mg : Str → Option Value} {base : Heap}
theorem okD {x : Str} {st : Stmt} {fd : FuncData} {N ps : List Str} {k : Nat} {WP : Wc → Prop} {F : FnD} (D : FnP K x st (He.fAd K (x, none)) fd) (S : FnScope N ps (defScope st)) (len : ∀ ds Kk KE, F ds Kk KE → ds.length = ps.length)
    (body : ∀ (W : Wd) (cdv : Value) (A : Around) (outer : List Env) (s : Shared) (E : XK), WP W.toWc → cdv = .ref (He.codeOf K (x, none)) → Room k (A.deeper (envOfC x (defScope st) s.heap.objs.size (He.fAd K (x, none)) cdv)) →
      ∃ g, PSs (cxOf CX0 P w K mg base N x (defScope st) (He.fAd K (x, none)) cdv A outer s W.H0 E).nox (defBody st) (tDS W g) ∧ ∀ ds Kk KE, F ds Kk KE → g { nx := fun _ => Kk .none, rt := Kk } (start0 N.length ds)) : FnOk P w K mg base CX0 (k + 1) (He.fAd K (x, none)) fd ps (spD WP F) := by
  refine KT.okC D S (fun vs H Q E h => ?_) (fun cdv A outer s H vs Q E hcd hr h => ?_)
  · obtain ⟨W, ds, Kk, KE, _, _, _, r, _, f, _⟩ := h
    rw [r.length]
    exact len ds Kk KE f
  · obtain ⟨W, ds, Kk, KE, hW, rfl, gh, r, no, f, hQ, hE⟩ := h
    obtain ⟨g, hp, hg⟩ := body W cdv A outer s E hW hcd hr
    refine ⟨_, hp, [], W.M0, _, _, good_start gh r no, hg ds Kk KE f, ⟨fun {M σ H ρ} gd k => ?_, fun _ k => k.elim, fun _ k => k.elim, fun s1 r1 k => hQ _ k _ _ s1 r1⟩⟩
    exact hQ _ k _ _ gd.e.h.stp Dx.non
theorem okDX {x : Str} {st : Stmt} {fd : FuncData} {N ps : List Str} {k : Nat} {WP : Wc → Prop} {F : FnD} (D : FnP K x st (He.fAd K (x, none)) fd) (S : FnScope N ps (defScope st)) (len : ∀ ds Kk KE, F ds Kk KE → ds.length = ps.length)
    (body : ∀ (W : Wd) (cdv : Value) (A : Around) (outer : List Env) (s : Shared) (E : XK) (KE : Str → PyData → Prop), WP W.toWc → Lnk W KE E → cdv = .ref (He.codeOf K (x, none)) → Room k (A.deeper (envOfC x (defScope st) s.heap.objs.size (He.fAd K (x, none)) cdv)) →
      ∃ g, PSs (cxOf (L2.CX P w) P w K mg base N x (defScope st) (He.fAd K (x, none)) cdv A outer s W.H0 E) (defBody st) (tDS W g) ∧ ∀ ds Kk, F ds Kk KE → g { nx := fun _ => Kk .none, rt := Kk } (start0 N.length ds)) : FnOk P w K mg base (L2.CX P w) (k + 1) (He.fAd K (x, none)) fd ps (spD WP F) := by
  refine QF.okCX D S (fun vs H Q E h => ?_) (fun cdv A outer s H vs Q E hcd hr h => ?_)
  · obtain ⟨W, ds, Kk, KE, _, _, _, r, _, f, _⟩ := h
    rw [r.length]
    exact len ds Kk KE f
  · obtain ⟨W, ds, Kk, KE, hW, rfl, gh, r, no, f, hQ, hE⟩ := h
    obtain ⟨g, hp, hg⟩ := body W cdv A outer s E KE hW hE hcd hr
    refine ⟨_, hp, [], W.M0, _, _, good_start gh r no, hg ds Kk f, ⟨fun {M σ H ρ} gd k => ?_, fun _ k => k.elim, fun _ k => k.elim, fun s1 r1 k => hQ _ k _ _ s1 r1⟩⟩
    exact hQ _ k _ _ gd.e.h.stp Dx.non
end
/-! ### calls -/
def lend : DV → DV
  | .own c => .dat c.pd
  | x => x
def scalarD : PyData → Bool
  | .none => true
  | .bool _ => true
  | .int _ => true
  | .str _ => true
  | _ => false
def ownAd : List V → List DV → List Addr
  | .ref a :: vs, .own _ :: ds => a :: ownAd vs ds
  | _ :: vs, _ :: ds => ownAd vs ds
  | _, _ => []
section
variable {W : Wd} {M M' : Addr → Prop} {H : Hp}
theorem lend_rel (le : ∀ a, M' a → M a) : ∀ {vs : List V} {ds : List DV}, RelAll W M H vs ds → (∀ a ∈ ownAd vs ds, ¬ M' a) → RelAll W M' H vs (ds.map lend)
  | [], [], _, _ => trivial
  | v :: vs, d :: ds, r, n => by
    obtain ⟨r1, r2⟩ := r
    cases d with
    | own c =>
      obtain ⟨a, o, rfl, ho, r, m, nv⟩ := r1
      exact ⟨RelO.dx (n a List.mem_cons_self) ho (r.re fun b _ _ z => le b z), lend_rel le r2 fun a h => n a (List.mem_cons_of_mem _ h)⟩
    | dat d => exact ⟨Dx.re (fun b _ _ z => le b z) _ _ r1, lend_rel le r2 fun a h => n a (by cases v <;> exact h)⟩
    | deck => exact ⟨r1, lend_rel le r2 fun a h => n a (by cases v <;> exact h)⟩
    | gts xs => exact ⟨r1, lend_rel le r2 fun a h => n a (by cases v <;> exact h)⟩
    | ob u => exact ⟨r1, lend_rel le r2 fun a h => n a (by cases v <;> exact h)⟩
theorem lend_vol : ∀ {vs : List V} {ds : List DV}, RelAll W M H vs ds → ∀ a ∈ ownAd vs ds, ¬ W.vol a
  | [], [], _, a, h => by cases h
  | v :: vs, d :: ds, r, a, h => by
    obtain ⟨r1, r2⟩ := r
    cases d with
    | own c =>
      obtain ⟨b, o, rfl, ho, r, m, nv⟩ := r1
      rcases List.mem_cons.mp h with rfl | h
      · exact nv
      · exact lend_vol r2 a h
    | dat d => exact lend_vol r2 a (by cases v <;> exact h)
    | deck => exact lend_vol r2 a (by cases v <;> exact h)
    | gts xs => exact lend_vol r2 a (by cases v <;> exact h)
    | ob u => exact lend_vol r2 a (by cases v <;> exact h)
theorem lend_no : ∀ {vs : List V} {ds : List DV}, noOwn ds = true → ownAd vs ds = []
  | [], _, _ => rfl
  | _ :: _, [], _ => by simp [ownAd]
  | v :: vs, d :: ds, h => by
    simp only [noOwn, Bool.and_eq_true, Bool.not_eq_true'] at h
    have ih : ownAd vs ds = [] := lend_no h.2
    cases d with
    | own c => cases h.1
    | dat d => cases v <;> exact ih
    | deck => cases v <;> exact ih
    | gts xs => cases v <;> exact ih
    | ob u => cases v <;> exact ih
theorem noOwn_lend : ∀ ds : List DV, noOwn (ds.map lend) = true
  | [] => rfl
  | d :: ds => by
    cases d <;> exact noOwn_lend ds
theorem dx_scalar {v : V} {d : PyData} (h : scalarD d = true) (r : Dx M' H v d) : Dx M H v d := by
  cases r with
  | non => exact .non
  | bl b => exact .bl b
  | int i => exact .int i
  | str x => exact .str x
  | lst _ _ _ => cases h
  | tup _ _ => cases h
  | dk _ _ _ => cases h
end
def noKE : Str → PyData → Prop := fun _ _ => False
def fFn (F : FnD) (fa : FA) : FE := fun ρ K => fa ρ fun ds => F (ds.map lend) (fun d => (noOwn ds = true ∨ scalarD d = true) ∧ K (.dat d)) noKE
/-- .. that may raise, in a def that may raise it -/
def fFnX (F : FnD) (KE : Str → PyData → Prop) (fa : FA) : FE := fun ρ K => fa ρ fun ds => noOwn ds = true ∧ F ds (fun d => K (.dat d)) KE
theorem lnk0 {W : Wd} {E : XK} : Lnk W noKE E := fun _ _ h => h.elim
theorem passX0 {X : Cx} : Passes (L2.CX X.prog X.w) X E0 := fun _ _ _ _ _ _ _ h => by
  obtain ⟨_, _, _, _, _, _, _, _, _, _, _, _, z⟩ := h
  exact z.elim
theorem Lnk.callee {W : Wd} {KE : Str → PyData → Prop} {E : XK} (h : Lnk W KE E) {M : Addr → Prop} {H1 : Hp} (g : GoodH W M H1) : Lnk { W with H0 := H1, M0 := M } KE E := fun c d k v dd H' s n r e => h c d k v dd H' (g.stp.trans s) (g.stp.on dd n) (Dx.re (fun a _ _ m => g.sub a m) _ _ r) e
section
variable {X : Cx} {W : Wd} {WP : Wc → Prop} {F : FnD} {KE : Str → PyData → Prop} {E : XK} {fa : FA}
/-- a promise, used -/
theorem sp_of {M : Addr → Prop} {H1 : Hp} {vs : List V} {ds : List DV} {Kk : DV → Prop} {Q : VK} (hW : WP W.toWc) (g1 : GoodH W M H1) (r1 : RelAll W M H1 vs ds) (hd : F (ds.map lend) (fun d => (noOwn ds = true ∨ scalarD d = true) ∧ Kk (.dat d)) noKE) (c : Cont W M H1 Kk Q) : spD WP F vs H1 Q E := by
  let M' : Addr → Prop := fun a => M a ∧ a ∉ ownAd vs ds
  have vol : ∀ a, W.vol a → M' a := fun a z => ⟨g1.vol a z, fun y => lend_vol r1 a y z⟩
  refine ⟨{ W with H0 := H1, M0 := M' }, ds.map lend, _, _, hW, rfl, ⟨g1.ok, vol, fun a z => g1.all a z.1, .refl, fun _ z => z, fun a z => g1.all a z.1⟩, lend_rel (fun a z => z.1) r1 (fun a h z => z.2 h), noOwn_lend ds, hd, fun d hk v H' s2 r2 => ?_, lnk0⟩
  refine c _ hk.2 v H' s2 ?_
  rcases hk.1 with no | sc
  · refine Dx.re (fun a _ _ m => ⟨m, ?_⟩) _ _ r2
    rw [lend_no no]
    exact List.not_mem_nil
  · exact dx_scalar sc r2
theorem imp_call {σ : L2.St} {H : Hp} {Q : VK} (hW : WP W.toWc) (h : tD W (fFn F fa) σ H Q) : tDA W fa σ H fun vs H1 => spD WP F (vs ++ []) H1 Q E := by
  obtain ⟨M, ρ, Kk, ge, kk, c⟩ := h
  refine ⟨M, ρ, _, ge, kk, fun ds hd vs H1 s1 r1 => ?_⟩
  show spD WP F (vs ++ []) H1 Q E
  rw [List.append_nil]
  exact sp_of hW (ge.stp s1).h r1 hd (c.stp s1)
/-- .. its arguments in another order -/
def fFnK (F : FnD) (g : List DV → List DV) (fa : FA) : FE := fun ρ K => fa ρ fun ds => F ((g ds).map lend) (fun d => (noOwn (g ds) = true ∨ scalarD d = true) ∧ K (.dat d)) noKE
theorem imp_callK {g : {α : Type} → List α → List α} {σ : L2.St} {H : Hp} {Q : VK} (hg : ∀ {M : Addr → Prop} {H : Hp} {vs : List V} {ds : List DV}, RelAll W M H vs ds → RelAll W M H (g vs) (g ds)) (hW : WP W.toWc) (h : tD W (fFnK F g fa) σ H Q) : tDA W fa σ H fun vs H1 => spD WP F (g vs) H1 Q E := by
  obtain ⟨M, ρ, Kk, ge, kk, c⟩ := h
  refine ⟨M, ρ, _, ge, kk, fun ds hd vs H1 s1 r1 => ?_⟩
  exact sp_of hW (ge.stp s1).h (hg r1) hd (c.stp s1)
theorem imp_callX {σ : L2.St} {H : Hp} {Q : VK} (hW : WP W.toWc) (hl : Lnk W KE E) (h : tD W (fFnX F KE fa) σ H Q) : tDA W fa σ H fun vs H1 => spD WP F (vs ++ []) H1 Q E := by
  obtain ⟨M, ρ, Kk, ge, kk, c⟩ := h
  refine ⟨M, ρ, _, ge, kk, fun ds hd vs H1 s1 r1 => ?_⟩
  show spD WP F (vs ++ []) H1 Q E
  rw [List.append_nil]
  have g1 := (ge.stp s1).h
  exact ⟨{ W with H0 := H1, M0 := M }, ds, _, _, hW, rfl, ⟨g1.ok, g1.vol, g1.all, .refl, fun _ z => z, g1.all⟩, r1, hd.1, hd.2, fun d hk v H' s2 r2 => c _ hk v H' (s1.trans s2) r2, hl.callee g1⟩
theorem de_call0 {e : Expr} (h : PE X e (tCall (spD WP F) [] E tNil)) (hW : WP W.toWc) : PE X e (tD W (fFn F fNil)) := h.imp fun σ H Q ⟨M, ρ, K, g, k, c⟩ => by
  show spD WP F ([] ++ []) H Q E
  exact sp_of (ds := []) hW g.h trivial k c
theorem de_call {e : Expr} (h : PE X e (tCall (spD WP F) [] E (tDA W fa))) (hW : WP W.toWc) : PE X e (tD W (fFn F fa)) := h.imp fun σ H Q z => imp_call hW z
theorem de_callK {e : Expr} {g : {α : Type} → List α → List α} (h : PE X e (tCallK0 (spD WP F) g E (tDA W fa))) (hg : ∀ {M : Addr → Prop} {H : Hp} {vs : List V} {ds : List DV}, RelAll W M H vs ds → RelAll W M H (g vs) (g ds)) (hW : WP W.toWc) : PE X e (tD W (fFnK F g fa)) := h.imp fun σ H Q z => imp_callK hg hW z
theorem de_callX {e : Expr} (h : PE X e (tCall (spD WP F) [] E (tDA W fa))) (hW : WP W.toWc) (hl : Lnk W KE E) : PE X e (tD W (fFnX F KE fa)) := h.imp fun σ H Q z => imp_callX hW hl z
end
/-! ### errors raised -/
def sRaise (c : Str) (KE : Str → PyData → Prop) (f : FE) : FS := fun _ ρ => f ρ fun x => ∃ d, x = .dat d ∧ KE c d
section
variable {X : Cx} {W : Wd} {x : Str} {fd : FuncData} {e : Expr} {f : FE} {p pos pos' : Pos} {KE : Str → PyData → Prop} {E : XK}
theorem ds_raise (Ex : Eq1 X.prog X.w X.K X.mg X.base x (fld x) fd) (hr : Room 2 X.A) (hK : W.K = X.K) (hH : X.H_0 = W.H0) (hl : Lnk W KE E) (hc : X.calm = true) (hex : X.ex = []) (tk : Takes X fun cls d _ H => E cls d H) (he : PE X e (tD W f)) (hg : Gl X x)
    (hdb : (x == ("__debug__" : Str)) = false := by decide) (hse : starEach [e] X.env = (false, eval e X.env) :: starEach [] X.env := by rfl) (hpl : (backTo pos' (starEach [] X.env)).any (·.1) = false := by rfl) :
    PS X (.Raise (some (.Call (.Name x p) [e] [] pos')) none pos) (tDS W (sRaise x KE f)) := (ps_raise hc tk (pmk_q hex (pe_new1 Ex hr he hg hdb hse hpl))).imp fun D σ H ⟨L, M, ρ, E', gd, k, le⟩ => by
  refine ⟨M, ρ, _, gd.e, k, fun dv hd v H1 s1 r1 => ⟨by show 1 ≤ 1000; decide, fun a ha => ?_⟩⟩
  obtain ⟨d, rfl, hk⟩ := hd
  have g1 := (gd.to s1).e.h
  refine ⟨a, ga X.K x, ma X.K (ga X.K x) "__init__", v, rfl, Ex.c, upd_same, fun dx hd ne => ⟨rfl, a, ga X.K x, ma X.K (ga X.K x) "__init__", dx, fld x, _, rfl, Ex.c, upd_same, (by rw [upd_ne ne, upd_same]), ?_, ?_⟩⟩
  · rw [hH]
    exact fr0_none (g1.stp.on a ha)
  · have nd : H1 dx = none := by
      rw [upd_ne ne] at hd
      exact hd
    have sm : Same H1 (upd (delH (upd (upd (upd H1 a (exo a (ga X.K x) none)) dx (exd dx [(fld x, v)])) a (exo a (ga X.K x) (some dx))) a) dx (.xd [(fld x, v)])) := fun b o e => by
      have na : b ≠ a := ne_of_none e ha
      have nb : b ≠ dx := ne_of_none e nd
      rw [upd_ne nb, delH_ne na, upd_ne na, upd_ne nb, upd_ne na]
      exact e
    have := hl x d hk v dx _ (g1.stp.trans (.same sm)) (g1.stp.on dx nd) (Dx.kp (Kp.same sm) _ _ (Dx.re (fun a _ _ m => g1.sub a m) _ _ r1)) upd_same
    rw [hK] at this
    exact this
end
end DL

set_option Elab.async false
set_option linter.all false
set_option maxRecDepth 100000
set_option maxHeartbeats 4000000
/-! The numbers that a script gives, drawn one by one. -/
namespace KA
open PySem PySem.Spec PyProof.Rows L2 KT
def topS (i : Nat) : Stmt := PySem.Challenge.pw_quicktongue_k95_texts_as_words.main.body.getD i (.Pass ⟨0, 0, 0, 0⟩)
abbrev s_is_whole : Stmt := topS 6
abbrev s_is_word : Stmt := topS 8
abbrev s_plain_word : Stmt := topS 10
abbrev s_word_of_text : Stmt := topS 14
abbrev s_text_of_word : Stmt := topS 15
abbrev s_sign_words : Stmt := topS 16
abbrev s__law_deck : Stmt := topS 18
abbrev s__law_draw : Stmt := topS 19
abbrev s__law_pick : Stmt := topS 20
abbrev s__law_same : Stmt := topS 21
abbrev s__law_bits : Stmt := topS 22
abbrev s__law_word_of : Stmt := topS 23
abbrev s__law_signs : Stmt := topS 24
abbrev s__law_codes : Stmt := topS 25
abbrev s__law_tried : Stmt := topS 26
abbrev s__law_is_told : Stmt := topS 27
abbrev s_law : Stmt := topS 28
abbrev m_BadWord___init__ : Stmt := (C8.clsBody (topS 2)).getD 0 (.Pass ⟨0, 0, 0, 0⟩)
abbrev s_BadWord___init__ : Stmt := m_BadWord___init__
abbrev m_BadText___init__ : Stmt := (C8.clsBody (topS 3)).getD 0 (.Pass ⟨0, 0, 0, 0⟩)
abbrev s_BadText___init__ : Stmt := m_BadText___init__
abbrev m_BadNumber___init__ : Stmt := (C8.clsBody (topS 4)).getD 0 (.Pass ⟨0, 0, 0, 0⟩)
abbrev s_BadNumber___init__ : Stmt := m_BadNumber___init__
/-! ### the deck: a dict with a list -/
def kL : Key := .inr "left"
def kM : Key := .inr "mixed"
def kD : Key := .inr "draws"
def kvD (L : Addr) (m k : Int) : List (Key × V) := [(kL, .ref L), (kM, .int m), (kD, .int k)]
theorem i12 : ¬ (kL = kM) := by decide +kernel
theorem i13 : ¬ (kL = kD) := by decide +kernel
theorem i23 : ¬ (kM = kD) := by decide +kernel
theorem kv_l (L : Addr) (m k : Int) : valV (kvD L m k) kL = some (.ref L) := valV_pos rfl
theorem kv_m (L : Addr) (m k : Int) : valV (kvD L m k) kM = some (.int m) := (valV_neg i12).trans (valV_pos rfl)
theorem kv_d (L : Addr) (m k : Int) : valV (kvD L m k) kD = some (.int k) := (valV_neg i13).trans ((valV_neg i23).trans (valV_pos rfl))
theorem kput_m (L : Addr) (m k m' : Int) : putK (kvD L m k) kM (.int m') = kvD L m' k := by
  simp [putK, kvD, i12, i13, i23, Ne.symm i12, Ne.symm i13, Ne.symm i23]
theorem kput_d (L : Addr) (m k k' : Int) : putK (kvD L m k) kD (.int k') = kvD L m k' := by
  simp [putK, kvD, i12, i13, i23, Ne.symm i12, Ne.symm i13, Ne.symm i23]
theorem merge_deck (L : Addr) (m k : Int) : mergeK [] (kvD L m k) = kvD L m k := by
  simp [mergeK, putK, kvD, i12, i13, i23, Ne.symm i12, Ne.symm i13, Ne.symm i23]
/-- a deck stands at d, its list at L -/
def DK (d L : Addr) (H : Hp) : Prop := ∃ (ns : List Int) (m k : Int), H d = some (.dK (kvD L m k)) ∧ H L = some (.lst (ns.map V.int)) ∧ 0 ≤ m ∧ m < 2147483648 ∧ ns.length ≤ 64
/-- a draw has been: the deck again, all else as it was -/
structure Fr (d L : Addr) (H H' : Hp) : Prop where
  dk : DK d L H'
  st : ∀ b o, b ≠ d → b ≠ L → H b = some o → H' b = some o
theorem Fr.trans {d L : Addr} {H H1 H2 : Hp} (a : Fr d L H H1) (b : Fr d L H1 H2) : Fr d L H H2 := ⟨b.dk, fun c o h1 h2 h => b.st c o h1 h2 (a.st c o h1 h2 h)⟩
theorem DK.ne {d L : Addr} {H : Hp} (h : DK d L H) : d ≠ L := by
  obtain ⟨ns, m, k, h1, h2, _⟩ := h
  exact ne_of h1 h2 (by intro z; cases z)
theorem DK.upd {d L p : Addr} {H : Hp} {o : HO} (h : DK d L H) (hp : H p = none) : DK d L (upd H p o) := by
  obtain ⟨ns, m, k, h1, h2, h3⟩ := h
  exact ⟨ns, m, k, by rw [upd_ne (ne_of_none h1 hp)]; exact h1, by rw [upd_ne (ne_of_none h2 hp)]; exact h2, h3⟩
theorem Fr.new {d L p : Addr} {H : Hp} {o : HO} (h : DK d L H) (hp : H p = none) : Fr d L H (L2.upd H p o) := ⟨h.upd hp, fun b x _ _ e => by
  rw [upd_ne (ne_of_none e hp)]
  exact e⟩
theorem Fr.refl {d L : Addr} {H : Hp} (h : DK d L H) : Fr d L H H := ⟨h, fun _ _ _ _ e => e⟩
theorem Fr.fresh {d L D : Addr} {H H2 : Hp} (f : Fr d L H H2) (n : H2 D = none) : H D = none ∧ D ≠ d ∧ D ≠ L := by
  obtain ⟨ns, m, k, h1, h2, _⟩ := f.dk
  have nd : D ≠ d := (ne_of_none h1 n).symm
  have nL : D ≠ L := (ne_of_none h2 n).symm
  refine ⟨?_, nd, nL⟩
  cases e : H D with
  | none => rfl
  | some o =>
    rw [f.st D o nd nL e] at n
    cases n
theorem DK.mut {d L D : Addr} {H : Hp} {o : HO} (h : DK d L H) (nd : D ≠ d) (nL : D ≠ L) : DK d L (L2.upd H D o) := by
  obtain ⟨ns, m, k, h1, h2, h3⟩ := h
  exact ⟨ns, m, k, by rw [upd_ne nd.symm]; exact h1, by rw [upd_ne nL.symm]; exact h2, h3⟩
/-- an object that was not there at H changes -/
theorem Fr.mut {d L D : Addr} {H H' : Hp} {o : HO} (f : Fr d L H H') (n : H D = none) (nd : D ≠ d) (nL : D ≠ L) : Fr d L H (L2.upd H' D o) := ⟨f.dk.mut nd nL, fun b x h1 h2 e => by
  rw [upd_ne (ne_of_none e n)]
  exact f.st b x h1 h2 e⟩
theorem dp_ints {K : PySem.W.Frag} {H : Hp} : ∀ ns : List Int, DpAll K H (ns.map V.int) (ns.map PyData.int)
  | [] => .nil
  | n :: r => .cons (.int n) (dp_ints r)
theorem lay_ints : ∀ ns : List Int, PyData.canLayAll0 (ns.map PyData.int) = true
  | [] => rfl
  | n :: r => by
    show (PyData.canLay0 (.int n) && PyData.canLayAll0 (r.map PyData.int)) = true
    rw [lay_ints r]
    rfl
theorem dep_ints : ∀ ns : List Int, PyData.depthAll (ns.map PyData.int) ≤ 1
  | [] => by simp [PyData.depthAll]
  | n :: r => by
    have h := dep_ints r
    simp only [List.map_cons, PyData.depthAll, PyData.depth]
    omega
theorem shaped_ints (ns : List Int) : SeqAt.shaped (.list (ns.map PyData.int)) = true := by
  unfold SeqAt.shaped
  rw [Bool.and_eq_true]
  refine ⟨lay_ints ns, decide_eq_true ?_⟩
  have h := dep_ints ns
  simp only [PyData.depth]
  omega
theorem cut63 (ns : List Int) : cutV (ns.map V.int) none (some 63) = (ns.take 63).map V.int := by
  unfold cutV
  rw [HT.sIx_none, show HT.sIx (ns.map V.int).length (ns.map V.int).length (some (63 : Int)) = min 63 (ns.map V.int).length from HT.sIx_nat _ _ 63]
  rw [List.drop_zero, Nat.sub_zero, List.map_take]
  rw [List.length_map]
  by_cases h : 63 ≤ ns.length
  · rw [Nat.min_eq_left h]
  · rw [Nat.min_eq_right (by omega), List.take_of_length_le (by simp), List.take_of_length_le (by rw [List.length_map]; omega)]
/-! ### what stands at the top -/
structure Tb (mg : Str → Option Value) : Prop where
  int : mg "int" = none
  list : mg "list" = none
  max : mg "max" = none
  len : mg "len" = none
  range : mg "range" = none
  tuple : mg "tuple" = none
  isinstance : mg "isinstance" = none
  repr : mg "repr" = none
abbrev N__law_deck : List Str := ["_law_script", "_law_mixed", "_law_cell"]
abbrev P__law_deck : List Str := ["_law_script"]
theorem sc__law_deck : FnScope N__law_deck P__law_deck (defScope s__law_deck) := ⟨rfl, rfl, rfl, by decide +kernel, rfl, by decide +kernel, by decide +kernel⟩
abbrev N__law_draw : List Str := ["_law_deck_here", "_law_many", "_law_cell", "_law_figure"]
abbrev P__law_draw : List Str := ["_law_deck_here", "_law_many"]
theorem sc__law_draw : FnScope N__law_draw P__law_draw (defScope s__law_draw) := ⟨rfl, rfl, rfl, by decide +kernel, rfl, by decide +kernel, by decide +kernel⟩
abbrev N__law_pick : List Str := ["_law_deck_here", "_law_some"]
abbrev P__law_pick : List Str := ["_law_deck_here", "_law_some"]
theorem sc__law_pick : FnScope N__law_pick P__law_pick (defScope s__law_pick) := ⟨rfl, rfl, rfl, by decide +kernel, rfl, by decide +kernel, by decide +kernel⟩
section
variable {P : Program} {w : World} {K : PySem.W.Frag} {mg : Str → Option Value} {base : Heap}
def spDeck (K : PySem.W.Frag) : Sp := fun vs H Q _ => ∃ (a : Addr) (ns : List Int), vs = [.ref a] ∧ SqL K H a (ns.map V.int) ∧
  ∀ d L H', (∀ b o, H b = some o → H' b = some o) → H d = none → H L = none → DK d L H' → Q (.ref d) H'
theorem ok_deck {fd : FuncData} (D : Df K mg "_law_deck" s__law_deck P__law_deck fd) (T : Tb mg) : FnOk P w K mg base CX0 1 (He.fAd K ("_law_deck", none)) fd P__law_deck (spDeck K) := by
  refine (fun_of D.F).ok sc__law_deck (fun vs H Q E h => ?_) (fun cdv A outer s H vs Q E hr h => ?_)
  · obtain ⟨a, ns, rfl, _⟩ := h
    rfl
  · obtain ⟨a, ns, rfl, hS, q⟩ := h
    refine ⟨_, (pss_cons (ps_set (i := 1) sc__law_deck.nd rfl (.inl rfl) pe_int)
      (pss_cons (ps_for PassesOwn.never rfl (pi_list (pe_slice sl_list (pv 0) po_none (po_some pe_int))) (pg_name (i := 2) sc__law_deck.nd rfl (.inl rfl)) (pss_one (ps_set (i := 1) sc__law_deck.nd rfl (.inl rfl) (pe_op op_mod (pe_callTy call_int1 (by rfl) T.int (by decide +kernel) (pa_cons (pe_op op_add (pe_op op_add (pe_op op_mul (pv 1) pe_int) (pe_op op_mod (pe_callTy call_int1 (by rfl) T.int (by decide +kernel) (pa_cons (pv 2) pa_nil)) pe_int)) pe_int) pa_nil)) pe_int))))
      (pss_one (ps_ret (pe_disp (pps_cons pe_str (pe_revL (pe_callTy call_list_of (by rfl) T.list (by decide +kernel) (pa_cons (pe_slice sl_list (pv 0) po_none (po_some pe_int)) pa_nil))) (pps_cons pe_str (pv 1) (pps_cons pe_str pe_int pps_nil))) (by rfl) (by rfl) (fun z => by cases z) (by decide)))))), ?_⟩
    refine ⟨_, rfl, 63, rfl, a, _, rfl, hS, fun p np => ?_⟩
    have st : ∀ b o, H b = some o → (upd H p (.lst (cutV (ns.map V.int) none (some 63)))) b = some o := fun b o e => by
      rw [upd_ne (ne_of_none e np)]
      exact e
    have st2 : Same H (upd H p (.lst (cutV (ns.map V.int) none (some 63)))) := st
    have hp : SqL K (upd H p (.lst (cutV (ns.map V.int) none (some 63)))) p (cutV (ns.map V.int) none (some 63)) := SqL.of upd_same
    generalize upd H p (.lst (cutV (ns.map V.int) none (some 63))) = H1 at st st2 hp
    have hA := st2.seq hS
    rw [cut63] at hp
    refine ⟨p, rfl, ⟨_, hp⟩, for_list (K := K) (a := p) (xs := (ns.take 63).map V.int) (fun i σ H' => H' = H1 ∧ ∃ m c, σ = [some (.ref a), some (.int m), c] ∧ 0 ≤ m ∧ m < 2147483648) ⟨rfl, 13745095, none, rfl, by decide, by decide⟩ (fun i σ H' _ h => by rw [h.1]; exact hp) (fun i x σ H' hx h => ?_) (fun σ H' h => ?_)⟩
    · obtain ⟨rfl, m, c, rfl, m0, m1⟩ := h
      obtain ⟨y, rfl⟩ : ∃ y, x = V.int y := by
        rw [List.getElem?_map] at hx
        obtain ⟨y, _, e⟩ := Option.map_eq_some_iff.mp hx
        exact ⟨y, e.symm⟩
      refine ⟨_, rfl, _, _, rfl, rfl, .inl ⟨by omega, by omega⟩, _, rfl, .inl ⟨_, rfl, _, _, rfl, rfl, (by show (0 : Int) < _; decide), _, _, rfl, rfl, _, _, rfl, rfl, .inl ⟨_, rfl, _, _, rfl, rfl, (by show (0 : Int) < _; decide), ?_⟩⟩⟩
      refine ⟨rfl, _, _, rfl, Int.emod_nonneg _ (by decide), ?_⟩
      exact Int.lt_trans (Int.emod_lt_of_pos _ (by decide)) (by decide)
    · obtain ⟨rfl, m, c, rfl, m0, m1⟩ := h
      intro d nd
      have ndH : H d = none := Same.free st2 nd
      have s3 : Same H' (upd H' d (.dK [])) := fun b o e => by
        rw [upd_ne (ne_of_none e nd)]
        exact e
      refine ⟨_, rfl, 63, rfl, a, _, rfl, s3.seq hA, fun p1 n1 => ⟨p1, _, rfl, .inl (SqL.of upd_same), fun p2 n2 => ⟨p2, _, rfl, SqL.of upd_same, fun p3 n3 => ?_⟩⟩⟩
      have e1 : d ≠ p1 := ne_of_none upd_same n1
      have e2 : d ≠ p2 := fun e => by
        rw [← e, upd_ne e1, upd_same] at n2
        cases n2
      have e3 : d ≠ p3 := fun e => by
        rw [← e, upd_ne e2, upd_ne e1, upd_same] at n3
        cases n3
      have g : ∀ b o, H' b = some o → (upd (upd (upd (upd H' d (.dK [])) p1 (.lst (cutV (ns.map V.int) none (some 63)))) p2 (.lst (cutV (ns.map V.int) none (some 63)))) p3 (.lst (cutV (ns.map V.int) none (some 63)).reverse)) b = some o := fun b o e => by
        have f1 : (upd H' d (.dK [])) b = some o := s3 b o e
        have f2 : (upd (upd H' d (.dK [])) p1 (.lst (cutV (ns.map V.int) none (some 63)))) b = some o := by
          rw [upd_ne (ne_of_none f1 n1)]
          exact f1
        have f3 : (upd (upd (upd H' d (.dK [])) p1 (.lst (cutV (ns.map V.int) none (some 63)))) p2 (.lst (cutV (ns.map V.int) none (some 63)))) b = some o := by
          rw [upd_ne (ne_of_none f2 n2)]
          exact f2
        rw [upd_ne (ne_of_none f3 n3)]
        exact f3
      have n3' : H' p3 = none := by
        cases e : H' p3 with
        | none => rfl
        | some o =>
          have f1 : (upd H' d (.dK [])) p3 = some o := s3 p3 o e
          have f2 : (upd (upd H' d (.dK [])) p1 (.lst (cutV (ns.map V.int) none (some 63)))) p3 = some o := by
            rw [upd_ne (ne_of_none f1 n1)]
            exact f1
          have f3 : (upd (upd (upd H' d (.dK [])) p1 (.lst (cutV (ns.map V.int) none (some 63)))) p2 (.lst (cutV (ns.map V.int) none (some 63)))) p3 = some o := by
            rw [upd_ne (ne_of_none f2 n2)]
            exact f2
          rw [f3] at n3
          cases n3
      refine ⟨_, rfl, by rw [upd_ne e3, upd_ne e2, upd_ne e1, upd_same], kvD p3 m 0, rfl, (by show 3 ≤ 15; decide), ?_⟩
      rw [merge_deck]
      refine q d p3 _ (fun b o e => ?_) ndH (Same.free st2 n3') ⟨(ns.take 63).reverse, m, 0, upd_same, ?_, m0, m1, ?_⟩
      · have e' := st b o e
        rw [upd_ne (ne_of_none e' nd)]
        exact g b o e'
      · rw [upd_ne e3.symm, upd_same, cut63, List.map_reverse]
      · rw [List.length_reverse, List.length_take]
        omega
/-! ### a draw -/
theorem dg_l {H : Hp} {d L : Addr} {m k : Int} (h : H d = some (.dK (kvD L m k))) : DGet H d (.str "left") (some (.ref L)) := by
  have e : DGet H d (kV kL) (valV (kvD L m k) kL) := DGet.k h
  rw [kv_l] at e
  exact e
theorem dg_m {H : Hp} {d L : Addr} {m k : Int} (h : H d = some (.dK (kvD L m k))) : DGet H d (.str "mixed") (some (.int m)) := by
  have e : DGet H d (kV kM) (valV (kvD L m k) kM) := DGet.k h
  rw [kv_m] at e
  exact e
theorem dg_d {H : Hp} {d L : Addr} {m k : Int} (h : H d = some (.dK (kvD L m k))) : DGet H d (.str "draws") (some (.int k)) := by
  have e : DGet H d (kV kD) (valV (kvD L m k) kD) := DGet.k h
  rw [kv_d] at e
  exact e
theorem dp_m {H : Hp} {d L : Addr} {m k m' : Int} (h : H d = some (.dK (kvD L m k))) : DPut H d (.str "mixed") (.int m') (upd H d (.dK (kvD L m' k))) := by
  have e : DPut H d (kV kM) (.int m') (upd H d (.dK (putK (kvD L m k) kM (.int m')))) := DPut.k h (by show 3 < sizeLine; decide)
  rw [kput_m] at e
  exact e
theorem dp_d {H : Hp} {d L : Addr} {m k k' : Int} (h : H d = some (.dK (kvD L m k))) : DPut H d (.str "draws") (.int k') (upd H d (.dK (kvD L m k'))) := by
  have e : DPut H d (kV kD) (.int k') (upd H d (.dK (putK (kvD L m k) kD (.int k')))) := DPut.k h (by show 3 < sizeLine; decide)
  rw [kput_d] at e
  exact e
theorem eqv_nil (ns : List Int) : PyData.eqv (.list (ns.map PyData.int)) (.list []) = ns.isEmpty := by
  cases ns <;> simp [PyData.eqv, PyData.eqvAll]
def spDraw : Sp := fun vs H Q _ => ∃ (d L : Addr) (n : Int), vs = [.ref d, .int n] ∧ DK d L H ∧ 0 < n ∧ n ≤ 1000000000 ∧ ∀ (r : Int) H', 0 ≤ r → r < n → Fr d L H H' → Q (.int r) H'
theorem ok_draw {fd : FuncData} (D : Df K mg "_law_draw" s__law_draw P__law_draw fd) (T : Tb mg) : FnOk P w K mg base CX0 1 (He.fAd K ("_law_draw", none)) fd P__law_draw spDraw := by
  refine (fun_of D.F).ok sc__law_draw (fun vs H Q E h => ?_) (fun cdv A outer s H vs Q E hr h => ?_)
  · obtain ⟨d, L, n, rfl, _⟩ := h
    rfl
  · obtain ⟨d, L, n, rfl, ⟨ns, m, k, hd, hL, m0, m1, hl⟩, n0, n1, q⟩ := h
    have hu := hu_of hr
    have ndL : d ≠ L := ne_of hd hL (by intro z; cases z)
    refine ⟨_, (pss_cons (ps_dput hu (pv 0) pe_str (pe_op op_add (pe_dget hu (pv 0) pe_str (fun _ _ => rfl)) pe_int) rfl)
      (C8.pss_cut (ps_if (pt_cmpR (op_neD hr.units) (pe_dget hu (pv 0) pe_str (fun _ _ => rfl)) (pe_lst pa_nil) (nomark _)) (pss_cons (ps_set (i := 2) sc__law_draw.nd rfl (.inl rfl) (pe_bm0 PySem.F.plainAttrs_list PySem.F.slot_list_pop PySem.F.type_list_pop mt_pop (pe_dget hu (pv 0) pe_str (fun _ _ => rfl))))
          (pss_cons (ps_if (pt_cmpR op_ge (pv 2) (pe_op op_pow pe_int pe_int) (nomark _)) (pss_cons (ps_expr (pe_bm PySem.F.plainAttrs_list PySem.F.slot_list_append PySem.F.type_list_append mt_append (pe_dget hu (pv 0) pe_str (fun _ _ => rfl)) (pa_cons (pe_op op_fdiv (pv 2) (pe_callB (call_max2 rfl) (by rfl) T.max (by decide +kernel) (pa_cons pe_int (pa_cons (pv 1) pa_nil)))) pa_nil)))
              (pss_one (ps_ret (pe_op op_mod (pe_callTy call_int1 (by rfl) T.int (by decide +kernel) (pa_cons (pv 2) pa_nil)) (pv 1))))) pss_nil)
          (pss_one (ps_dput hu (pv 0) pe_str (pe_op op_mod (pe_callTy call_int1 (by rfl) T.int (by decide +kernel) (pa_cons (pe_op op_add (pe_op op_add (pe_op op_mul (pe_dget hu (pv 0) pe_str (fun _ _ => rfl)) pe_int) (pe_op op_mod (pe_callTy call_int1 (by rfl) T.int (by decide +kernel) (pa_cons (pv 2) pa_nil)) pe_int)) pe_int) pa_nil)) pe_int) rfl)))) pss_nil)
      (pss_cons (ps_set (i := 3) sc__law_draw.nd rfl (.inl rfl) (pe_op op_mod (pe_callTy call_int1 (by rfl) T.int (by decide +kernel) (pa_cons (pe_op op_add (pe_dget hu (pv 0) pe_str (fun _ _ => rfl)) (pe_op op_mul pe_int (pe_dget hu (pv 0) pe_str (fun _ _ => rfl)))) pa_nil)) pe_int))
      (pss_cons (ps_set (i := 3) sc__law_draw.nd rfl (.inl rfl) (pe_op op_mod (pe_callTy call_int1 (by rfl) T.int (by decide +kernel) (pa_cons (pe_op op_add (pe_op op_add (pe_op op_mul (pv 3) (pv 3)) (pe_op op_mul pe_int (pe_dget hu (pv 0) pe_str (fun _ _ => rfl)))) pe_int) pa_nil)) pe_int))
      (pss_cons (ps_set (i := 3) sc__law_draw.nd rfl (.inl rfl) (pe_op op_mod (pe_callTy call_int1 (by rfl) T.int (by decide +kernel) (pa_cons (pe_op op_add (pe_op op_mul (pv 3) pe_int) pe_int) pa_nil)) pe_int))
      (pss_one (ps_ret (pe_op op_mod (pe_callTy call_int1 (by rfl) T.int (by decide +kernel) (pa_cons (pe_op op_fdiv (pv 3) pe_int) pa_nil)) (pv 1))))))))), ?_⟩
    -- draws
    refine ⟨_, rfl, _, _, rfl, dg_d hd, _, _, rfl, rfl, _, rfl, d, _, rfl, dp_d hd, ?_⟩
    have st1 : ∀ b o, b ≠ d → b ≠ L → H b = some o → (upd H d (.dK (kvD L m (k + 1)))) b = some o := fun b o h1 _ e => by
      rw [upd_ne h1]
      exact e
    have hd1 : (upd H d (.dK (kvD L m (k + 1)))) d = some (.dK (kvD L m (k + 1))) := upd_same
    have hL1 : (upd H d (.dK (kvD L m (k + 1)))) L = some (.lst (ns.map V.int)) := by
      rw [upd_ne ndL.symm]
      exact hL
    generalize upd H d (.dK (kvD L m (k + 1))) = H1 at st1 hd1 hL1
    generalize k + 1 = k1 at hd1
    refine ⟨fun σ' H' => ∃ (ns' : List Int) (m' : Int) (c : Option V), σ' = [some (.ref d), some (.int n), c, none] ∧ H' d = some (.dK (kvD L m' k1)) ∧ H' L = some (.lst (ns'.map V.int)) ∧ 0 ≤ m' ∧ m' < 2147483648 ∧ ns'.length ≤ 64 ∧ ∀ b o, b ≠ d → b ≠ L → H b = some o → H' b = some o, ?_, fun σ' H' hM => ?_⟩
    · -- left != []
      refine ⟨_, rfl, _, _, rfl, dg_l hd1, Nat.zero_le _, fun p np => ?_⟩
      have pL : p ≠ L := (ne_of_none hL1 np).symm
      have pd : p ≠ d := (ne_of_none hd1 np).symm
      have st2 : ∀ b o, b ≠ d → b ≠ L → H b = some o → (upd H1 p (.lst [])) b = some o := fun b o h1 h2 e => by
        have e' := st1 b o h1 h2 e
        rw [upd_ne (ne_of_none e' np)]
        exact e'
      have hL2 : (upd H1 p (.lst [])) L = some (.lst (ns.map V.int)) := by
        rw [upd_ne pL.symm]
        exact hL1
      have hd2 : (upd H1 p (.lst [])) d = some (.dK (kvD L m k1)) := by
        rw [upd_ne pd.symm]
        exact hd1
      have hp2 : (upd H1 p (.lst [])) p = some (.lst []) := upd_same
      generalize upd H1 p (.lst []) = H2 at st2 hL2 hd2 hp2
      refine ⟨_, _, .lst (SqL.of hL2) (dp_ints ns), .lst (SqL.of hp2) .nil, shaped_ints ns, by decide +kernel, _, rfl, ?_⟩
      rw [eqv_nil]
      cases ns with
      | nil => exact ⟨[], m, none, rfl, hd2, hL2, m0, m1, hl, st2⟩
      | cons y r =>
        obtain ⟨r', y', er⟩ : ∃ r' y', y :: r = r' ++ [y'] := ⟨(y :: r).dropLast, (y :: r).getLast (List.cons_ne_nil _ _), (List.dropLast_concat_getLast _).symm⟩
        rw [er] at hL2 hl
        have hl' : r'.length + 1 ≤ 64 := by simpa using hl
        refine iteT ?_
        refine ⟨_, rfl, _, _, rfl, dg_l hd2, .inl ⟨rfl, _, SqL.of hL2⟩, L, _, .int y', rfl, rfl, hL2, by simp, ?_⟩
        have el : ((r' ++ [y']).map V.int).dropLast = r'.map V.int := by
          rw [List.map_append, List.map_singleton, List.dropLast_concat]
        rw [el]
        have hL3 : (upd H2 L (.lst (r'.map V.int))) L = some (.lst (r'.map V.int)) := upd_same
        have hd3 : (upd H2 L (.lst (r'.map V.int))) d = some (.dK (kvD L m k1)) := by
          rw [upd_ne ndL]
          exact hd2
        have st3 : ∀ b o, b ≠ d → b ≠ L → H b = some o → (upd H2 L (.lst (r'.map V.int))) b = some o := fun b o h1 h2 e => by
          rw [upd_ne h2]
          exact st2 b o h1 h2 e
        generalize upd H2 L (.lst (r'.map V.int)) = H3 at hL3 hd3 st3
        refine ⟨_, rfl, 10, 18, rfl, rfl, ⟨by decide, by decide, by decide⟩, _, _, rfl, rfl, _, rfl, ite2 (fun hy => ?_) (fun hy => ?_)⟩
        · -- the cell goes back, less a figure
          have hmx : (0 : Int) < (if n > 2 then n else 2) ∧ (if n > 2 then n else 2) < 1073741824 := by
            split <;> omega
          refine ⟨_, rfl, _, _, rfl, dg_l hd3, .inl ⟨rfl, _, SqL.of hL3⟩, _, rfl, _, rfl, _, _, rfl, _, _, rfl, rfl, hmx, L, _, _, rfl, rfl, hL3, ?_, ?_⟩
          · rw [List.length_map]
            exact small1000 (by omega)
          · refine ⟨_, rfl, .inl ⟨_, rfl, _, rfl, _, _, rfl, rfl, n0, ?_⟩⟩
            refine q _ _ (Int.emod_nonneg _ (by omega)) (Int.emod_lt_of_pos _ n0) ⟨⟨r' ++ [y' / (if n > 2 then n else 2)], m, k1, ?_, ?_, m0, m1, ?_⟩, fun b o h1 h2 e => ?_⟩
            · rw [upd_ne ndL]
              exact hd3
            · rw [upd_same, List.map_append]
              rfl
            · rw [List.length_append]
              exact hl'
            · rw [upd_ne h2]
              exact st3 b o h1 h2 e
        · -- a lesser cell is mixed in
          refine ⟨_, rfl, _, _, rfl, dg_m hd3, _, _, rfl, rfl, .inl ⟨by omega, by omega⟩, _, rfl, .inl ⟨_, rfl, _, _, rfl, rfl, (by show (0 : Int) < _; decide), _, _, rfl, rfl, _, _, rfl, rfl, .inl ⟨_, rfl, _, _, rfl, rfl, (by show (0 : Int) < _; decide), ?_⟩⟩⟩
          refine ⟨_, rfl, d, _, rfl, dp_m hd3, ?_⟩
          refine ⟨r', _, some (.int y'), rfl, upd_same, ?_, Int.emod_nonneg _ (by decide), ?_, by omega, fun b o h1 h2 e => ?_⟩
          · rw [upd_ne ndL.symm]
            exact hL3
          · exact Int.lt_trans (Int.emod_lt_of_pos _ (by decide)) (by decide)
          · rw [upd_ne h1]
            exact st3 b o h1 h2 e
    · obtain ⟨ns', m', c, rfl, hd', hL', m0', m1', hl', st'⟩ := hM
      refine ⟨_, rfl, _, _, rfl, dg_m hd', _, rfl, _, _, rfl, dg_d hd', _, _, rfl, rfl, .inl ⟨by decide, by decide⟩, _, _, rfl, rfl, .inl ⟨_, rfl, _, _, rfl, rfl, (by show (0 : Int) < _; decide), ?_⟩⟩
      refine ⟨_, rfl, _, rfl, _, _, rfl, rfl, .inl ⟨?_, ?_⟩, _, rfl, _, _, rfl, dg_d hd', _, _, rfl, rfl, .inl ⟨by decide, by decide⟩, _, _, rfl, rfl, _, _, rfl, rfl, .inl ⟨_, rfl, _, _, rfl, rfl, (by show (0 : Int) < _; decide), ?_⟩⟩
      · exact Int.lt_of_lt_of_le (by decide) (Int.emod_nonneg _ (by decide))
      · exact Int.lt_trans (Int.emod_lt_of_pos _ (by decide)) (by decide)
      refine ⟨_, rfl, _, _, rfl, rfl, .inl ⟨?_, ?_⟩, _, _, rfl, rfl, .inl ⟨_, rfl, _, _, rfl, rfl, (by show (0 : Int) < _; decide), ?_⟩⟩
      · exact Int.lt_of_lt_of_le (by decide) (Int.emod_nonneg _ (by decide))
      · exact Int.lt_trans (Int.emod_lt_of_pos _ (by decide)) (by decide)
      refine ⟨_, rfl, _, _, rfl, rfl, ⟨by decide, by decide⟩, .inl ⟨_, rfl, _, rfl, _, _, rfl, rfl, n0, ?_⟩⟩
      exact q _ _ (Int.emod_nonneg _ (by omega)) (Int.emod_lt_of_pos _ n0) ⟨⟨ns', m', k1, hd', hL', m0', m1', hl'⟩, st'⟩
/-! ### one of some -/
theorem Fr.seq {K : PySem.W.Frag} {d L a : Addr} {xs : List V} {H H' : Hp} (f : Fr d L H H') (h : DK d L H) (hS : SqL K H a xs) (hL : a ≠ L) : SqL K H' a xs := by
  obtain ⟨ns, m, k, h1, h2, _⟩ := h
  rcases hS with (e | ⟨o, e⟩) | e
  · exact .inl (.inl (f.st a _ (ne_of e h1 (by intro z; cases z)) hL e))
  · exact .inl (.inr ⟨o, f.st a _ (ne_of e h1 (by intro z; cases z)) hL e⟩)
  · exact .inr e
theorem Fr.tup {K : PySem.W.Frag} {d L a : Addr} {xs : List V} {H H' : Hp} (f : Fr d L H H') (h : DK d L H) (hS : SqT K H a xs) : SqT K H' a xs := by
  obtain ⟨ns, m, k, h1, h2, _⟩ := h
  rcases hS with (e | ⟨o, e⟩) | e
  · exact .inl (.inl (f.st a _ (ne_of e h1 (by intro z; cases z)) (ne_of e h2 (by intro z; cases z)) e))
  · exact .inl (.inr ⟨o, f.st a _ (ne_of e h1 (by intro z; cases z)) (ne_of e h2 (by intro z; cases z)) e⟩)
  · exact .inr e
def spPick (K : PySem.W.Frag) : Sp := fun vs H Q _ => ∃ (d L a : Addr) (xs : List V), vs = [.ref d, .ref a] ∧ DK d L H ∧ a ≠ L ∧ (SqL K H a xs ∨ SqT K H a xs) ∧ 0 < xs.length ∧ xs.length ≤ 1000000000 ∧
  ∀ (i : Nat) (x : V) H', xs[i]? = some x → Fr d L H H' → Q x H'
theorem ok_pick {fd fdD : FuncData} (D : Df K mg "_law_pick" s__law_pick P__law_pick fd) (T : Tb mg) (D__law_draw : Df K mg "_law_draw" s__law_draw P__law_draw fdD) : FnOk P w K mg base CX0 2 (He.fAd K ("_law_pick", none)) fd P__law_pick (spPick K) := by
  have G__law_draw : FnOk P w K mg base CX0 1 (He.fAd K ("_law_draw", none)) fdD P__law_draw spDraw := ok_draw D__law_draw T
  refine (fun_of D.F).ok sc__law_pick (fun vs H Q E h => ?_) (fun cdv A outer s H vs Q E hr h => ?_)
  · obtain ⟨d, L, a, xs, rfl, _⟩ := h
    rfl
  · obtain ⟨d, L, a, xs, rfl, hD, haL, hS, n0, n1, q⟩ := h
    refine ⟨_, (pss_one (ps_ret (pe_ix (ix_list.or ix_tup) (pv 1) (pe_call G__law_draw (hr.mono (by first | decide | omega)) (by rfl) D__law_draw.g D__law_draw.F.kp D__law_draw.b .nil pass0 (pa_cons (pv 0) (pa_cons (pe_callB call_len (by rfl) T.len (by decide +kernel) (pa_cons (pv 1) pa_nil)) pa_nil))) (fun _ _ => rfl)))), ?_⟩
    refine ⟨_, rfl, _, rfl, _, rfl, _, xs.length, rfl, (hS.elim (fun h => .inl ⟨_, h, rfl⟩) fun h => .inr ⟨_, h, rfl⟩), d, L, _, rfl, hD, by omega, by omega, fun r H' r0 r1 fr => ?_⟩
    obtain ⟨i, rfl⟩ := Int.eq_ofNat_of_zero_le r0
    have hi : i < xs.length := by omega
    rcases hS with h | h
    · exact .inl ⟨a, xs, _, xs[i], rfl, rfl, fr.seq hD h haL, atI_nat (List.getElem?_eq_getElem hi), q i _ _ (List.getElem?_eq_getElem hi) fr⟩
    · exact .inr ⟨a, xs, _, xs[i], rfl, rfl, fr.tup hD h, atI_nat (List.getElem?_eq_getElem hi), q i _ _ (List.getElem?_eq_getElem hi) fr⟩
end
end KA


set_option Elab.async false
set_option linter.all false
set_option maxRecDepth 100000
set_option maxHeartbeats 1000000
/-! Operators, built-ins and methods over data. -/
namespace DL
open PySem PySem.Spec PyProof.Rows L2 KT KG KX KY KE0 KQ LK GxR
section
variable {W : Wd} {M : Addr → Prop} {H : Hp} {v : V} {dv : DV}
theorem pd_lst {ds : List PyData} (e : dv.pd = some (.list ds)) (r : RelDV W M H v dv) : ∃ a xs, v = .ref a ∧ H a = some (.lst xs) ∧ DxAll M H xs ds := by
  cases dv with
  | dat d =>
    cases e
    cases (show Dx M H v (.list ds) from r) with
    | lst n e r => exact ⟨_, _, rfl, e, r⟩
  | own c =>
    obtain ⟨a, o, rfl, ho, r, _⟩ := r
    cases r with
    | lst r =>
      cases e
      exact ⟨a, _, rfl, ho, r⟩
    | dk _ _ => cases e
  | deck => cases e
  | gts _ => cases e
  | ob _ => cases e
theorem pd_only {d : PyData} (e : dv.pd = some d) (n : ∀ ds, d ≠ .list ds) (n2 : ∀ ds, d ≠ .dict ds) : dv = .dat d := by
  cases dv with
  | dat d =>
    cases e
    rfl
  | own c =>
    cases e
    cases c with
    | lst ds => exact absurd rfl (n ds)
    | dk ds => exact absurd rfl (n2 _)
  | deck => cases e
  | gts _ => cases e
  | ob _ => cases e
theorem pd_tup {ds : List PyData} (e : dv.pd = some (.tuple ds)) (r : RelDV W M H v dv) : ∃ a xs, v = .ref a ∧ H a = some (.tup xs) ∧ DxAll M H xs ds := by
  cases pd_only e (fun _ z => by cases z) (fun _ z => by cases z)
  exact Dx.tupOf r
theorem pd_int {i : Int} (e : dv.pd = some (.int i)) (r : RelDV W M H v dv) : v = .int i := by
  cases pd_only e (fun _ z => by cases z) (fun _ z => by cases z)
  cases (show Dx M H v (.int i) from r)
  rfl
theorem pd_bool {b : Bool} (e : dv.pd = some (.bool b)) (r : RelDV W M H v dv) : v = .bl b := by
  cases pd_only e (fun _ z => by cases z) (fun _ z => by cases z)
  cases (show Dx M H v (.bool b) from r)
  rfl
theorem pd_str {z : Str} (e : dv.pd = some (.str z)) (r : RelDV W M H v dv) : v = .str z := by
  cases pd_only e (fun _ z => by cases z) (fun _ z => by cases z)
  cases (show Dx M H v (.str z) from r)
  rfl
/-- any data, seen with less that may change -/
theorem pd_dx {d : PyData} (g : GoodH W M H) (e : dv.pd = some d) (r : RelDV W M H v dv) : Dx W.vol H v d := by
  cases dv with
  | dat d =>
    cases e
    exact Dx.re (fun a _ _ m => g.vol a m) _ _ r
  | own c =>
    cases e
    obtain ⟨a, o, rfl, ho, r, m, n⟩ := r
    exact RelO.dx n ho (r.re fun a _ _ m => g.vol a m)
  | deck => cases e
  | gts _ => cases e
  | ob _ => cases e
end
/-! ### lifting -/
def op2 (p : PyData → PyData → (PyData → Prop) → Prop) : DV → DV → (DV → Prop) → Prop := fun x y K => ∃ d e, x.pd = some d ∧ y.pd = some e ∧ p d e fun r => K (.dat r)
def op1 (p : PyData → (PyData → Prop) → Prop) : DV → (DV → Prop) → Prop := fun x K => ∃ d, x.pd = some d ∧ p d fun r => K (.dat r)
def opC (p : List PyData → (PyData → Prop) → Prop) : List DV → (DV → Prop) → Prop := fun xs K => ∃ ds, xs.mapM (·.pd) = some ds ∧ p ds fun r => K (.dat r)
/-! ### + -/
def addP : PyData → PyData → (PyData → Prop) → Prop
  | .int a, .int b, K => K (.int (a + b))
  | .int a, .bool b, K => K (.int (a + b2i b))
  | .str a, .str b, K => a.length + b.length ≤ sizeLine ∧ K (.str (a ++ b))
  | .tuple a, .tuple b, K => a.length + b.length ≤ sizeLine ∧ K (.tuple (a ++ b))
  | .list a, .list b, K => a.length + b.length ≤ sizeLine ∧ K (.list (a ++ b))
  | _, _, _ => False
section
variable {X : Cx} {W : Wd}
theorem op_addD : OpR X (binaryOp .Add) (fun x y H Q => rI0 (fun i j => .int (i + j)) x y H Q ∨ (fun x y H Q => ∃ i k, x = .int i ∧ y = .bl k ∧ Q (.int (i + b2i k)) H) x y H Q ∨ (fun x y H Q => ∃ i j, x = .str i ∧ y = .str j ∧ i.length + j.length ≤ sizeLine ∧ Q (.str (i ++ j)) H) x y H Q ∨ rCatA X.K x y H Q ∨ rCat x y H Q) :=
  OpR.or op_add (OpR.or op_add_ib (OpR.or op_add_str (OpR.or op_catA op_cat)))
theorem sn_add : Snd2 W (fun x y H Q => rI0 (fun i j => .int (i + j)) x y H Q ∨ (fun x y H Q => ∃ i k, x = .int i ∧ y = .bl k ∧ Q (.int (i + b2i k)) H) x y H Q ∨ (fun x y H Q => ∃ i j, x = .str i ∧ y = .str j ∧ i.length + j.length ≤ sizeLine ∧ Q (.str (i ++ j)) H) x y H Q ∨ rCatA X.K x y H Q ∨ rCat x y H Q) (op2 addP) := by
  intro M H x y dx dy K Q g rx ry h c
  obtain ⟨d, e, hd, he, h⟩ := h
  cases d with
  | int a =>
    cases e with
    | int b =>
      cases pd_int hd rx
      cases pd_int he ry
      exact .inl ⟨a, b, rfl, rfl, c _ h _ H .refl (Dx.int _)⟩
    | bool b =>
      cases pd_int hd rx
      cases pd_bool he ry
      exact .inr (.inl ⟨a, b, rfl, rfl, c _ h _ H .refl (Dx.int _)⟩)
    | _ => exact h.elim
  | str a =>
    cases e with
    | str b =>
      cases pd_str hd rx
      cases pd_str he ry
      exact .inr (.inr (.inl ⟨a, b, rfl, rfl, h.1, c _ h.2 _ H .refl (Dx.str _)⟩))
    | _ => exact h.elim
  | tuple a =>
    cases e with
    | tuple b =>
      obtain ⟨p, xs, rfl, hp, ra⟩ := pd_tup hd rx
      obtain ⟨q, ys, rfl, hq, rb⟩ := pd_tup he ry
      have rr := ra.app rb
      refine .inr (.inr (.inr (.inl ⟨p, q, xs, ys, rfl, rfl, SqT.of hp, SqT.of hq, by rw [DxAll.length ra, DxAll.length rb]; exact h.1, fun z => ?_, fun _ z => ?_, fun _ _ r nr => ?_⟩)))
      · subst z
        refine c _ h.2 _ H .refl ?_
        exact Dx.tup hq rr
      · subst z
        refine c _ h.2 _ H .refl ?_
        rw [List.append_nil] at rr
        exact Dx.tup hp rr
      · exact c _ h.2 _ _ (.new nr) (Dx.tup upd_same (Dx.kpAll (Stp.kp g.vol (.new nr)) _ _ rr))
    | _ => exact h.elim
  | list a =>
    cases e with
    | list b =>
      obtain ⟨p, xs, rfl, hp, ra⟩ := pd_lst hd rx
      obtain ⟨q, ys, rfl, hq, rb⟩ := pd_lst he ry
      refine .inr (.inr (.inr (.inr ⟨p, q, xs, ys, rfl, rfl, hp, hq, by rw [DxAll.length ra, DxAll.length rb]; exact h.1, fun r nr => ?_⟩)))
      exact c _ h.2 _ _ (.new nr) (Dx.lst (fun z => g.all r z nr) upd_same (Dx.kpAll (Stp.kp g.vol (.new nr)) _ _ (ra.app rb)))
    | _ => exact h.elim
  | _ => exact h.elim
/-! ### ints -/
def intP (C : Int → Int → Prop) (f : Int → Int → PyData) : PyData → PyData → (PyData → Prop) → Prop
  | .int a, .int b, K => C a b ∧ K (f a b)
  | _, _, _ => False
theorem sn_int {C : Int → Int → Prop} {f : Int → Int → Int} : Snd2 W (rI C fun i j => .int (f i j)) (op2 (intP C fun a b => .int (f a b))) := by
  intro M H x y dx dy K Q g rx ry h c
  obtain ⟨d, e, hd, he, h⟩ := h
  cases d with
  | int a =>
    cases e with
    | int b =>
      cases pd_int hd rx
      cases pd_int he ry
      exact ⟨a, b, rfl, rfl, h.1, c _ h.2 _ H .refl (Dx.int _)⟩
    | _ => exact h.elim
  | _ => exact h.elim
def int0P (f : Int → Int → PyData) : PyData → PyData → (PyData → Prop) → Prop
  | .int a, .int b, K => K (f a b)
  | _, _, _ => False
theorem sn_int0 {f : Int → Int → Int} : Snd2 W (rI0 fun i j => .int (f i j)) (op2 (int0P fun a b => .int (f a b))) := by
  intro M H x y dx dy K Q g rx ry h c
  obtain ⟨d, e, hd, he, h⟩ := h
  cases d with
  | int a =>
    cases e with
    | int b =>
      cases pd_int hd rx
      cases pd_int he ry
      exact ⟨a, b, rfl, rfl, c _ h _ H .refl (Dx.int _)⟩
    | _ => exact h.elim
  | _ => exact h.elim
theorem sn_cmp {f : Int → Int → Bool} : Snd2 W (rI0 fun i j => .bl (f i j)) (op2 (int0P fun a b => .bool (f a b))) := by
  intro M H x y dx dy K Q g rx ry h c
  obtain ⟨d, e, hd, he, h⟩ := h
  cases d with
  | int a =>
    cases e with
    | int b =>
      cases pd_int hd rx
      cases pd_int he ry
      exact ⟨a, b, rfl, rfl, c _ h _ H .refl (Dx.bl _)⟩
    | _ => exact h.elim
  | _ => exact h.elim
def negP : PyData → (PyData → Prop) → Prop
  | .int a, K => K (.int (-a))
  | _, _ => False
theorem sn_neg : Snd1 W (rU fun i => .int (-i)) (op1 negP) := by
  intro M H x dx K Q g rx h c
  obtain ⟨d, hd, h⟩ := h
  cases d with
  | int a =>
    cases pd_int hd rx
    exact ⟨a, rfl, c _ h _ H .refl (Dx.int _)⟩
  | _ => exact h.elim
/-! ### is None -/
def isND (neg : Bool) : DV → DV → (DV → Prop) → Prop := fun x y K => y = .dat .none ∧ ∃ d, x.pd = some d ∧ K (.dat (.bool (match d with | .none => !neg | _ => neg)))
theorem sn_isN : Snd2 W (fun x y H Q => y = .non ∧ Q (.bl (decide (x = .non))) H) (isND false) := by
  intro M H x y dx dy K Q g rx ry h c
  obtain ⟨rfl, d, hd, h⟩ := h
  cases ry
  refine ⟨rfl, c _ h _ H .refl ?_⟩
  have r := pd_dx g hd rx
  cases r <;> exact Dx.bl _
theorem sn_notN : Snd2 W (fun x y H Q => y = .non ∧ Q (.bl (!decide (x = .non))) H) (isND true) := by
  intro M H x y dx dy K Q g rx ry h c
  obtain ⟨rfl, d, hd, h⟩ := h
  cases ry
  refine ⟨rfl, c _ h _ H .refl ?_⟩
  have r := pd_dx g hd rx
  cases r <;> exact Dx.bl _
/-! ### ==, != -/
def isEmp : PyData → Bool
  | .list [] => true
  | .tuple [] => true
  | _ => false
def isStrD : PyData → Bool
  | .str _ => true
  | _ => false
def isLT : PyData → PyData → Bool
  | .list _, .list _ => true
  | .tuple _, .tuple _ => true
  | _, _ => false
/-- what == is told of: data without dicts; anything and a text; a list or tuple and an empty one -/
def eqOk (d e : PyData) : Bool := (SeqAt.shaped d && SeqAt.shaped e) || isStrD e || (isLT d e && isEmp e)
def eqP (neg : Bool) : PyData → PyData → (PyData → Prop) → Prop := fun d e K => eqOk d e = true ∧ K (.bool (if neg = true then !PyData.eqv d e else PyData.eqv d e))
mutual
theorem Dx.dp {M : Addr → Prop} {H : Hp} {K : PySem.W.Frag} : ∀ (d : PyData) (v : V), d.canLay0 = true → Dx M H v d → Dp K H v d
  | .none, _, _, h => by
    cases h
    exact .non
  | .bool b, _, _, h => by
    cases h
    exact .bl b
  | .int i, _, _, h => by
    cases h
    exact .int i
  | .str x, _, _, h => by
    cases h
    exact .str x
  | .list ds, _, c, h => by
    cases h with
    | lst n e r => exact .lst (SqL.of e) (Dx.dpAll ds _ c r)
  | .tuple ds, _, c, h => by
    cases h with
    | tup e r => exact .tup (SqT.of e) (Dx.dpAll ds _ c r)
  | .dict ds, _, c, h => by cases c
theorem Dx.dpAll {M : Addr → Prop} {H : Hp} {K : PySem.W.Frag} : ∀ (ds : List PyData) (vs : List V), PyData.canLayAll0 ds = true → DxAll M H vs ds → DpAll K H vs ds
  | [], _, _, h => by
    cases h
    exact .nil
  | d :: ds, _, c, h => by
    have c2 : (d.canLay0 && PyData.canLayAll0 ds) = true := c
    rw [Bool.and_eq_true] at c2
    cases h with
    | cons h1 h2 => exact .cons (Dx.dp d _ c2.1 h1) (Dx.dpAll ds _ c2.2 h2)
end
theorem isT_eqv {M : Addr → Prop} {H : Hp} {v : V} {d : PyData} {z : Str} (h : Dx M H v d) : isT v z = PyData.eqv d (.str z) := by
  cases h with
  | str x => exact isT_str x z
  | _ => simp [isT, PyData.eqv]
theorem eqv_emp {d e : PyData} (h1 : isLT d e = true) (h2 : isEmp e = true) : (∃ ds, d = .list ds ∧ e = .list [] ∧ PyData.eqv d e = ds.isEmpty) ∨ ∃ ds, d = .tuple ds ∧ e = .tuple [] ∧ PyData.eqv d e = ds.isEmpty := by
  cases d with
  | list ds =>
    cases e with
    | list es =>
      cases es with
      | nil => exact .inl ⟨ds, rfl, rfl, by cases ds <;> rfl⟩
      | cons _ _ => cases h2
    | _ => cases h1
  | tuple ds =>
    cases e with
    | tuple es =>
      cases es with
      | nil => exact .inr ⟨ds, rfl, rfl, by cases ds <;> rfl⟩
      | cons _ _ => cases h2
    | _ => cases h1
  | _ => cases h1
theorem op_eqX {k : Nat} (hr : Room k X.A) (M : Addr → Prop) : OpR X (compareOp .Eq) (fun x y H Q => rEqD X.K x y H Q ∨ rEqT M x y H Q ∨ rEqE X.K x y H Q) := OpR.or (op_eqD hr.units) (OpR.or (op_eqT hr M) (op_eqE hr))
theorem op_neX {k : Nat} (hr : Room k X.A) (M : Addr → Prop) : OpR X (compareOp .NotEq) (fun x y H Q => rNeD X.K x y H Q ∨ rNeT M x y H Q ∨ rNeE X.K x y H Q) := OpR.or (op_neD hr.units) (OpR.or (op_neT hr M) (op_neE hr))
theorem sn_eq : Snd2 W (fun x y H Q => rEqD X.K x y H Q ∨ rEqT W.vol x y H Q ∨ rEqE X.K x y H Q) (op2 (eqP false)) := by
  intro M H x y dx dy K Q g rx ry h c
  obtain ⟨d, e, hd, he, hok, h⟩ := h
  have fin : ∀ b, b = PyData.eqv d e → Q (.bl b) H := fun b hb => by
    subst hb
    exact c _ h _ H .refl (Dx.bl _)
  have r1 := pd_dx g hd rx
  have r2 := pd_dx g he ry
  unfold eqOk at hok
  rw [Bool.or_eq_true, Bool.or_eq_true, Bool.and_eq_true, Bool.and_eq_true] at hok
  rcases hok with (⟨s1, s2⟩ | hs) | ⟨h1, h2⟩
  · exact .inl ⟨d, e, Dx.dp _ _ (SeqAt.canLay_of_shaped s1) r1, Dx.dp _ _ (SeqAt.canLay_of_shaped s2) r2, s1, s2, fin _ rfl⟩
  · cases e with
    | str z =>
      cases r2
      exact .inr (.inl ⟨d, z, r1, rfl, fin _ (isT_eqv r1)⟩)
    | _ => cases hs
  · rcases eqv_emp h1 h2 with ⟨ds, rfl, rfl, e3⟩ | ⟨ds, rfl, rfl, e3⟩
    · cases r1 with
      | lst n e1 q1 =>
        cases r2 with
        | lst n2 e2 q2 =>
          cases q2
          exact .inr (.inr ⟨_, _, _, rfl, rfl, .inl ⟨SqL.of e1, SqL.of e2⟩, fin _ (by rw [e3]; exact emp_of (DxAll.length q1))⟩)
    · cases r1 with
      | tup e1 q1 =>
        cases r2 with
        | tup e2 q2 =>
          cases q2
          exact .inr (.inr ⟨_, _, _, rfl, rfl, .inr ⟨SqT.of e1, SqT.of e2⟩, fin _ (by rw [e3]; exact emp_of (DxAll.length q1))⟩)
theorem sn_ne : Snd2 W (fun x y H Q => rNeD X.K x y H Q ∨ rNeT W.vol x y H Q ∨ rNeE X.K x y H Q) (op2 (eqP true)) := by
  intro M H x y dx dy K Q g rx ry h c
  obtain ⟨d, e, hd, he, hok, h⟩ := h
  have fin : ∀ b, b = PyData.eqv d e → Q (.bl (!b)) H := fun b hb => by
    subst hb
    exact c _ h _ H .refl (Dx.bl _)
  have r1 := pd_dx g hd rx
  have r2 := pd_dx g he ry
  unfold eqOk at hok
  rw [Bool.or_eq_true, Bool.or_eq_true, Bool.and_eq_true, Bool.and_eq_true] at hok
  rcases hok with (⟨s1, s2⟩ | hs) | ⟨h1, h2⟩
  · exact .inl ⟨d, e, Dx.dp _ _ (SeqAt.canLay_of_shaped s1) r1, Dx.dp _ _ (SeqAt.canLay_of_shaped s2) r2, s1, s2, fin _ rfl⟩
  · cases e with
    | str z =>
      cases r2
      exact .inr (.inl ⟨d, z, r1, rfl, fin _ (isT_eqv r1)⟩)
    | _ => cases hs
  · rcases eqv_emp h1 h2 with ⟨ds, rfl, rfl, e3⟩ | ⟨ds, rfl, rfl, e3⟩
    · cases r1 with
      | lst n e1 q1 =>
        cases r2 with
        | lst n2 e2 q2 =>
          cases q2
          exact .inr (.inr ⟨_, _, _, rfl, rfl, .inl ⟨SqL.of e1, SqL.of e2⟩, fin _ (by rw [e3]; exact emp_of (DxAll.length q1))⟩)
    · cases r1 with
      | tup e1 q1 =>
        cases r2 with
        | tup e2 q2 =>
          cases q2
          exact .inr (.inr ⟨_, _, _, rfl, rfl, .inr ⟨SqT.of e1, SqT.of e2⟩, fin _ (by rw [e3]; exact emp_of (DxAll.length q1))⟩)
/-! ### a part -/
def ixP : PyData → PyData → (PyData → Prop) → Prop
  | .list xs, .int i, K => ∃ d, atI xs i = some d ∧ K d
  | .tuple xs, .int i, K => ∃ d, atI xs i = some d ∧ K d
  | .str z, .int i, K => z.length ≤ sizeLine ∧ ∃ c, atI z.cps.toList i = some c ∧ K (.str ⟨#[c]⟩)
  | _, _, _ => False
theorem atI_len {α β : Type} {xs : List α} {ys : List β} (h : xs.length = ys.length) {i : Int} {y : β} (e : atI ys i = some y) : ∃ (j : Nat) (x : α), atI xs i = some x ∧ xs[j]? = some x ∧ ys[j]? = some y := by
  unfold atI at e ⊢
  rw [h]
  cases q : ixN ys.length i with
  | none => rw [q] at e; cases e
  | some j =>
    rw [q] at e
    have e : ys[j]? = some y := e
    have hj : j < ys.length := by
      rcases Nat.lt_or_ge j ys.length with z | z
      · exact z
      · rw [List.getElem?_eq_none z] at e
        cases e
    exact ⟨j, xs[j], by simp [h ▸ hj], by simp [h ▸ hj], e⟩
theorem sn_ix : Snd2 W (fun x y H Q => rIxL X.K x y H Q ∨ rIxT X.K x y H Q ∨ rIxS x y H Q) (op2 ixP) := by
  intro M H x y dx dy K Q g rx ry h c
  obtain ⟨d, e, hd, he, h⟩ := h
  cases d with
  | list ds =>
    cases e with
    | int i =>
      cases pd_int he ry
      obtain ⟨p, xs, rfl, hp, ra⟩ := pd_lst hd rx
      obtain ⟨d, e, k⟩ := h
      obtain ⟨j, x, e1, e2, e3⟩ := atI_len (DxAll.length ra) e
      obtain ⟨d', e4, rd⟩ := DxAll.at ra e2
      rw [e3] at e4
      cases e4
      exact .inl ⟨p, xs, i, x, rfl, rfl, SqL.of hp, e1, c _ k _ H .refl rd⟩
    | _ => exact h.elim
  | tuple ds =>
    cases e with
    | int i =>
      cases pd_int he ry
      obtain ⟨p, xs, rfl, hp, ra⟩ := pd_tup hd rx
      obtain ⟨d, e, k⟩ := h
      obtain ⟨j, x, e1, e2, e3⟩ := atI_len (DxAll.length ra) e
      obtain ⟨d', e4, rd⟩ := DxAll.at ra e2
      rw [e3] at e4
      cases e4
      exact .inr (.inl ⟨p, xs, i, x, rfl, rfl, SqT.of hp, e1, c _ k _ H .refl rd⟩)
    | _ => exact h.elim
  | str z =>
    cases e with
    | int i =>
      cases pd_int he ry
      cases pd_str hd rx
      obtain ⟨hz, ch, e, k⟩ := h
      exact .inr (.inr ⟨z, i, ch, rfl, rfl, hz, e, c _ k _ H .refl (Dx.str _)⟩)
    | _ => exact h.elim
  | _ => exact h.elim
theorem ix_all : IxR X (fun x y H Q => rIxL X.K x y H Q ∨ rIxT X.K x y H Q ∨ rIxS x y H Q) := IxR.or ix_list (IxR.or ix_tup ix_str)
/-! ### slices -/
def cutD (xs : List PyData) (lo hi : Option Int) : List PyData := (xs.drop (HT.sIx xs.length 0 lo)).take (HT.sIx xs.length xs.length hi - HT.sIx xs.length 0 lo)
def slP : PyData → Option Int → Option Int → (PyData → Prop) → Prop
  | .list xs, lo, hi, K => K (.list (cutD xs lo hi))
  | .tuple xs, lo, hi, K => K (.tuple (cutD xs lo hi))
  | .str z, lo, hi, K => z.length ≤ sizeLine ∧ K (.str (cutS z lo hi))
  | _, _, _, _ => False
theorem cut_rel {M : Addr → Prop} {H : Hp} {xs : List V} {ds : List PyData} (r : DxAll M H xs ds) (lo hi : Option Int) : DxAll M H (cutV xs lo hi) (cutD ds lo hi) := by
  unfold cutV cutD
  rw [DxAll.length r]
  exact DxAll.take _ (DxAll.drop _ r)
theorem cut_whole {ds : List PyData} {lo hi : Option Int} (h : HT.sIx ds.length 0 lo = 0 ∧ HT.sIx ds.length ds.length hi = ds.length) : cutD ds lo hi = ds := by
  unfold cutD
  rw [h.1, h.2]
  simp
def rSlAll (K : PySem.W.Frag) : V → Option Int → Option Int → Hp → VK → Prop := fun x lo hi H Q => rSlL K x lo hi H Q ∨ rSlA K x lo hi H Q ∨ rSlS x lo hi H Q
theorem sl_all : SlR X (rSlAll X.K) := SlR.or sl_list (SlR.or sl_tupA sl_str)
theorem sn_sl {M : Addr → Prop} {H : Hp} {x : V} {dx : DV} {d : PyData} {lo hi : Option Int} {K : DV → Prop} {Q : VK} (g : GoodH W M H) (rx : RelDV W M H x dx) (hd : dx.pd = some d) (h : slP d lo hi fun r => K (.dat r)) (c : Cont W M H K Q) : rSlAll X.K x lo hi H Q := by
  cases d with
  | list ds =>
    obtain ⟨p, xs, rfl, hp, ra⟩ := pd_lst hd rx
    exact .inl ⟨p, xs, rfl, SqL.of hp, fun q nq => c _ h _ _ (.new nq) (Dx.lst (fun z => g.all q z nq) upd_same (Dx.kpAll (Stp.kp g.vol (.new nq)) _ _ (cut_rel ra lo hi)))⟩
  | tuple ds =>
    obtain ⟨p, xs, rfl, hp, ra⟩ := pd_tup hd rx
    have hl := DxAll.length ra
    refine .inr (.inl ⟨p, xs, rfl, SqT.of hp, fun hw => ?_, fun _ q nq => c _ h _ _ (.new nq) (Dx.tup upd_same (Dx.kpAll (Stp.kp g.vol (.new nq)) _ _ (cut_rel ra lo hi)))⟩)
    rw [hl] at hw
    have h : K (.dat (.tuple (cutD ds lo hi))) := h
    rw [cut_whole hw] at h
    exact c _ h _ H .refl (Dx.tup hp ra)
  | str z =>
    cases pd_str hd rx
    exact .inr (.inr ⟨z, rfl, h.1, c _ h.2 _ H .refl (Dx.str _)⟩)
  | _ => exact h.elim
abbrev FO := DEnv → (Option Int → Prop) → Prop
def tDO (W : Wd) (f : FO) : TO := fun σ H Q => ∃ M ρ K, GoodE W M H σ ρ ∧ f ρ K ∧ ∀ o, K o → ∀ H', Stp W H H' → Q o H'
def fNone : FO := fun _ K => K none
def fPart (f : FE) : FO := fun ρ K => f ρ fun x => ∃ i, x = .dat (.int i) ∧ K (some i)
theorem _root_.L2.PO.imp {e : Option Expr} {t t' : TO} (h : PO X e t) (k : ∀ σ H Q, t' σ H Q → t σ H Q) : PO X e t' := ⟨fun pins s σ H Q I q => h.run pins s σ H Q I (k σ H Q q)⟩
theorem do_none : PO X none (tDO W fNone) := po_none.imp fun σ H Q ⟨M, ρ, K, g, k, c⟩ => c _ k H .refl
theorem do_some {e : Expr} {f : FE} (h : PE X e (tD W f)) : PO X (some e) (tDO W (fPart f)) := (po_some h).imp fun σ H Q ⟨M, ρ, K, g, k, c⟩ => ⟨M, ρ, _, g, k, fun dv hd v H1 s1 r1 => by
  obtain ⟨i, rfl, hk⟩ := hd
  cases r1
  exact ⟨i, rfl, c _ hk H1 s1⟩⟩
def fSl (f : FE) (l h : FO) : FE := fun ρ K => f ρ fun x => l ρ fun lo => h ρ fun hi => ∃ d, x.pd = some d ∧ slP d lo hi fun r => K (.dat r)
theorem de_slice {e : Expr} {lo hi : Option Expr} {f : FE} {l h : FO} {p2 pos : Pos} (he : PE X e (tD W f)) (hl : PO X lo (tDO W l)) (hu : PO X hi (tDO W h)) : PE X (.Subscript e (.Slice lo hi none p2) pos) (tD W (fSl f l h)) := (pe_slice sl_all he hl hu).imp fun σ H Q ⟨M, ρ, K, g, k, c⟩ => by
  refine ⟨M, ρ, _, g, k, fun dv hd v H1 s1 r1 => ⟨M, ρ, _, g.stp s1, hd, fun lo hlo H2 s2 => ⟨M, ρ, _, (g.stp s1).stp s2, hlo, fun hi hhi H3 s3 => ?_⟩⟩⟩
  obtain ⟨d, hp, hk⟩ := hhi
  exact sn_sl (((g.stp s1).stp s2).stp s3).h ((r1.stp g.h.vol s2).stp g.h.vol s3) hp hk (c.stp ((s1.trans s2).trans s3))
/-! ### built-ins -/
def lenP : PyData → (PyData → Prop) → Prop
  | .list xs, K => K (.int xs.length)
  | .tuple xs, K => K (.int xs.length)
  | .str z, K => z.length ≤ sizeLine ∧ K (.int z.length)
  | _, _ => False
def c1 (p : PyData → (PyData → Prop) → Prop) : List DV → (DV → Prop) → Prop := fun xs K => ∃ x d, xs = [x] ∧ x.pd = some d ∧ p d fun r => K (.dat r)
theorem sn_len : SndC W (fun xs H Q => ∃ x n, xs = [x] ∧ LenV X.K x H n ∧ Q (.int n) H) (c1 lenP) := by
  intro M H xs ds K Q g rs h c
  obtain ⟨x, d, rfl, hd, h⟩ := h
  obtain ⟨v, rfl, rx⟩ := rel1 rs
  cases d with
  | list es =>
    obtain ⟨p, xs, rfl, hp, ra⟩ := pd_lst hd rx
    exact ⟨_, es.length, rfl, .inl ⟨xs, SqL.of hp, (DxAll.length ra).symm⟩, c _ h _ H .refl (Dx.int _)⟩
  | tuple es =>
    obtain ⟨p, xs, rfl, hp, ra⟩ := pd_tup hd rx
    exact ⟨_, es.length, rfl, .inr ⟨xs, SqT.of hp, (DxAll.length ra).symm⟩, c _ h _ H .refl (Dx.int _)⟩
  | str z =>
    cases pd_str hd rx
    exact ⟨_, z.length, rfl, ⟨h.1, rfl⟩, c _ h.2 _ H .refl (Dx.int _)⟩
  | _ => exact h.elim
def intcP : PyData → (PyData → Prop) → Prop
  | .int i, K => K (.int i)
  | .bool b, K => K (.int (if b then 1 else 0))
  | .str z, K => z.length ≤ 640 ∧ ∃ n, PySem.intText? z = some n ∧ K (.int n)
  | _, _ => False
theorem call_intD : CallR X (.type "int") (fun xs H Q => ((∃ i, xs = [.int i] ∧ Q (.int i) H) ∨ ∃ k, xs = [.bl k] ∧ Q (.int (if k then 1 else 0)) H) ∨ (∃ a n, xs = [.str a] ∧ PySem.intText? a = some n ∧ a.length ≤ 640 ∧ Q (.int n) H)) := CallR.or call_int1 call_int_str
theorem sn_intc : SndC W (fun xs H Q => ((∃ i, xs = [.int i] ∧ Q (.int i) H) ∨ ∃ k, xs = [.bl k] ∧ Q (.int (if k then 1 else 0)) H) ∨ (∃ a n, xs = [.str a] ∧ PySem.intText? a = some n ∧ a.length ≤ 640 ∧ Q (.int n) H)) (c1 intcP) := by
  intro M H xs ds K Q g rs h c
  obtain ⟨x, d, rfl, hd, h⟩ := h
  obtain ⟨v, rfl, rx⟩ := rel1 rs
  cases d with
  | int i =>
    cases pd_int hd rx
    exact .inl (.inl ⟨i, rfl, c _ h _ H .refl (Dx.int _)⟩)
  | bool b =>
    cases pd_bool hd rx
    exact .inl (.inr ⟨b, rfl, c _ h _ H .refl (Dx.int _)⟩)
  | str z =>
    cases pd_str hd rx
    obtain ⟨hz, n, e, k⟩ := h
    exact .inr ⟨z, n, rfl, e, hz, c _ k _ H .refl (Dx.int _)⟩
  | _ => exact h.elim
def strcP : PyData → (PyData → Prop) → Prop
  | .int i, K => i.natAbs.log2 < 1920 ∧ K (.str (toString i))
  | _, _ => False
theorem sn_strc : SndC W (fun xs H Q => ∃ i : Int, xs = [.int i] ∧ i.natAbs.log2 < 1920 ∧ Q (.str (toString i)) H) (c1 strcP) := by
  intro M H xs ds K Q g rs h c
  obtain ⟨x, d, rfl, hd, h⟩ := h
  obtain ⟨v, rfl, rx⟩ := rel1 rs
  cases d with
  | int i =>
    cases pd_int hd rx
    exact ⟨i, rfl, h.1, c _ h.2 _ H .refl (Dx.str _)⟩
  | _ => exact h.elim
/-- repr of any data -/
def reprP : PyData → (PyData → Prop) → Prop := fun d K => (d.showable = true ∧ d.depth ≤ 150 ∧ d.shown.length ≤ sizeLine) ∧ K (.str d.shown)
theorem sn_repr : SndC W (rReprX W.vol) (c1 reprP) := by
  intro M H xs ds K Q g rs h c
  obtain ⟨x, d, rfl, hd, ⟨h1, h2, h3⟩, h⟩ := h
  obtain ⟨v, rfl, rx⟩ := rel1 rs
  exact ⟨v, d, rfl, pd_dx g hd rx, h1, h2, h3, c _ h _ H .refl (Dx.str _)⟩
/-- list(xs), a new object -/
def fList (fa : FA) : DEnv → (OC → Prop) → Prop := fun ρ K => fa ρ fun xs => ∃ x d es, xs = [x] ∧ x.pd = some d ∧ (d = .list es ∨ d = .tuple es) ∧ K (.lst es)
theorem imp_list {fa : FA} (σ : L2.St) (H : Hp) (Q : VK) (h : tFr W (fList fa) σ H Q) : tCB (fun xs H Q => ∃ p ys, xs = [V.ref p] ∧ (SqL X.K H p ys ∨ SqT X.K H p ys) ∧ ∀ l, H l = none → Q (.ref l) (upd H l (.lst ys))) (tDA W fa) σ H Q := by
  obtain ⟨M, ρ, K, ge, k, c⟩ := h
  refine ⟨M, ρ, _, ge, k, fun ds hd vs H1 s1 r1 => ?_⟩
  obtain ⟨x, d, es, rfl, hp, hde, hk⟩ := hd
  obtain ⟨v, rfl, rx⟩ := rel1 r1
  rcases hde with rfl | rfl
  · obtain ⟨p, xs, rfl, hp, ra⟩ := pd_lst hp rx
    exact ⟨p, xs, rfl, .inl (SqL.of hp), fun l nl => c _ hk l _ H1 s1 nl (.lst ra)⟩
  · obtain ⟨p, xs, rfl, hp, ra⟩ := pd_tup hp rx
    exact ⟨p, xs, rfl, .inr (SqT.of hp), fun l nl => c _ hk l _ H1 s1 nl (.lst ra)⟩
def tupcP : PyData → (PyData → Prop) → Prop
  | .list xs, K => K (.tuple xs)
  | .tuple xs, K => K (.tuple xs)
  | _, _ => False
theorem sn_tupc : SndC W (fun xs H Q => ∃ p ys, xs = [V.ref p] ∧ ((SqL X.K H p ys ∧ ∀ l, H l = none → Q (.ref l) (upd H l (.tup ys))) ∨ (SqT X.K H p ys ∧ Q (.ref p) H))) (c1 tupcP) := by
  intro M H xs ds K Q g rs h c
  obtain ⟨x, d, rfl, hd, h⟩ := h
  obtain ⟨v, rfl, rx⟩ := rel1 rs
  cases d with
  | list es =>
    obtain ⟨p, xs, rfl, hp, ra⟩ := pd_lst hd rx
    exact ⟨p, xs, rfl, .inl ⟨SqL.of hp, fun l nl => c _ h _ _ (.new nl) (Dx.tup upd_same (Dx.kpAll (Stp.kp g.vol (.new nl)) _ _ ra))⟩⟩
  | tuple es =>
    obtain ⟨p, xs, rfl, hp, ra⟩ := pd_tup hd rx
    exact ⟨p, xs, rfl, .inr ⟨SqT.of hp, c _ h _ H .refl (Dx.tup hp ra)⟩⟩
  | _ => exact h.elim
/-- isinstance of a built-in class -/
def isiP (T : String) (b : PyData → Bool) : List DV → (DV → Prop) → Prop := fun xs K => ∃ x d, xs = [x, .ob (.ty T)] ∧ x.pd = some d ∧ K (.dat (.bool (b d)))
theorem ty_ofDx {K : PySem.W.Frag} {M : Addr → Prop} {H : Hp} {v : V} {D : PyData} (h : Dx M H v D) : TyX K H v (.type (tyN D)) := by
  cases h with
  | non => exact .base .non
  | bl b => exact .base (.bl b)
  | int i => exact .base (.int i)
  | str h => exact .base (.str _)
  | lst n e _ => exact .base (.lst e)
  | tup e _ => exact .base (.tup e)
  | dk n e _ => exact .base (.dK e)
theorem sn_isi {T : String} {b : PyData → Bool} (hb : ∀ d, kitB (tyN d) T = some (b d)) : SndC W (rIsi X.K) (isiP T b) := by
  intro M H xs ds K Q g rs h c
  obtain ⟨x, d, rfl, hd, h⟩ := h
  obtain ⟨v, u, rfl, rx, ru⟩ := rel2 rs
  cases ru
  exact ⟨v, .ty T, .type (tyN d), .type T, b d, rfl, .ty T, ty_ofDx (pd_dx g hd rx), kit_ty (hb d), c _ h _ H .refl (Dx.bl _)⟩
def isIntB : PyData → Bool
  | .int _ => true
  | .bool _ => true
  | _ => false
def isBoolD : PyData → Bool
  | .bool _ => true
  | _ => false
def isListD : PyData → Bool
  | .list _ => true
  | _ => false
def isDictD : PyData → Bool
  | .dict _ => true
  | _ => false
theorem kb_tup : ∀ d : PyData, kitB (tyN d) "tuple" = some (isTup d)
  | .none => by decide +kernel
  | .bool _ => (by decide +kernel : kitB "bool" "tuple" = some false)
  | .int _ => (by decide +kernel : kitB "int" "tuple" = some false)
  | .str _ => (by decide +kernel : kitB "str" "tuple" = some false)
  | .list _ => (by decide +kernel : kitB "list" "tuple" = some false)
  | .tuple _ => (by decide +kernel : kitB "tuple" "tuple" = some true)
  | .dict _ => (by decide +kernel : kitB "dict" "tuple" = some false)
theorem kb_str : ∀ d : PyData, kitB (tyN d) "str" = some (isStrD d)
  | .none => by decide +kernel
  | .bool _ => (by decide +kernel : kitB "bool" "str" = some false)
  | .int _ => (by decide +kernel : kitB "int" "str" = some false)
  | .str _ => (by decide +kernel : kitB "str" "str" = some true)
  | .list _ => (by decide +kernel : kitB "list" "str" = some false)
  | .tuple _ => (by decide +kernel : kitB "tuple" "str" = some false)
  | .dict _ => (by decide +kernel : kitB "dict" "str" = some false)
theorem kb_int : ∀ d : PyData, kitB (tyN d) "int" = some (isIntB d)
  | .none => by decide +kernel
  | .bool _ => (by decide +kernel : kitB "bool" "int" = some true)
  | .int _ => (by decide +kernel : kitB "int" "int" = some true)
  | .str _ => (by decide +kernel : kitB "str" "int" = some false)
  | .list _ => (by decide +kernel : kitB "list" "int" = some false)
  | .tuple _ => (by decide +kernel : kitB "tuple" "int" = some false)
  | .dict _ => (by decide +kernel : kitB "dict" "int" = some false)
theorem kb_bool : ∀ d : PyData, kitB (tyN d) "bool" = some (isBoolD d)
  | .none => by decide +kernel
  | .bool _ => (by decide +kernel : kitB "bool" "bool" = some true)
  | .int _ => (by decide +kernel : kitB "int" "bool" = some false)
  | .str _ => (by decide +kernel : kitB "str" "bool" = some false)
  | .list _ => (by decide +kernel : kitB "list" "bool" = some false)
  | .tuple _ => (by decide +kernel : kitB "tuple" "bool" = some false)
  | .dict _ => (by decide +kernel : kitB "dict" "bool" = some false)
theorem kb_list : ∀ d : PyData, kitB (tyN d) "list" = some (isListD d)
  | .none => by decide +kernel
  | .bool _ => (by decide +kernel : kitB "bool" "list" = some false)
  | .int _ => (by decide +kernel : kitB "int" "list" = some false)
  | .str _ => (by decide +kernel : kitB "str" "list" = some false)
  | .list _ => (by decide +kernel : kitB "list" "list" = some true)
  | .tuple _ => (by decide +kernel : kitB "tuple" "list" = some false)
  | .dict _ => (by decide +kernel : kitB "dict" "list" = some false)
theorem kb_dict : ∀ d : PyData, kitB (tyN d) "dict" = some (isDictD d)
  | .none => by decide +kernel
  | .bool _ => (by decide +kernel : kitB "bool" "dict" = some false)
  | .int _ => (by decide +kernel : kitB "int" "dict" = some false)
  | .str _ => (by decide +kernel : kitB "str" "dict" = some false)
  | .list _ => (by decide +kernel : kitB "list" "dict" = some false)
  | .tuple _ => (by decide +kernel : kitB "tuple" "dict" = some false)
  | .dict _ => (by decide +kernel : kitB "dict" "dict" = some true)
/-- type(x) is T -/
def typeO : List DV → (DV → Prop) → Prop := fun xs K => ∃ x d, xs = [x] ∧ x.pd = some d ∧ K (.ob (.ty (tyN d)))
theorem sn_type : SndC W (rTyX W.vol) typeO := by
  intro M H xs ds K Q g rs h c
  obtain ⟨x, d, rfl, hd, h⟩ := h
  obtain ⟨v, rfl, rx⟩ := rel1 rs
  exact ⟨v, d, rfl, pd_dx g hd rx, c _ h _ H .refl rfl⟩
end
end DL

set_option Elab.async false
set_option linter.all false
set_option maxRecDepth 100000
set_option maxHeartbeats 1000000
/-! Membership, joins, promises under no repr, calls by keywords, over data. -/
namespace DL
open PySem PySem.Spec PyProof.Rows L2 KT KG KX KY KE0 KQ LK GxR PySem.SeqAt
/-! ### an int against any data -/
theorem sub_id : isSubtype (.type "int") (.type "dict") = pure false := by rw [isSubtype_type]; kernel_rfl
theorem sub_di : isSubtype (.type "dict") (.type "int") = pure false := by rw [isSubtype_type]; kernel_rfl
theorem dict_eq_noI (l : Addr) (es : Array DictEntry) (ep : Nat) (dd : Option Addr) (sl : Array (Option Value)) (b : Int) (u : Tok) :
    Meets (Builtin.«dict.__eq__» ⟨[.ref l, .int b u], []⟩) (fun _ R s => s.heap.get? l = some { cls := .type "dict", dict := dd, data := .dict es ep, slots := sl } ∧ R (.ok (.ret .notImplemented)) s) :=
  .of_wp fun prog w A R s h => by obtain ⟨hp, g, d, tk, os⟩ := s; obtain ⟨hl, h⟩ := h; have f1 := sub_id; wp_walk using wpAny_loadPart' hl, wpAny_load hl; exact ⟨_, rfl, h⟩
theorem int_eq_no (b : Int) (u : Tok) (l : Addr) (c : Value) (es : Array DictEntry) (ep : Nat) (dd : Option Addr) (sl : Array (Option Value)) :
    Meets (Builtin.«int.__eq__» ⟨[.int b u, .ref l], []⟩) (fun _ R s => s.heap.get? l = some { cls := c, dict := dd, data := .dict es ep, slots := sl } ∧ R (.ok (.ret .notImplemented)) s) :=
  .of_wp fun prog w A R s h => by obtain ⟨hp, g, d, tk, os⟩ := s; obtain ⟨hl, h⟩ := h; wp_walk using wpAny_loadPart' hl, wpAny_load hl; exact ⟨_, rfl, h⟩
section
variable {A : Around} {s : Shared} {l : Addr}
theorem rc_id (b : Int) (u : Tok) (hl : IsDct s.heap l) (hu : A.units < cLine) : RcAt A s (.int b u) (.ref l) false := fun prog w E Q h => by
  obtain ⟨dd, es, ep, sl, ho⟩ := hl
  exact rc_eq_decline_or (k := false) (typeIs_int s b u) ⟨_, ho, rfl⟩ (by decide) sub_di F.slot_int_eq F.slot_dict_eq_refl
    (fun _ hq => call_meets F.slot_int_eq (typeIs_int s b u) F.entry_int_eq (F.args_int_eq_2 _ _) (int_eq_no b u l (.type "dict") es ep dd sl) ⟨ho, hq⟩)
    (fun _ hq => call_meets F.slot_dict_eq_refl ⟨_, ho, rfl⟩ F.entry_dict_eq (F.args_dict_eq_2 _ _) (dict_eq_noI l es ep dd sl b u) ⟨ho, hq⟩)
    (fun _ hq => wpAny_of_eq (rfl : isSame (.int b u) (.ref l) = pure false) hq) (.inr hu) h
theorem eq_id (b : Int) (u : Tok) (hl : IsDct s.heap l) (hu : A.units < cLine) : EqAt A s (.int b u) (.ref l) false := fun prog w E Q h => by
  unfold eqBool
  refine wpAny_holding ?_
  refine wpAny_ite_split (fun hab => absurd (eq_of_beq hab) nofun) (fun _ => ?_)
  exact wpAny_bind (rc_id b u hl hu prog w E _ (wpAny_truthy_bool h))
end
section
variable {X : Cx} {pins : List (Addr × Obj)} {σ : L2.St} {H : Hp} {s : Shared} {M : Addr → Prop} {A : Around}
theorem eq_anyI (I : Inv X pins σ H s) {v : V} {d : PyData} {u : Value} {z : Int} {t : Tok} (h : Dx M H v d) (r : RelV v u) (hu : A.units < cLine) : EqAt A s (.int z t) u (PyData.eqv (.int z) d) := by
  cases h with
  | non => cases r; exact EqAt.int_none z t
  | bl b => cases r; exact EqAt.int_bool z t b
  | int i => obtain ⟨t', rfl⟩ := r; exact EqAt.int_int z t i t'
  | str x => obtain ⟨t', rfl⟩ := r; exact EqAt.int_str z t x t'
  | lst n e ha =>
    cases r
    obtain ⟨_, its, k, _, _, ho⟩ := I.lstM e
    exact EqAt.int_list (items := its.toArray) z t ⟨_, ho, rfl, k, rfl⟩ hu
  | tup e ha =>
    cases r
    obtain ⟨its, _, p, _⟩ := I.tuple (SqT.of e)
    exact EqAt.int_tuple z t p hu
  | dk n e ha => cases r; exact eq_id z t (dct_of I.hok e) hu
end
section
variable {X : Cx} {k : Nat}
/-- any value in a tuple of ints -/
def rInI (M : Addr → Prop) (K : PySem.W.Frag) : R2 := fun x y H Q => ∃ d p, ∃ zs : List Int, Dx M H x d ∧ y = .ref p ∧ SqT K H p (zs.map V.int) ∧ Q (.bl (zs.any fun z => PyData.eqv (.int z) d)) H
theorem op_inI (hr : Room (k + 1) X.A) (M : Addr → Prop) : OpR X (compareOp .In) (rInI M X.K) := by
  intro pins s σ H x y v u Q I rx ry h
  obtain ⟨d, p, zs, hd, rfl, hp, q⟩ := h
  cases ry
  obtain ⟨its, r, pl, hz⟩ := I.tuple hp
  have hu : X.A.in1.units < cLine := by have := hr.in1.un; omega
  have key : ∀ {zs : List Int} {its : List Value}, Vals (zs.map V.int) its → (∀ y ∈ its, ∃ z t, y = .int z t) ∧ ∀ e : Value → Bool, (∀ z t, e (.int z t) = PyData.eqv (.int z) d) → its.any e = zs.any fun z => PyData.eqv (.int z) d := by
    intro zs
    induction zs with
    | nil =>
      intro its r
      cases r
      exact ⟨(fun y hy => by cases hy), fun e _ => rfl⟩
    | cons a zs ih =>
      intro its r
      cases r with
      | cons r1 r2 =>
        obtain ⟨t, rfl⟩ := r1
        obtain ⟨h1, h2⟩ := ih r2
        exact ⟨fun y hy => (List.mem_cons.mp hy).elim (fun e => ⟨a, t, e⟩) (h1 y), fun e he => by rw [List.any_cons, List.any_cons, he, h2 e he]⟩
  obtain ⟨k1, k2⟩ := key r
  let e : Value → Bool := fun y => match y with
    | .int z _ => PyData.eqv (.int z) d
    | _ => false
  refine SeqAt.in_tupleAt e pl (fun y hy => ?_) ⟨.bl _, H, I, rfl, ?_⟩
  · obtain ⟨z, t, rfl⟩ := k1 y (by simpa using hy)
    exact eq_anyI I hd rx hu
  · rw [show its.toArray.any e = its.any e by simp, k2 e fun _ _ => rfl]
    exact q
end
/-! ### in -/
def flatD : PyData → Bool
  | .none => true
  | .bool _ => true
  | .int _ => true
  | .str _ => true
  | _ => false
def isIntD : PyData → Bool
  | .int _ => true
  | _ => false
/-- x in a list or tuple: what can be told -/
def inOk (d : PyData) : PyData → Bool
  | .tuple es => es.all isStrD || es.all isIntD || (flatD d && es.all flatD)
  | .list es => flatD d && es.all flatD
  | _ => false
def inD (d : PyData) : PyData → Bool
  | .tuple es => es.any fun y => PyData.eqv y d
  | .list es => es.any fun y => PyData.eqv y d
  | _ => false
def inP : PyData → PyData → (PyData → Prop) → Prop := fun d e K => inOk d e = true ∧ K (.bool (inD d e))
/-- .. not in, of flat things -/
def ninP : PyData → PyData → (PyData → Prop) → Prop := fun d e K => (flatD d = true ∧ ∃ es, (e = .tuple es ∨ e = .list es) ∧ es.all flatD = true) ∧ K (.bool (!inD d e))
section
variable {X : Cx} {W : Wd}
theorem strs_of {M : Addr → Prop} {H : Hp} : ∀ {xs : List V} {es : List PyData}, DxAll M H xs es → es.all isStrD = true → ∃ zs : List Str, xs = zs.map V.str ∧ es = zs.map PyData.str
  | [], [], _, _ => ⟨[], rfl, rfl⟩
  | _ :: _, e :: _, h, a => by
    rw [List.all_cons, Bool.and_eq_true] at a
    cases h with
    | cons h1 h2 =>
      obtain ⟨zs, rfl, rfl⟩ := strs_of h2 a.2
      cases e with
      | str z =>
        cases h1
        exact ⟨z :: zs, rfl, rfl⟩
      | _ => cases a.1
  | [], _ :: _, h, _ => by cases h
  | _ :: _, [], h, _ => by cases h
theorem intl_of {M : Addr → Prop} {H : Hp} : ∀ {xs : List V} {es : List PyData}, DxAll M H xs es → es.all isIntD = true → ∃ zs : List Int, xs = zs.map V.int ∧ es = zs.map PyData.int
  | [], [], _, _ => ⟨[], rfl, rfl⟩
  | _ :: _, e :: _, h, a => by
    rw [List.all_cons, Bool.and_eq_true] at a
    cases h with
    | cons h1 h2 =>
      obtain ⟨zs, rfl, rfl⟩ := intl_of h2 a.2
      cases e with
      | int z =>
        cases h1
        exact ⟨z :: zs, rfl, rfl⟩
      | _ => cases a.1
  | [], _ :: _, h, _ => by cases h
  | _ :: _, [], h, _ => by cases h
theorem flat_of {M : Addr → Prop} {H : Hp} {v : V} {d : PyData} (h : Dx M H v d) (f : flatD d = true) : flatV v = true ∧ ∀ {v2 d2}, Dx M H v2 d2 → flatD d2 = true → eqV v2 v = PyData.eqv d2 d := by
  cases h with
  | lst _ _ _ => cases f
  | tup _ _ => cases f
  | dk _ _ _ => cases f
  | non =>
    refine ⟨rfl, fun h2 f2 => ?_⟩
    cases h2 <;> first | rfl | (cases f2)
  | bl b =>
    refine ⟨rfl, fun h2 f2 => ?_⟩
    cases h2 <;> first | rfl | (cases f2)
  | int i =>
    refine ⟨rfl, fun h2 f2 => ?_⟩
    cases h2 <;> first | rfl | (cases f2)
  | str z =>
    refine ⟨rfl, fun h2 f2 => ?_⟩
    cases h2 <;> first | rfl | (cases f2)
theorem flats_of {M : Addr → Prop} {H : Hp} {v : V} {d : PyData} (h : Dx M H v d) (f : flatD d = true) : ∀ {xs : List V} {es : List PyData}, DxAll M H xs es → es.all flatD = true → xs.all flatV = true ∧ inV v xs = es.any fun y => PyData.eqv y d
  | [], [], _, _ => ⟨rfl, rfl⟩
  | _ :: _, e :: _, q, a => by
    rw [List.all_cons, Bool.and_eq_true] at a
    cases q with
    | cons h1 h2 =>
      obtain ⟨r1, r2⟩ := flats_of h f h2 a.2
      obtain ⟨f1, _⟩ := flat_of h1 a.1
      refine ⟨by rw [List.all_cons, f1, r1]; rfl, ?_⟩
      show (eqV _ v || inV v _) = _
      rw [r2, (flat_of h f).2 h1 a.1, List.any_cons]
  | [], _ :: _, q, _ => by cases q
  | _ :: _, [], q, _ => by cases q
theorem op_inX {k : Nat} (hr : Room (k + 1) X.A) (M : Addr → Prop) : OpR X (compareOp .In) (fun x y H Q => rInT M X.K x y H Q ∨ rInI M X.K x y H Q ∨ rIn X.K false x y H Q) := OpR.or (op_inT hr M) (OpR.or (op_inI hr M) op_in_seq)
theorem sn_in : Snd2 W (fun x y H Q => rInT W.vol X.K x y H Q ∨ rInI W.vol X.K x y H Q ∨ rIn X.K false x y H Q) (op2 inP) := by
  intro M H x y dx dy K Q g rx ry h c
  obtain ⟨d, e, hd, he, hok, h⟩ := h
  have r1 := pd_dx g hd rx
  have r2 := pd_dx g he ry
  have fin : ∀ b, b = inD d e → Q (.bl b) H := fun b hb => by
    subst hb
    exact c _ h _ H .refl (Dx.bl _)
  cases e with
  | tuple es =>
    obtain ⟨p, xs, rfl, hp, ra⟩ := Dx.tupOf r2
    have hok : (es.all isStrD || es.all isIntD || (flatD d && es.all flatD)) = true := hok
    rw [Bool.or_eq_true, Bool.or_eq_true, Bool.and_eq_true] at hok
    rcases hok with (hs | hi) | ⟨f1, f2⟩
    · obtain ⟨zs, rfl, rfl⟩ := strs_of ra hs
      refine .inl ⟨d, p, zs, r1, rfl, SqT.of hp, fin _ ?_⟩
      show _ = (zs.map PyData.str).any _
      rw [List.any_map]
      congr 1
      funext z
      show isT x z = PyData.eqv (.str z) d
      rw [isT_eqv r1]
      exact PySem.W.eqv_comm _ _
    · obtain ⟨zs, rfl, rfl⟩ := intl_of ra hi
      refine .inr (.inl ⟨d, p, zs, r1, rfl, SqT.of hp, fin _ ?_⟩)
      show _ = (zs.map PyData.int).any _
      rw [List.any_map]
      rfl
    · obtain ⟨q1, q2⟩ := flats_of r1 f1 ra f2
      exact .inr (.inr ⟨p, xs, rfl, .inr (SqT.of hp), (flat_of r1 f1).1, q1, fin _ q2⟩)
  | list es =>
    have hok : (flatD d && es.all flatD) = true := hok
    rw [Bool.and_eq_true] at hok
    cases r2 with
    | lst n e ra =>
      obtain ⟨q1, q2⟩ := flats_of r1 hok.1 ra hok.2
      exact .inr (.inr ⟨_, _, rfl, .inl (SqL.of e), (flat_of r1 hok.1).1, q1, fin _ q2⟩)
  | _ => cases hok
theorem sn_notIn : Snd2 W (rIn X.K true) (op2 ninP) := by
  intro M H x y dx dy K Q g rx ry h c
  obtain ⟨d, e, hd, he, ⟨f1, es, hes, f2⟩, h⟩ := h
  have r1 := pd_dx g hd rx
  have r2 := pd_dx g he ry
  rcases hes with rfl | rfl
  · obtain ⟨p, xs, rfl, hp, ra⟩ := Dx.tupOf r2
    obtain ⟨q1, q2⟩ := flats_of r1 f1 ra f2
    refine ⟨p, xs, rfl, .inr (SqT.of hp), (flat_of r1 f1).1, q1, c _ h _ H .refl ?_⟩
    show Dx M H (.bl (!inV x xs)) _
    rw [q2]
    exact Dx.bl _
  · cases r2 with
    | lst n e ra =>
      obtain ⟨q1, q2⟩ := flats_of r1 f1 ra f2
      refine ⟨_, _, rfl, .inl (SqL.of e), (flat_of r1 f1).1, q1, c _ h _ H .refl ?_⟩
      show Dx M H (.bl (!inV x _)) _
      rw [q2]
      exact Dx.bl _
/-- in a tuple of texts of the top -/
def inG : DV → DV → (DV → Prop) → Prop := fun x y K => ∃ d zs, x.pd = some d ∧ y = .gts zs ∧ K (.dat (.bool (zs.any fun z => PyData.eqv d (.str z))))
theorem sn_inG (hK : W.K = X.K) : Snd2 W (rInT W.vol X.K) inG := by
  intro M H x y dx dy K Q g rx ry h c
  obtain ⟨d, zs, hd, rfl, h⟩ := h
  have r1 := pd_dx g hd rx
  obtain ⟨p, rfl, hp⟩ := ry
  rw [hK] at hp
  refine ⟨d, p, zs, r1, rfl, hp H, c _ h _ H .refl ?_⟩
  rw [show (fun z => isT x z) = fun z => PyData.eqv d (.str z) from funext fun z => isT_eqv r1]
  exact Dx.bl _
/-! ### type(x) is T -/
def tyIs : DV → DV → (DV → Prop) → Prop := fun x y K => ∃ a b, x = .ob (.ty a) ∧ y = .ob (.ty b) ∧ K (.dat (.bool (decide (a = b))))
theorem sn_tyIs : Snd2 W (fun x y H Q => ∃ a b, x = .ty a ∧ y = .ty b ∧ Q (.bl (decide (a = b))) H) tyIs := by
  intro M H x y dx dy K Q g rx ry h c
  obtain ⟨a, b, rfl, rfl, h⟩ := h
  cases rx
  cases ry
  exact ⟨a, b, rfl, rfl, c _ h _ H .refl (Dx.bl _)⟩
theorem ty_intD : ∀ d : PyData, decide (tyN d = "int") = isIntD d
  | .none => by decide +kernel
  | .bool _ => (by decide +kernel : decide ("bool" = "int") = false)
  | .int _ => (by decide +kernel : decide ("int" = "int") = true)
  | .str _ => (by decide +kernel : decide ("str" = "int") = false)
  | .list _ => (by decide +kernel : decide ("list" = "int") = false)
  | .tuple _ => (by decide +kernel : decide ("tuple" = "int") = false)
  | .dict _ => (by decide +kernel : decide ("dict" = "int") = false)
/-! ### built-ins and methods called -/
theorem de_cb {e : Expr} {r : List V → Hp → VK → Prop} {o : List DV → (DV → Prop) → Prop} {fa : FA} (h : PE X e (tCB r (tDA W fa))) (s : SndC W r o) : PE X e (tD W (fCall o fa)) := h.imp (impC s)
theorem df_list {e : Expr} {fa : FA} (h : PE X e (tCB (fun xs H Q => ∃ p ys, xs = [V.ref p] ∧ (SqL X.K H p ys ∨ SqT X.K H p ys) ∧ ∀ l, H l = none → Q (.ref l) (upd H l (.lst ys))) (tDA W fa))) : PE X e (tFr W (fList fa)) := h.imp imp_list
theorem all_strs {M : Addr → Prop} {H : Hp} : ∀ {xs : List V} {zs : List Str}, DxAll M H xs (zs.map PyData.str) → xs = zs.map V.str
  | [], [], _ => rfl
  | _ :: _, _ :: _, h => by
    cases h with
    | cons h1 h2 =>
      cases h1
      rw [all_strs h2]
      rfl
  | [], _ :: _, h => by cases h
  | _ :: _, [], h => by cases h
/-- a text's method of no or one argument -/
def fM0 (p : Str → (PyData → Prop) → Prop) (f : FE) : FE := fun ρ K => f ρ fun x => ∃ a, x = .dat (.str a) ∧ p a fun r => K (.dat r)
def fM1 (p : Str → PyData → (PyData → Prop) → Prop) (f g : FE) : FE := fun ρ K => f ρ fun x => ∃ a, x = .dat (.str a) ∧ g ρ fun y => ∃ d, y.pd = some d ∧ p a d fun r => K (.dat r)
def SndM0 (W : Wd) (r : V → List V → Hp → VK → Prop) (p : Str → (PyData → Prop) → Prop) : Prop := ∀ {M H a K Q}, GoodH W M H → (p a fun r => K (.dat r)) → Cont W M H K Q → r (.str a) [] H Q
def SndM1 (W : Wd) (r : V → List V → Hp → VK → Prop) (p : Str → PyData → (PyData → Prop) → Prop) : Prop := ∀ {M H a y dy d K Q}, GoodH W M H → RelDV W M H y dy → dy.pd = some d → (p a d fun r => K (.dat r)) → Cont W M H K Q → r (.str a) [y] H Q
theorem de_m0 {e : Expr} {r : V → List V → Hp → VK → Prop} {p : Str → (PyData → Prop) → Prop} {f : FE} (h : PE X e (tM0 r (tD W f))) (s : SndM0 W r p) : PE X e (tD W (fM0 p f)) := h.imp fun σ H Q ⟨M, ρ, K, ge, k, c⟩ => by
  refine ⟨M, ρ, _, ge, k, fun dx hx v H1 s1 r1 => ?_⟩
  obtain ⟨a, rfl, hk⟩ := hx
  cases r1
  exact ⟨⟨a, rfl⟩, s (ge.stp s1).h hk (c.stp s1)⟩
theorem de_m1 {e : Expr} {r : V → List V → Hp → VK → Prop} {p : Str → PyData → (PyData → Prop) → Prop} {f g : FE} (h : PE X e (tM1 r (tD W f) (tD W g))) (s : SndM1 W r p) : PE X e (tD W (fM1 p f g)) := h.imp fun σ H Q ⟨M, ρ, K, ge, k, c⟩ => by
  refine ⟨M, ρ, _, ge, k, fun dx hx v H1 s1 r1 => ?_⟩
  obtain ⟨a, rfl, hk⟩ := hx
  cases r1
  refine ⟨⟨a, rfl⟩, M, ρ, _, ge.stp s1, hk, fun dy hy u H2 s2 r2 => ?_⟩
  obtain ⟨d, hd, hp⟩ := hy
  exact s ((ge.stp s1).stp s2).h r2 hd hp (c.stp (s1.trans s2))
/-- sep.join(xs) -/
def joinP (a : Str) (d : PyData) (K : PyData → Prop) : Prop := ∃ zs : List Str, (d = .list (zs.map PyData.str) ∨ d = .tuple (zs.map PyData.str)) ∧ (zs.map (·.length)).sum + zs.length * a.length ≤ 16777216 ∧ K (.str (Txt.join a zs))
theorem sn_join : SndM1 W (fun x xs H Q => ∃ a p, ∃ ys : List Str, x = V.str a ∧ xs = [V.ref p] ∧ (SqL X.K H p (ys.map V.str) ∨ SqT X.K H p (ys.map V.str)) ∧ (ys.map (·.length)).sum + ys.length * a.length ≤ 16777216 ∧ Q (V.str (Txt.join a ys)) H) joinP := by
  intro M H a y dy d K Q g ry hd h c
  obtain ⟨zs, hz, hl, k⟩ := h
  rcases hz with rfl | rfl
  · obtain ⟨p, xs, rfl, hp, ra⟩ := pd_lst hd ry
    rw [all_strs ra] at hp
    exact ⟨a, p, zs, rfl, rfl, .inl (SqL.of hp), hl, c _ k _ H .refl (Dx.str _)⟩
  · obtain ⟨p, xs, rfl, hp, ra⟩ := pd_tup hd ry
    rw [all_strs ra] at hp
    exact ⟨a, p, zs, rfl, rfl, .inr (SqT.of hp), hl, c _ k _ H .refl (Dx.str _)⟩
end
/-! ### promises under no repr -/
section
variable {P : Program} {w : World} {K : PySem.W.Frag} {mg : Str → Option Value} {base : Heap}
theorem okDG {x : Str} {st : Stmt} {fd : FuncData} {N ps : List Str} {k : Nat} {WP : Wc → Prop} {F : FnD} (D : FnP K x st (He.fAd K (x, none)) fd) (S : FnScope N ps (defScope st)) (len : ∀ ds Kk KE, F ds Kk KE → ds.length = ps.length)
    (body : ∀ (W : Wd) (cdv : Value) (A : Around) (outer : List Env) (s : Shared) (E : XK), WP W.toWc → A.guards = some [] → Room k (A.deeper (envOfC x (defScope st) s.heap.objs.size (He.fAd K (x, none)) cdv)) →
      ∃ g, PSs (cxOf CX0 P w K mg base N x (defScope st) (He.fAd K (x, none)) cdv A outer s W.H0 E).nox (defBody st) (tDS W g) ∧ ∀ ds Kk KE, F ds Kk KE → g { nx := fun _ => Kk .none, rt := Kk } (start0 N.length ds)) : FnG P w K mg base (k + 1) (He.fAd K (x, none)) fd ps (spD WP F) := by
  refine KT.okG (fun_of D) S (fun vs H Q E h => ?_) (fun cdv A outer s H vs Q E hA hr h => ?_)
  · obtain ⟨W, ds, Kk, KE, _, _, _, r, _, f, _⟩ := h
    rw [r.length]
    exact len ds Kk KE f
  · obtain ⟨W, ds, Kk, KE, hW, rfl, gh, r, no, f, hQ, hE⟩ := h
    obtain ⟨g, hp, hg⟩ := body W cdv A outer s E hW hA hr
    refine ⟨_, hp, [], W.M0, _, _, good_start gh r no, hg ds Kk KE f, ⟨fun {M σ H ρ} gd k => ?_, fun _ k => k.elim, fun _ k => k.elim, fun s1 r1 k => hQ _ k _ _ s1 r1⟩⟩
    exact hQ _ k _ _ gd.e.h.stp Dx.non
end
/-! ### calls by keywords -/
section
variable {X : Cx} {W : Wd} {e : Expr} {kws : List Keyword} {nm : Option Str} {kpos : Pos} {f : FE} {g : FA}
theorem _root_.L2.PK.imp {t t' : TA} (h : PK X kws t) (k : ∀ σ H Q, t' σ H Q → t σ H Q) : PK X kws t' := ⟨fun pos pins s σ H Q I q => h.run pos pins s σ H Q I (k σ H Q q)⟩
theorem dk_nil : PK X [] (tDA W fNil) := pk_nil.imp fun σ H Q ⟨M, ρ, K, ge, k, q⟩ => q [] k [] H .refl trivial
theorem dk_cons (h1 : PE X e (tD W f)) (h2 : PK X kws (tDA W g)) : PK X (⟨nm, e, kpos⟩ :: kws) (tDA W (fCons f g)) := (pk_cons h1 h2).imp fun σ H Q ⟨M, ρ, K, ge, k, q⟩ => by
  refine ⟨M, ρ, _, ge, k, fun dx hx v H1 s1 r1 => ⟨M, ρ, _, ge.stp s1, hx, fun ds hd vs H2 s2 r2 => ?_⟩⟩
  exact q _ hd _ H2 (s1.trans s2) ⟨r1.stp ge.h.vol s2, r2⟩
end
end DL

set_option Elab.async false
set_option linter.all false
set_option maxRecDepth 100000
set_option maxHeartbeats 1000000
/-! More statements over data: several names at once, stores into lists, the joining of ways. -/
namespace DL
open PySem PySem.Spec PyProof.Rows L2 KT KG KX KY KE0 KQ LK GxR
section
variable {X : Cx} {W : Wd} {st : Stmt} {sts : List Stmt} {e : Expr} {pos : Pos} {g g2 : FS} {f : FE}
/-- the ways behind a statement, joined -/
def sCut (g g2 : FS) : FS := fun E ρ => ∃ Mid : DEnv → Prop, g { E with nx := Mid } ρ ∧ ∀ ρ', Mid ρ' → g2 E ρ'
theorem dss_cut (h1 : PS X st (tDS W g)) (h2 : PSs X sts (tDS W g2)) : PSs X (st :: sts) (tDS W (sCut g g2)) := (pss_cons h1 h2).imp fun D σ H ⟨L, M, ρ, E, gd, ⟨Mid, k, kk⟩, le⟩ =>
  ⟨L, M, ρ, { E with nx := Mid }, gd, k, fun gd' k' => ⟨L, _, _, E, gd', kk _ k', le⟩, le.bk, le.ct, le.rt⟩
/-- a, b = x, y -/
def sPar (i j : Nat) (fa : FA) : FS := fun E ρ => fa ρ fun xs => ∃ x y, xs = [x, y] ∧ x.isOwn = false ∧ y.isOwn = false ∧ E.nx ((ρ.set i (some x)).set j (some y))
theorem ds_par {i j : Nat} {fa : FA} (h : PS X st (tPar i j (tDA W fa))) : PS X st (tDS W (sPar i j fa)) := h.imp fun D σ H ⟨L, M, ρ, E, gd, k, le⟩ =>
  ⟨M, ρ, _, gd.e, k, fun ds hd vs H1 s1 r1 => by
    obtain ⟨x, y, rfl, n1, n2, hk⟩ := hd
    obtain ⟨v, u, rfl, r, r2⟩ := rel2 r1
    exact ⟨v, u, rfl, le.nx (((gd.to s1).set r n1).set r2 n2) hk⟩⟩
def sPar3 (i j l : Nat) (fa : FA) : FS := fun E ρ => fa ρ fun xs => ∃ x y z, xs = [x, y, z] ∧ x.isOwn = false ∧ y.isOwn = false ∧ z.isOwn = false ∧ E.nx (((ρ.set i (some x)).set j (some y)).set l (some z))
theorem ds_par3 {i j l : Nat} {fa : FA} (h : PS X st (tPar3 i j l (tDA W fa))) : PS X st (tDS W (sPar3 i j l fa)) := h.imp fun D σ H ⟨L, M, ρ, E, gd, k, le⟩ =>
  ⟨M, ρ, _, gd.e, k, fun ds hd vs H1 s1 r1 => by
    obtain ⟨x, y, z, rfl, n1, n2, n3, hk⟩ := hd
    obtain ⟨v, u, t, rfl, r, r2, r3⟩ := rel3 r1
    exact ⟨v, u, t, rfl, le.nx ((((gd.to s1).set r n1).set r2 n2).set r3 n3) hk⟩⟩
/-- a, b, c = x, [..], z: b's list is new -/
def sPar3DFD (i j l : Nat) (f : FE) (g : DEnv → (OC → Prop) → Prop) (h : FE) : FS := fun E ρ => f ρ fun x => g ρ fun c => h ρ fun z => x.isOwn = false ∧ z.isOwn = false ∧ E.nx (((ρ.set j (some (.own c))).set i (some x)).set l (some z))
theorem GoodE.own_ne {M : Addr → Prop} {H : Hp} {σ : L2.St} {ρ : DEnv} {p : Addr} (ge : GoodE W M H σ ρ) (np : H p = none) {j : Nat} {c : OC} {a : Addr} (h : ρ[j]? = some (some (.own c))) (hs : σ[j]? = some (some (.ref a))) : a ≠ p := by
  obtain ⟨v, e, b, u, e2, ho, _⟩ := ge.at_ j _ h
  rw [hs] at e
  cases e
  cases e2
  exact ne_of_none ho np
theorem RelDV.besideOld {M : Addr → Prop} {H H1 : Hp} {v : V} {dv : DV} {p : Addr} {o : HO} (g : GoodH W M H) (np : H p = none) (r : RelDV W M H v dv) : RelDV W (fun a => M a ∨ a = p) (upd H p o) v dv := r.beside g np
theorem ds_par3DFD {i j l : Nat} {f h : FE} {gf : DEnv → (OC → Prop) → Prop} (hij : i ≠ j) (hjl : j ≠ l) (hs : PS X st (tPar3 i j l (tCons (tD W f) (tCons (tFr W gf) (tCons (tD W h) tNil))))) : PS X st (tDS W (sPar3DFD i j l f gf h)) := hs.imp fun D σ H ⟨L, M, ρ, E, gd, k, le⟩ => by
  refine ⟨M, ρ, _, gd.e, k, fun dx hx v H1 s1 r1 => ⟨M, ρ, _, gd.e.stp s1, hx, fun c hc p o H2 s2 np ro => ?_⟩⟩
  have g2 := (gd.to s1).to s2
  have rx := (r1.stp gd.e.h.vol s2)
  have fr := g2.fresh (i := j) np ro
  have ge := g2.e.beside (o := o) np
  refine ⟨_, ρ, _, ge, hc, fun dz hz u H3 s3 r3 => ?_⟩
  obtain ⟨n1, n2, hk⟩ := hz
  refine ⟨v, .ref p, u, rfl, ?_⟩
  have gA := fr.to s3
  have gB := gA.set (i := i) ((rx.beside g2.e.h np).stp fr.e.h.vol s3) n1
  have gC := gB.set (i := l) r3 n2
  have e1 : ((σ.set j (some (V.ref p))).set i (some v)).set l (some u) = ((σ.set i (some v)).set j (some (V.ref p))).set l (some u) := by rw [List.set_comm _ _ hij]
  rw [e1] at gC
  exact le.nx gC hk
/-- a, b = [..], y -/
def sParFD (i j : Nat) (g : DEnv → (OC → Prop) → Prop) (h : FE) : FS := fun E ρ => g ρ fun c => h ρ fun z => z.isOwn = false ∧ E.nx ((ρ.set i (some (.own c))).set j (some z))
theorem ds_parFD {i j : Nat} {h : FE} {gf : DEnv → (OC → Prop) → Prop} (hs : PS X st (tPar i j (tCons (tFr W gf) (tCons (tD W h) tNil)))) : PS X st (tDS W (sParFD i j gf h)) := hs.imp fun D σ H ⟨L, M, ρ, E, gd, k, le⟩ => by
  refine ⟨M, ρ, _, gd.e, k, fun c hc p o H2 s2 np ro => ?_⟩
  have g2 := gd.to s2
  have fr := g2.fresh (i := i) np ro
  have ge := g2.e.beside (o := o) np
  refine ⟨_, ρ, _, ge, hc, fun dz hz u H3 s3 r3 => ?_⟩
  exact ⟨.ref p, u, rfl, le.nx ((fr.to s3).set (i := j) r3 hz.1) hz.2⟩
/-- a, b = x, [..] -/
def sParDF (i j : Nat) (f : FE) (g : DEnv → (OC → Prop) → Prop) : FS := fun E ρ => f ρ fun x => g ρ fun c => x.isOwn = false ∧ E.nx ((ρ.set i (some x)).set j (some (.own c)))
theorem ds_parDF {i j : Nat} {f : FE} {gf : DEnv → (OC → Prop) → Prop} (hs : PS X st (tPar i j (tCons (tD W f) (tCons (tFr W gf) tNil)))) : PS X st (tDS W (sParDF i j f gf)) := hs.imp fun D σ H ⟨L, M, ρ, E, gd, k, le⟩ => by
  refine ⟨M, ρ, _, gd.e, k, fun dx hx v H1 s1 r1 => ⟨M, ρ, _, gd.e.stp s1, hx, fun c hc p o H2 s2 np ro => ?_⟩⟩
  refine ⟨v, .ref p, rfl, ?_⟩
  have g2 := ((gd.to s1).to s2).set (i := i) (r1.stp gd.e.h.vol s2) hc.1
  exact le.nx (g2.fresh (i := j) np ro) hc.2
/-- xs.extend(ys) -/
def sExt (i : Nat) (f : FE) : FS := fun E ρ => ∃ ds, ρ[i]? = some (some (.own (.lst ds))) ∧ f ρ fun x => ∃ es, x = .dat (.list es) ∧ ds.length + es.length ≤ sizeLine ∧ E.nx (ρ.set i (some (.own (.lst (ds ++ es)))))
theorem ds_extend {i : Nat} {e : Expr} (h : PE X e (tBM X.K "list" rExtend (tVar i) (tCons (tD W f) tNil))) (hs : swapsWith e none pos.line X.env = pure false := by rfl) : PS X (.Expr e pos) (tDS W (sExt i f)) :=
  (ps_expr h hs).imp fun D σ H ⟨L, M, ρ, E, gd, ⟨ds, hi, k⟩, le⟩ => by
  obtain ⟨v, hσ, r⟩ := gd.e.at_ i _ hi
  obtain ⟨a, xs, rfl, ha, _⟩ := own_lst r
  refine ⟨_, hσ, .inl ⟨rfl, _, SqL.of ha⟩, M, ρ, _, gd.e, k, fun dv hd y H1 s1 r1 => ?_⟩
  obtain ⟨es, rfl, hl, hk⟩ := hd
  have gd1 := gd.to s1
  obtain ⟨v, hσ1, r2⟩ := gd1.e.at_ i _ hi
  rw [hσ] at hσ1
  cases hσ1
  obtain ⟨a', xs', e', ha', ra, ma, na⟩ := own_lst r2
  cases e'
  cases (show Dx M H1 y (.list es) from r1) with
  | lst n eb rb =>
    refine ⟨_, _, _, _, rfl, rfl, ha', eb, by rw [DxAll.length ra, DxAll.length rb]; exact hl, ?_⟩
    exact le.nx (gd1.mut hi hσ ha' (.lst ra) ma na (.lst (ra.app rb))) hk
/-- xs[i] = e, of an own list -/
def sPut (i : Nat) (f fi : FE) : FS := fun E ρ => ∃ ds, ρ[i]? = some (some (.own (.lst ds))) ∧ f ρ fun x => fi ρ fun k => ∃ d n j, x = .dat d ∧ k = .dat (.int n) ∧ ixN ds.length n = some j ∧ E.nx (ρ.set i (some (.own (.lst (ds.set j d)))))
theorem DxAll.set {M : Addr → Prop} {H : Hp} : ∀ {vs : List V} {ds : List PyData} {j : Nat} {v : V} {d : PyData}, DxAll M H vs ds → Dx M H v d → DxAll M H (vs.set j v) (ds.set j d)
  | [], [], _, _, _, h, _ => h
  | _ :: _, _ :: _, 0, _, _, h, x => by
    cases h with
    | cons h1 h2 => exact .cons x h2
  | _ :: _, _ :: _, j + 1, _, _, h, x => by
    cases h with
    | cons h1 h2 => exact .cons h1 (DxAll.set h2 x)
  | [], _ :: _, _, _, _, h, _ => by cases h
  | _ :: _, [], _, _, _, h, _ => by cases h
theorem ds_put {i : Nat} {fi : FE} (h : PS X st (tAsg (tD W f) (gSub (tVar i) (tD W fi) rSetL))) : PS X st (tDS W (sPut i f fi)) := h.imp fun D σ H ⟨L, M, ρ, E, gd, ⟨ds, hi, k⟩, le⟩ => by
  obtain ⟨v, hσ, _⟩ := gd.e.at_ i _ hi
  refine ⟨M, ρ, _, gd.e, k, fun dx hx y H1 s1 r1 => ⟨v, hσ, M, ρ, _, gd.e.stp s1, hx, fun dk hk u H2 s2 r2 => ?_⟩⟩
  obtain ⟨d, n, j, rfl, rfl, hj, hk⟩ := hk
  cases relI r2
  have gd2 := (gd.to s1).to s2
  obtain ⟨v', hσ1, r3⟩ := gd2.e.at_ i _ hi
  rw [hσ] at hσ1
  cases hσ1
  obtain ⟨a, xs, rfl, ha, ra, ma, na⟩ := own_lst r3
  refine ⟨a, xs, n, j, rfl, rfl, ha, by rw [DxAll.length ra]; exact hj, ?_⟩
  exact le.nx (gd2.mut hi hσ ha (.lst ra) ma na (.lst (DxAll.set ra (r1.stp gd.e.h.vol s2)))) hk
/-- name op= e -/
def sAug (i : Nat) (o : DV → DV → (DV → Prop) → Prop) (f : FE) : FS := fun E ρ => ∃ x, ρ[i]? = some (some x) ∧ f ρ fun y => o x y fun z => z.isOwn = false ∧ E.nx (ρ.set i (some z))
theorem ds_aug {i : Nat} {ti : TIp} {o : DV → DV → (DV → Prop) → Prop} (s : Snd2 W ti o) (h : PS X st (tAug i (tD W f) ti)) : PS X st (tDS W (sAug i o f)) := h.imp fun D σ H ⟨L, M, ρ, E, gd, ⟨x, hi, k⟩, le⟩ => by
  obtain ⟨v, hσ, r⟩ := gd.e.at_ i _ hi
  refine ⟨v, hσ, M, ρ, _, gd.e, k, fun dy hy u H1 s1 r1 => ?_⟩
  exact s (gd.to s1).e.h (r.stp gd.e.h.vol s1) r1 hy fun dz hz t H2 s2 r2 => le.nx (((gd.to s1).to s2).set r2 hz.1) hz.2
theorem sn_ipadd : Snd2 W (ipI fun i j => i + j) (op2 (int0P fun a b => .int (a + b))) := sn_int0
theorem sn_ipsub : Snd2 W (ipI fun i j => i - j) (op2 (int0P fun a b => .int (a - b))) := sn_int0
theorem ip_addD : PIp X .Add (ipI fun i j => i + j) := ip_add
end
end DL

set_option Elab.async false
set_option linter.all false
set_option maxRecDepth 100000
set_option maxHeartbeats 1000000
/-! Short words for goals over data. -/
namespace DL
open PySem PySem.Spec PyProof.Rows L2 KT KG KX KY KE0 KQ LK GxR
theorem le_s0 : (0 ≤ sizeLine) = True := eq_true (by rw [sizeLine_eq]; omega)
theorem le_s1 : (1 ≤ sizeLine) = True := eq_true (by rw [sizeLine_eq]; omega)
theorem le_s2 : (2 ≤ sizeLine) = True := eq_true (by rw [sizeLine_eq]; omega)
theorem le_s3 : (3 ≤ sizeLine) = True := eq_true (by rw [sizeLine_eq]; omega)
theorem le_s4 : (4 ≤ sizeLine) = True := eq_true (by rw [sizeLine_eq]; omega)
theorem le_s5 : (5 ≤ sizeLine) = True := eq_true (by rw [sizeLine_eq]; omega)
theorem le_s6 : (6 ≤ sizeLine) = True := eq_true (by rw [sizeLine_eq]; omega)
theorem le_s7 : (7 ≤ sizeLine) = True := eq_true (by rw [sizeLine_eq]; omega)
theorem le_s8 : (8 ≤ sizeLine) = True := eq_true (by rw [sizeLine_eq]; omega)
theorem le_s9 : (9 ≤ sizeLine) = True := eq_true (by rw [sizeLine_eq]; omega)
theorem le_s10 : (10 ≤ sizeLine) = True := eq_true (by rw [sizeLine_eq]; omega)
theorem le_s11 : (11 ≤ sizeLine) = True := eq_true (by rw [sizeLine_eq]; omega)
theorem le_s12 : (12 ≤ sizeLine) = True := eq_true (by rw [sizeLine_eq]; omega)
theorem le_s13 : (13 ≤ sizeLine) = True := eq_true (by rw [sizeLine_eq]; omega)
theorem le_s14 : (14 ≤ sizeLine) = True := eq_true (by rw [sizeLine_eq]; omega)
theorem le_s15 : (15 ≤ sizeLine) = True := eq_true (by rw [sizeLine_eq]; omega)
theorem le_s16 : (16 ≤ sizeLine) = True := eq_true (by rw [sizeLine_eq]; omega)
theorem le_s17 : (17 ≤ sizeLine) = True := eq_true (by rw [sizeLine_eq]; omega)
theorem le_s18 : (18 ≤ sizeLine) = True := eq_true (by rw [sizeLine_eq]; omega)
theorem le_s19 : (19 ≤ sizeLine) = True := eq_true (by rw [sizeLine_eq]; omega)
theorem le_s20 : (20 ≤ sizeLine) = True := eq_true (by rw [sizeLine_eq]; omega)
theorem le_s21 : (21 ≤ sizeLine) = True := eq_true (by rw [sizeLine_eq]; omega)
theorem le_s22 : (22 ≤ sizeLine) = True := eq_true (by rw [sizeLine_eq]; omega)
theorem le_s23 : (23 ≤ sizeLine) = True := eq_true (by rw [sizeLine_eq]; omega)
theorem le_s24 : (24 ≤ sizeLine) = True := eq_true (by rw [sizeLine_eq]; omega)
theorem le_s25 : (25 ≤ sizeLine) = True := eq_true (by rw [sizeLine_eq]; omega)
theorem le_s26 : (26 ≤ sizeLine) = True := eq_true (by rw [sizeLine_eq]; omega)
theorem le_s27 : (27 ≤ sizeLine) = True := eq_true (by rw [sizeLine_eq]; omega)
theorem le_s28 : (28 ≤ sizeLine) = True := eq_true (by rw [sizeLine_eq]; omega)
theorem le_s29 : (29 ≤ sizeLine) = True := eq_true (by rw [sizeLine_eq]; omega)
theorem le_s30 : (30 ≤ sizeLine) = True := eq_true (by rw [sizeLine_eq]; omega)
theorem le_s31 : (31 ≤ sizeLine) = True := eq_true (by rw [sizeLine_eq]; omega)
theorem le_s32 : (32 ≤ sizeLine) = True := eq_true (by rw [sizeLine_eq]; omega)
theorem le_s33 : (33 ≤ sizeLine) = True := eq_true (by rw [sizeLine_eq]; omega)
theorem le_s34 : (34 ≤ sizeLine) = True := eq_true (by rw [sizeLine_eq]; omega)
theorem le_s35 : (35 ≤ sizeLine) = True := eq_true (by rw [sizeLine_eq]; omega)
theorem le_s36 : (36 ≤ sizeLine) = True := eq_true (by rw [sizeLine_eq]; omega)
theorem le_s37 : (37 ≤ sizeLine) = True := eq_true (by rw [sizeLine_eq]; omega)
theorem le_s38 : (38 ≤ sizeLine) = True := eq_true (by rw [sizeLine_eq]; omega)
theorem le_s39 : (39 ≤ sizeLine) = True := eq_true (by rw [sizeLine_eq]; omega)
theorem le_s40 : (40 ≤ sizeLine) = True := eq_true (by rw [sizeLine_eq]; omega)
theorem le_s41 : (41 ≤ sizeLine) = True := eq_true (by rw [sizeLine_eq]; omega)
theorem le_s42 : (42 ≤ sizeLine) = True := eq_true (by rw [sizeLine_eq]; omega)
theorem le_s43 : (43 ≤ sizeLine) = True := eq_true (by rw [sizeLine_eq]; omega)
theorem le_s44 : (44 ≤ sizeLine) = True := eq_true (by rw [sizeLine_eq]; omega)
theorem le_s45 : (45 ≤ sizeLine) = True := eq_true (by rw [sizeLine_eq]; omega)
theorem le_s46 : (46 ≤ sizeLine) = True := eq_true (by rw [sizeLine_eq]; omega)
theorem le_s47 : (47 ≤ sizeLine) = True := eq_true (by rw [sizeLine_eq]; omega)
theorem le_s48 : (48 ≤ sizeLine) = True := eq_true (by rw [sizeLine_eq]; omega)
theorem le_s49 : (49 ≤ sizeLine) = True := eq_true (by rw [sizeLine_eq]; omega)
theorem le_s50 : (50 ≤ sizeLine) = True := eq_true (by rw [sizeLine_eq]; omega)
theorem le_s51 : (51 ≤ sizeLine) = True := eq_true (by rw [sizeLine_eq]; omega)
theorem le_s52 : (52 ≤ sizeLine) = True := eq_true (by rw [sizeLine_eq]; omega)
theorem le_s53 : (53 ≤ sizeLine) = True := eq_true (by rw [sizeLine_eq]; omega)
theorem le_s54 : (54 ≤ sizeLine) = True := eq_true (by rw [sizeLine_eq]; omega)
theorem le_s55 : (55 ≤ sizeLine) = True := eq_true (by rw [sizeLine_eq]; omega)
theorem le_s56 : (56 ≤ sizeLine) = True := eq_true (by rw [sizeLine_eq]; omega)
theorem le_s57 : (57 ≤ sizeLine) = True := eq_true (by rw [sizeLine_eq]; omega)
theorem le_s58 : (58 ≤ sizeLine) = True := eq_true (by rw [sizeLine_eq]; omega)
theorem le_s59 : (59 ≤ sizeLine) = True := eq_true (by rw [sizeLine_eq]; omega)
theorem le_s60 : (60 ≤ sizeLine) = True := eq_true (by rw [sizeLine_eq]; omega)
theorem le_s61 : (61 ≤ sizeLine) = True := eq_true (by rw [sizeLine_eq]; omega)
theorem le_s62 : (62 ≤ sizeLine) = True := eq_true (by rw [sizeLine_eq]; omega)
theorem le_s63 : (63 ≤ sizeLine) = True := eq_true (by rw [sizeLine_eq]; omega)
theorem le_s64 : (64 ≤ sizeLine) = True := eq_true (by rw [sizeLine_eq]; omega)
theorem ocpd_lst (ds : List PyData) : (OC.lst ds).pd = .list ds := rfl
theorem ocpd_dk (ds : List (Key × PyData)) : (OC.dk ds).pd = .dict (ds.map fun p => (keyD p.1, p.2)) := rfl
theorem eqOk_int (a b : Int) : eqOk (.int a) (.int b) = true := rfl
theorem eqOk_str (d : PyData) (z : Str) : eqOk d (.str z) = true := by
  unfold eqOk
  simp [isStrD]
theorem eqOk_emp (xs : List PyData) : eqOk (.tuple xs) (.tuple []) = true := by
  unfold eqOk
  simp [isLT, isEmp]
theorem eqOk_empL (xs : List PyData) : eqOk (.list xs) (.list []) = true := by
  unfold eqOk
  simp [isLT, isEmp]
theorem eqv_emp1 (xs : List PyData) : PyData.eqv (.tuple xs) (.tuple []) = xs.isEmpty := by cases xs <;> rfl
theorem eqv_empL1 (xs : List PyData) : PyData.eqv (.list xs) (.list []) = xs.isEmpty := by cases xs <;> rfl
theorem atI_z {α : Type} (x : α) (xs : List α) : atI (x :: xs) 0 = some x := L2.atI_nat (j := 0) rfl
theorem atI_o {α : Type} (x y : α) (xs : List α) : atI (x :: y :: xs) 1 = some y := L2.atI_nat (j := 1) rfl
theorem atI_t {α : Type} (x y z : α) (xs : List α) : atI (x :: y :: z :: xs) 2 = some z := L2.atI_nat (j := 2) rfl
theorem atI_nat' {α : Type} {xs : List α} {i : Nat} {x : α} (h : xs[i]? = some x) : atI xs (i : Int) = some x := L2.atI_nat h
theorem eqv_ii (a b : Int) : PyData.eqv (.int a) (.int b) = (a == b) := rfl
theorem eqv_ss (a b : Str) : PyData.eqv (.str a) (.str b) = (a == b) := rfl
theorem natcast_beq (a b : Nat) : ((a : Int) == (b : Int)) = (a == b) := by
  rw [Bool.eq_iff_iff]
  simp [Int.ofNat_inj]
section
variable (K : PyData → Prop)
theorem lenP_t (xs : List PyData) : lenP (.tuple xs) K = K (.int xs.length) := rfl
theorem lenP_l (xs : List PyData) : lenP (.list xs) K = K (.int xs.length) := rfl
theorem lenP_s (z : Str) : lenP (.str z) K = (z.length ≤ sizeLine ∧ K (.int z.length)) := rfl
theorem int0P_ii (f : Int → Int → PyData) (a b : Int) : int0P f (.int a) (.int b) K = K (f a b) := rfl
theorem intP_ii (C : Int → Int → Prop) (f : Int → Int → PyData) (a b : Int) : intP C f (.int a) (.int b) K = (C a b ∧ K (f a b)) := rfl
theorem addP_ii (a b : Int) : addP (.int a) (.int b) K = K (.int (a + b)) := rfl
theorem addP_ss (a b : Str) : addP (.str a) (.str b) K = (a.length + b.length ≤ sizeLine ∧ K (.str (a ++ b))) := rfl
theorem addP_tt (a b : List PyData) : addP (.tuple a) (.tuple b) K = (a.length + b.length ≤ sizeLine ∧ K (.tuple (a ++ b))) := rfl
theorem addP_ll (a b : List PyData) : addP (.list a) (.list b) K = (a.length + b.length ≤ sizeLine ∧ K (.list (a ++ b))) := rfl
theorem ixP_t (xs : List PyData) (i : Int) : ixP (.tuple xs) (.int i) K = ∃ d, atI xs i = some d ∧ K d := rfl
theorem ixP_l (xs : List PyData) (i : Int) : ixP (.list xs) (.int i) K = ∃ d, atI xs i = some d ∧ K d := rfl
theorem ixP_s (z : Str) (i : Int) : ixP (.str z) (.int i) K = (z.length ≤ sizeLine ∧ ∃ c, atI z.cps.toList i = some c ∧ K (.str ⟨#[c]⟩)) := rfl
theorem slP_t (xs : List PyData) (lo hi : Option Int) : slP (.tuple xs) lo hi K = K (.tuple (cutD xs lo hi)) := rfl
theorem slP_l (xs : List PyData) (lo hi : Option Int) : slP (.list xs) lo hi K = K (.list (cutD xs lo hi)) := rfl
theorem slP_s (z : Str) (lo hi : Option Int) : slP (.str z) lo hi K = (z.length ≤ sizeLine ∧ K (.str (cutS z lo hi))) := rfl
theorem intcP_i (i : Int) : intcP (.int i) K = K (.int i) := rfl
theorem intcP_b (b : Bool) : intcP (.bool b) K = K (.int (if b then 1 else 0)) := rfl
theorem intcP_s (z : Str) : intcP (.str z) K = (z.length ≤ 640 ∧ ∃ n, PySem.intText? z = some n ∧ K (.int n)) := rfl
theorem tupcP_l (xs : List PyData) : tupcP (.list xs) K = K (.tuple xs) := rfl
theorem tupcP_t (xs : List PyData) : tupcP (.tuple xs) K = K (.tuple xs) := rfl
end
theorem isTup_t (xs : List PyData) : isTup (.tuple xs) = true := rfl
theorem isTup_no {d : PyData} (h : ∀ xs, d ≠ .tuple xs) : isTup d = false := by
  cases d with
  | tuple xs => exact absurd rfl (h xs)
  | _ => rfl
theorem negP_i (K : PyData → Prop) (a : Int) : negP (.int a) K = K (.int (-a)) := rfl
/-! ### turns by a plain function -/
theorem ag_fun {b0 : Bool} {gd : GD} {f : FE} {ρ : DEnv} {p : PyData → Bool} : ∀ {items : List PyData} {K : Bool → Prop}, (∀ d ∈ items, ∀ Q : DV → Prop, Q (.dat (.bool (p d))) → gd d ρ fun ρ' => f ρ' Q) → K (if b0 = true then items.all p else items.any p) → agL b0 gd f ρ items K
  | [], K, _, k => by cases b0 <;> exact k
  | d :: ds, K, h, k => by
    refine h d List.mem_cons_self _ ⟨p d, rfl, ?_⟩
    cases b0 with
    | true =>
      simp only [List.all_cons, if_true] at k
      cases hp : p d with
      | true =>
        rw [hp, Bool.true_and] at k
        exact ag_fun (fun d hd => h d (List.mem_cons_of_mem _ hd)) (by simpa using k)
      | false =>
        rw [hp, Bool.false_and] at k
        exact k
    | false =>
      simp only [List.any_cons, Bool.false_eq_true, if_false] at k
      cases hp : p d with
      | false =>
        rw [hp, Bool.false_or] at k
        exact ag_fun (fun d hd => h d (List.mem_cons_of_mem _ hd)) (by simpa using k)
      | true =>
        rw [hp, Bool.true_or] at k
        exact k
/-- [f(x) for x in items] -/
theorem lc_fun {gd : GD} {f : FE} {ρ : DEnv} {q : PyData → PyData} : ∀ {items acc : List PyData} {K : List PyData → Prop}, (∀ d ∈ items, ∀ Q : DV → Prop, Q (.dat (q d)) → gd d ρ fun ρ' => f ρ' Q) → acc.length + items.length ≤ sizeLine → K (acc ++ items.map q) → lcL gd tYesD f ρ items acc K
  | [], acc, K, _, _, k => by simpa [lcL] using k
  | d :: ds, acc, K, h, hl, k => by
    simp only [List.length_cons] at hl
    exact h d List.mem_cons_self (fun x => ∃ e, x = .dat e ∧ acc.length < sizeLine ∧ lcL gd tYesD f ρ ds (acc ++ [e]) K) ⟨_, rfl, by omega, lc_fun (fun d hd => h d (List.mem_cons_of_mem _ hd)) (by simp; omega) (by simpa using k)⟩
/-- [f(x) for x in items if p(x)] -/
theorem lc_fil {gd : GD} {t : FT} {f : FE} {ρ : DEnv} {p : PyData → Bool} {q : PyData → PyData} : ∀ {items acc : List PyData} {K : List PyData → Prop}, (∀ d ∈ items, ∀ Q : DEnv → Bool → Prop, (∀ ρ', (∀ Q2 : DV → Prop, p d = true → Q2 (.dat (q d)) → f ρ' Q2) → Q ρ' (p d)) → gd d ρ fun ρ' => t ρ' (Q ρ')) → acc.length + items.length ≤ sizeLine → K (acc ++ (items.filter p).map q) → lcL gd t f ρ items acc K
  | [], acc, K, _, _, k => by simpa [lcL] using k
  | d :: ds, acc, K, h, hl, k => by
    simp only [List.length_cons] at hl
    refine h d List.mem_cons_self (fun ρ' b => iteB b (f ρ' fun x => ∃ e, x = .dat e ∧ acc.length < sizeLine ∧ lcL gd t f ρ ds (acc ++ [e]) K) (lcL gd t f ρ ds acc K)) fun ρ' hf => ?_
    cases hp : p d with
    | true => exact hf _ hp ⟨_, rfl, by omega, lc_fil (fun d hd => h d (List.mem_cons_of_mem _ hd)) (by simp; omega) (by simpa [List.filter_cons, hp] using k)⟩
    | false => exact lc_fil (fun d hd => h d (List.mem_cons_of_mem _ hd)) (by omega) (by simpa [List.filter_cons, hp] using k)
inductive All2 (R : PyData → PyData → Prop) : List PyData → List PyData → Prop
  | nil : All2 R [] []
  | cons {a b : PyData} {as bs : List PyData} : R a b → All2 R as bs → All2 R (a :: as) (b :: bs)
theorem All2.length {R : PyData → PyData → Prop} {as bs : List PyData} (h : All2 R as bs) : as.length = bs.length := by
  induction h with
  | nil => rfl
  | cons _ _ ih => simp [ih]
theorem All2.right {R : PyData → PyData → Prop} {as bs : List PyData} (h : All2 R as bs) : ∀ b ∈ bs, ∃ a ∈ as, R a b := by
  induction h with
  | nil => intro b hb; cases hb
  | cons r _ ih =>
    intro b hb
    rcases List.mem_cons.mp hb with rfl | hb
    · exact ⟨_, List.mem_cons_self, r⟩
    · obtain ⟨a, ha, hr⟩ := ih b hb
      exact ⟨a, List.mem_cons_of_mem _ ha, hr⟩
/-- any turns of a comprehension: what each may tell -/
theorem lc_any {gd : GD} {f : FE} {ρ : DEnv} {R : PyData → PyData → Prop} : ∀ {items acc : List PyData} {K : List PyData → Prop}, (∀ d ∈ items, ∀ Q : DV → Prop, (∀ e, R d e → Q (.dat e)) → gd d ρ fun ρ' => f ρ' Q) → acc.length + items.length ≤ sizeLine → (∀ es, All2 R items es → K (acc ++ es)) → lcL gd tYesD f ρ items acc K
  | [], acc, K, _, _, k => by simpa [lcL] using k [] .nil
  | d :: ds, acc, K, h, hl, k => by
    simp only [List.length_cons] at hl
    exact h d List.mem_cons_self (fun x => ∃ e, x = .dat e ∧ acc.length < sizeLine ∧ lcL gd tYesD f ρ ds (acc ++ [e]) K) fun e he => ⟨e, rfl, by omega, lc_any (fun d hd => h d (List.mem_cons_of_mem _ hd)) (by simp; omega) fun es hes => by simpa using k (e :: es) (.cons he hes)⟩
/-- a for, by an invariant of the turn -/
theorem for_inv {gd : GD} {body : FS} {E : DEnds} {items : List PyData} (Inv : Nat → DEnv → Prop) (step : ∀ i d ρ (N : DEnv → Prop), items[i]? = some d → Inv i ρ → (∀ ρ', Inv (i + 1) ρ' → N ρ') → gd d ρ fun ρ' => body { E with nx := N, ct := N, bk := E.nx } ρ')
    {ρ : DEnv} (h0 : Inv 0 ρ) (hd : ∀ ρ, Inv items.length ρ → E.nx ρ) : forL gd body E items ρ := by
  have go : ∀ (k : Nat) (ds : List PyData) (ρ : DEnv), k + ds.length = items.length → items.drop k = ds → Inv k ρ → forL gd body E ds ρ := by
    intro k ds
    induction ds generalizing k with
    | nil =>
      intro ρ hl _ h
      have : k = items.length := by simpa using hl
      subst this
      exact hd ρ h
    | cons d ds ih =>
      intro ρ hl hdr h
      have hk : k < items.length := by simp at hl; omega
      have e : items[k]? = some d := by
        have := congrArg List.head? hdr
        simpa using this
      exact step k d ρ _ e h fun ρ' h' => ih (k + 1) ρ' (by simp at hl; omega) (by rw [← List.drop_drop, hdr]; rfl) h'
  exact go 0 items ρ (by simp) (by simp) h0
/-- a for that looks: it ends early at an item that does not pass -/
theorem for_chk {gd : GD} {body : FS} {E : DEnds} {p : PyData → Bool} {R : Prop} (Inv : DEnv → Prop) : ∀ {items : List PyData} {ρ : DEnv}, (∀ d ∈ items, ∀ ρ (N : DEnv → Prop), Inv ρ → (p d = true → ∀ ρ', Inv ρ' → N ρ') → (p d = false → R) → gd d ρ fun ρ' => body { E with nx := N, ct := N, bk := E.nx } ρ') → Inv ρ → (items.all p = true → ∀ ρ', Inv ρ' → E.nx ρ') → (items.all p = false → R) → forL gd body E items ρ
  | [], ρ, _, h0, h1, _ => h1 rfl ρ h0
  | d :: ds, ρ, h, h0, h1, h2 => by
    refine h d List.mem_cons_self ρ _ h0 (fun hp ρ' h' => ?_) (fun hp => h2 (by rw [List.all_cons, hp]; rfl))
    refine for_chk Inv (fun d hd => h d (List.mem_cons_of_mem _ hd)) h' (fun ha => h1 (by rw [List.all_cons, hp, ha]; rfl)) (fun ha => h2 (by rw [List.all_cons, hp, ha]; rfl))
end DL

set_option Elab.async false
set_option linter.all false
set_option maxRecDepth 100000
set_option maxHeartbeats 1000000
/-! The deck as a world: draws and picks over data. -/
namespace DW
open PySem PySem.Spec PyProof.Rows L2 KT KG KX KY KE0 KQ LK GxR DL KA
/-- a world whose deck, if it has one, is a deck -/
structure WP (K : PySem.W.Frag) (Tl : List Addr) (W : Wc) : Prop where
  k : W.K = K
  tl : W.Tl = Tl
  dk : ∀ v, W.deck v → ∃ d L, v = .ref d ∧ (∀ H, W.inv H → DK d L H) ∧ (∀ H H', W.inv H → DK d L H' → (∀ a o, a ≠ d → a ≠ L → H a = some o → H' a = some o) → W.inv H') ∧ ∀ a, W.vol a ↔ a = d ∨ a = L
def deckW (K : PySem.W.Frag) (Tl : List Addr) (d L : Addr) : Wc where
  K := K
  vol := fun a => a = d ∨ a = L
  inv := DK d L
  deck := fun v => v = .ref d
  Tl := Tl
  keep := fun {H H'} k h => by
    obtain ⟨ns, m, z, h1, h2, h3⟩ := h
    exact ⟨ns, m, z, k _ _ (.inl (.inl rfl)) h1, k _ _ (.inl (.inr rfl)) h2, h3⟩
  there := fun {H a} h v => by
    obtain ⟨ns, m, z, h1, h2, h3⟩ := h
    rcases v with rfl | rfl
    · exact ⟨_, h1, (fun _ z => by cases z), fun _ z => by cases z⟩
    · exact ⟨_, h2, (fun _ z => by cases z), fun _ z => by cases z⟩
theorem deckW_ok (K : PySem.W.Frag) (Tl : List Addr) (d L : Addr) : WP K Tl (deckW K Tl d L) := ⟨rfl, rfl, fun v h => ⟨d, L, h, fun H h => h, fun H H' _ h _ => h, fun a => Iff.rfl⟩⟩
theorem dk_here {d L a : Addr} {H : Hp} (h : DK d L H) (e : a = d ∨ a = L) : ∃ o, H a = some o ∧ (∀ ps, o ≠ .tbl ps) ∧ ∀ xs, o ≠ .tup xs := by
  obtain ⟨ns, m, z, h1, h2, h3⟩ := h
  rcases e with rfl | rfl
  · exact ⟨_, h1, (fun _ z => by cases z), fun _ z => by cases z⟩
  · exact ⟨_, h2, (fun _ z => by cases z), fun _ z => by cases z⟩
theorem stp_fr {W : Wc} {d L : Addr} {H H' : Hp} (hi : ∀ H H', W.inv H → DK d L H' → (∀ a o, a ≠ d → a ≠ L → H a = some o → H' a = some o) → W.inv H') (hv : ∀ a, W.vol a ↔ a = d ∨ a = L) (h0 : DK d L H) (f : Fr d L H H') : Stp W H H' := by
  refine ⟨fun a o n t e => ?_, fun a xs e => ?_, fun a e => ?_, fun w => ⟨hi H H' w.1 f.dk f.st, fun P hP => ?_⟩⟩
  · have n2 : ¬ (a = d ∨ a = L) := fun z => n ((hv a).mpr z)
    exact f.st a o (fun z => n2 (.inl z)) (fun z => n2 (.inr z)) e
  · have n2 : ¬ (a = d ∨ a = L) := fun z => by
      obtain ⟨o, e2, _, e3⟩ := dk_here h0 z
      rw [e] at e2
      cases e2
      exact e3 _ rfl
    exact f.st a _ (fun z => n2 (.inl z)) (fun z => n2 (.inr z)) e
  · by_cases z : a = d ∨ a = L
    · obtain ⟨o, e2, _⟩ := dk_here f.dk z
      rw [e] at e2
      cases e2
    · cases q : H a with
      | none => rfl
      | some o =>
        rw [f.st a o (fun y => z (.inl y)) (fun y => z (.inr y)) q] at e
        cases e
  · obtain ⟨ps, e, tr⟩ := w.2 P hP
    have n2 : ¬ (P = d ∨ P = L) := fun z => by
      obtain ⟨o, e2, e3, _⟩ := dk_here h0 z
      rw [e] at e2
      cases e2
      exact e3 _ rfl
    exact ⟨ps, f.st P _ (fun z => n2 (.inl z)) (fun z => n2 (.inr z)) e, tr⟩
abbrev N__law_pick : List Str := ["_law_deck_here", "_law_some"]
abbrev P__law_pick : List Str := ["_law_deck_here", "_law_some"]
theorem sc__law_pick : FnScope N__law_pick P__law_pick (defScope s__law_pick) := ⟨rfl, rfl, rfl, by decide +kernel, rfl, by decide +kernel, by decide +kernel⟩
section
variable {P : Program} {w : World} {K : PySem.W.Frag} {mg : Str → Option Value} {base : Heap} {Tl : List Addr}
/-- a draw -/
def F_draw : FnD := fun ds K _ => ∃ n : Int, ds = [.deck, .dat (.int n)] ∧ 0 < n ∧ n ≤ 1000000000 ∧ ∀ r : Int, 0 ≤ r → r < n → K (.int r)
theorem ok_draw {fd : FuncData} (D : Df K mg "_law_draw" s__law_draw P__law_draw fd) (T : Tb mg) : FnOk P w K mg base CX0 1 (He.fAd K ("_law_draw", none)) fd P__law_draw (spD (WP K Tl) F_draw) := (KA.ok_draw D T).imp fun vs H Q E h => by
  obtain ⟨W, ds, Kk, KE, hW, rfl, gh, r, no, ⟨n, rfl, n0, n1, hk⟩, hQ, hE⟩ := h
  obtain ⟨v, u, rfl, r1, r2⟩ := rel2 r
  cases relI r2
  obtain ⟨d, L, rfl, h0, hi, hv⟩ := hW.dk v r1
  have h0 := h0 _ gh.ok.1
  exact ⟨d, L, n, rfl, h0, n0, n1, fun r H' r0 r1 f => hQ _ (hk r r0 r1) _ _ (stp_fr hi hv h0 f) (Dx.int r)⟩
/-- one of some -/
def F_pick : FnD := fun ds K _ => ∃ d es, ds = [.deck, .dat d] ∧ (d = .list es ∨ d = .tuple es) ∧ 0 < es.length ∧ es.length ≤ 1000000000 ∧ ∀ e ∈ es, K e
theorem ok_pick {fd fdD : FuncData} (D : Df K mg "_law_pick" s__law_pick P__law_pick fd) (T : Tb mg) (D__law_draw : Df K mg "_law_draw" s__law_draw P__law_draw fdD) (G__law_draw : FnOk P w K mg base CX0 1 (He.fAd K ("_law_draw", none)) fdD P__law_draw (spD (WP K Tl) F_draw)) : FnOk P w K mg base CX0 2 (He.fAd K ("_law_pick", none)) fd P__law_pick (spD (WP K Tl) F_pick) := by
  refine okD D.F sc__law_pick (fun ds Kk KE h => by obtain ⟨d, es, rfl, _⟩ := h; rfl) (fun W cdv A outer s E hW hcd hr => ⟨_, (dss_one (ds_ret (de_ix ix_all sn_ix (dv 1) (de_call (pe_call G__law_draw (hr.mono (by first | decide | omega)) (by rfl) D__law_draw.g D__law_draw.F.kp D__law_draw.b .nil pass0 (da_cons (dv 0) (da_cons (de_cb (pe_callB call_len (by rfl) T.len (by decide +kernel) (da_cons (dv 1) da_nil)) sn_len) da_nil))) hW) (fun _ _ => rfl)))), fun ds Kk KE h => ?_⟩)
  obtain ⟨d, es, rfl, hd, n0, n1, hk⟩ := h
  (try simp only [DL.iteB_true, DL.iteB_false, DL.sSeq, DL.sNext, DL.sRet, DL.sRetN, DL.sIf, DL.sAsg, DL.sNew, DL.sDrop, DL.sRel, DL.sApp, DL.sFor, DL.sBreak, DL.sCont, DL.sAsgT, DL.sPar, DL.sPar3, DL.sPar3DFD, DL.sParFD, DL.sParDF, DL.sExt, DL.sPut, DL.sAug, DL.sCut, DL.sRaise, DL.sWhile, DL.fVar, DL.fC, DL.fOb, DL.fGts, DL.f2, DL.f1, DL.fCall, DL.fB, DL.fTru, DL.fAnd, DL.fOr, DL.fNot, DL.fIf, DL.tAndD, DL.tOrD, DL.tNotD, DL.fNil, DL.fCons, DL.fTup, DL.fLst, DL.fDnew, DL.fNew, DL.fIt, DL.fRng1, DL.fRng2, DL.fLc, DL.fAG, DL.fFn, DL.fFnX, DL.fFnK, DL.fSl, DL.fNone, DL.fPart, DL.fList, DL.fM0, DL.fM1, DL.tYesD, DL.gdN, DL.gdT_t, DL.gdNil_n, DL.gdCons_c, DL.op2, DL.op1, DL.opC, DL.c1, DL.isiP, DL.typeO, DL.tyIs, DL.inG, DL.isND, DL.rel, DL.wipeD, DL.le_s0, DL.le_s1, DL.le_s2, DL.le_s3, DL.le_s4, DL.le_s5, DL.le_s6, DL.le_s7, DL.le_s8, DL.le_s9, DL.le_s10, DL.le_s11, DL.le_s12, DL.le_s13, DL.le_s14, DL.le_s15, DL.le_s16, DL.le_s17, DL.le_s18, DL.le_s19, DL.le_s20, DL.le_s21, DL.le_s22, DL.le_s23, DL.le_s24, DL.le_s25, DL.le_s26, DL.le_s27, DL.le_s28, DL.le_s29, DL.le_s30, DL.le_s31, DL.le_s32, DL.le_s33, DL.le_s34, DL.le_s35, DL.le_s36, DL.le_s37, DL.le_s38, DL.le_s39, DL.le_s40, DL.le_s41, DL.le_s42, DL.le_s43, DL.le_s44, DL.le_s45, DL.le_s46, DL.le_s47, DL.le_s48, DL.le_s49, DL.le_s50, DL.le_s51, DL.le_s52, DL.le_s53, DL.le_s54, DL.le_s55, DL.le_s56, DL.le_s57, DL.le_s58, DL.le_s59, DL.le_s60, DL.le_s61, DL.le_s62, DL.le_s63, DL.le_s64, DL.start0, DL.asDat, DL.lend, DL.noOwn, DL.DV.isOwn, DL.pd_dat, DL.pd_own, DL.ocpd_lst, DL.ocpd_dk, DL.itemsOf, List.map_cons, List.map_nil, List.append_nil, List.cons_append, List.nil_append, List.length_cons, List.length_nil, List.replicate_succ, List.replicate_zero, List.getElem?_cons_zero, List.getElem?_cons_succ, List.set_cons_zero, List.set_cons_succ, Nat.reduceSub, Nat.reduceAdd, Nat.sub_self, Nat.zero_add, Option.some.injEq, DL.DV.dat.injEq, PyData.bool.injEq, PyData.int.injEq, PyData.str.injEq, PyData.tuple.injEq, PyData.list.injEq, DL.DV.ob.injEq, V.ty.injEq, DL.DV.own.injEq, DL.OC.lst.injEq, List.cons.injEq, Option.map_some, exists_eq_left', exists_eq_left, exists_eq_right, exists_eq_right', exists_and_left, and_true, true_and, Bool.not_true, Bool.not_false, Bool.and_true, Bool.true_and, true_or, Bool.not_eq_true', Bool.false_eq_true, if_true, if_false, reduceIte, reduceCtorEq])
  rcases hd with rfl | rfl

  all_goals
    (try simp only [DL.negP_i, DL.le_s0, DL.le_s1, DL.le_s2, DL.le_s3, DL.le_s4, DL.le_s5, DL.le_s6, DL.le_s7, DL.le_s8, DL.le_s9, DL.le_s10, DL.le_s11, DL.le_s12, DL.le_s13, DL.le_s14, DL.le_s15, DL.le_s16, DL.le_s17, DL.le_s18, DL.le_s19, DL.le_s20, DL.le_s21, DL.le_s22, DL.le_s23, DL.le_s24, DL.le_s25, DL.le_s26, DL.le_s27, DL.le_s28, DL.le_s29, DL.le_s30, DL.le_s31, DL.le_s32, DL.le_s33, DL.le_s34, DL.le_s35, DL.le_s36, DL.le_s37, DL.le_s38, DL.le_s39, DL.le_s40, DL.le_s41, DL.le_s42, DL.le_s43, DL.le_s44, DL.le_s45, DL.le_s46, DL.le_s47, DL.le_s48, DL.le_s49, DL.le_s50, DL.le_s51, DL.le_s52, DL.le_s53, DL.le_s54, DL.le_s55, DL.le_s56, DL.le_s57, DL.le_s58, DL.le_s59, DL.le_s60, DL.le_s61, DL.le_s62, DL.le_s63, DL.le_s64, DL.iteB_true, DL.iteB_false, DL.lenP_t, DL.lenP_l, DL.lenP_s, DL.eqP, DL.eqOk_int, DL.eqOk_str, DL.eqOk_emp, DL.eqOk_empL, DL.eqv_emp1, DL.eqv_empL1, DL.eqv_ii, DL.eqv_ss, DL.ixP_t, DL.ixP_l, DL.ixP_s, DL.slP_t, DL.slP_l, DL.slP_s, DL.intcP_i, DL.intcP_b, DL.intcP_s, DL.tupcP_l, DL.tupcP_t, DL.atI_z, DL.atI_o, DL.atI_t, DL.int0P_ii, DL.intP_ii, DL.addP_ii, DL.addP_ss, DL.addP_tt, DL.addP_ll, DL.isTup_t, DL.reprP, Bool.false_eq_true, if_true, if_false, reduceIte, Option.some.injEq, PyData.bool.injEq, exists_eq_left', exists_eq_left, exists_eq_right, exists_eq_right', true_and, and_true, Bool.true_eq_false, Bool.not_true, Bool.not_false, false_and, and_false, exists_and_left, reduceCtorEq, DL.DV.gts.injEq, exists_const])
    refine ⟨_, rfl, by omega, by omega, fun r r0 r1 => ?_⟩
    obtain ⟨i, rfl⟩ := Int.eq_ofNat_of_zero_le r0
    have hi : i < es.length := by omega
    (try simp only [DL.iteB_true, DL.iteB_false, DL.sSeq, DL.sNext, DL.sRet, DL.sRetN, DL.sIf, DL.sAsg, DL.sNew, DL.sDrop, DL.sRel, DL.sApp, DL.sFor, DL.sBreak, DL.sCont, DL.sAsgT, DL.sPar, DL.sPar3, DL.sPar3DFD, DL.sParFD, DL.sParDF, DL.sExt, DL.sPut, DL.sAug, DL.sCut, DL.sRaise, DL.sWhile, DL.fVar, DL.fC, DL.fOb, DL.fGts, DL.f2, DL.f1, DL.fCall, DL.fB, DL.fTru, DL.fAnd, DL.fOr, DL.fNot, DL.fIf, DL.tAndD, DL.tOrD, DL.tNotD, DL.fNil, DL.fCons, DL.fTup, DL.fLst, DL.fDnew, DL.fNew, DL.fIt, DL.fRng1, DL.fRng2, DL.fLc, DL.fAG, DL.fFn, DL.fFnX, DL.fFnK, DL.fSl, DL.fNone, DL.fPart, DL.fList, DL.fM0, DL.fM1, DL.tYesD, DL.gdN, DL.gdT_t, DL.gdNil_n, DL.gdCons_c, DL.op2, DL.op1, DL.opC, DL.c1, DL.isiP, DL.typeO, DL.tyIs, DL.inG, DL.isND, DL.rel, DL.wipeD, DL.le_s0, DL.le_s1, DL.le_s2, DL.le_s3, DL.le_s4, DL.le_s5, DL.le_s6, DL.le_s7, DL.le_s8, DL.le_s9, DL.le_s10, DL.le_s11, DL.le_s12, DL.le_s13, DL.le_s14, DL.le_s15, DL.le_s16, DL.le_s17, DL.le_s18, DL.le_s19, DL.le_s20, DL.le_s21, DL.le_s22, DL.le_s23, DL.le_s24, DL.le_s25, DL.le_s26, DL.le_s27, DL.le_s28, DL.le_s29, DL.le_s30, DL.le_s31, DL.le_s32, DL.le_s33, DL.le_s34, DL.le_s35, DL.le_s36, DL.le_s37, DL.le_s38, DL.le_s39, DL.le_s40, DL.le_s41, DL.le_s42, DL.le_s43, DL.le_s44, DL.le_s45, DL.le_s46, DL.le_s47, DL.le_s48, DL.le_s49, DL.le_s50, DL.le_s51, DL.le_s52, DL.le_s53, DL.le_s54, DL.le_s55, DL.le_s56, DL.le_s57, DL.le_s58, DL.le_s59, DL.le_s60, DL.le_s61, DL.le_s62, DL.le_s63, DL.le_s64, DL.start0, DL.asDat, DL.lend, DL.noOwn, DL.DV.isOwn, DL.pd_dat, DL.pd_own, DL.ocpd_lst, DL.ocpd_dk, DL.itemsOf, List.map_cons, List.map_nil, List.append_nil, List.cons_append, List.nil_append, List.length_cons, List.length_nil, List.replicate_succ, List.replicate_zero, List.getElem?_cons_zero, List.getElem?_cons_succ, List.set_cons_zero, List.set_cons_succ, Nat.reduceSub, Nat.reduceAdd, Nat.sub_self, Nat.zero_add, Option.some.injEq, DL.DV.dat.injEq, PyData.bool.injEq, PyData.int.injEq, PyData.str.injEq, PyData.tuple.injEq, PyData.list.injEq, DL.DV.ob.injEq, V.ty.injEq, DL.DV.own.injEq, DL.OC.lst.injEq, List.cons.injEq, Option.map_some, exists_eq_left', exists_eq_left, exists_eq_right, exists_eq_right', exists_and_left, and_true, true_and, Bool.not_true, Bool.not_false, Bool.and_true, Bool.true_and, true_or, Bool.not_eq_true', Bool.false_eq_true, if_true, if_false, reduceIte, reduceCtorEq])
    (try simp only [DL.negP_i, DL.le_s0, DL.le_s1, DL.le_s2, DL.le_s3, DL.le_s4, DL.le_s5, DL.le_s6, DL.le_s7, DL.le_s8, DL.le_s9, DL.le_s10, DL.le_s11, DL.le_s12, DL.le_s13, DL.le_s14, DL.le_s15, DL.le_s16, DL.le_s17, DL.le_s18, DL.le_s19, DL.le_s20, DL.le_s21, DL.le_s22, DL.le_s23, DL.le_s24, DL.le_s25, DL.le_s26, DL.le_s27, DL.le_s28, DL.le_s29, DL.le_s30, DL.le_s31, DL.le_s32, DL.le_s33, DL.le_s34, DL.le_s35, DL.le_s36, DL.le_s37, DL.le_s38, DL.le_s39, DL.le_s40, DL.le_s41, DL.le_s42, DL.le_s43, DL.le_s44, DL.le_s45, DL.le_s46, DL.le_s47, DL.le_s48, DL.le_s49, DL.le_s50, DL.le_s51, DL.le_s52, DL.le_s53, DL.le_s54, DL.le_s55, DL.le_s56, DL.le_s57, DL.le_s58, DL.le_s59, DL.le_s60, DL.le_s61, DL.le_s62, DL.le_s63, DL.le_s64, DL.iteB_true, DL.iteB_false, DL.lenP_t, DL.lenP_l, DL.lenP_s, DL.eqP, DL.eqOk_int, DL.eqOk_str, DL.eqOk_emp, DL.eqOk_empL, DL.eqv_emp1, DL.eqv_empL1, DL.eqv_ii, DL.eqv_ss, DL.ixP_t, DL.ixP_l, DL.ixP_s, DL.slP_t, DL.slP_l, DL.slP_s, DL.intcP_i, DL.intcP_b, DL.intcP_s, DL.tupcP_l, DL.tupcP_t, DL.atI_z, DL.atI_o, DL.atI_t, DL.int0P_ii, DL.intP_ii, DL.addP_ii, DL.addP_ss, DL.addP_tt, DL.addP_ll, DL.isTup_t, DL.reprP, Bool.false_eq_true, if_true, if_false, reduceIte, Option.some.injEq, PyData.bool.injEq, exists_eq_left', exists_eq_left, exists_eq_right, exists_eq_right', true_and, and_true, Bool.true_eq_false, Bool.not_true, Bool.not_false, false_and, and_false, exists_and_left, reduceCtorEq, DL.DV.gts.injEq, exists_const])
    exact ⟨es[i], L2.atI_nat (List.getElem?_eq_getElem hi), hk _ (List.getElem_mem hi)⟩
end
end DW


set_option Elab.async false
set_option linter.all false
set_option maxRecDepth 100000
set_option maxHeartbeats 1000000
/-! Data and places: what a def changes stands at numbered places (cells), which it may hand on. -/
namespace EL
open PySem PySem.Spec PyProof.Rows L2 KT KG KX KY KE0 LK GxR DL
/-- what a slot or a cell holds: data, a place, the deck, .. -/
inductive LV where
  | dat (d : PyData)
  | loc (i : Nat)
  | deck
  | gts (xs : List Str)
  | ob (v : V)
  /-- an error, of the class x, with d in its field -/
  | err (x : Str) (d : PyData)
/-- what stands at a place -/
inductive Cell where
  | lst (xs : List LV)
  | dk (kvs : List (Key × LV))
  | dt (kvs : List (List Key × LV))
  | ins (c : Str) (fs : List (Str × LV))
abbrev LH := List (Option Cell)
abbrev LEnv := List (Option LV)
/-- where one stands: what may change, the places' addresses, the heap, the places' contents -/
structure Stt where
  M : Addr → Prop
  ms : List Addr
  H : Hp
  η : LH
def Stt.own (S : Stt) (a : Addr) : Prop := ∃ (i : Nat) (c : Cell), S.η[i]? = some (some c) ∧ S.ms[i]? = some a
def RelLV (W : Wc) (S : Stt) (v : V) : LV → Prop
  | .dat d => Dx S.M S.H v d
  | .loc i => ∃ a, v = .ref a ∧ S.ms[i]? = some a
  | .deck => W.deck v
  | .gts xs => ∃ a, v = .ref a ∧ ∀ H, SqT W.K H a (xs.map V.str)
  | .ob u => v = u
  | .err x d => ∃ a dx fs w, v = .ref a ∧ ¬ S.M a ∧ ¬ S.M dx ∧ (S.H a = some (exo a (He.ga W.K x) (some dx)) ∨ S.H a = some (QZ.exq a (He.ga W.K x) (some dx))) ∧ (S.H dx = some (exd dx fs) ∨ S.H dx = some (.xd fs)) ∧ fs.lookup (fld x) = some w ∧ Dx S.M S.H w d
def RelLs (W : Wc) (S : Stt) : List V → List LV → Prop
  | [], [] => True
  | v :: vs, d :: ds => RelLV W S v d ∧ RelLs W S vs ds
  | _, _ => False
def RelC (W : Wc) (S : Stt) (a : Addr) : Cell → Prop
  | .lst xs => ∃ vs, S.H a = some (.lst vs) ∧ RelLs W S vs xs
  | .dk kvs => ∃ ks, S.H a = some (.dK ks) ∧ ks.map (·.1) = kvs.map (·.1) ∧ RelLs W S (ks.map (·.2)) (kvs.map (·.2))
  | .dt kvs => ∃ ks, S.H a = some (.dT ks) ∧ ks.map (·.1) = kvs.map (·.1) ∧ RelLs W S (ks.map (·.2)) (kvs.map (·.2))
  | .ins c fs => ∃ dx gs, S.H a = some (.ins (He.ga W.K c) dx gs) ∧ gs.map (·.1) = fs.map (·.1) ∧ RelLs W S (gs.map (·.2)) (fs.map (·.2))
/-- a way from one to the other: only places change, new ones are new -/
structure Ext (W : Wc) (S S' : Stt) : Prop where
  m : ∀ a, S.M a → S'.M a
  fresh : ∀ a, S'.M a → S.M a ∨ S.H a = none
  pre : ∀ (i : Nat) (a : Addr), S.ms[i]? = some a → S'.ms[i]? = some a
  liv : ∀ (i : Nat) (c : Cell), i < S.ms.length → S'.η[i]? = some (some c) → ∃ c0, S.η[i]? = some (some c0)
  nw : ∀ (i : Nat) (a : Addr) (c : Cell), S.ms.length ≤ i → S'.η[i]? = some (some c) → S'.ms[i]? = some a → S.H a = none
  st : ∀ a o, ¬ W.vol a → ¬ S.own a → (∀ ps, o ≠ .tbl ps) → S.H a = some o → S'.H a = some o
  tp : ∀ a xs, S.H a = some (.tup xs) → S'.H a = some (.tup xs)
  on : ∀ a, S'.H a = none → S.H a = none
structure Cl (W : Wc) (S0 S : Stt) : Prop where
  ok : W.ok S.H
  vol : ∀ a, W.vol a → S.M a
  all : ∀ a, S.M a → S.H a ≠ none
  len : S.ms.length = S.η.length
  nd : ∀ (i j : Nat) (a : Addr) (ci cj : Cell), S.η[i]? = some (some ci) → S.η[j]? = some (some cj) → S.ms[i]? = some a → S.ms[j]? = some a → i = j
  cell : ∀ (i : Nat) (c : Cell), S.η[i]? = some (some c) → ∃ a, S.ms[i]? = some a ∧ S.M a ∧ ¬ W.vol a ∧ RelC W S a c
  x0 : Ext W S0 S
def Slots (W : Wc) (S : Stt) (σ : L2.St) (ρ : LEnv) : Prop := σ.length = ρ.length ∧ ∀ (i : Nat) (lv : LV), ρ[i]? = some (some lv) → ∃ v, σ[i]? = some (some v) ∧ RelLV W S v lv
section
variable {W : Wc} {S0 S S' S1 S2 : Stt}
theorem Cl.own_m (c : Cl W S0 S) {a : Addr} (h : S.own a) : S.M a := by
  obtain ⟨i, x, e1, e2⟩ := h
  obtain ⟨b, e3, m, _⟩ := c.cell i x e1
  rw [e2] at e3
  cases e3
  exact m
theorem Ext.refl : Ext W S S := ⟨fun _ m => m, fun _ m => .inl m, fun _ _ e => e, fun _ c _ e => ⟨c, e⟩, fun i a c h e1 e2 => by
  have : i < S.ms.length := (List.getElem?_eq_some_iff.mp e2).1
  omega, fun _ _ _ _ _ e => e, fun _ _ e => e, fun _ e => e⟩
theorem Ext.lt (e : Ext W S S1) {i : Nat} (h : i < S.ms.length) : i < S1.ms.length := (List.getElem?_eq_some_iff.mp (e.pre i _ (List.getElem?_eq_getElem h))).1
theorem Ext.trans (e : Ext W S S1) (e2 : Ext W S1 S2) : Ext W S S2 := by
  refine ⟨fun a m => e2.m a (e.m a m), fun a m => ?_, fun i a h => e2.pre i a (e.pre i a h), fun i c h l => ?_, fun i a c h l q => ?_, fun a o n1 n2 t h => ?_, fun a xs h => e2.tp a xs (e.tp a xs h), fun a h => e.on a (e2.on a h)⟩
  · rcases e2.fresh a m with m | m
    · exact e.fresh a m
    · exact .inr (e.on a m)
  · obtain ⟨c1, l1⟩ := e2.liv i c (e.lt h) l
    exact e.liv i c1 h l1
  · by_cases h1 : i < S1.ms.length
    · obtain ⟨c1, l1⟩ := e2.liv i c h1 l
      have q1 := e2.pre i _ (List.getElem?_eq_getElem h1)
      rw [q] at q1
      exact e.nw i a c1 h l1 (by rw [List.getElem?_eq_getElem h1]; exact q1.symm)
    · exact e.on a (e2.nw i a c (by omega) l q)
  · refine e2.st a o n1 (fun ⟨i, c, l, q⟩ => ?_) t (e.st a o n1 n2 t h)
    by_cases hi : i < S.ms.length
    · obtain ⟨c0, l0⟩ := e.liv i c hi l
      have q0 := e.pre i _ (List.getElem?_eq_getElem hi)
      rw [q] at q0
      exact n2 ⟨i, c0, l0, by rw [List.getElem?_eq_getElem hi]; exact q0.symm⟩
    · rw [e.nw i a c (by omega) l q] at h
      cases h
theorem Ext.kp (c : Cl W S0 S) (e : Ext W S S') : Kp S'.M S.H S'.H := ⟨fun a o n t h => e.st a o (fun z => n (e.m a (c.vol a z))) (fun z => n (e.m a (c.own_m z))) t h, e.tp⟩
theorem Ext.dx (c : Cl W S0 S) (e : Ext W S S') {v : V} {d : PyData} (h : Dx S.M S.H v d) : Dx S'.M S'.H v d := Dx.kp (e.kp c) _ _ (Dx.re (fun a o q m => (e.fresh a m).elim id fun z => by rw [z] at q; cases q) _ _ h)
theorem RelLV.ext (c : Cl W S0 S) (e : Ext W S S') {v : V} {lv : LV} (h : RelLV W S v lv) : RelLV W S' v lv := by
  cases lv with
  | dat d => exact e.dx c h
  | loc i =>
    obtain ⟨a, e1, e2⟩ := h
    exact ⟨a, e1, e.pre i a e2⟩
  | deck => exact h
  | gts xs => exact h
  | ob u => exact h
  | err x d =>
    obtain ⟨a, dx, fs, w, rfl, n1, n2, h1, h2, hl, hd⟩ := h
    have out : ∀ {b o}, ¬ S.M b → S.H b = some o → ¬ S'.M b := fun n q m => (e.fresh _ m).elim n fun z => by rw [z] at q; cases q
    have st : ∀ {b o}, ¬ S.M b → (∀ ps, o ≠ .tbl ps) → S.H b = some o → S'.H b = some o := fun n t q => e.st _ _ (fun z => n (c.vol _ z)) (fun z => n (c.own_m z)) t q
    refine ⟨a, dx, fs, w, rfl, ?_, ?_, h1.imp (st n1 fun _ z => by unfold exo at z; cases z) (st n1 fun _ z => by unfold QZ.exq at z; cases z), h2.imp (st n2 fun _ z => by unfold exd at z; cases z) (st n2 fun _ z => by cases z), hl, e.dx c hd⟩
    · rcases h1 with q | q <;> exact out n1 q
    · rcases h2 with q | q <;> exact out n2 q
theorem RelLs.ext (c : Cl W S0 S) (e : Ext W S S') : ∀ {vs : List V} {ds : List LV}, RelLs W S vs ds → RelLs W S' vs ds
  | [], [], h => h
  | _ :: _, _ :: _, h => ⟨h.1.ext c e, RelLs.ext c e h.2⟩
  | [], _ :: _, h => h
  | _ :: _, [], h => h
theorem RelLs.length : ∀ {vs : List V} {ds : List LV}, RelLs W S vs ds → vs.length = ds.length
  | [], [], _ => rfl
  | _ :: _, _ :: _, h => by simp [RelLs.length h.2]
  | [], _ :: _, h => h.elim
  | _ :: _, [], h => h.elim
theorem RelLs.app : ∀ {vs us : List V} {ds es : List LV}, RelLs W S vs ds → RelLs W S us es → RelLs W S (vs ++ us) (ds ++ es)
  | [], _, [], _, _, h => h
  | _ :: _, _, _ :: _, _, h, h2 => ⟨h.1, RelLs.app h.2 h2⟩
  | [], _, _ :: _, _, h, _ => h.elim
  | _ :: _, _, [], _, h, _ => h.elim
theorem RelLs.at : ∀ {vs : List V} {ds : List LV} {i : Nat} {d : LV}, RelLs W S vs ds → ds[i]? = some d → ∃ v, vs[i]? = some v ∧ RelLV W S v d
  | [], [], i, d, _, e => by simp at e
  | v :: _, _ :: _, 0, d, h, e => by
    simp only [List.getElem?_cons_zero, Option.some.injEq] at e
    subst e
    exact ⟨v, rfl, h.1⟩
  | _ :: _, _ :: _, i + 1, d, h, e => by
    simp only [List.getElem?_cons_succ] at e
    obtain ⟨v, e1, r⟩ := RelLs.at h.2 e
    exact ⟨v, by simpa using e1, r⟩
  | [], _ :: _, _, _, h, _ => h.elim
  | _ :: _, [], _, _, h, _ => h.elim
theorem Slots.ext (c : Cl W S0 S) (e : Ext W S S') {σ : L2.St} {ρ : LEnv} (h : Slots W S σ ρ) : Slots W S' σ ρ := ⟨h.1, fun i lv q => by
  obtain ⟨v, e1, r⟩ := h.2 i lv q
  exact ⟨v, e1, r.ext c e⟩⟩
theorem RelC.nt {a : Addr} {c : Cell} (h : RelC W S a c) : ∃ o, S.H a = some o ∧ (∀ ps, o ≠ .tbl ps) ∧ (∀ xs, o ≠ .tup xs) ∧ ∀ φ, o ≠ .ext φ := by
  cases c with
  | lst xs =>
    obtain ⟨vs, e, _⟩ := h
    exact ⟨_, e, (fun _ z => by cases z), (fun _ z => by cases z), fun _ z => by cases z⟩
  | dk kvs =>
    obtain ⟨vs, e, _⟩ := h
    exact ⟨_, e, (fun _ z => by cases z), (fun _ z => by cases z), fun _ z => by cases z⟩
  | dt kvs =>
    obtain ⟨vs, e, _⟩ := h
    exact ⟨_, e, (fun _ z => by cases z), (fun _ z => by cases z), fun _ z => by cases z⟩
  | ins cl fs =>
    obtain ⟨dx, vs, e, _⟩ := h
    exact ⟨_, e, (fun _ z => by cases z), (fun _ z => by cases z), fun _ z => by cases z⟩
/-- what a cell tells elsewhere -/
theorem RelC.to {a : Addr} {c : Cell} (h : RelC W S a c) (e : S'.H a = S.H a) (k : ∀ v lv, RelLV W S v lv → RelLV W S' v lv) : RelC W S' a c := by
  have kk : ∀ {vs : List V} {ds : List LV}, RelLs W S vs ds → RelLs W S' vs ds := fun {vs ds} h => by
    induction vs generalizing ds with
    | nil => cases ds with
      | nil => trivial
      | cons _ _ => exact h.elim
    | cons v vs ih => cases ds with
      | nil => exact h.elim
      | cons d ds => exact ⟨k _ _ h.1, ih h.2⟩
  cases c with
  | lst xs =>
    obtain ⟨vs, q, r⟩ := h
    exact ⟨vs, by rw [e]; exact q, kk r⟩
  | dk kvs =>
    obtain ⟨vs, q, r1, r⟩ := h
    exact ⟨vs, by rw [e]; exact q, r1, kk r⟩
  | dt kvs =>
    obtain ⟨vs, q, r1, r⟩ := h
    exact ⟨vs, by rw [e]; exact q, r1, kk r⟩
  | ins cl fs =>
    obtain ⟨dx, vs, q, r1, r⟩ := h
    exact ⟨dx, vs, by rw [e]; exact q, r1, kk r⟩
/-! ### steps that leave all places -/
theorem Ext.stp {H' : Hp} (s : Stp W S.H H') : Ext W S { S with H := H' } := ⟨fun _ m => m, fun _ m => .inl m, fun _ _ e => e, fun _ c _ e => ⟨c, e⟩, fun i a c h _ e2 => by
  have : i < S.ms.length := (List.getElem?_eq_some_iff.mp e2).1
  omega, fun a o n _ t e => s.st a o n t e, s.tp, s.on⟩
theorem Cl.stp {H' : Hp} (c : Cl W S0 S) (s : Stp W S.H H') : Cl W S0 { S with H := H' } := by
  refine ⟨s.ok c.ok, c.vol, fun a m z => c.all a m (s.on a z), c.len, c.nd, fun i x e => ?_, c.x0.trans (.stp s)⟩
  obtain ⟨a, e1, m, n, r⟩ := c.cell i x e
  obtain ⟨o, eo, t, _, _⟩ := r.nt
  exact ⟨a, e1, m, n, r.to (by show H' a = S.H a; rw [eo, s.st a o n t eo]) fun v lv h => h.ext c (.stp s)⟩
/-! ### a new place -/
def Stt.put (S : Stt) (p : Addr) (o : HO) (c : Cell) : Stt := { M := fun a => S.M a ∨ a = p, ms := S.ms ++ [p], H := upd S.H p o, η := S.η ++ [some c] }
theorem Ext.put {p : Addr} {o : HO} {c : Cell} (k : Cl W S0 S) (np : S.H p = none) : Ext W S (S.put p o c) := by
  refine ⟨fun _ m => .inl m, fun a m => m.imp id fun z => by rw [z]; exact np, fun i a e => ?_, fun i x h e => ?_, fun i a x h e q => ?_, fun a o' _ _ _ e => ?_, fun a xs e => ?_, fun a e => ?_⟩
  · show (S.ms ++ [p])[i]? = some a
    rw [List.getElem?_append_left (List.getElem?_eq_some_iff.mp e).1]
    exact e
  · have e : (S.η ++ [some c])[i]? = some (some x) := e
    rw [List.getElem?_append_left (by rw [← k.len]; exact h)] at e
    exact ⟨x, e⟩
  · have q : (S.ms ++ [p])[i]? = some a := q
    rw [List.getElem?_append_right h] at q
    have : i - S.ms.length = 0 := by
      have := (List.getElem?_eq_some_iff.mp q).1
      simp at this
      omega
    rw [this] at q
    simp at q
    rw [← q]
    exact np
  · show upd S.H p o a = some o'
    rw [upd_ne (ne_of_none e np)]
    exact e
  · show upd S.H p o a = some _
    rw [upd_ne (ne_of_none e np)]
    exact e
  · by_cases z : a = p
    · rw [z]
      exact np
    · have e : upd S.H p o a = none := e
      rw [upd_ne z] at e
      exact e
theorem Cl.put {p : Addr} {o : HO} {c : Cell} (k : Cl W S0 S) (np : S.H p = none) (nt : (∀ ps, o ≠ .tbl ps) ∧ ∀ φ, o ≠ .ext φ) (r : RelC W (S.put p o c) p c) : Cl W S0 (S.put p o c) := by
  have s : Stp W S.H (upd S.H p o) := .new np
  have x : Ext W S (S.put p o c) := .put k np
  have old : ∀ i y, (S.η ++ [some c])[i]? = some (some y) → (S.η[i]? = some (some y) ∧ i < S.ms.length) ∨ (i = S.ms.length ∧ y = c) := fun i y e => by
    by_cases h : i < S.η.length
    · rw [List.getElem?_append_left h] at e
      exact .inl ⟨e, by rw [k.len]; exact h⟩
    · rw [List.getElem?_append_right (by omega)] at e
      have h2 : i - S.η.length = 0 := by
        have := (List.getElem?_eq_some_iff.mp e).1
        simp at this
        omega
      rw [h2] at e
      simp at e
      exact .inr ⟨by rw [k.len]; omega, e.symm⟩
  have at_new : (S.ms ++ [p])[S.ms.length]? = some p := by simp
  have at_old : ∀ {i a}, i < S.ms.length → (S.ms ++ [p])[i]? = some a → S.ms[i]? = some a := fun {i a} h e => by rwa [List.getElem?_append_left h] at e
  have nop : ∀ {i a y}, S.η[i]? = some (some y) → S.ms[i]? = some a → a ≠ p := fun {i a y} e1 e2 z => by
    obtain ⟨b, e3, m, _⟩ := k.cell i y e1
    rw [e2] at e3
    cases e3
    exact k.all _ m (by rw [z]; exact np)
  refine ⟨s.ok k.ok, fun a z => .inl (k.vol a z), fun a m z => ?_, by show (S.ms ++ [p]).length = (S.η ++ [some c]).length; simp [k.len], fun i j a ci cj e1 e2 q1 q2 => ?_, fun i y e => ?_, k.x0.trans x⟩
  · rcases m with m | rfl
    · exact k.all a m (s.on a z)
    · have z : upd S.H a o a = none := z
      rw [upd_same] at z
      cases z
  · rcases old i ci e1 with ⟨e1, h1⟩ | ⟨rfl, _⟩
    · rcases old j cj e2 with ⟨e2, h2⟩ | ⟨rfl, _⟩
      · exact k.nd i j a ci cj e1 e2 (at_old h1 q1) (at_old h2 q2)
      · have q2 : (S.ms ++ [p])[S.ms.length]? = some a := q2
        rw [at_new] at q2
        cases q2
        exact absurd rfl (nop e1 (at_old h1 q1))
    · have q1 : (S.ms ++ [p])[S.ms.length]? = some a := q1
      rw [at_new] at q1
      cases q1
      rcases old j cj e2 with ⟨e2, h2⟩ | ⟨rfl, _⟩
      · exact absurd rfl (nop e2 (at_old h2 q2))
      · rfl
  · rcases old i y e with ⟨e, h⟩ | ⟨rfl, rfl⟩
    · obtain ⟨a, e1, m, n, q⟩ := k.cell i y e
      refine ⟨a, ?_, .inl m, n, q.to (by show upd S.H p o a = S.H a; rw [upd_ne (nop e e1)]) fun v lv h => h.ext k x⟩
      show (S.ms ++ [p])[i]? = some a
      rw [List.getElem?_append_left h]
      exact e1
    · exact ⟨p, at_new, .inr rfl, fun z => k.all p (k.vol p z) np, r⟩
/-! ### a place changes -/
def Stt.set (S : Stt) (l : Nat) (a : Addr) (o : HO) (c : Cell) : Stt := { S with H := upd S.H a o, η := S.η.set l (some c) }
theorem setO {η : LH} {l i : Nat} {x : Option Cell} {c : Cell} (h : (η.set l x)[i]? = some (some c)) : (l = i ∧ x = some c ∧ l < η.length) ∨ (l ≠ i ∧ η[i]? = some (some c)) := by
  by_cases e : l = i
  · subst e
    by_cases hl : l < η.length
    · rw [List.getElem?_set_self hl] at h
      exact .inl ⟨rfl, Option.some.inj h, hl⟩
    · rw [List.getElem?_eq_none (by simp; omega)] at h
      cases h
  · rw [List.getElem?_set_ne e] at h
    exact .inr ⟨e, h⟩
theorem Ext.set {l : Nat} {a : Addr} {o o0 : HO} {c c0 : Cell} (hl : S.η[l]? = some (some c0)) (ha : S.ms[l]? = some a) (h0 : S.H a = some o0) (nt : ∀ xs, o0 ≠ .tup xs) : Ext W S (S.set l a o c) := by
  have own : S.own a := ⟨l, c0, hl, ha⟩
  refine ⟨fun _ m => m, fun _ m => .inl m, fun _ _ e => e, fun i x h e => ?_, fun i b x h _ q => ?_, fun b o' _ n _ e => ?_, fun b xs e => ?_, fun b e => ?_⟩
  · rcases setO e with ⟨rfl, _, _⟩ | ⟨_, e⟩
    · exact ⟨c0, hl⟩
    · exact ⟨x, e⟩
  · have : i < S.ms.length := (List.getElem?_eq_some_iff.mp q).1
    omega
  · show upd S.H a o b = some o'
    rw [upd_ne (fun z => n (by rw [z]; exact own))]
    exact e
  · show upd S.H a o b = some _
    rw [upd_ne (fun z => by rw [z, h0] at e; exact nt xs (Option.some.inj e))]
    exact e
  · by_cases z : b = a
    · have e : upd S.H a o b = none := e
      rw [z, upd_same] at e
      cases e
    · have e : upd S.H a o b = none := e
      rw [upd_ne z] at e
      exact e
theorem Cl.set {l : Nat} {a : Addr} {o o0 : HO} {c c0 : Cell} (k : Cl W S0 S) (hl : S.η[l]? = some (some c0)) (ha : S.ms[l]? = some a) (h0 : S.H a = some o0) (nt : (∀ xs, o0 ≠ .tup xs) ∧ (∀ ps, o0 ≠ .tbl ps) ∧ ∀ φ, o0 ≠ .ext φ) (r : RelC W (S.set l a o c) a c) : Cl W S0 (S.set l a o c) := by
  have x : Ext W S (S.set l a o c) := .set hl ha h0 nt.1
  obtain ⟨a', ea, ma, na, ra⟩ := k.cell l c0 hl
  rw [ha] at ea
  cases ea
  have live : ∀ {i y}, (S.η.set l (some c))[i]? = some (some y) → ∃ y0, S.η[i]? = some (some y0) := fun {i y} e => by
    rcases setO e with ⟨rfl, _, _⟩ | ⟨_, e⟩
    · exact ⟨c0, hl⟩
    · exact ⟨y, e⟩
  have ok : W.ok (upd S.H a o) := by
    obtain ⟨i1, t1⟩ := k.ok
    refine ⟨W.keep (fun b u v e => ?_) i1, fun P hP => ?_⟩
    · rw [upd_ne (fun z => by
        rcases v with v | ⟨φ, rfl⟩ | ⟨_, ps, rfl⟩
        · exact na (by rw [← z]; exact v)
        · rw [z, h0] at e
          exact nt.2.2 φ (Option.some.inj e)
        · rw [z, h0] at e
          exact nt.2.1 ps (Option.some.inj e))]
      exact e
    · obtain ⟨ps, e, tr⟩ := t1 P hP
      refine ⟨ps, ?_, tr⟩
      rw [upd_ne (fun z => by rw [z, h0] at e; exact nt.2.1 ps (Option.some.inj e))]
      exact e
  refine ⟨ok, k.vol, fun b m z => k.all b m (x.on b z), by show S.ms.length = (S.η.set l (some c)).length; rw [List.length_set]; exact k.len, fun i j b ci cj e1 e2 q1 q2 => ?_, fun i y e => ?_, k.x0.trans x⟩
  · obtain ⟨_, e1⟩ := live e1
    obtain ⟨_, e2⟩ := live e2
    exact k.nd i j b _ _ e1 e2 q1 q2
  · rcases setO e with ⟨rfl, q, _⟩ | ⟨ne, e⟩
    · cases q
      exact ⟨a, ha, ma, na, r⟩
    · obtain ⟨b, e1, m, n, q⟩ := k.cell i y e
      have nb : b ≠ a := fun z => ne (k.nd l i a _ _ hl e ha (by rw [e1, z]))
      exact ⟨b, e1, m, n, q.to (by show upd S.H a o b = S.H b; rw [upd_ne nb]) fun v lv h => h.ext k x⟩
/-! ### places forgotten -/
def Stt.drop (S : Stt) (l : Nat) : Stt := { S with η := S.η.set l none }
theorem Ext.drop {l : Nat} : Ext W S (S.drop l) := ⟨fun _ m => m, fun _ m => .inl m, fun _ _ e => e, fun i c _ e => by
  rcases setO e with ⟨_, q, _⟩ | ⟨_, e⟩
  · cases q
  · exact ⟨c, e⟩, fun i a c h _ q => by
  have : i < S.ms.length := (List.getElem?_eq_some_iff.mp q).1
  omega, fun _ _ _ _ _ e => e, fun _ _ e => e, fun _ e => e⟩
theorem Cl.drop (k : Cl W S0 S) (l : Nat) : Cl W S0 (S.drop l) := by
  have live : ∀ {i y}, (S.η.set l none)[i]? = some (some y) → S.η[i]? = some (some y) := fun {i y} e => by
    rcases setO e with ⟨_, q, _⟩ | ⟨_, e⟩
    · cases q
    · exact e
  have same : ∀ v lv, RelLV W S v lv → RelLV W (S.drop l) v lv := fun v lv h => by cases lv <;> exact h
  refine ⟨k.ok, k.vol, k.all, by show S.ms.length = (S.η.set l none).length; rw [List.length_set]; exact k.len, fun i j b ci cj e1 e2 q1 q2 => k.nd i j b _ _ (live e1) (live e2) q1 q2, fun i y e => ?_, k.x0.trans .drop⟩
  obtain ⟨b, e1, m, n, q⟩ := k.cell i y (live e)
  exact ⟨b, e1, m, n, q.to rfl same⟩
end
/-! ### data seen in a cell -/
def asData : List LV → Option (List PyData)
  | [] => some []
  | .dat d :: r => (asData r).map (d :: ·)
  | _ :: _ => none
def Cell.oc : Cell → Option OC
  | .lst xs => (asData xs).map .lst
  | .dk kvs => (asData (kvs.map (·.2))).map fun ds => .dk ((kvs.map (·.1)).zip ds)
  | _ => none
def viewC : Option (Option Cell) → Option DV
  | some (some c) => c.oc.map .own
  | _ => none
/-- what a value is as one of the data layer -/
def view (η : LH) : LV → Option DV
  | .dat d => some (.dat d)
  | .loc i => viewC η[i]?
  | .deck => some .deck
  | .gts xs => some (.gts xs)
  | .ob v => some (.ob v)
  | .err _ _ => none
section
variable {W : Wc} {S0 S : Stt}
theorem asData_all : ∀ {vs : List V} {ds : List LV} {es : List PyData}, asData ds = some es → RelLs W S vs ds → DxAll S.M S.H vs es
  | [], [], es, h, _ => by
    cases h
    exact .nil
  | v :: vs, d :: ds, es, h, r => by
    cases d with
    | dat d =>
      simp only [asData, Option.map_eq_some_iff] at h
      obtain ⟨z, h, rfl⟩ := h
      exact .cons r.1 (asData_all h r.2)
    | _ => cases h
  | [], _ :: _, _, _, r => r.elim
  | _ :: _, [], _, _, r => r.elim
theorem asData_len : ∀ {ds : List LV} {es : List PyData}, asData ds = some es → ds.length = es.length
  | [], es, h => by
    cases h
    rfl
  | d :: ds, es, h => by
    cases d with
    | dat d =>
      simp only [asData, Option.map_eq_some_iff] at h
      obtain ⟨z, h, rfl⟩ := h
      simp [asData_len h]
    | _ => cases h
theorem asData_map (ds : List PyData) : asData (ds.map .dat) = some ds := by
  induction ds with
  | nil => rfl
  | cons d ds ih => simp [asData, ih]
theorem asData_eq : ∀ {xs : List LV} {ds : List PyData}, asData xs = some ds → xs = ds.map .dat
  | [], _, h => by
    cases h
    rfl
  | x :: xs, ds, h => by
    cases x with
    | dat d =>
      simp only [asData, Option.map_eq_some_iff] at h
      obtain ⟨z, h, rfl⟩ := h
      rw [asData_eq h]
      rfl
    | _ => cases h
theorem RelC.oc {a : Addr} {c : Cell} {o : OC} (h : RelC W S a c) (e : c.oc = some o) : ∃ u, S.H a = some u ∧ RelO S.M S.H u o := by
  cases c with
  | lst xs =>
    obtain ⟨vs, q, r⟩ := h
    simp only [Cell.oc, Option.map_eq_some_iff] at e
    obtain ⟨ds, e, rfl⟩ := e
    exact ⟨_, q, .lst (asData_all e r)⟩
  | dk kvs =>
    obtain ⟨ks, q, r1, r⟩ := h
    simp only [Cell.oc, Option.map_eq_some_iff] at e
    obtain ⟨ds, e, rfl⟩ := e
    have hl := asData_len e
    rw [List.length_map] at hl
    refine ⟨_, q, .dk ?_ ?_⟩
    · rw [r1, List.map_fst_zip (by simp; omega)]
    · rw [List.map_snd_zip (by simp; omega)]
      exact asData_all e r
  | dt kvs => cases e
  | ins c fs => cases e
def Stt.wd (W : Wc) (S : Stt) : Wd := { W with H0 := S.H, M0 := S.M }
theorem Cl.gh (k : Cl W S0 S) : GoodH (S.wd W) S.M S.H := ⟨k.ok, k.vol, k.all, .refl, fun _ z => z, k.all⟩
theorem RelLV.view {v : V} {lv : LV} {dv : DV} (k : Cl W S0 S) (h : RelLV W S v lv) (e : EL.view S.η lv = some dv) : RelDV W S.M S.H v dv := by
  cases lv with
  | dat d =>
    cases e
    exact h
  | loc i =>
    obtain ⟨a, rfl, ha⟩ := h
    have e : viewC S.η[i]? = some dv := e
    cases hc : S.η[i]? with
    | none => rw [hc] at e; cases e
    | some oc =>
      cases oc with
      | none => rw [hc] at e; cases e
      | some c =>
        rw [hc] at e
        simp only [viewC, Option.map_eq_some_iff] at e
        obtain ⟨o, eo, rfl⟩ := e
        obtain ⟨a', ea, m, n, r⟩ := k.cell i c hc
        rw [ha] at ea
        cases ea
        obtain ⟨u, hu, ru⟩ := r.oc eo
        exact ⟨a, u, rfl, hu, ru, m, n⟩
  | deck =>
    cases e
    exact h
  | gts xs =>
    cases e
    exact h
  | ob u =>
    cases e
    exact h
  | err x d => cases e
/-- a value of the data layer as one of ours -/
def ofDV : DV → Option LV
  | .dat d => some (.dat d)
  | .deck => some .deck
  | .gts xs => some (.gts xs)
  | .ob v => some (.ob v)
  | .own _ => none
theorem RelLV.ofDV {v : V} {lv : LV} {dv : DV} (h : RelDV W S.M S.H v dv) (e : EL.ofDV dv = some lv) : RelLV W S v lv := by
  cases dv with
  | own c => cases e
  | dat d =>
    cases e
    exact h
  | deck =>
    cases e
    exact h
  | gts xs =>
    cases e
    exact h
  | ob u =>
    cases e
    exact h
end
/-! ### a place given away: data from now on -/
section
variable {W : Wc} {S0 S : Stt}
def Stt.free (S : Stt) (l : Nat) (a : Addr) : Stt := { S with M := fun b => S.M b ∧ b ≠ a, η := S.η.set l none }
theorem RelLV.less {S' : Stt} {v : V} {lv : LV} (h : RelLV W S v lv) (eH : S'.H = S.H) (em : S'.ms = S.ms) (k : ∀ a, S'.M a → S.M a) : RelLV W S' v lv := by
  cases lv with
  | dat d =>
    show Dx S'.M S'.H v d
    rw [eH]
    exact Dx.re (fun a _ _ m => k a m) _ _ h
  | loc i =>
    obtain ⟨a, e1, e2⟩ := h
    exact ⟨a, e1, by rw [em]; exact e2⟩
  | deck => exact h
  | gts xs => exact h
  | ob u => exact h
  | err x d =>
    obtain ⟨a, dx, fs, w, rfl, n1, n2, h1, h2, hl, hd⟩ := h
    refine ⟨a, dx, fs, w, rfl, fun z => n1 (k a z), fun z => n2 (k dx z), by rw [eH]; exact h1, by rw [eH]; exact h2, hl, ?_⟩
    rw [eH]
    exact Dx.re (fun a _ _ m => k a m) _ _ hd
theorem Ext.free {l : Nat} {a : Addr} {c0 : Cell} (k0 : Cl W S0 S0) (x : Ext W S0 S) (hl : S.η[l]? = some (some c0)) (ha : S.ms[l]? = some a) (n : S0.ms.length ≤ l) : Ext W S0 (S.free l a) := by
  have nH : S0.H a = none := x.nw l a c0 n hl ha
  refine ⟨fun b m => ⟨x.m b m, fun z => k0.all b m (by rw [z]; exact nH)⟩, fun b m => x.fresh b m.1, x.pre, fun i c h e => ?_, fun i b c h e q => ?_, x.st, x.tp, x.on⟩
  · rcases setO e with ⟨_, q, _⟩ | ⟨_, e⟩
    · cases q
    · exact x.liv i c h e
  · rcases setO e with ⟨_, q, _⟩ | ⟨_, e⟩
    · cases q
    · exact x.nw i b c h e q
theorem Cl.free {l : Nat} {a : Addr} {c0 : Cell} (k0 : Cl W S0 S0) (n : S0.ms.length ≤ l) (k : Cl W S0 S) (hl : S.η[l]? = some (some c0)) (ha : S.ms[l]? = some a) : Cl W S0 (S.free l a) := by
  have live : ∀ {i y}, (S.η.set l none)[i]? = some (some y) → l ≠ i ∧ S.η[i]? = some (some y) := fun {i y} e => by
    rcases setO e with ⟨_, q, _⟩ | e
    · cases q
    · exact e
  obtain ⟨a', ea, ma, na, _⟩ := k.cell l c0 hl
  rw [ha] at ea
  cases ea
  refine ⟨k.ok, fun b z => ⟨k.vol b z, fun y => na (by rw [← y]; exact z)⟩, fun b m => k.all b m.1, by show S.ms.length = (S.η.set l none).length; rw [List.length_set]; exact k.len, fun i j b ci cj e1 e2 q1 q2 => k.nd i j b _ _ (live e1).2 (live e2).2 q1 q2, fun i y e => ?_, .free k0 k.x0 hl ha n⟩
  obtain ⟨ne, e⟩ := live e
  obtain ⟨b, e1, m, n, q⟩ := k.cell i y e
  exact ⟨b, e1, ⟨m, fun z => ne (k.nd l i a _ _ hl e ha (by rw [e1, z]))⟩, n, q.to rfl fun v lv h => h.less rfl rfl fun _ m => m.1⟩
theorem RelLV.freed {l : Nat} {a : Addr} {c0 : Cell} {o : OC} (k : Cl W S0 S) (hl : S.η[l]? = some (some c0)) (ha : S.ms[l]? = some a) (e : c0.oc = some o) : Dx (S.free l a).M (S.free l a).H (.ref a) o.pd := by
  obtain ⟨a', ea, ma, na, r⟩ := k.cell l c0 hl
  rw [ha] at ea
  cases ea
  obtain ⟨u, hu, ru⟩ := r.oc e
  exact RelO.dx (fun z => z.2 rfl) hu (ru.re fun b _ _ m => m.1)
end
end EL

set_option Elab.async false
set_option linter.all false
set_option maxRecDepth 100000
set_option maxHeartbeats 1000000
/-! Expressions, tests, arguments, statements over data and places. -/
namespace EL
open PySem PySem.Spec PyProof.Rows L2 KT KG KX KY KE0 LK GxR DL
abbrev LE := LEnv → LH → (LV → LH → Prop) → Prop
abbrev LT := LEnv → LH → (Bool → LH → Prop) → Prop
abbrev LA := LEnv → LH → (List LV → LH → Prop) → Prop
abbrev LF := LEnv → LH → (Cell → LH → Prop) → Prop
def RelOC (W : Wc) (S : Stt) (o : HO) : Cell → Prop
  | .lst xs => ∃ vs, o = .lst vs ∧ RelLs W S vs xs
  | .dk kvs => ∃ ks, o = .dK ks ∧ ks.map (·.1) = kvs.map (·.1) ∧ RelLs W S (ks.map (·.2)) (kvs.map (·.2))
  | .dt kvs => ∃ ks, o = .dT ks ∧ ks.map (·.1) = kvs.map (·.1) ∧ RelLs W S (ks.map (·.2)) (kvs.map (·.2))
  | .ins c fs => ∃ dx gs, o = .ins (He.ga W.K c) dx gs ∧ gs.map (·.1) = fs.map (·.1) ∧ RelLs W S (gs.map (·.2)) (fs.map (·.2))
section
variable {W : Wc} {S0 S S' : Stt}
theorem RelC.iff {a : Addr} {c : Cell} : RelC W S a c ↔ ∃ o, S.H a = some o ∧ RelOC W S o c := by
  cases c with
  | lst xs => exact ⟨fun ⟨vs, e, r⟩ => ⟨_, e, vs, rfl, r⟩, fun ⟨o, e, vs, q, r⟩ => ⟨vs, by rw [e, q], r⟩⟩
  | dk kvs => exact ⟨fun ⟨vs, e, r⟩ => ⟨_, e, vs, rfl, r⟩, fun ⟨o, e, vs, q, r⟩ => ⟨vs, by rw [e, q], r⟩⟩
  | dt kvs => exact ⟨fun ⟨vs, e, r⟩ => ⟨_, e, vs, rfl, r⟩, fun ⟨o, e, vs, q, r⟩ => ⟨vs, by rw [e, q], r⟩⟩
  | ins c fs => exact ⟨fun ⟨dx, vs, e, r⟩ => ⟨_, e, dx, vs, rfl, r⟩, fun ⟨o, e, dx, vs, q, r⟩ => ⟨dx, vs, by rw [e, q], r⟩⟩
theorem RelLs.to (k : ∀ v lv, RelLV W S v lv → RelLV W S' v lv) : ∀ {vs : List V} {ds : List LV}, RelLs W S vs ds → RelLs W S' vs ds
  | [], [], h => h
  | _ :: _, _ :: _, h => ⟨k _ _ h.1, RelLs.to k h.2⟩
  | [], _ :: _, h => h
  | _ :: _, [], h => h
theorem RelOC.to {o : HO} {c : Cell} (h : RelOC W S o c) (k : ∀ v lv, RelLV W S v lv → RelLV W S' v lv) : RelOC W S' o c := by
  cases c with
  | lst xs =>
    obtain ⟨vs, q, r⟩ := h
    exact ⟨vs, q, r.to k⟩
  | dk kvs =>
    obtain ⟨vs, q, r1, r⟩ := h
    exact ⟨vs, q, r1, r.to k⟩
  | dt kvs =>
    obtain ⟨vs, q, r1, r⟩ := h
    exact ⟨vs, q, r1, r.to k⟩
  | ins cl fs =>
    obtain ⟨dx, vs, q, r1, r⟩ := h
    exact ⟨dx, vs, q, r1, r.to k⟩
theorem RelOC.nt {o : HO} {c : Cell} (h : RelOC W S o c) : (∀ xs, o ≠ .tup xs) ∧ (∀ ps, o ≠ .tbl ps) ∧ ∀ φ, o ≠ .ext φ := by
  cases c with
  | lst xs =>
    obtain ⟨vs, rfl, r⟩ := h
    exact ⟨(fun _ z => by cases z), (fun _ z => by cases z), fun _ z => by cases z⟩
  | dk kvs =>
    obtain ⟨vs, rfl, r⟩ := h
    exact ⟨(fun _ z => by cases z), (fun _ z => by cases z), fun _ z => by cases z⟩
  | dt kvs =>
    obtain ⟨vs, rfl, r⟩ := h
    exact ⟨(fun _ z => by cases z), (fun _ z => by cases z), fun _ z => by cases z⟩
  | ins c fs =>
    obtain ⟨dx, vs, rfl, r⟩ := h
    exact ⟨(fun _ z => by cases z), (fun _ z => by cases z), fun _ z => by cases z⟩
theorem RelOC.oc {o : HO} {c : Cell} {oc : OC} (h : RelOC W S o c) (e : c.oc = some oc) : RelO S.M S.H o oc := by
  cases c with
  | lst xs =>
    obtain ⟨vs, rfl, r⟩ := h
    simp only [Cell.oc, Option.map_eq_some_iff] at e
    obtain ⟨ds, e, rfl⟩ := e
    exact .lst (asData_all e r)
  | dk kvs =>
    obtain ⟨ks, rfl, r1, r⟩ := h
    simp only [Cell.oc, Option.map_eq_some_iff] at e
    obtain ⟨ds, e, rfl⟩ := e
    have hl := asData_len e
    rw [List.length_map] at hl
    refine .dk ?_ ?_
    · rw [r1, List.map_fst_zip (by simp; omega)]
    · rw [List.map_snd_zip (by simp; omega)]
      exact asData_all e r
  | dt kvs => cases e
  | ins c fs => cases e
/-- the new place, whole -/
theorem newCell {p : Addr} {o : HO} {c : Cell} (k : Cl W S0 S) (np : S.H p = none) (r : RelOC W S o c) : Cl W S0 (S.put p o c) ∧ Ext W S (S.put p o c) ∧ RelLV W (S.put p o c) (.ref p) (.loc S.η.length) := by
  have x : Ext W S (S.put p o c) := .put k np
  refine ⟨k.put np r.nt.2 (RelC.iff.mpr ⟨o, ?_, r.to fun v lv h => h.ext k x⟩), x, p, rfl, ?_⟩
  · show upd S.H p o p = some o
    exact upd_same
  · show (S.ms ++ [p])[S.η.length]? = some p
    rw [← k.len]
    simp
/-- .. the place changed, whole -/
theorem setCell {l : Nat} {a : Addr} {o : HO} {c c0 : Cell} (k : Cl W S0 S) (hl : S.η[l]? = some (some c0)) (ha : S.ms[l]? = some a) (r : RelOC W S o c) : Cl W S0 (S.set l a o c) ∧ Ext W S (S.set l a o c) := by
  obtain ⟨a', ea, ma, na, ra⟩ := k.cell l c0 hl
  rw [ha] at ea
  cases ea
  obtain ⟨o0, h0, t0, u0, e0⟩ := ra.nt
  have x : Ext W S (S.set l a o c) := .set hl ha h0 u0
  refine ⟨k.set hl ha h0 ⟨u0, t0, e0⟩ (RelC.iff.mpr ⟨o, ?_, r.to fun v lv h => h.ext k x⟩), x⟩
  show upd S.H a o a = some o
  exact upd_same
end
section
variable (W : Wc) (S0 : Stt)
def ContL (S : Stt) (K : LV → LH → Prop) (Q : VK) : Prop := ∀ lv S', Ext W S S' → Cl W S0 S' → K lv S'.η → ∀ v, RelLV W S' v lv → Q v S'.H
def tL (f : LE) : TE := fun σ H Q => ∃ S ρ K, S.H = H ∧ Cl W S0 S ∧ Slots W S σ ρ ∧ f ρ S.η K ∧ ContL W S0 S K Q
def tLT (f : LT) : TT := fun σ H Q => ∃ S ρ K, S.H = H ∧ Cl W S0 S ∧ Slots W S σ ρ ∧ f ρ S.η K ∧ ∀ b S', Ext W S S' → Cl W S0 S' → K b S'.η → Q b S'.H
def tLA (f : LA) : TA := fun σ H Q => ∃ S ρ K, S.H = H ∧ Cl W S0 S ∧ Slots W S σ ρ ∧ f ρ S.η K ∧ ∀ ds S', Ext W S S' → Cl W S0 S' → K ds S'.η → ∀ vs, RelLs W S' vs ds → Q vs S'.H
/-- a new object -/
def tLF (f : LF) : TE := fun σ H Q => ∃ S ρ K, S.H = H ∧ Cl W S0 S ∧ Slots W S σ ρ ∧ f ρ S.η K ∧ ∀ c S', Ext W S S' → Cl W S0 S' → K c S'.η → ∀ p o, S'.H p = none → RelOC W S' o c → Q (.ref p) (upd S'.H p o)
end
theorem ContL.ext {W : Wc} {S0 S S' : Stt} {K : LV → LH → Prop} {Q : VK} (c : ContL W S0 S K Q) (e : Ext W S S') : ContL W S0 S' K Q := fun lv S2 e2 k h v r => c lv S2 (e.trans e2) k h v r
/-- by the data layer's rules -/
theorem ContL.cont {W : Wc} {S0 S : Stt} {K : LV → LH → Prop} {Q : VK} (k : Cl W S0 S) (c : ContL W S0 S K Q) : Cont (S.wd W) S.M S.H (fun dv => ∃ lv, ofDV dv = some lv ∧ K lv S.η) Q := fun dv ⟨lv, e, h⟩ v H' s r => c lv { S with H := H' } (.stp s) (k.stp s) h v (RelLV.ofDV (S := { S with H := H' }) r e)
section
variable {X : Cx} {W : Wc} {S0 : Stt} {e a b : Expr} {es : List Expr} {pos : Pos} {f g : LE}
/-! ### names, constants -/
def xVar (i : Nat) : LE := fun ρ η K => ∃ lv, ρ[i]? = some (some lv) ∧ K lv η
def xC (d : PyData) : LE := fun _ η K => K (.dat d) η
theorem lvar (i : Nat) {x : Str} {pos : Pos} (hN : X.N[i]? = some x := by rfl) (hv : Vis X.env.scope x := by first | exact Or.inl rfl | exact Or.inr (Or.inl rfl) | exact Or.inr (Or.inr rfl)) (hd : (x == ("__debug__" : Str)) = false := by decide)
    (hcd : (x == ("__classdict__" : Str)) = false := by decide) : PE X (.Name x pos) (tL W S0 (xVar i)) := (pe_var hN hv hd hcd).imp fun σ H Q ⟨S, ρ, K, eH, k, s, ⟨lv, e, h⟩, c⟩ => by
  subst eH
  obtain ⟨v, e1, r⟩ := s.2 i lv e
  exact ⟨v, e1, c lv S .refl k h v r⟩
theorem le_c {d : PyData} {v : V} (h : PE X e (tC v)) (r : ∀ S : Stt, Dx S.M S.H v d) : PE X e (tL W S0 (xC d)) := h.imp fun σ H Q ⟨S, ρ, K, eH, k, s, h, c⟩ => by
  subst eH
  exact c (.dat d) S .refl k h v (r S)
theorem le_int {i j pos} : PE X (.Constant (.int i) j pos) (tL W S0 (xC (.int i))) := le_c pe_int fun _ => .int i
theorem le_bl {b j pos} : PE X (.Constant (.bool b) j pos) (tL W S0 (xC (.bool b))) := le_c pe_bl fun _ => .bl b
theorem le_non {j pos} : PE X (.Constant .none j pos) (tL W S0 (xC .none)) := le_c pe_non fun _ => .non
theorem le_str {x j pos} : PE X (.Constant (.str x) j pos) (tL W S0 (xC (.str x))) := le_c pe_str fun _ => .str x
def xOb (v : V) : LE := fun _ η K => K (.ob v) η
theorem le_ob {v : V} (h : PE X e (tC v)) : PE X e (tL W S0 (xOb v)) := h.imp fun σ H Q ⟨S, ρ, K, eH, k, s, h, c⟩ => by
  subst eH
  exact c (.ob v) S .refl k h v rfl
def xGts (xs : List Str) : LE := fun _ η K => K (.gts xs) η
theorem le_gts {a : Addr} {xs : List Str} (h : PE X e (tC (.ref a))) (hK : W.K = X.K) (ha : ∀ H, SqT X.K H a (xs.map V.str)) : PE X e (tL W S0 (xGts xs)) := h.imp fun σ H Q ⟨S, ρ, K, eH, k, s, h, c⟩ => by
  subst eH
  exact c (.gts xs) S .refl k h (.ref a) ⟨a, rfl, by rw [hK]; exact ha⟩
theorem le_gstr {x : Str} (h : PE X e (tC (.str x))) : PE X e (tL W S0 (xC (.str x))) := le_c h fun _ => .str x
theorem le_gint {i : Int} (h : PE X e (tC (.int i))) : PE X e (tL W S0 (xC (.int i))) := le_c h fun _ => .int i
/-! ### operators by the data layer's -/
def up (K : LV → LH → Prop) (η : LH) : DV → Prop := fun dv => ∃ lv, ofDV dv = some lv ∧ K lv η
def views (η : LH) : List LV → Option (List DV)
  | [] => some []
  | x :: xs => match view η x, views η xs with
    | some d, some ds => some (d :: ds)
    | _, _ => none
def x2 (o : DV → DV → (DV → Prop) → Prop) (f g : LE) : LE := fun ρ η K => f ρ η fun x η1 => g ρ η1 fun y η2 => ∃ dx dy, view η2 x = some dx ∧ view η2 y = some dy ∧ o dx dy (up K η2)
def x1 (o : DV → (DV → Prop) → Prop) (f : LE) : LE := fun ρ η K => f ρ η fun x η1 => ∃ dx, view η1 x = some dx ∧ o dx (up K η1)
def xCall (o : List DV → (DV → Prop) → Prop) (fa : LA) : LE := fun ρ η K => fa ρ η fun xs η1 => ∃ ds, views η1 xs = some ds ∧ o ds (up K η1)
theorem views_rel {S : Stt} (k : Cl W S0 S) : ∀ {vs : List V} {xs : List LV} {ds : List DV}, RelLs W S vs xs → views S.η xs = some ds → RelAll (S.wd W) S.M S.H vs ds
  | [], [], ds, _, e => by
    cases e
    trivial
  | v :: vs, x :: xs, ds, h, e => by
    unfold views at e
    cases h1 : view S.η x with
    | none => rw [h1] at e; cases e
    | some d =>
      cases h2 : views S.η xs with
      | none => rw [h1, h2] at e; cases e
      | some r =>
        rw [h1, h2] at e
        cases e
        exact ⟨h.1.view k h1, views_rel k h.2 h2⟩
  | [], _ :: _, _, h, _ => h.elim
  | _ :: _, [], _, h, _ => h.elim
theorem impL2 {r : R2} {o : DV → DV → (DV → Prop) → Prop} (s : ∀ S : Stt, Snd2 (S.wd W) r o) (σ : L2.St) (H : Hp) (Q : VK) (h : tL W S0 (x2 o f g) σ H Q) : tOp r (tL W S0 f) (tL W S0 g) σ H Q := by
  obtain ⟨S, ρ, K, rfl, k, sl, h, c⟩ := h
  refine ⟨S, ρ, _, rfl, k, sl, h, fun x S1 e1 k1 hx v r1 => ⟨S1, ρ, _, rfl, k1, sl.ext k e1, hx, fun y S2 e2 k2 hy u r2 => ?_⟩⟩
  obtain ⟨dx, dy, vx, vy, ho⟩ := hy
  exact s S2 k2.gh ((r1.ext k1 e2).view k2 vx) (r2.view k2 vy) ho ((c.ext (e1.trans e2)).cont k2)
theorem impL1 {r : V → Hp → VK → Prop} {o : DV → (DV → Prop) → Prop} (s : ∀ S : Stt, Snd1 (S.wd W) r o) (σ : L2.St) (H : Hp) (Q : VK) (h : tL W S0 (x1 o f) σ H Q) : tUn r (tL W S0 f) σ H Q := by
  obtain ⟨S, ρ, K, rfl, k, sl, h, c⟩ := h
  refine ⟨S, ρ, _, rfl, k, sl, h, fun x S1 e1 k1 hx v r1 => ?_⟩
  obtain ⟨dx, vx, ho⟩ := hx
  exact s S1 k1.gh (r1.view k1 vx) ho ((c.ext e1).cont k1)
theorem impLC {r : List V → Hp → VK → Prop} {o : List DV → (DV → Prop) → Prop} {fa : LA} (s : ∀ S : Stt, SndC (S.wd W) r o) (σ : L2.St) (H : Hp) (Q : VK) (h : tL W S0 (xCall o fa) σ H Q) : tCB r (tLA W S0 fa) σ H Q := by
  obtain ⟨S, ρ, K, rfl, k, sl, h, c⟩ := h
  refine ⟨S, ρ, _, rfl, k, sl, h, fun xs S1 e1 k1 hx vs r1 => ?_⟩
  obtain ⟨ds, vx, ho⟩ := hx
  exact s S1 k1.gh (views_rel k1 r1 vx) ho ((c.ext e1).cont k1)
theorem le_op {op : Operator} {r : R2} {o : DV → DV → (DV → Prop) → Prop} (h : OpR X (binaryOp op) r) (s : ∀ S : Stt, Snd2 (S.wd W) r o) (ha : PE X a (tL W S0 f)) (hb : PE X b (tL W S0 g)) : PE X (.BinOp a op b pos) (tL W S0 (x2 o f g)) := (pe_op h ha hb).imp (impL2 s)
theorem le_un {op : UnaryOp} {r : V → Hp → VK → Prop} {o : DV → (DV → Prop) → Prop} (h : UnR X (unaryOp op) r) (s : ∀ S : Stt, Snd1 (S.wd W) r o) (ha : PE X a (tL W S0 f)) : PE X (.UnaryOp op a pos) (tL W S0 (x1 o f)) := (pe_un h ha).imp (impL1 s)
theorem le_cmp {op : CmpOp} {r : R2} {o : DV → DV → (DV → Prop) → Prop} (h : OpR X (compareOp op) r) (s : ∀ S : Stt, Snd2 (S.wd W) r o) (ha : PE X a (tL W S0 f)) (hb : PE X b (tL W S0 g)) (hm : behindInMarks op b = false := by first | exact nobehind _ (by decide) (by decide) | rfl) : PE X (.Compare a [op] [b] pos) (tL W S0 (x2 o f g)) := (pe_cmpR h ha hb hm).imp (impL2 s)
theorem le_cb {e : Expr} {r : List V → Hp → VK → Prop} {o : List DV → (DV → Prop) → Prop} {fa : LA} (h : PE X e (tCB r (tLA W S0 fa))) (s : ∀ S : Stt, SndC (S.wd W) r o) : PE X e (tL W S0 (xCall o fa)) := h.imp (impLC s)
/-! ### a part -/
def lookC : Cell → PyData → (LV → Prop) → Prop
  | .lst xs, .int i, K => ∃ y, atI xs i = some y ∧ K y
  | _, _, _ => False
/-- x[i]: of data; of a list at a place -/
def ixL (η : LH) : LV → LV → (LV → Prop) → Prop
  | .dat d, .dat e, K => ixP d e fun r => K (.dat r)
  | .loc l, .dat e, K => ∃ c, η[l]? = some (some c) ∧ lookC c e K
  | _, _, _ => False
def xIx (f g : LE) : LE := fun ρ η K => f ρ η fun x η1 => g ρ η1 fun y η2 => ixL η2 x y fun z => K z η2
theorem atI_at {α β : Type} {xs : List α} {ys : List β} (h : xs.length = ys.length) {i : Int} {y : β} (e : atI ys i = some y) : ∃ (j : Nat) (x : α), atI xs i = some x ∧ xs[j]? = some x ∧ ys[j]? = some y := atI_len h e
theorem le_ix (ha : PE X a (tL W S0 f)) (hb : PE X b (tL W S0 g)) (hs : PlainIx b := by intro _ _; rfl) : PE X (.Subscript a b pos) (tL W S0 (xIx f g)) := (pe_ix ix_all ha hb hs).imp fun σ H Q h => by
  obtain ⟨S, ρ, K, rfl, k, sl, h, c⟩ := h
  refine ⟨S, ρ, _, rfl, k, sl, h, fun x S1 e1 k1 hx v r1 => ⟨S1, ρ, _, rfl, k1, sl.ext k e1, hx, fun y S2 e2 k2 hy u r2 => ?_⟩⟩
  have r1' := r1.ext k1 e2
  have c2 := c.ext (e1.trans e2)
  match x, y, hy, r1', r2 with
  | .dat d, .dat e, hy, r1', r2 =>
    have hy : ixP d e fun r => K (.dat r) S2.η := hy
    have h2 : op2 ixP (.dat d) (.dat e) fun dv => ∃ r, dv = .dat r ∧ K (.dat r) S2.η := by
      refine ⟨d, e, rfl, rfl, ?_⟩
      simpa using hy
    exact sn_ix (X := X) (W := S2.wd W) (dx := .dat d) (dy := .dat e) k2.gh r1' r2 h2 (fun dv hw v2 H' s r => by
      obtain ⟨w, rfl, hw⟩ := hw
      exact c2 (.dat w) { S2 with H := H' } (.stp s) (k2.stp s) hw v2 r)
  | .loc l, .dat e, hy, r1', r2 =>
    obtain ⟨cc, hc, hl⟩ := hy
    match cc, e, hl, hc, r2 with
    | .lst xs, .int i, hl, hc, r2 =>
      obtain ⟨y, hy, hk⟩ := hl
      obtain ⟨a, rfl, ha⟩ := r1'
      obtain ⟨a', ea, m, n, vs, hv, rl⟩ := k2.cell l _ hc
      rw [ha] at ea
      cases ea
      cases (show Dx S2.M S2.H u (.int i) from r2)
      obtain ⟨j, v, q1, q2, q3⟩ := atI_at (xs := vs) rl.length hy
      obtain ⟨v', q4, rv⟩ := rl.at q3
      rw [q2] at q4
      cases q4
      exact .inl ⟨a, vs, i, v, rfl, rfl, SqL.of hv, q1, c2 y S2 .refl k2 hk v rv⟩
/-! ### tests -/
def xB (f : LE) : LT := fun ρ η K => f ρ η fun x η1 => ∃ c, x = .dat (.bool c) ∧ K c η1
theorem impLB (σ : L2.St) (H : Hp) (Q : Bool → Hp → Prop) (h : tLT W S0 (xB f) σ H Q) : tB (tL W S0 f) σ H Q := by
  obtain ⟨S, ρ, K, rfl, k, sl, h, c⟩ := h
  refine ⟨S, ρ, _, rfl, k, sl, h, fun x S1 e1 k1 hx v r1 => ?_⟩
  obtain ⟨b, rfl, hb⟩ := hx
  cases (show Dx S1.M S1.H v (.bool b) from r1)
  exact ⟨b, rfl, c b S1 e1 k1 hb⟩
theorem lt_val (h : PE X e (tL W S0 f)) (he : ∀ whole, isTrue e X.env whole = (do let v ← whole; standAt e.pos; holding [v] (truthy v)) := by intro _; rfl) : PT X e (tLT W S0 (xB f)) := (pt_val h he).imp impLB
theorem lt_cmp {op : CmpOp} {r : R2} {o : DV → DV → (DV → Prop) → Prop} (h : OpR X (compareOp op) r) (s : ∀ S : Stt, Snd2 (S.wd W) r o) (ha : PE X a (tL W S0 f)) (hb : PE X b (tL W S0 g)) (hm : behindInMarks op b = false := by first | exact nobehind _ (by decide) (by decide) | rfl) : PT X (.Compare a [op] [b] pos) (tLT W S0 (xB (x2 o f g))) :=
  (pt_cmpR h ha hb hm).imp fun σ H Q z => by
    obtain ⟨S, ρ, K, eH, k, sl, h, c⟩ := z
    exact impL2 s σ H _ ⟨S, ρ, _, eH, k, sl, h, fun lv S' e k' hk v r => by
      obtain ⟨b, rfl, hb⟩ := hk
      cases (show Dx S'.M S'.H v (.bool b) from r)
      exact ⟨b, rfl, c b S' e k' hb⟩⟩
def truC : Cell → (Bool → Prop) → Prop
  | .lst xs, K => K (!xs.isEmpty)
  | .dk xs, K => K (!xs.isEmpty)
  | _, _ => False
def truL (η : LH) : LV → (Bool → Prop) → Prop
  | .dat d, K => (∀ z, d = .str z → z.length ≤ sizeLine) ∧ K (truD d)
  | .loc l, K => ∃ c, η[l]? = some (some c) ∧ truC c K
  | _, _ => False
def xTru (f : LE) : LT := fun ρ η K => f ρ η fun x η1 => truL η1 x fun b => K b η1
theorem lt_tru (h : PE X e (tL W S0 f)) (he : ∀ whole, isTrue e X.env whole = (do let v ← whole; standAt e.pos; holding [v] (truthy v)) := by intro _; rfl) : PT X e (tLT W S0 (xTru f)) := (pt_truth h he).imp fun σ H Q h => by
  obtain ⟨S, ρ, K, rfl, k, sl, h, c⟩ := h
  refine ⟨S, ρ, _, rfl, k, sl, h, fun x S1 e1 k1 hx v r1 => ?_⟩
  match x, hx, r1 with
  | .dat d, hx, r1 =>
    obtain ⟨hz, hb⟩ := hx
    have fin := c _ S1 e1 k1 hb
    cases (show Dx S1.M S1.H v d from r1) with
    | non => exact ⟨_, rfl, fin⟩
    | bl b => exact ⟨_, rfl, fin⟩
    | int i => exact ⟨_, rfl, fin⟩
    | str x => exact ⟨_, ⟨hz x rfl, rfl⟩, fin⟩
    | lst n e r => exact ⟨_, .inl ⟨_, SqL.of e, by rw [emp_of (DxAll.length r)]; rfl⟩, fin⟩
    | tup e r => exact ⟨_, .inr (.inl ⟨_, SqT.of e, by rw [emp_of (DxAll.length r)]; rfl⟩), fin⟩
    | dk n e r => exact ⟨_, .inr (.inr ⟨_, e, by rw [emp_of (kv_length r)]; rfl⟩), fin⟩
  | .loc l, hx, r1 =>
    obtain ⟨cc, hc, hb⟩ := hx
    obtain ⟨a, rfl, ha⟩ := r1
    obtain ⟨a', ea, m, n, rc⟩ := k1.cell l _ hc
    rw [ha] at ea
    cases ea
    match cc, hb, rc with
    | .lst xs, hb, rc =>
      obtain ⟨vs, hv, rl⟩ := rc
      exact ⟨_, .inl ⟨_, SqL.of hv, by rw [emp_of rl.length]⟩, c _ S1 e1 k1 hb⟩
    | .dk xs, hb, rc =>
      obtain ⟨vs, hv, rl, _⟩ := rc
      have hl : vs.length = xs.length := by
        have := congrArg List.length rl
        simpa using this
      exact ⟨_, .inr (.inr ⟨_, hv, by rw [emp_of hl]⟩), c _ S1 e1 k1 hb⟩
/-! ### and, or, not, if -/
def xAnd (f g : LE) : LE := fun ρ η K => f ρ η fun x η1 => ∃ c, x = .dat (.bool c) ∧ iteB c (g ρ η1 K) (K (.dat (.bool false)) η1)
def xOr (f g : LE) : LE := fun ρ η K => f ρ η fun x η1 => ∃ c, x = .dat (.bool c) ∧ iteB c (K (.dat (.bool true)) η1) (g ρ η1 K)
def xNot (f : LE) : LE := fun ρ η K => f ρ η fun x η1 => ∃ c, x = .dat (.bool c) ∧ K (.dat (.bool (!c))) η1
def xIf (t : LT) (f g : LE) : LE := fun ρ η K => t ρ η fun c η1 => iteB c (f ρ η1 K) (g ρ η1 K)
def yAnd (t u : LT) : LT := fun ρ η K => t ρ η fun c η1 => iteB c (u ρ η1 K) (K false η1)
def yOr (t u : LT) : LT := fun ρ η K => t ρ η fun c η1 => iteB c (K true η1) (u ρ η1 K)
def yNot (t : LT) : LT := fun ρ η K => t ρ η fun c η1 => K (!c) η1
variable {rest : List Expr} {t u : LT}
theorem le_and (ha : PE X a (tL W S0 f)) (hb : PE X (.BoolOp .And (b :: rest) pos) (tL W S0 g)) : PE X (.BoolOp .And (a :: b :: rest) pos) (tL W S0 (xAnd f g)) := (pe_and ha hb).imp fun σ H Q h => by
  obtain ⟨S, ρ, K, rfl, k, sl, h, c⟩ := h
  refine ⟨S, ρ, _, rfl, k, sl, h, fun x S1 e1 k1 hx v r1 => ?_⟩
  obtain ⟨b, rfl, hb⟩ := hx
  cases (show Dx S1.M S1.H v (.bool b) from r1)
  refine ⟨b, rfl, ?_⟩
  cases b with
  | true => exact iteT ⟨S1, ρ, _, rfl, k1, sl.ext k e1, by simpa using hb, c.ext e1⟩
  | false => exact iteF (c _ S1 e1 k1 (by simpa using hb) _ (show RelLV W S1 (.bl false) (.dat (.bool false)) from Dx.bl false))
theorem le_or (ha : PE X a (tL W S0 f)) (hb : PE X (.BoolOp .Or (b :: rest) pos) (tL W S0 g)) : PE X (.BoolOp .Or (a :: b :: rest) pos) (tL W S0 (xOr f g)) := (pe_or ha hb).imp fun σ H Q h => by
  obtain ⟨S, ρ, K, rfl, k, sl, h, c⟩ := h
  refine ⟨S, ρ, _, rfl, k, sl, h, fun x S1 e1 k1 hx v r1 => ?_⟩
  obtain ⟨b, rfl, hb⟩ := hx
  cases (show Dx S1.M S1.H v (.bool b) from r1)
  refine ⟨b, rfl, ?_⟩
  cases b with
  | false => exact iteF ⟨S1, ρ, _, rfl, k1, sl.ext k e1, by simpa using hb, c.ext e1⟩
  | true => exact iteT (c _ S1 e1 k1 (by simpa using hb) _ (show RelLV W S1 (.bl true) (.dat (.bool true)) from Dx.bl true))
theorem le_not (ha : PE X a (tL W S0 f)) : PE X (.UnaryOp .Not a pos) (tL W S0 (xNot f)) := (pe_not ha).imp fun σ H Q h => by
  obtain ⟨S, ρ, K, rfl, k, sl, h, c⟩ := h
  refine ⟨S, ρ, _, rfl, k, sl, h, fun x S1 e1 k1 hx v r1 => ?_⟩
  obtain ⟨b, rfl, hb⟩ := hx
  cases (show Dx S1.M S1.H v (.bool b) from r1)
  exact ⟨b, rfl, c _ S1 e1 k1 hb _ (Dx.bl _)⟩
/-- not x of any value, by its truth -/
def xNotT (t : LT) : LE := fun ρ η K => t ρ η fun c η1 => K (.dat (.bool (!c))) η1
theorem le_if {c : Expr} (hc : PT X c (tLT W S0 t)) (ha : PE X a (tL W S0 f)) (hb : PE X b (tL W S0 g)) : PE X (.IfExp c a b pos) (tL W S0 (xIf t f g)) := (pe_ifExp hc ha hb).imp fun σ H Q h => by
  obtain ⟨S, ρ, K, rfl, k, sl, h, c⟩ := h
  refine ⟨S, ρ, _, rfl, k, sl, h, fun d S1 e1 k1 hd => ?_⟩
  cases d with
  | true => exact iteT ⟨S1, ρ, _, rfl, k1, sl.ext k e1, by simpa using hd, c.ext e1⟩
  | false => exact iteF ⟨S1, ρ, _, rfl, k1, sl.ext k e1, by simpa using hd, c.ext e1⟩
theorem lw_and1 (ha : PT X a (tLT W S0 t)) : PW X (.BoolOp .And [a] pos) (tLT W S0 t) := pw_and1 ha
theorem lw_or1 (ha : PT X a (tLT W S0 t)) : PW X (.BoolOp .Or [a] pos) (tLT W S0 t) := pw_or1 ha
theorem lw_and (ha : PT X a (tLT W S0 t)) (hb : PW X (.BoolOp .And (b :: rest) pos) (tLT W S0 u)) : PW X (.BoolOp .And (a :: b :: rest) pos) (tLT W S0 (yAnd t u)) := (pw_and ha hb).imp fun σ H Q h => by
  obtain ⟨S, ρ, K, rfl, k, sl, h, c⟩ := h
  refine ⟨S, ρ, _, rfl, k, sl, h, fun d S1 e1 k1 hd => ?_⟩
  cases d with
  | true => exact iteT ⟨S1, ρ, _, rfl, k1, sl.ext k e1, by simpa using hd, fun b S2 e2 k2 hb => c b S2 (e1.trans e2) k2 hb⟩
  | false => exact iteF (c _ S1 e1 k1 (by simpa using hd))
theorem lw_or (ha : PT X a (tLT W S0 t)) (hb : PW X (.BoolOp .Or (b :: rest) pos) (tLT W S0 u)) : PW X (.BoolOp .Or (a :: b :: rest) pos) (tLT W S0 (yOr t u)) := (pw_or ha hb).imp fun σ H Q h => by
  obtain ⟨S, ρ, K, rfl, k, sl, h, c⟩ := h
  refine ⟨S, ρ, _, rfl, k, sl, h, fun d S1 e1 k1 hd => ?_⟩
  cases d with
  | false => exact iteF ⟨S1, ρ, _, rfl, k1, sl.ext k e1, by simpa using hd, fun b S2 e2 k2 hb => c b S2 (e1.trans e2) k2 hb⟩
  | true => exact iteT (c _ S1 e1 k1 (by simpa using hd))
theorem lt_not (ha : PT X a (tLT W S0 t)) : PT X (.UnaryOp .Not a pos) (tLT W S0 (yNot t)) := (pt_not ha).imp fun σ H Q h => by
  obtain ⟨S, ρ, K, rfl, k, sl, h, c⟩ := h
  exact ⟨S, ρ, _, rfl, k, sl, h, fun b S1 e1 k1 hb => c (!b) S1 e1 k1 hb⟩
/-! ### arguments -/
def xNil : LA := fun _ η K => K [] η
def xCons (f : LE) (g : LA) : LA := fun ρ η K => f ρ η fun x η1 => g ρ η1 fun xs η2 => K (x :: xs) η2
theorem la_nil : PA X [] (tLA W S0 xNil) := pa_nil.imp fun σ H Q h => by
  obtain ⟨S, ρ, K, rfl, k, sl, h, c⟩ := h
  exact c [] S .refl k h [] trivial
theorem la_cons {fa : LA} (h1 : PE X e (tL W S0 f)) (h2 : PA X es (tLA W S0 fa)) (he : starEach (e :: es) X.env = (false, eval e X.env) :: starEach es X.env := by rfl) : PA X (e :: es) (tLA W S0 (xCons f fa)) := (pa_cons h1 h2 he).imp fun σ H Q h => by
  obtain ⟨S, ρ, K, rfl, k, sl, h, c⟩ := h
  refine ⟨S, ρ, _, rfl, k, sl, h, fun x S1 e1 k1 hx v r1 => ⟨S1, ρ, _, rfl, k1, sl.ext k e1, hx, fun ds S2 e2 k2 hd vs r2 => ?_⟩⟩
  exact c _ S2 (e1.trans e2) k2 hd _ ⟨r1.ext k1 e2, r2⟩
/-! ### new tuples and lists -/
def xTup (fa : LA) : LE := fun ρ η K => fa ρ η fun xs η1 => ∃ ds, asData xs = some ds ∧ ds.length ≤ sizeLine ∧ K (.dat (.tuple ds)) η1
def xLst (fa : LA) : LF := fun ρ η K => fa ρ η fun xs η1 => xs.length ≤ sizeLine ∧ K (.lst xs) η1
theorem le_tup {fa : LA} {x1} (h : PA X es (tLA W S0 fa)) : PE X (.Tuple es x1 pos) (tL W S0 (xTup fa)) := (pe_tup h).imp fun σ H Q h => by
  obtain ⟨S, ρ, K, rfl, k, sl, h, c⟩ := h
  refine ⟨S, ρ, _, rfl, k, sl, h, fun xs S1 e1 k1 hx vs r1 => ?_⟩
  obtain ⟨ds, hd, hl, hk⟩ := hx
  refine ⟨by rw [r1.length, asData_len hd]; exact hl, fun p np => ?_⟩
  have s : Stp W S1.H (upd S1.H p (.tup vs)) := .new np
  refine c _ { S1 with H := upd S1.H p (.tup vs) } (e1.trans (.stp s)) (k1.stp s) hk (.ref p) ?_
  exact Dx.tup upd_same (Dx.kpAll (Stp.kp k1.vol s) _ _ (asData_all hd r1))
theorem lf_lst {fa : LA} (h : PA X es (tLA W S0 fa)) : PE X (.List es pos) (tLF W S0 (xLst fa)) := (pe_lst h).imp fun σ H Q h => by
  obtain ⟨S, ρ, K, rfl, k, sl, h, c⟩ := h
  refine ⟨S, ρ, _, rfl, k, sl, h, fun xs S1 e1 k1 hx vs r1 => ?_⟩
  exact ⟨by rw [r1.length]; exact hx.1, fun p np => c _ S1 e1 k1 hx.2 p _ np ⟨vs, rfl, r1⟩⟩
def xDnew : LF := fun _ η K => K (.dk []) η
theorem lf_dnew : PE X (.Dict [] [] pos) (tLF W S0 xDnew) := pe_dnewK.imp fun σ H Q h => by
  obtain ⟨S, ρ, K, rfl, k, sl, h, c⟩ := h
  exact fun p np => c _ S .refl k h p _ np ⟨[], rfl, rfl, trivial⟩
/-- a new object as data; as a place -/
def xNew (f : LF) : LE := fun ρ η K => f ρ η fun c η1 => ∃ o, c.oc = some o ∧ K (.dat o.pd) η1
def xCell (f : LF) : LE := fun ρ η K => f ρ η fun c η1 => K (.loc η1.length) (η1 ++ [some c])
theorem le_new {f : LF} (h : PE X e (tLF W S0 f)) : PE X e (tL W S0 (xNew f)) := h.imp fun σ H Q h => by
  obtain ⟨S, ρ, K, rfl, k, sl, h, c⟩ := h
  refine ⟨S, ρ, _, rfl, k, sl, h, fun cc S1 e1 k1 hc p o np r => ?_⟩
  obtain ⟨oc, eo, hk⟩ := hc
  have s : Stp W S1.H (upd S1.H p o) := .new np
  refine c _ { S1 with H := upd S1.H p o } (e1.trans (.stp s)) (k1.stp s) hk (.ref p) ?_
  exact RelO.dx (fun z => k1.all p z np) upd_same ((r.oc eo).kp (Stp.kp k1.vol s))
theorem le_cell {f : LF} (h : PE X e (tLF W S0 f)) : PE X e (tL W S0 (xCell f)) := h.imp fun σ H Q h => by
  obtain ⟨S, ρ, K, rfl, k, sl, h, c⟩ := h
  refine ⟨S, ρ, _, rfl, k, sl, h, fun cc S1 e1 k1 hc p o np r => ?_⟩
  obtain ⟨k2, x2, rv⟩ := newCell k1 np r
  exact c _ _ (e1.trans x2) k2 hc (.ref p) rv
end
/-! ### statements -/
structure LEnds where
  nx : LEnv → LH → Prop
  rt : LV → LH → Prop
  bk : LEnv → LH → Prop := fun _ _ => False
  ct : LEnv → LH → Prop := fun _ _ => False
  /-- the places lent -/
  n : Nat := 0
abbrev LS := LEnds → LEnv → LH → Prop
structure GoodS (W : Wc) (S0 : Stt) (L : List (V × LV)) (S : Stt) (σ : L2.St) (ρ : LEnv) : Prop where
  k0 : Cl W S0 S0
  x : Ext W S0 S
  k : Cl W S0 S
  s : Slots W S σ ρ
  live : ∀ p ∈ L, RelLV W S p.1 p.2
theorem GoodS.ext {W : Wc} {S0 S S' : Stt} {L : List (V × LV)} {σ : L2.St} {ρ : LEnv} (g : GoodS W S0 L S σ ρ) (e : Ext W S S') (k : Cl W S0 S') : GoodS W S0 L S' σ ρ := ⟨g.k0, g.x.trans e, k, g.s.ext g.k e, fun p hp => (g.live p hp).ext g.k e⟩
structure LeL (W : Wc) (S0 : Stt) (L : List (V × LV)) (E : LEnds) (D : Ends) : Prop where
  nx : ∀ {S σ ρ}, GoodS W S0 L S σ ρ → E.nx ρ S.η → D.nx σ S.H
  bk : ∀ {S σ ρ}, GoodS W S0 L S σ ρ → E.bk ρ S.η → D.bk σ S.H
  ct : ∀ {S σ ρ}, GoodS W S0 L S σ ρ → E.ct ρ S.η → D.ct σ S.H
  rt : ∀ {S lv v}, Cl W S0 S → Ext W S0 S → RelLV W S v lv → E.rt lv S.η → D.rt v S.H
  n : E.n = S0.ms.length
def tLS (W : Wc) (S0 : Stt) (g : LS) : TS := fun D σ H => ∃ L S ρ E, S.H = H ∧ GoodS W S0 L S σ ρ ∧ g E ρ S.η ∧ LeL W S0 L E D
theorem Slots.set {W : Wc} {S : Stt} {σ : L2.St} {ρ : LEnv} {i : Nat} {v : V} {lv : LV} (s : Slots W S σ ρ) (r : RelLV W S v lv) : Slots W S (σ.set i (some v)) (ρ.set i (some lv)) := by
  refine ⟨by simp [s.1], fun j d e => ?_⟩
  rcases setAt e with ⟨rfl, q, hl⟩ | ⟨ne, q⟩
  · cases q
    exact ⟨v, by rw [List.getElem?_set_self (by rw [s.1]; exact hl)], r⟩
  · obtain ⟨u, e1, r1⟩ := s.2 j d q
    exact ⟨u, by rw [List.getElem?_set_ne ne]; exact e1, r1⟩
theorem Slots.unset {W : Wc} {S : Stt} {σ : L2.St} {ρ : LEnv} {i : Nat} {x : Option V} (s : Slots W S σ ρ) : Slots W S (σ.set i x) (ρ.set i none) := by
  refine ⟨by simp [s.1], fun j d e => ?_⟩
  rcases setAt e with ⟨rfl, q, hl⟩ | ⟨ne, q⟩
  · cases q
  · obtain ⟨u, e1, r1⟩ := s.2 j d q
    exact ⟨u, by rw [List.getElem?_set_ne ne]; exact e1, r1⟩
def wipeL (ρ : LEnv) : List Nat → LEnv
  | [] => ρ
  | v :: vs => (wipeL ρ vs).set v none
theorem Slots.wipe {W : Wc} {S : Stt} {σ : L2.St} {ρ : LEnv} (s : Slots W S σ ρ) : ∀ vs : List Nat, Slots W S (L2.wipe σ vs) (wipeL ρ vs)
  | [] => s
  | v :: vs => (Slots.wipe s vs).unset
section
variable {X : Cx} {W : Wc} {S0 : Stt} {st : Stmt} {sts : List Stmt} {e : Expr} {pos : Pos} {g g2 : LS} {f : LE}
def zNext : LS := fun E ρ η => E.nx ρ η
def zSeq (g g2 : LS) : LS := fun E ρ η => g { E with nx := g2 E } ρ η
theorem lss_nil : PSs X [] (tLS W S0 zNext) := pss_nil.imp fun D σ H ⟨L, S, ρ, E, eH, gd, k, le⟩ => by
  subst eH
  exact le.nx gd k
theorem lss_cons (h1 : PS X st (tLS W S0 g)) (h2 : PSs X sts (tLS W S0 g2)) : PSs X (st :: sts) (tLS W S0 (zSeq g g2)) := (pss_cons h1 h2).imp fun D σ H ⟨L, S, ρ, E, eH, gd, k, le⟩ =>
  ⟨L, S, ρ, { E with nx := g2 E }, eH, gd, k, fun gd' k' => ⟨L, _, _, E, rfl, gd', k', le⟩, le.bk, le.ct, le.rt, le.n⟩
theorem lss_one (h1 : PS X st (tLS W S0 g)) : PSs X [st] (tLS W S0 g) := pss_one h1
/-- the ways behind a statement, joined -/
def zCut (g g2 : LS) : LS := fun E ρ η => ∃ Mid : LEnv → LH → Prop, g { E with nx := Mid } ρ η ∧ ∀ ρ' η', Mid ρ' η' → g2 E ρ' η'
theorem lss_cut (h1 : PS X st (tLS W S0 g)) (h2 : PSs X sts (tLS W S0 g2)) : PSs X (st :: sts) (tLS W S0 (zCut g g2)) := (pss_cons h1 h2).imp fun D σ H ⟨L, S, ρ, E, eH, gd, ⟨Mid, k, kk⟩, le⟩ =>
  ⟨L, S, ρ, { E with nx := Mid }, eH, gd, k, fun gd' k' => ⟨L, _, _, E, rfl, gd', kk _ _ k', le⟩, le.bk, le.ct, le.rt, le.n⟩
def zBreak : LS := fun E ρ η => E.bk ρ η
def zCont : LS := fun E ρ η => E.ct ρ η
theorem ls_pass : PS X (.Pass pos) (tLS W S0 zNext) := ps_pass.imp fun D σ H ⟨L, S, ρ, E, eH, gd, k, le⟩ => by
  subst eH
  exact le.nx gd k
theorem ls_break : PS X (.Break pos) (tLS W S0 zBreak) := ps_break.imp fun D σ H ⟨L, S, ρ, E, eH, gd, k, le⟩ => by
  subst eH
  exact le.bk gd k
theorem ls_continue : PS X (.Continue pos) (tLS W S0 zCont) := ps_continue.imp fun D σ H ⟨L, S, ρ, E, eH, gd, k, le⟩ => by
  subst eH
  exact le.ct gd k
def zDrop (f : LE) : LS := fun E ρ η => f ρ η fun _ η1 => E.nx ρ η1
theorem ls_expr (he : PE X e (tL W S0 f)) (hs : swapsWith e none pos.line X.env = pure false := by rfl) : PS X (.Expr e pos) (tLS W S0 (zDrop f)) := (ps_expr he hs).imp fun D σ H ⟨L, S, ρ, E, eH, gd, k, le⟩ =>
  ⟨S, ρ, _, eH, gd.k, gd.s, k, fun lv S1 e1 k1 hd v r1 => le.nx (gd.ext e1 k1) hd⟩
def zRet (f : LE) : LS := fun E ρ η => f ρ η fun x η1 => E.rt x η1
theorem ls_ret (he : PE X e (tL W S0 f)) : PS X (.Return (some e) pos) (tLS W S0 (zRet f)) := (ps_ret he).imp fun D σ H ⟨L, S, ρ, E, eH, gd, k, le⟩ => ⟨S, ρ, _, eH, gd.k, gd.s, k, fun lv S1 e1 k1 hd v r1 => le.rt k1 (gd.x.trans e1) r1 hd⟩
/-- .. a place given out as data -/
def frz (n : Nat) (η : LH) : LV → Option PyData
  | .dat d => some d
  | .loc l => if n ≤ l then (match viewC η[l]? with
    | some (.own o) => some o.pd
    | _ => none) else none
  | _ => none
def zRetF (f : LE) : LS := fun E ρ η => f ρ η fun x η1 => ∃ d, frz E.n η1 x = some d ∧ ∀ η2, E.rt (.dat d) η2
theorem ls_retF (he : PE X e (tL W S0 f)) : PS X (.Return (some e) pos) (tLS W S0 (zRetF f)) := (ps_ret he).imp fun D σ H ⟨L, S, ρ, E, eH, gd, k, le⟩ => ⟨S, ρ, _, eH, gd.k, gd.s, k, fun lv S1 e1 k1 hd v r1 => by
  obtain ⟨d, hf, hr⟩ := hd
  have x1 := gd.x.trans e1
  cases lv with
  | dat d' =>
    cases hf
    exact le.rt k1 x1 r1 (hr _)
  | loc l =>
    have hf : (if E.n ≤ l then (match viewC S1.η[l]? with
      | some (.own o) => some o.pd
      | _ => none) else none) = some d := hf
    split at hf
    · rename_i hn
      obtain ⟨a, rfl, ha⟩ := r1
      cases hc : S1.η[l]? with
      | none => rw [hc] at hf; cases hf
      | some oc =>
        cases oc with
        | none => rw [hc] at hf; cases hf
        | some c =>
          rw [hc] at hf
          simp only [viewC] at hf
          cases ho : c.oc with
          | none => rw [ho] at hf; cases hf
          | some o =>
            rw [ho] at hf
            cases hf
            rw [le.n] at hn
            exact le.rt (S := S1.free l a) (Cl.free gd.k0 hn k1 hc ha) (Ext.free gd.k0 x1 hc ha hn) (show RelLV W (S1.free l a) (.ref a) (.dat o.pd) from RelLV.freed k1 hc ha ho) (hr _)
    · cases hf
  | deck => cases hf
  | gts _ => cases hf
  | ob _ => cases hf
  | err _ _ => cases hf⟩
def zRetN : LS := fun E _ η => E.rt (.dat .none) η
theorem ls_retN : PS X (.Return none pos) (tLS W S0 zRetN) := ps_retN.imp fun D σ H ⟨L, S, ρ, E, eH, gd, k, le⟩ => by
  subst eH
  exact le.rt (lv := .dat .none) gd.k gd.x (show RelLV W S .non (.dat .none) from Dx.non) k
def zIf (t : LT) (g g2 : LS) : LS := fun E ρ η => t ρ η fun c η1 => iteB c (g E ρ η1) (g2 E ρ η1)
theorem ls_if {c : Expr} {a b : List Stmt} {t : LT} (hc : PT X c (tLT W S0 t)) (ha : PSs X a (tLS W S0 g)) (hb : PSs X b (tLS W S0 g2)) : PS X (.If c a b pos) (tLS W S0 (zIf t g g2)) := (ps_if hc ha hb).imp fun D σ H ⟨L, S, ρ, E, eH, gd, k, le⟩ => by
  refine ⟨S, ρ, _, eH, gd.k, gd.s, k, fun d S1 e1 k1 hd => ?_⟩
  cases d with
  | true => exact iteT ⟨L, S1, ρ, E, rfl, gd.ext e1 k1, by simpa using hd, le⟩
  | false => exact iteF ⟨L, S1, ρ, E, rfl, gd.ext e1 k1, by simpa using hd, le⟩
/-! ### names stored -/
def zAsg (i : Nat) (f : LE) : LS := fun E ρ η => f ρ η fun x η1 => E.nx (ρ.set i (some x)) η1
theorem ls_set {i : Nat} {x : Str} {pos' : Pos} (hN : X.N.Nodup) (hi : X.N[i]? = some x) (hx : Loc X.env.scope x) (he : PE X e (tL W S0 f)) (hs : swapsWith e (some (.Name x pos')) pos.line X.env = pure false := by rfl) (hf : X.fn x = true ∨ X.env.scope.names.lookup x = some .local := by first | exact .inl rfl | exact .inr rfl | assumption) :
    PS X (.Assign [.Name x pos'] e pos) (tLS W S0 (zAsg i f)) := (ps_set hN hi hx he hs hf).imp fun D σ H ⟨L, S, ρ, E, eH, gd, k, le⟩ =>
  ⟨S, ρ, _, eH, gd.k, gd.s, k, fun lv S1 e1 k1 hd v r1 => by
    have g1 := gd.ext e1 k1
    exact le.nx ⟨g1.k0, g1.x, g1.k, g1.s.set r1, g1.live⟩ hd⟩
/-- from here on a place is data -/
def zRel (i : Nat) (g : LS) : LS := fun E ρ η => ∃ l o, ρ[i]? = some (some (.loc l)) ∧ viewC η[l]? = some (.own o) ∧ E.n ≤ l ∧ g E (ρ.set i (some (.dat o.pd))) (η.set l none)
theorem GoodS.rel {S : Stt} {L : List (V × LV)} {σ : L2.St} {ρ : LEnv} {i l : Nat} {o : OC} (g : GoodS W S0 L S σ ρ) (h1 : ρ[i]? = some (some (.loc l))) (h2 : viewC S.η[l]? = some (.own o)) (n : S0.ms.length ≤ l) : ∃ S', S'.H = S.H ∧ S'.η = S.η.set l none ∧ GoodS W S0 L S' σ (ρ.set i (some (.dat o.pd))) := by
  obtain ⟨v, e1, a, rfl, ha⟩ := g.s.2 i _ h1
  cases hc : S.η[l]? with
  | none => rw [hc] at h2; cases h2
  | some oc =>
    cases oc with
    | none => rw [hc] at h2; cases h2
    | some c =>
      rw [hc] at h2
      simp only [viewC, Option.map_eq_some_iff, DV.own.injEq] at h2
      obtain ⟨o', ho, rfl⟩ := h2
      have less : ∀ {v lv}, RelLV W S v lv → RelLV W (S.free l a) v lv := fun h => h.less rfl rfl fun _ m => m.1
      refine ⟨S.free l a, rfl, rfl, g.k0, Ext.free g.k0 g.x hc ha n, Cl.free g.k0 n g.k hc ha, ?_, fun p hp => less (g.live p hp)⟩
      have s1 : Slots W (S.free l a) σ ρ := ⟨g.s.1, fun j lv q => by
        obtain ⟨v, e2, r⟩ := g.s.2 j lv q
        exact ⟨v, e2, less r⟩⟩
      have s2 := s1.set (i := i) (v := .ref a) (lv := .dat o'.pd) (RelLV.freed g.k hc ha ho)
      have : σ.set i (some (V.ref a)) = σ := by
        apply List.ext_getElem?
        intro j
        by_cases z : i = j
        · subst z
          rw [e1, List.getElem?_set_self (List.getElem?_eq_some_iff.mp e1).1]
        · rw [List.getElem?_set_ne z]
      rw [this] at s2
      exact s2
theorem lss_rel (i : Nat) (h : PSs X sts (tLS W S0 g)) : PSs X sts (tLS W S0 (zRel i g)) := h.imp fun D σ H ⟨L, S, ρ, E, eH, gd, ⟨l, o, h1, h2, h3, k⟩, le⟩ => by
  obtain ⟨S', e1, e2, g'⟩ := gd.rel h1 h2 (by rw [← le.n]; exact h3)
  exact ⟨L, S', _, E, by rw [e1]; exact eH, g', by rw [e2]; exact k, le⟩
theorem ls_rel (i : Nat) (h : PS X st (tLS W S0 g)) : PS X st (tLS W S0 (zRel i g)) := h.imp fun D σ H ⟨L, S, ρ, E, eH, gd, ⟨l, o, h1, h2, h3, k⟩, le⟩ => by
  obtain ⟨S', e1, e2, g'⟩ := gd.rel h1 h2 (by rw [← le.n]; exact h3)
  exact ⟨L, S', _, E, by rw [e1]; exact eH, g', by rw [e2]; exact k, le⟩
end
end EL

set_option Elab.async false
set_option linter.all false
set_option maxRecDepth 100000
set_option maxHeartbeats 1000000
/-! Targets, walks, loops, comprehensions, all and any. -/
namespace EL
open PySem PySem.Spec PyProof.Rows L2 KT KG KX KY KE0 LK GxR DL
/-! ### targets -/
inductive SetsL (W : Wc) (S : Stt) (T : Nat → Prop) : L2.St → LEnv → L2.St → LEnv → Prop
  | refl {σ : L2.St} {ρ : LEnv} : SetsL W S T σ ρ σ ρ
  | set {σ σ' : L2.St} {ρ ρ' : LEnv} {i : Nat} {v : V} {lv : LV} : SetsL W S T σ ρ σ' ρ' → RelLV W S v lv → T i → SetsL W S T σ ρ (σ'.set i (some v)) (ρ'.set i (some lv))
abbrev GL := LV → LEnv → (LEnv → Prop) → Prop
abbrev GLs := List LV → LEnv → (LEnv → Prop) → Prop
def SndGL (W : Wc) (T : Nat → Prop) (g : TG) (gd : GL) : Prop := ∀ {S v lv σ0 ρ0 σ ρ K} {Q : L2.St → Hp → Prop}, RelLV W S v lv → SetsL W S T σ0 ρ0 σ ρ → gd lv ρ K → (∀ σ' ρ', SetsL W S T σ0 ρ0 σ' ρ' → K ρ' → Q σ' S.H) → g v σ S.H Q
def SndGLs (W : Wc) (T : Nat → Prop) (g : TGs) (gd : GLs) : Prop := ∀ {S vs ds σ0 ρ0 σ ρ K} {Q : L2.St → Hp → Prop}, RelLs W S vs ds → SetsL W S T σ0 ρ0 σ ρ → gd ds ρ K → (∀ σ' ρ', SetsL W S T σ0 ρ0 σ' ρ' → K ρ' → Q σ' S.H) → g vs σ S.H Q
def glN (i : Nat) : GL := fun lv ρ K => K (ρ.set i (some lv))
def glT (n : Nat) (gs : GLs) : GL := fun lv ρ K => match lv with
  | .dat (.tuple ds) => ds.length = n ∧ gs (ds.map .dat) ρ K
  | _ => False
def glNil : GLs := fun ds ρ K => match ds with
  | [] => K ρ
  | _ :: _ => False
def glCons (g : GL) (gs : GLs) : GLs := fun ds ρ K => match ds with
  | d :: r => g d ρ fun ρ' => gs r ρ' K
  | [] => False
theorem glT_t (n : Nat) (gs : GLs) (ds : List PyData) (ρ : LEnv) (K : LEnv → Prop) : glT n gs (.dat (.tuple ds)) ρ K = (ds.length = n ∧ gs (ds.map .dat) ρ K) := rfl
theorem glNil_n (ρ : LEnv) (K : LEnv → Prop) : glNil [] ρ K = K ρ := rfl
theorem glCons_c (g : GL) (gs : GLs) (d : LV) (r : List LV) (ρ : LEnv) (K : LEnv → Prop) : glCons g gs (d :: r) ρ K = g d ρ fun ρ' => gs r ρ' K := rfl
section
variable {W : Wc} {S0 S : Stt} {T : Nat → Prop} {σ σ' : L2.St} {ρ ρ' : LEnv}
theorem SetsL.slots (s : SetsL W S T σ ρ σ' ρ') (g : Slots W S σ ρ) : Slots W S σ' ρ' := by
  induction s with
  | refl => exact g
  | set _ r _ ih => exact (ih g).set r
theorem SetsL.wipe {vs : List Nat} (s : SetsL W S (· ∈ vs) σ ρ σ' ρ') : L2.wipe σ' vs = L2.wipe σ vs := by
  induction s with
  | refl => rfl
  | set _ _ h ih => rw [wipe_set h, ih]
theorem sl_name {i : Nat} (h : T i) : SndGL W T (gName i) (glN i) := fun hx s k q => q _ _ (s.set hx h) k
theorem dxs_rel : ∀ {vs : List V} {ds : List PyData}, DxAll S.M S.H vs ds → RelLs W S vs (ds.map .dat)
  | [], [], _ => trivial
  | _ :: _, _ :: _, h => by
    cases h with
    | cons h1 h2 => exact ⟨h1, dxs_rel h2⟩
  | [], _ :: _, h => by cases h
  | _ :: _, [], h => by cases h
theorem sl_tup {K : PySem.W.Frag} {n : Nat} {t : TGs} {gs : GLs} (h : SndGLs W T t gs) : SndGL W T (gTup K n t) (glT n gs) := fun {S v lv σ0 ρ0 σ ρ K' Q} hx s k q => by
  match lv, hx, k with
  | .dat (.tuple ds), hx, k =>
    obtain ⟨hl, k⟩ := k
    obtain ⟨a, xs, rfl, e, r⟩ := Dx.tupOf (show Dx S.M S.H v (.tuple ds) from hx)
    exact ⟨a, xs, rfl, SqT.of e, by rw [DxAll.length r]; exact hl, h (dxs_rel r) s k q⟩
theorem sls_nil : SndGLs W T gNil glNil := fun {S vs ds σ0 ρ0 σ ρ K' Q} hx s k q => by
  match ds, k with
  | [], k => match vs, hx with
    | [], _ => exact ⟨rfl, q _ _ s k⟩
theorem sls_cons {g : TG} {t : TGs} {gd : GL} {gs : GLs} (h1 : SndGL W T g gd) (h2 : SndGLs W T t gs) : SndGLs W T (gCons g t) (glCons gd gs) := fun {S vs ds σ0 ρ0 σ ρ K' Q} hx s k q => by
  match ds, k with
  | d :: ds, k => match vs, hx with
    | v :: vs, hx => exact ⟨_, _, rfl, h1 hx.1 s k fun σ' ρ' s' k' => h2 hx.2 s' k' q⟩
end
section
variable {X : Cx} {W : Wc} {S0 : Stt} {e tg iter : Expr} {pos : Pos} {f : LE}
def zAsgT (f : LE) (gd : GL) : LS := fun E ρ η => f ρ η fun x η1 => gd x ρ fun ρ' => E.nx ρ' η1
theorem ls_asg {g : TG} {gd : GL} (he : PE X e (tL W S0 f)) (hg : PG X tg g) (sg : SndGL W (fun _ => True) g gd) (hs : swapsWithSole [tg] e pos.line X.env = pure false := by rfl) (hw : swappedStores [tg] e X.env = pure none := by rfl)
    (h1 : (assignEach [tg] X.env).map (·.2) = [assign tg X.env] := by rfl) : PS X (.Assign [tg] e pos) (tLS W S0 (zAsgT f gd)) := (ps_asg he hg hs hw h1).imp fun D σ H ⟨L, S, ρ, E, eH, gd', k, le⟩ =>
  ⟨S, ρ, _, eH, gd'.k, gd'.s, k, fun lv S1 e1 k1 hd v r1 => by
    have g1 := gd'.ext e1 k1
    exact sg r1 .refl hd fun σ' ρ' s k' => le.nx ⟨g1.k0, g1.x, g1.k, s.slots g1.s, g1.live⟩ k'⟩
/-! ### what is walked -/
structure WalkL (W : Wc) (S0 : Stt) (J : It) (items : List LV) (live : List (V × LV)) (gu : LH → Prop) : Prop where
  go : ∀ {i S}, Cl W S0 S → (∀ p ∈ live, RelLV W S p.1 p.2) → gu S.η → i < items.length → J.go i S.H
  stop : ∀ {S}, Cl W S0 S → (∀ p ∈ live, RelLV W S p.1 p.2) → gu S.η → J.stop items.length S.H
  yld : ∀ {i S x H'}, Cl W S0 S → (∀ p ∈ live, RelLV W S p.1 p.2) → gu S.η → i < items.length → J.yld i S.H x H' → Stp W S.H H' ∧ ∃ d, items[i]? = some d ∧ RelLV W { S with H := H' } x d
abbrev LI := LEnv → LH → (List LV → (LH → Prop) → LH → Prop) → Prop
def tLI (W : Wc) (S0 : Stt) (fi : LI) : TI := fun σ H R => ∃ S ρ K, S.H = H ∧ Cl W S0 S ∧ Slots W S σ ρ ∧ fi ρ S.η K ∧ ∀ items gu S', Ext W S S' → Cl W S0 S' → K items gu S'.η → ∀ J live H', Stp W S'.H H' → (∀ p ∈ live, RelLV W { S' with H := H' } p.1 p.2) → WalkL W S0 J items live gu → R J H'
/-- the data layer's walks -/
theorem WalkL.ofD {J : It} {items : List PyData} {live : List (V × LV)} {liveD : List (V × DV)} (h : ∀ S : Stt, Cl W S0 S → (∀ p ∈ live, RelLV W S p.1 p.2) → ∀ p ∈ liveD, RelDV (S.wd W) S.M S.H p.1 p.2) (w : ∀ S : Stt, WalkD (S.wd W) J items liveD) : WalkL W S0 J (items.map .dat) live (fun _ => True) := by
  refine ⟨fun {i S} k hl _ hi => (w S).go (M := S.M) (h S k hl) (by simpa using hi), fun {S} k hl _ => by simpa using (w S).stop (M := S.M) (h S k hl), fun {i S x H'} k hl _ hi y => ?_⟩
  obtain ⟨s, d, hd, xd⟩ := (w S).yld k.gh (h S k hl) (by simpa using hi) y
  exact ⟨s, .dat d, by simp [hd], xd⟩
def itemsL (η : LH) : LV → (List LV → (LH → Prop) → Prop) → Prop
  | .dat (.tuple ds), K => K (ds.map .dat) (fun _ => True)
  | .dat (.list ds), K => K (ds.map .dat) (fun _ => True)
  | .dat (.str z), K => K ((DL.signs z).map .dat) (fun _ => True)
  | .gts xs, K => K (xs.map fun x => .dat (.str x)) (fun _ => True)
  | .loc l, K => ∃ xs, η[l]? = some (some (.lst xs)) ∧ K xs (fun η' => η'[l]? = some (some (.lst xs)))
  | _, _ => False
def xIt (f : LE) : LI := fun ρ η K => f ρ η fun x η1 => itemsL η1 x fun items gu => K items gu η1
theorem walkL_loc {K : PySem.W.Frag} {a : Addr} {l : Nat} {xs : List LV} : WalkL W S0 (Itl K a) xs [(.ref a, .loc l)] (fun η' => η'[l]? = some (some (.lst xs))) := by
  have get : ∀ {S : Stt}, Cl W S0 S → (∀ p ∈ [((V.ref a), LV.loc l)], RelLV W S p.1 p.2) → S.η[l]? = some (some (.lst xs)) → ∃ vs, SqL K S.H a vs ∧ RelLs W S vs xs := fun {S} k h e => by
    obtain ⟨b, e1, e2⟩ := h _ List.mem_cons_self
    cases e1
    obtain ⟨a', ea, _, _, vs, hv, r⟩ := k.cell l _ e
    rw [e2] at ea
    cases ea
    exact ⟨vs, SqL.of hv, r⟩
  refine ⟨fun {i S} k h g hi => ?_, fun {S} k h g => ?_, fun {i S x H'} k h g hi y => ?_⟩
  · obtain ⟨vs, e, r⟩ := get k h g
    have h2 : i < vs.length := by
      rw [r.length]
      exact hi
    exact ⟨vs, vs[i], e, by simp [h2]⟩
  · obtain ⟨vs, e, r⟩ := get k h g
    exact ⟨vs, e, Nat.le_of_eq r.length⟩
  · obtain ⟨vs, e, r⟩ := get k h g
    obtain ⟨rfl, y⟩ := y
    have y := y vs e
    obtain ⟨v, h1, h2⟩ := r.at (List.getElem?_eq_getElem hi)
    rw [y] at h1
    cases h1
    exact ⟨.refl, xs[i], List.getElem?_eq_getElem hi, h2⟩
theorem li_seq (he : PE X e (tL W S0 f)) (hK : W.K = X.K) : PI X tg e (tLI W S0 (xIt f)) := (pi_seqA he).imp fun σ H R h => by
  obtain ⟨S, ρ, K, rfl, k, sl, h, c⟩ := h
  refine ⟨S, ρ, _, rfl, k, sl, h, fun x S1 e1 k1 hx v r1 => ?_⟩
  match x, hx, r1 with
  | .dat (.tuple ds), hx, r1 =>
    obtain ⟨a, xs, rfl, e, r⟩ := Dx.tupOf (show Dx S1.M S1.H v (.tuple ds) from r1)
    refine .inl ⟨a, rfl, ⟨_, SqT.of e⟩, c _ _ S1 e1 k1 hx _ [(.ref a, .dat (.tuple ds))] S1.H .refl (fun p hp => by rw [List.mem_singleton.mp hp]; exact r1) (.ofD (liveD := [(.ref a, .dat (.tuple ds))]) (fun S k h p hp => ?_) fun S => walkD_tup)⟩
    rw [List.mem_singleton.mp hp]
    exact h _ List.mem_cons_self
  | .dat (.list ds), hx, r1 =>
    have r1' := r1
    cases (show Dx S1.M S1.H v (.list ds) from r1) with
    | @lst a xs _ n e r =>
      refine .inr (.inl ⟨_, rfl, ⟨_, SqL.of e⟩, c _ _ S1 e1 k1 hx _ [(.ref a, .dat (.list ds))] S1.H .refl (fun p hp => by rw [List.mem_singleton.mp hp]; exact r1') (.ofD (liveD := [(.ref a, .dat (.list ds))]) (fun S k h p hp => ?_) fun S => walkD_lst (.inl rfl))⟩)
      rw [List.mem_singleton.mp hp]
      exact h _ List.mem_cons_self
  | .dat (.str z), hx, r1 =>
    cases (show Dx S1.M S1.H v (.str z) from r1) with
    | str _ => exact .inr (.inr ⟨z, rfl, c _ _ S1 e1 k1 hx _ [] S1.H .refl (fun p hp => by cases hp) (.ofD (liveD := []) (fun S k h p hp => by cases hp) fun S => walkD_str)⟩)
  | .gts xs, hx, r1 =>
    obtain ⟨a, rfl, h⟩ := r1
    refine .inl ⟨a, rfl, ⟨_, by rw [← hK]; exact h S1.H⟩, ?_⟩
    rw [← hK]
    refine c _ _ S1 e1 k1 hx _ [] S1.H .refl (fun p hp => by cases hp) ?_
    have := WalkL.ofD (W := W) (S0 := S0) (J := Itt W.K a) (items := xs.map PyData.str) (live := []) (liveD := []) (fun S k h p hp => by cases hp) fun S => walkD_gts (W := S.wd W) (a := a) (xs := xs) h
    rw [List.map_map] at this
    exact this
  | .loc l, hx, r1 =>
    have r1' := r1
    obtain ⟨xs, hc, hk⟩ := hx
    obtain ⟨a, rfl, ha⟩ := r1
    obtain ⟨a', ea, _, _, vs, hv, r⟩ := k1.cell l _ hc
    rw [ha] at ea
    cases ea
    exact .inr (.inl ⟨a, rfl, ⟨vs, SqL.of hv⟩, c _ _ S1 e1 k1 hk _ [(.ref a, .loc l)] S1.H .refl (fun p hp => by rw [List.mem_singleton.mp hp]; exact r1') walkL_loc⟩)
theorem li_gts {a : Addr} {xs : List Str} (h : PE X e (tC (.ref a))) (hK : W.K = X.K) (ha : ∀ H, SqT X.K H a (xs.map V.str)) : PI X tg e (tLI W S0 (xIt (xGts xs))) := li_seq (le_gts h hK ha) hK
def xRng1 (fa : LA) : LI := fun ρ η K => fa ρ η fun xs η1 => ∃ n : Int, xs = [.dat (.int n)] ∧ -(2 ^ 62) ≤ n ∧ n < 2 ^ 62 ∧ K ((rngD 0 n.toNat).map .dat) (fun _ => True) η1
def xRng2 (fa : LA) : LI := fun ρ η K => fa ρ η fun xs η1 => ∃ i j : Int, xs = [.dat (.int i), .dat (.int j)] ∧ (-(2 ^ 62) ≤ i ∧ i < 2 ^ 62 ∧ -(2 ^ 62) ≤ j ∧ j < 2 ^ 62) ∧ K ((rngD i (j - i).toNat).map .dat) (fun _ => True) η1
theorem rl1 {S : Stt} {vs : List V} {d : LV} (r : RelLs W S vs [d]) : ∃ v, vs = [v] ∧ RelLV W S v d := by
  match vs, r with
  | [v], r => exact ⟨v, rfl, r.1⟩
theorem rl2 {S : Stt} {vs : List V} {d e : LV} (r : RelLs W S vs [d, e]) : ∃ v u, vs = [v, u] ∧ RelLV W S v d ∧ RelLV W S u e := by
  match vs, r with
  | [v, u], r => exact ⟨v, u, rfl, r.1, r.2.1⟩
theorem rl3 {S : Stt} {vs : List V} {d e f : LV} (r : RelLs W S vs [d, e, f]) : ∃ v u z, vs = [v, u, z] ∧ RelLV W S v d ∧ RelLV W S u e ∧ RelLV W S z f := by
  match vs, r with
  | [v, u, z], r => exact ⟨v, u, z, rfl, r.1, r.2.1, r.2.2.1⟩
theorem rlI {S : Stt} {v : V} {n : Int} (r : RelLV W S v (.dat (.int n))) : v = .int n := by
  cases (show Dx S.M S.H v (.int n) from r)
  rfl
theorem li_range1 {fa : LA} {a : Expr} {p : Pos} (hg : Gl X "range") (hm : X.mg "range" = none) (ha : PA X [a] (tLA W S0 fa)) (hs : starEach [a] X.env = [(false, eval a X.env)] := by rfl) : PI X tg (.Call (.Name "range" p) [a] [] pos) (tLI W S0 (xRng1 fa)) := (pi_range1 hg hm ha hs).imp fun σ H R h => by
  obtain ⟨S, ρ, K, rfl, k, sl, h, c⟩ := h
  refine ⟨S, ρ, _, rfl, k, sl, h, fun xs S1 e1 k1 hx vs r1 => ?_⟩
  obtain ⟨n, rfl, h1, h2, hk⟩ := hx
  obtain ⟨v, rfl, r⟩ := rl1 r1
  cases rlI r
  exact ⟨n, rfl, h1, h2, c _ _ S1 e1 k1 hk _ [] S1.H .refl (fun p hp => by cases hp) (.ofD (liveD := []) (fun S k h p hp => by cases hp) fun S => walkD_rng)⟩
theorem li_range2 {fa : LA} {a b : Expr} {p : Pos} (hg : Gl X "range") (hm : X.mg "range" = none) (ha : PA X [a, b] (tLA W S0 fa)) (hs : starEach [a, b] X.env = [(false, eval a X.env), (false, eval b X.env)] := by rfl) (hs2 : starEach [b] X.env = [(false, eval b X.env)] := by rfl) : PI X tg (.Call (.Name "range" p) [a, b] [] pos) (tLI W S0 (xRng2 fa)) := (pi_range2 hg hm ha hs hs2).imp fun σ H R h => by
  obtain ⟨S, ρ, K, rfl, k, sl, h, c⟩ := h
  refine ⟨S, ρ, _, rfl, k, sl, h, fun xs S1 e1 k1 hx vs r1 => ?_⟩
  obtain ⟨i, j, rfl, h1, hk⟩ := hx
  obtain ⟨v, u, rfl, r, r2⟩ := rl2 r1
  cases rlI r
  cases rlI r2
  exact ⟨i, j, rfl, h1, c _ _ S1 e1 k1 hk _ [] S1.H .refl (fun p hp => by cases hp) (.ofD (liveD := []) (fun S k h p hp => by cases hp) fun S => walkD_rng)⟩
end
/-! ### places beyond a number, forgotten -/
def Stt.take (S : Stt) (n : Nat) : Stt := { S with ms := S.ms.take n, η := S.η.take n }
theorem take_at {α : Type} {l : List α} {n i : Nat} {x : α} (h : (l.take n)[i]? = some x) : i < n ∧ l[i]? = some x := by
  by_cases hi : i < n
  · rw [List.getElem?_take_of_lt hi] at h
    exact ⟨hi, h⟩
  · rw [List.getElem?_eq_none (by simp; omega)] at h
    cases h
/-- what does not name a place beyond -/
def below (n : Nat) : LV → Bool
  | .loc l => decide (l < n)
  | _ => true
def cellB (n : Nat) : Cell → Bool
  | .lst xs => xs.all (below n)
  | .dk kvs => kvs.all fun p => below n p.2
  | .dt kvs => kvs.all fun p => below n p.2
  | .ins _ fs => fs.all fun p => below n p.2
def cellsB (n : Nat) (η : LH) : Bool := η.all fun c => match c with
  | some c => cellB n c
  | none => true
theorem all_dat (n : Nat) (ds : List PyData) : (ds.map LV.dat).all (below n) = true := by
  induction ds with
  | nil => rfl
  | cons d ds ih =>
    rw [List.map_cons, List.all_cons, ih]
    rfl
def cleanR (n : Nat) : LEnv → LEnv
  | [] => []
  | some lv :: r => (if below n lv = true then some lv else none) :: cleanR n r
  | none :: r => none :: cleanR n r
section
variable {W : Wc} {S0 S S' : Stt}
theorem RelLV.take {n : Nat} {v : V} {lv : LV} (h : RelLV W S v lv) (b : below n lv = true) : RelLV W (S.take n) v lv := by
  cases lv with
  | loc l =>
    obtain ⟨a, e1, e2⟩ := h
    refine ⟨a, e1, ?_⟩
    show (S.ms.take n)[l]? = some a
    rw [List.getElem?_take_of_lt (by simpa [below] using b)]
    exact e2
  | dat d => exact h
  | deck => exact h
  | gts _ => exact h
  | ob _ => exact h
  | err _ _ => exact h
theorem RelLs.take {n : Nat} : ∀ {vs : List V} {ds : List LV}, RelLs W S vs ds → ds.all (below n) = true → RelLs W (S.take n) vs ds
  | [], [], h, _ => h
  | _ :: _, _ :: _, h, b => by
    rw [List.all_cons, Bool.and_eq_true] at b
    exact ⟨h.1.take b.1, RelLs.take h.2 b.2⟩
  | [], _ :: _, h, _ => h
  | _ :: _, [], h, _ => h
theorem RelC.take {n : Nat} {a : Addr} {c : Cell} (h : RelC W S a c) (b : cellB n c = true) : RelC W (S.take n) a c := by
  have sn : ∀ {α : Type} {kvs : List (α × LV)}, (kvs.all fun p => below n p.2) = true → (kvs.map (·.2)).all (below n) = true := fun h => by
    rw [List.all_map]
    exact h
  cases c with
  | lst xs =>
    obtain ⟨vs, q, r⟩ := h
    exact ⟨vs, q, r.take b⟩
  | dk kvs =>
    obtain ⟨vs, q, r1, r⟩ := h
    exact ⟨vs, q, r1, r.take (sn b)⟩
  | dt kvs =>
    obtain ⟨vs, q, r1, r⟩ := h
    exact ⟨vs, q, r1, r.take (sn b)⟩
  | ins cl fs =>
    obtain ⟨dx, vs, q, r1, r⟩ := h
    exact ⟨dx, vs, q, r1, r.take (sn b)⟩
theorem Ext.take {n : Nat} (x : Ext W S0 S) (hn : S0.ms.length ≤ n) : Ext W S0 (S.take n) := by
  refine ⟨x.m, x.fresh, fun i a e => ?_, fun i c h e => x.liv i c h (take_at e).2, fun i a c h e q => x.nw i a c h (take_at e).2 (take_at q).2, x.st, x.tp, x.on⟩
  have := (List.getElem?_eq_some_iff.mp e).1
  show (S.ms.take n)[i]? = some a
  rw [List.getElem?_take_of_lt (by omega)]
  exact x.pre i a e
theorem Cl.take {n : Nat} (hn : S0.ms.length ≤ n) (k : Cl W S0 S) (b : cellsB n (S.η.take n) = true) : Cl W S0 (S.take n) := by
  have lower : ∀ {i c}, (S.η.take n)[i]? = some (some c) → cellB n c = true := fun {i c} e => List.all_eq_true.mp b _ (List.mem_of_getElem? e)
  refine ⟨k.ok, k.vol, k.all, ?_, fun i j a ci cj e1 e2 q1 q2 => k.nd i j a ci cj (take_at e1).2 (take_at e2).2 (take_at q1).2 (take_at q2).2, fun i c e => ?_, k.x0.take hn⟩
  · show (S.ms.take n).length = (S.η.take n).length
    rw [List.length_take, List.length_take, k.len]
  · obtain ⟨hi, e2⟩ := take_at e
    obtain ⟨a, e1, m, nv, r⟩ := k.cell i c e2
    refine ⟨a, ?_, m, nv, r.take (lower e)⟩
    show (S.ms.take n)[i]? = some a
    rw [List.getElem?_take_of_lt hi]
    exact e1
theorem cleanR_at {n : Nat} : ∀ {ρ : LEnv} {i : Nat} {lv : LV}, (cleanR n ρ)[i]? = some (some lv) → ρ[i]? = some (some lv) ∧ below n lv = true
  | [], i, lv, e => by simp [cleanR] at e
  | some x :: r, 0, lv, e => by
    simp only [cleanR, List.getElem?_cons_zero, Option.some.injEq] at e
    split at e
    · rename_i h
      cases e
      exact ⟨rfl, h⟩
    · cases e
  | none :: r, 0, lv, e => by simp [cleanR] at e
  | some x :: r, i + 1, lv, e => by
    simp only [cleanR, List.getElem?_cons_succ] at e ⊢
    exact cleanR_at e
  | none :: r, i + 1, lv, e => by
    simp only [cleanR, List.getElem?_cons_succ] at e ⊢
    exact cleanR_at e
theorem cleanR_len {n : Nat} : ∀ {ρ : LEnv}, (cleanR n ρ).length = ρ.length
  | [] => rfl
  | some x :: r => by simp [cleanR, cleanR_len (ρ := r)]
  | none :: r => by simp [cleanR, cleanR_len (ρ := r)]
theorem Slots.take {n : Nat} {σ : L2.St} {ρ : LEnv} (s : Slots W S σ ρ) : Slots W (S.take n) σ (cleanR n ρ) := ⟨by rw [cleanR_len]; exact s.1, fun i lv e => by
  obtain ⟨e, b⟩ := cleanR_at e
  obtain ⟨v, e1, r⟩ := s.2 i lv e
  exact ⟨v, e1, r.take b⟩⟩
theorem GoodS.take {n : Nat} {L : List (V × LV)} {σ : L2.St} {ρ : LEnv} (g : GoodS W S0 L S σ ρ) (hn : S0.ms.length ≤ n) (b : cellsB n (S.η.take n) = true) (hL : ∀ p ∈ L, below n p.2 = true) : GoodS W S0 L (S.take n) σ (cleanR n ρ) := ⟨g.k0, g.x.take hn, g.k.take hn b, g.s.take, fun p hp => (g.live p hp).take (hL p hp)⟩
end
/-- what a statement makes for itself is forgotten behind it -/
def trimmed (n : Nat) (N : LEnv → LH → Prop) : LEnv → LH → Prop := fun ρ η => cellsB n (η.take n) = true ∧ N (cleanR n ρ) (η.take n)
def zTrim (g : LS) : LS := fun E ρ η => g { E with nx := trimmed η.length E.nx, ct := trimmed η.length E.ct, bk := trimmed η.length E.bk } ρ η
section
variable {X : Cx} {W : Wc} {S0 : Stt} {st : Stmt} {sts : List Stmt} {g : LS}
theorem trim_le {S : Stt} {L : List (V × LV)} {E : LEnds} {D : Ends} {σ : L2.St} {ρ : LEnv} (gd : GoodS W S0 L S σ ρ) (le : LeL W S0 L E D) : LeL W S0 L { E with nx := trimmed S.η.length E.nx, ct := trimmed S.η.length E.ct, bk := trimmed S.η.length E.bk } D := by
  have hn : S0.ms.length ≤ S.η.length := by
    rw [← gd.k.len]
    by_cases h : S0.ms.length = 0
    · omega
    · have := gd.x.lt (i := S0.ms.length - 1) (by omega)
      omega
  have hL : ∀ p ∈ L, below S.η.length p.2 = true := fun p hp => by
    have := gd.live p hp
    generalize p.2 = lv at this
    cases lv with
    | loc l =>
      obtain ⟨a, _, e⟩ := this
      have := (List.getElem?_eq_some_iff.mp e).1
      rw [gd.k.len] at this
      simpa [below] using this
    | _ => rfl
  exact ⟨fun {S2 _ _} g2 k2 => le.nx (S := S2.take S.η.length) (g2.take hn k2.1 hL) k2.2, fun {S2 _ _} g2 k2 => le.bk (S := S2.take S.η.length) (g2.take hn k2.1 hL) k2.2, fun {S2 _ _} g2 k2 => le.ct (S := S2.take S.η.length) (g2.take hn k2.1 hL) k2.2, le.rt, le.n⟩
theorem lss_trim (h : PSs X sts (tLS W S0 g)) : PSs X sts (tLS W S0 (zTrim g)) := h.imp fun D σ H ⟨L, S, ρ, E, eH, gd, k, le⟩ => ⟨L, S, ρ, _, eH, gd, k, trim_le gd le⟩
theorem ls_trim (h : PS X st (tLS W S0 g)) : PS X st (tLS W S0 (zTrim g)) := h.imp fun D σ H ⟨L, S, ρ, E, eH, gd, k, le⟩ => ⟨L, S, ρ, _, eH, gd, k, trim_le gd le⟩
end
/-! ### for, while -/
def forLL (gd : GL) (body : LS) (E : LEnds) (gu : LH → Prop) : List LV → LEnv → LH → Prop
  | [], ρ, η => gu η ∧ E.nx ρ η
  | d :: ds, ρ, η => gu η ∧ gd d ρ fun ρ' => body { E with nx := forLL gd body E gu ds, ct := forLL gd body E gu ds, bk := E.nx } ρ' η
def zFor (fi : LI) (gd : GL) (body : LS) : LS := fun E ρ η => fi ρ η fun items gu η1 => forLL gd body E gu items ρ η1
def whLL (t : LT) (fb : LS) (E : LEnds) : Nat → LEnv → LH → Prop
  | 0, _, _ => False
  | n + 1, ρ, η => t ρ η fun c η1 => iteB c (fb { E with nx := whLL t fb E n, ct := whLL t fb E n, bk := E.nx } ρ η1) (E.nx ρ η1)
def zWhile (t : LT) (fb : LS) : LS := fun E ρ η => ∃ n, whLL t fb E n ρ η
section
variable {X : Cx} {W : Wc} {S0 : Stt} {e tg iter : Expr} {pos : Pos} {f : LE}
theorem ls_for {fi : LI} {g : TG} {gd : GL} {body : List Stmt} {fb : LS} (hp : PassesOwn (model X.prog X.w) X.A X.env X.xe) (hc : X.calm = true) (hi : PI X tg iter (tLI W S0 fi)) (hg : PG X tg g) (sg : SndGL W (fun _ => True) g gd) (hb : PSs X body (tLS W S0 fb))
    (hs : ∀ x, foldedSetIterable iter X.env x = pure x := by intro _; rfl) : PS X (.For tg iter body [] pos) (tLS W S0 (zFor fi gd fb)) := (ps_for hp hc hi hg hb hs).imp fun D σ H ⟨L, S, ρ, E, eH, gd', k, le⟩ => by
  refine ⟨S, ρ, _, eH, gd'.k, gd'.s, k, fun items gu S' e1 k1 hk J live H1 s1 hl w => ?_⟩
  -- the source stays alive
  have g1 : GoodS W S0 (L ++ live) { S' with H := H1 } σ ρ := by
    have g0 := (gd'.ext e1 k1).ext (.stp s1) (k1.stp s1)
    exact ⟨g0.k0, g0.x, g0.k, g0.s, fun p hp => (List.mem_append.mp hp).elim (g0.live p) (hl p)⟩
  have unL : ∀ {S2 σ2 ρ2}, GoodS W S0 (L ++ live) S2 σ2 ρ2 → GoodS W S0 L S2 σ2 ρ2 := fun g2 => ⟨g2.k0, g2.x, g2.k, g2.s, fun p hp => g2.live p (List.mem_append_left _ hp)⟩
  have lv : ∀ {S2 σ2 ρ2}, GoodS W S0 (L ++ live) S2 σ2 ρ2 → ∀ p ∈ live, RelLV W S2 p.1 p.2 := fun g2 p hp => g2.live p (List.mem_append_right _ hp)
  refine ⟨fun i m σ2 H2 => m = items.length - i ∧ i ≤ items.length ∧ ∃ S2 ρ2, S2.H = H2 ∧ GoodS W S0 (L ++ live) S2 σ2 ρ2 ∧ forLL gd fb E gu (items.drop i) ρ2 S2.η, ⟨items.length, by simp, Nat.zero_le _, { S' with H := H1 }, ρ, rfl, g1, by simpa using hk⟩, ?_⟩
  rintro i m σ2 H2 ⟨rfl, hi2, S2, ρ2, rfl, g2, k2⟩
  by_cases hlt : i < items.length
  · have ed : items.drop i = items[i] :: items.drop (i + 1) := List.drop_eq_getElem_cons hlt
    rw [ed] at k2
    obtain ⟨gk, k2⟩ := k2
    refine .inr ⟨w.go g2.k (lv g2) gk hlt, fun σ3 H3 => ∃ S3 ρ3, S3.H = H3 ∧ GoodS W S0 (L ++ live) S3 σ3 ρ3 ∧ forLL gd fb E gu (items.drop (i + 1)) ρ3 S3.η, fun σ3 H3 h3 => ⟨items.length - (i + 1), by omega, rfl, hlt, h3⟩, fun x H3 y => ?_⟩
    obtain ⟨s3, d, hd, xd⟩ := w.yld g2.k (lv g2) gk hlt y
    have ei : items[i] = d := by simpa [List.getElem?_eq_getElem hlt] using hd
    rw [ei] at k2
    have g3 := g2.ext (.stp s3) (g2.k.stp s3)
    refine sg (S := { S2 with H := H3 }) xd .refl k2 fun σ4 ρ4 s4 k4 => ?_
    exact ⟨L ++ live, { S2 with H := H3 }, ρ4, _, rfl, ⟨g3.k0, g3.x, g3.k, s4.slots g3.s, g3.live⟩, k4, fun g5 k5 => ⟨_, _, rfl, g5, k5⟩, fun g5 k5 => le.nx (unL g5) k5, fun g5 k5 => ⟨_, _, rfl, g5, k5⟩, le.rt, le.n⟩
  · have e : i = items.length := by omega
    subst e
    rw [List.drop_length] at k2
    exact .inl ⟨w.stop g2.k (lv g2) k2.1, le.nx (unL g2) k2.2⟩
theorem ls_while {c : Expr} {body : List Stmt} {t : LT} {fb : LS} (hp : PassesOwn (model X.prog X.w) X.A X.env X.xe) (hc : PT X c (tLT W S0 t)) (hb : PSs X body (tLS W S0 fb)) : PS X (.While c body [] pos) (tLS W S0 (zWhile t fb)) := (ps_while hp hc hb).imp fun D σ H ⟨L, S, ρ, E, eH, gd, ⟨n, k⟩, le⟩ => by
  refine ⟨fun m σ2 H2 => ∃ S2 ρ2, S2.H = H2 ∧ GoodS W S0 L S2 σ2 ρ2 ∧ whLL t fb E m ρ2 S2.η, ⟨n, S, ρ, eH, gd, k⟩, ?_⟩
  rintro m σ2 H2 ⟨S2, ρ2, rfl, g2, k2⟩
  cases m with
  | zero => exact k2.elim
  | succ m =>
    refine ⟨S2, ρ2, _, rfl, g2.k, g2.s, k2, fun b S3 e3 k3 hb => ?_⟩
    have g3 := g2.ext e3 k3
    cases b with
    | true => exact iteT ⟨fun σ4 H4 => ∃ S4 ρ4, S4.H = H4 ∧ GoodS W S0 L S4 σ4 ρ4 ∧ whLL t fb E m ρ4 S4.η, fun σ4 H4 h4 => ⟨m, Nat.lt_succ_self m, h4⟩, L, S3, ρ2, { E with nx := whLL t fb E m, ct := whLL t fb E m, bk := E.nx }, rfl, g3, by simpa using hb, fun g5 k5 => ⟨_, _, rfl, g5, k5⟩, fun g5 k5 => le.nx g5 k5, fun g5 k5 => ⟨_, _, rfl, g5, k5⟩, le.rt, le.n⟩
    | false => exact iteF (le.nx g3 (by simpa using hb))
end
end EL

set_option Elab.async false
set_option linter.all false
set_option maxRecDepth 100000
set_option maxHeartbeats 1000000
/-! Comprehensions, all and any. -/
namespace EL
open PySem PySem.Spec PyProof.Rows L2 KT KG KX KY KE0 LK GxR DL QY QZ QB QE QF
/-! ### an object in the making, beside the places -/
structure Hid (W : Wc) (S0 S1 S : Stt) (D : Addr) (o : HO) : Prop where
  x : Ext W S1 S
  k : Cl W S0 S
  m : S.M D
  nv : ¬ W.vol D
  e : S.H D = some o
  n1 : S1.H D = none
  x1 : Ext W S0 S1
  no : ∀ (i : Nat) (c : Cell), S.η[i]? = some (some c) → S.ms[i]? ≠ some D
section
variable {W : Wc} {S0 S1 S S' : Stt} {D : Addr} {o o' : HO}
theorem Hid.start (k : Cl W S0 S1) (np : S1.H D = none) (nt : (∀ ps, o ≠ .tbl ps) ∧ ∀ φ, o ≠ .ext φ) : Hid W S0 S1 { S1 with M := fun a => S1.M a ∨ a = D, H := upd S1.H D o } D o ∧ ∀ v lv, RelLV W S1 v lv → RelLV W { S1 with M := fun a => S1.M a ∨ a = D, H := upd S1.H D o } v lv := by
  have s : Stp W S1.H (upd S1.H D o) := .new np
  have x : Ext W S1 { S1 with M := fun a => S1.M a ∨ a = D, H := upd S1.H D o } := ⟨fun _ m => .inl m, fun a m => m.imp id fun z => by rw [z]; exact np, fun _ _ e => e, fun _ c _ e => ⟨c, e⟩, fun i a c h _ e2 => by
    have : i < S1.ms.length := (List.getElem?_eq_some_iff.mp e2).1
    omega, fun a o n _ t e => s.st a o n t e, s.tp, s.on⟩
  have nop : ∀ {i : Nat} {c : Cell}, S1.η[i]? = some (some c) → S1.ms[i]? ≠ some D := fun {i c} e1 e2 => by
    obtain ⟨b, e3, m, _⟩ := k.cell i c e1
    rw [e2] at e3
    cases e3
    exact k.all _ m np
  refine ⟨⟨x, ⟨s.ok k.ok, fun a z => .inl (k.vol a z), fun a m z => ?_, k.len, k.nd, fun i c e => ?_, k.x0.trans x⟩, .inr rfl, fun z => k.all D (k.vol D z) np, upd_same, np, k.x0, fun i c e => nop e⟩, fun v lv h => h.ext k x⟩
  · rcases m with m | rfl
    · exact k.all a m (s.on a z)
    · have z : upd S1.H a o a = none := z
      rw [upd_same] at z
      cases z
  · obtain ⟨a, e1, m, n, q⟩ := k.cell i c e
    exact ⟨a, e1, .inl m, n, q.to (by show upd S1.H D o a = S1.H a; rw [upd_ne (fun z => nop e (by rw [e1, z]))]) fun v lv h => h.ext k x⟩
theorem Hid.ext (h : Hid W S0 S1 S D o) (e : Ext W S S') (k : Cl W S0 S') (nt : ∀ ps, o ≠ .tbl ps) : Hid W S0 S1 S' D o := by
  refine ⟨h.x.trans e, k, e.m D h.m, h.nv, e.st D o h.nv (fun ⟨i, c, e1, e2⟩ => h.no i c e1 e2) nt h.e, h.n1, h.x1, fun i c e1 e2 => ?_⟩
  by_cases hi : i < S.ms.length
  · obtain ⟨c0, e0⟩ := e.liv i c hi e1
    have q := e.pre i _ (List.getElem?_eq_getElem hi)
    rw [e2] at q
    exact h.no i c0 e0 (by rw [List.getElem?_eq_getElem hi]; exact q.symm)
  · have := e.nw i D c (by omega) e1 e2
    rw [h.e] at this
    cases this
theorem Hid.poke (h : Hid W S0 S1 S D o) (nt : (∀ xs, o ≠ .tup xs) ∧ (∀ ps, o ≠ .tbl ps) ∧ ∀ φ, o ≠ .ext φ) : Hid W S0 S1 { S with H := upd S.H D o' } D o' ∧ ∀ v lv, RelLV W S v lv → RelLV W { S with H := upd S.H D o' } v lv := by
  have kp : Kp S.M S.H (upd S.H D o') := ⟨fun b u n _ e => by
    rw [upd_ne (fun z => n (by rw [z]; exact h.m))]
    exact e, fun b zs e => by
    rw [upd_ne (fun z => by rw [z, h.e] at e; exact nt.1 _ (Option.some.inj e))]
    exact e⟩
  have rel : ∀ v lv, RelLV W S v lv → RelLV W { S with H := upd S.H D o' } v lv := fun v lv q => by
    cases lv with
    | dat d => exact Dx.kp kp _ _ q
    | loc i => exact q
    | deck => exact q
    | gts _ => exact q
    | ob _ => exact q
    | err x d =>
      obtain ⟨a, dx, fs, w, rfl, n1, n2, h1, h2, hl, hd⟩ := q
      have na : a ≠ D := fun z => n1 (by rw [z]; exact h.m)
      have nx : dx ≠ D := fun z => n2 (by rw [z]; exact h.m)
      exact ⟨a, dx, fs, w, rfl, n1, n2, by show upd S.H D o' a = _ ∨ upd S.H D o' a = _; rw [upd_ne na]; exact h1, by show upd S.H D o' dx = _ ∨ upd S.H D o' dx = _; rw [upd_ne nx]; exact h2, hl, Dx.kp kp _ _ hd⟩
  have ok : W.ok (upd S.H D o') := by
    obtain ⟨i1, t1⟩ := h.k.ok
    refine ⟨W.keep (fun b u v e => ?_) i1, fun P hP => ?_⟩
    · rw [upd_ne (fun z => by
        rcases v with v | ⟨φ, rfl⟩ | ⟨_, ps, rfl⟩
        · exact h.nv (by rw [← z]; exact v)
        · rw [z, h.e] at e
          exact nt.2.2 φ (Option.some.inj e)
        · rw [z, h.e] at e
          exact nt.2.1 ps (Option.some.inj e))]
      exact e
    · obtain ⟨ps, e, tr⟩ := t1 P hP
      refine ⟨ps, ?_, tr⟩
      rw [upd_ne (fun z => by rw [z, h.e] at e; exact nt.2.1 ps (Option.some.inj e))]
      exact e
  have old : ∀ {b o2}, S1.H b = some o2 → b ≠ D := fun e => ne_of_none e h.n1
  have xn : Ext W S1 { S with H := upd S.H D o' } := by
    refine ⟨h.x.m, h.x.fresh, h.x.pre, h.x.liv, h.x.nw, fun a o2 n1 n2 t e => ?_, fun a xs e => ?_, fun a e => ?_⟩
    · show upd S.H D o' a = some o2
      rw [upd_ne (old e)]
      exact h.x.st a o2 n1 n2 t e
    · show upd S.H D o' a = some _
      rw [upd_ne (old e)]
      exact h.x.tp a xs e
    · by_cases z : a = D
      · rw [z]
        exact h.n1
      · have e : upd S.H D o' a = none := e
        rw [upd_ne z] at e
        exact h.x.on a e
  refine ⟨⟨xn, ⟨ok, h.k.vol, fun b m z => ?_, h.k.len, h.k.nd, fun i c e => ?_, h.x1.trans xn⟩, h.m, h.nv, upd_same, h.n1, h.x1, h.no⟩, rel⟩
  · by_cases y : b = D
    · have z : upd S.H D o' b = none := z
      rw [y, upd_same] at z
      cases z
    · have z : upd S.H D o' b = none := z
      rw [upd_ne y] at z
      exact h.k.all b m z
  · obtain ⟨a, e1, m, n, q⟩ := h.k.cell i c e
    exact ⟨a, e1, m, n, q.to (by show upd S.H D o' a = S.H a; rw [upd_ne (fun z => h.no i c e (by rw [e1, z]))]) rel⟩
/-- it is taken out, as if it were to be made now -/
theorem Hid.done (k1 : Cl W S0 S1) (h : Hid W S0 S1 S D o) (nt : (∀ xs, o ≠ .tup xs) ∧ (∀ ps, o ≠ .tbl ps) ∧ ∀ φ, o ≠ .ext φ) : ∃ S', S'.η = S.η ∧ Ext W S1 S' ∧ Cl W S0 S' ∧ S'.H D = none ∧ upd S'.H D o = S.H ∧ ∀ v lv, RelLV W S v lv → RelLV W S' v lv := by
  have kp : Kp S.M S.H (delH S.H D) := ⟨fun b u n _ e => by
    rw [delH_ne (fun z => n (by rw [z]; exact h.m))]
    exact e, fun b zs e => by
    rw [delH_ne (fun z => by rw [z, h.e] at e; exact nt.1 _ (Option.some.inj e))]
    exact e⟩
  have rel : ∀ v lv, RelLV W S v lv → RelLV W { S with M := fun a => S.M a ∧ a ≠ D, H := delH S.H D } v lv := fun v lv q => by
    cases lv with
    | dat d => exact Dx.re (fun a _ _ m => m.1) _ _ (Dx.kp kp _ _ q)
    | loc i => exact q
    | deck => exact q
    | gts _ => exact q
    | ob _ => exact q
    | err x d =>
      obtain ⟨a, dx, fs, w, rfl, n1, n2, h1, h2, hl, hd⟩ := q
      have na : a ≠ D := fun z => n1 (by rw [z]; exact h.m)
      have nx : dx ≠ D := fun z => n2 (by rw [z]; exact h.m)
      exact ⟨a, dx, fs, w, rfl, fun z => n1 z.1, fun z => n2 z.1, by show delH S.H D a = _ ∨ delH S.H D a = _; rw [delH_ne na]; exact h1, by show delH S.H D dx = _ ∨ delH S.H D dx = _; rw [delH_ne nx]; exact h2, hl, Dx.re (fun a _ _ m => m.1) _ _ (Dx.kp kp _ _ hd)⟩
  have ok : W.ok (delH S.H D) := by
    obtain ⟨i1, t1⟩ := h.k.ok
    refine ⟨W.keep (fun b u v e => ?_) i1, fun P hP => ?_⟩
    · rw [delH_ne (fun z => by
        rcases v with v | ⟨φ, rfl⟩ | ⟨_, ps, rfl⟩
        · exact h.nv (by rw [← z]; exact v)
        · rw [z, h.e] at e
          exact nt.2.2 φ (Option.some.inj e)
        · rw [z, h.e] at e
          exact nt.2.1 ps (Option.some.inj e))]
      exact e
    · obtain ⟨ps, e, tr⟩ := t1 P hP
      refine ⟨ps, ?_, tr⟩
      rw [delH_ne (fun z => by rw [z, h.e] at e; exact nt.2.1 ps (Option.some.inj e))]
      exact e
  have old : ∀ {b o2}, S1.H b = some o2 → b ≠ D := fun e => ne_of_none e h.n1
  have xn : Ext W S1 { S with M := fun a => S.M a ∧ a ≠ D, H := delH S.H D } := by
    refine ⟨fun a m => ⟨h.x.m a m, fun z => k1.all a m (by rw [z]; exact h.n1)⟩, fun a m => h.x.fresh a m.1, h.x.pre, h.x.liv, h.x.nw, fun a o2 n1 n2 t e => ?_, fun a xs e => ?_, fun a e => ?_⟩
    · show delH S.H D a = some o2
      rw [delH_ne (old e)]
      exact h.x.st a o2 n1 n2 t e
    · show delH S.H D a = some _
      rw [delH_ne (old e)]
      exact h.x.tp a xs e
    · by_cases z : a = D
      · rw [z]
        exact h.n1
      · have e : delH S.H D a = none := e
        rw [delH_ne z] at e
        exact h.x.on a e
  refine ⟨{ S with M := fun a => S.M a ∧ a ≠ D, H := delH S.H D }, rfl, xn, ⟨ok, fun a z => ⟨h.k.vol a z, fun y => h.nv (by rw [← y]; exact z)⟩, fun b m z => ?_, h.k.len, h.k.nd, fun i c e => ?_, h.x1.trans xn⟩, delH_same, ?_, rel⟩
  · have z : delH S.H D b = none := z
    rw [delH_ne m.2] at z
    exact h.k.all b m.1 z
  · obtain ⟨a, e1, m, n, q⟩ := h.k.cell i c e
    have ne : a ≠ D := fun z => h.no i c e (by rw [e1, z])
    exact ⟨a, e1, ⟨m, ne⟩, n, q.to (by show delH S.H D a = S.H a; rw [delH_ne ne]) rel⟩
  · funext b
    by_cases z : b = D
    · rw [z, upd_same, h.e]
    · rw [upd_ne z]
      show delH S.H D b = S.H b
      rw [delH_ne z]
end
/-! ### tables -/
section
variable {κ β : Type} [DecidableEq κ]
def look : List (κ × β) → κ → Option β
  | [], _ => none
  | p :: r, k => if p.1 = k then some p.2 else look r k
def putA (kvs : List (κ × β)) (k : κ) (x : β) : List (κ × β) := if (kvs.any fun p => decide (p.1 = k)) = true then kvs.map (fun p => if p.1 = k then (p.1, x) else p) else kvs ++ [(k, x)]
theorem keys_cons {α : Type} {p : κ × α} {r : List (κ × α)} {q : κ × β} {s : List (κ × β)} (h : (p :: r).map (·.1) = (q :: s).map (·.1)) : p.1 = q.1 ∧ r.map (·.1) = s.map (·.1) := by
  simpa using h
theorem any_keys {α : Type} (k : κ) : ∀ {r : List (κ × α)} {s : List (κ × β)}, r.map (·.1) = s.map (·.1) → (r.any fun p => decide (p.1 = k)) = s.any fun p => decide (p.1 = k)
  | [], [], _ => rfl
  | p :: r, q :: s, h => by
    obtain ⟨h1, h2⟩ := keys_cons h
    rw [List.any_cons, List.any_cons, h1, any_keys k h2]
  | [], _ :: _, h => by simp at h
  | _ :: _, [], h => by simp at h
end
section
variable {κ : Type} [DecidableEq κ] {W : Wc} {S : Stt}
theorem look_rel (k : κ) : ∀ {r : List (κ × V)} {s : List (κ × LV)}, r.map (·.1) = s.map (·.1) → RelLs W S (r.map (·.2)) (s.map (·.2)) → ((look s k = none ∧ valV r k = none) ∨ ∃ v y, look s k = some y ∧ valV r k = some v ∧ RelLV W S v y)
  | [], [], _, _ => .inl ⟨rfl, rfl⟩
  | p :: r, q :: s, h, rl => by
    obtain ⟨h1, h2⟩ := keys_cons h
    by_cases e : q.1 = k
    · refine .inr ⟨p.2, q.2, ?_, valV_pos (h1.trans e), rl.1⟩
      unfold look
      rw [if_pos e]
    · have e' : ¬ p.1 = k := fun z => e (h1.symm.trans z)
      rw [valV_neg e']
      unfold look
      rw [if_neg e]
      exact look_rel k h2 rl.2
  | [], _ :: _, h, _ => by simp at h
  | _ :: _, [], h, _ => by simp at h
theorem put_map {k : κ} {v : V} {y : LV} (ry : RelLV W S v y) : ∀ {r : List (κ × V)} {s : List (κ × LV)}, r.map (·.1) = s.map (·.1) → RelLs W S (r.map (·.2)) (s.map (·.2)) → (r.map fun p => if p.1 = k then (p.1, v) else p).map (·.1) = (s.map fun p => if p.1 = k then (p.1, y) else p).map (·.1) ∧ RelLs W S ((r.map fun p => if p.1 = k then (p.1, v) else p).map (·.2)) ((s.map fun p => if p.1 = k then (p.1, y) else p).map (·.2))
  | [], [], _, _ => ⟨rfl, trivial⟩
  | p :: r, q :: s, h, rl => by
    obtain ⟨h1, h2⟩ := keys_cons h
    obtain ⟨i1, i2⟩ := put_map ry h2 rl.2
    by_cases e : q.1 = k
    · have e' : p.1 = k := h1.trans e
      simp only [List.map_cons, if_pos e, if_pos e', h1]
      exact ⟨by rw [i1], ry, i2⟩
    · have e' : ¬ p.1 = k := fun z => e (h1.symm.trans z)
      simp only [List.map_cons, if_neg e, if_neg e', h1]
      exact ⟨by rw [i1], rl.1, i2⟩
  | [], _ :: _, h, _ => by simp at h
  | _ :: _, [], h, _ => by simp at h
theorem put_rel {k : κ} {v : V} {y : LV} (ry : RelLV W S v y) {r : List (κ × V)} {s : List (κ × LV)} (h : r.map (·.1) = s.map (·.1)) (rl : RelLs W S (r.map (·.2)) (s.map (·.2))) : (putK r k v).map (·.1) = (putA s k y).map (·.1) ∧ RelLs W S ((putK r k v).map (·.2)) ((putA s k y).map (·.2)) := by
  unfold putK putA
  rw [any_keys k h]
  split
  · exact put_map ry h rl
  · simp only [List.map_append, h]
    exact ⟨rfl, rl.app ⟨ry, trivial⟩⟩
end
/-! ### comprehensions -/
def lcLL (gd : GL) (t : LT) (f : LE) (ρ : LEnv) (gu : LH → Prop) : List LV → List LV → LH → (List LV → LH → Prop) → Prop
  | [], acc, η, K => gu η ∧ K acc η
  | d :: ds, acc, η, K => gu η ∧ gd d ρ fun ρ' => t ρ' η fun b η1 => iteB b (f ρ' η1 fun x η2 => acc.length < sizeLine ∧ lcLL gd t f ρ gu ds (acc ++ [x]) η2 K) (lcLL gd t f ρ gu ds acc η1 K)
def xLc (fi : LI) (vs : List Nat) (gd : GL) (t : LT) (f : LE) : LF := fun ρ η K => fi ρ η fun items gu η1 => lcLL gd t f (wipeL ρ vs) gu items [] η1 fun acc η2 => K (.lst acc) η2
def yYes : LT := fun _ η K => K true η
def dcLL (gd : GL) (t : LT) (fk f : LE) (ρ : LEnv) (gu : LH → Prop) : List LV → List (Key × LV) → LH → (List (Key × LV) → LH → Prop) → Prop
  | [], acc, η, K => gu η ∧ K acc η
  | d :: ds, acc, η, K => gu η ∧ gd d ρ fun ρ' => t ρ' η fun b η1 => iteB b (fk ρ' η1 fun y η2 => f ρ' η2 fun x η3 => ∃ k, y = .dat (keyD k) ∧ acc.length < sizeLine ∧ dcLL gd t fk f ρ gu ds (putA acc k x) η3 K) (dcLL gd t fk f ρ gu ds acc η1 K)
def xDc (fi : LI) (vs : List Nat) (gd : GL) (t : LT) (fk f : LE) : LF := fun ρ η K => fi ρ η fun items gu η1 => dcLL gd t fk f (wipeL ρ vs) gu items [] η1 fun acc η2 => K (.dk acc) η2
section
variable {X : Cx} {W : Wc} {S0 : Stt} {e elt kx tg iter : Expr} {ifs : List Expr} {pos : Pos} {f fk : LE}
theorem lts_nil : PTs X [] (tLT W S0 yYes) := ⟨fun pins s σ H Q I h => by
  obtain ⟨S, ρ, K, rfl, k, sl, h, c⟩ := h
  exact pts_nil.run pins s σ S.H Q I (c true S .refl k h)⟩
theorem keyV_rel {S : Stt} {v : V} {k : Key} (r : RelLV W S v (.dat (keyD k))) : v = kV k := by
  cases k with
  | inl i =>
    cases (show Dx S.M S.H v (.int i) from r)
    rfl
  | inr x =>
    cases (show Dx S.M S.H v (.str x) from r)
    rfl
/-- the turns of a comprehension -/
theorem lcl_turns {fi : LI} {vs : List Nat} {g : TG} {gd : GL} {t : LT} {σ : L2.St} {H : Hp} {Q : VK} (sg : SndGL W (· ∈ vs) g gd) (h : tLF W S0 (xLc fi vs gd t f) σ H Q) : tLc (tLI W S0 fi) g (tLT W S0 t) (tL W S0 f) vs σ H Q := by
  obtain ⟨S, ρ, K, rfl, k, sl, h, c⟩ := h
  refine ⟨S, ρ, _, rfl, k, sl, h, fun items gu S1 e1 k1 hk J live H1 s1 hl w D nD => ?_⟩
  have k2 := k1.stp s1
  have e2 : Ext W S1 { S1 with H := H1 } := .stp s1
  generalize eS2 : ({ S1 with H := H1 } : Stt) = S2 at k2 e2 hl
  have hk : lcLL gd t f (wipeL ρ vs) gu items [] S2.η fun acc η2 => K (.lst acc) η2 := by rw [← eS2]; exact hk
  have eH : S2.H = H1 := by rw [← eS2]
  have nD2 : S2.H D = none := by rw [eH]; exact nD
  obtain ⟨h0, r0⟩ := Hid.start (o := .lst []) k2 nD2 ⟨(fun _ z => by cases z), fun _ z => by cases z⟩
  have sl2 : Slots W S2 σ ρ := (sl.ext k e1).ext k1 e2
  refine ⟨fun i m H3 => m = items.length - i ∧ i ≤ items.length ∧ ∃ S3 vsx acc, S3.H = H3 ∧ Hid W S0 S2 S3 D (.lst vsx) ∧ RelLs W S3 vsx acc ∧ (∀ p ∈ live, RelLV W S3 p.1 p.2) ∧ lcLL gd t f (wipeL ρ vs) gu (items.drop i) acc S3.η fun acc η2 => K (.lst acc) η2,
    ⟨items.length, by simp, Nat.zero_le _, _, [], [], by rw [← eH], h0, trivial, fun p hp => r0 _ _ (hl p hp), by simpa using hk⟩, ?_⟩
  rintro i m H3 ⟨rfl, hi, S3, vsx, acc, rfl, h3, ra, hl3, hk3⟩
  have sl3 : Slots W S3 σ ρ := sl2.ext k2 h3.x
  by_cases hlt : i < items.length
  · have ed : items.drop i = items[i] :: items.drop (i + 1) := List.drop_eq_getElem_cons hlt
    rw [ed] at hk3
    obtain ⟨gk, hk3⟩ := hk3
    refine .inr ⟨w.go h3.k hl3 gk hlt, fun H4 => ∃ S4 vsx acc, S4.H = H4 ∧ Hid W S0 S2 S4 D (.lst vsx) ∧ RelLs W S4 vsx acc ∧ (∀ p ∈ live, RelLV W S4 p.1 p.2) ∧ lcLL gd t f (wipeL ρ vs) gu (items.drop (i + 1)) acc S4.η fun acc η2 => K (.lst acc) η2, fun H4 h4 => ⟨items.length - (i + 1), by omega, rfl, hlt, h4⟩, fun x H4 y => ?_⟩
    obtain ⟨s4, d, hd, xd⟩ := w.yld h3.k hl3 gk hlt y
    have ei : items[i] = d := by simpa [List.getElem?_eq_getElem hlt] using hd
    rw [ei] at hk3
    have k4 := h3.k.stp s4
    have e4 : Ext W S3 { S3 with H := H4 } := .stp s4
    refine sg (S := { S3 with H := H4 }) xd .refl hk3 fun σ' ρ' ss k5 => ⟨by rw [ss.wipe, wipe_wipe], { S3 with H := H4 }, ρ', _, rfl, k4, ss.slots ((sl3.ext h3.k e4).wipe vs), k5, fun b S5 e5 k5 hb => ?_⟩
    have e45 := e4.trans e5
    cases b with
    | true =>
      refine iteT ⟨S5, ρ', _, rfl, k5, (ss.slots ((sl3.ext h3.k e4).wipe vs)).ext k4 e5, by simpa using hb, fun lv S6 e6 k6 hx y r6 => ?_⟩
      obtain ⟨hl6, hk6⟩ := hx
      have e46 := e45.trans e6
      have h6 := h3.ext e46 k6 (fun _ z => by cases z)
      have ra6 := ra.ext h3.k e46
      refine ⟨vsx, h6.e, by rw [ra.length]; exact hl6, ?_⟩
      obtain ⟨h7, r7⟩ := h6.poke (o' := .lst (vsx ++ [y])) ⟨(fun _ z => by cases z), (fun _ z => by cases z), fun _ z => by cases z⟩
      exact ⟨_, vsx ++ [y], acc ++ [lv], rfl, h7, (ra6.to r7).app ⟨r7 _ _ r6, trivial⟩, fun p hp => r7 _ _ ((hl3 p hp).ext h3.k e46), hk6⟩
    | false => exact iteF ⟨S5, vsx, acc, rfl, h3.ext e45 k5 (fun _ z => by cases z), ra.ext h3.k e45, fun p hp => (hl3 p hp).ext h3.k e45, by simpa using hb⟩
  · have e : i = items.length := by omega
    subst e
    rw [List.drop_length] at hk3
    refine .inl ⟨w.stop h3.k hl3 hk3.1, ?_⟩
    obtain ⟨S', eη, x', k', n', eH', r'⟩ := h3.done k2 ⟨(fun _ z => by cases z), (fun _ z => by cases z), fun _ z => by cases z⟩
    have fin := c (.lst acc) S' ((e1.trans e2).trans x') k' (by rw [eη]; exact hk3.2) D (.lst vsx) n' ⟨vsx, rfl, ra.to r'⟩
    rw [eH'] at fin
    exact fin
theorem dcl_turns {fi : LI} {vs : List Nat} {g : TG} {gd : GL} {t : LT} {σ : L2.St} {H : Hp} {Q : VK} (sg : SndGL W (· ∈ vs) g gd) (h : tLF W S0 (xDc fi vs gd t fk f) σ H Q) : tDc (tLI W S0 fi) g (tLT W S0 t) (tL W S0 fk) (tL W S0 f) vs σ H Q := by
  obtain ⟨S, ρ, K, rfl, k, sl, h, c⟩ := h
  refine ⟨S, ρ, _, rfl, k, sl, h, fun items gu S1 e1 k1 hk J live H1 s1 hl w D nD => ?_⟩
  have k2 := k1.stp s1
  have e2 : Ext W S1 { S1 with H := H1 } := .stp s1
  generalize eS2 : ({ S1 with H := H1 } : Stt) = S2 at k2 e2 hl
  have hk : dcLL gd t fk f (wipeL ρ vs) gu items [] S2.η fun acc η2 => K (.dk acc) η2 := by rw [← eS2]; exact hk
  have eH : S2.H = H1 := by rw [← eS2]
  have nD2 : S2.H D = none := by rw [eH]; exact nD
  obtain ⟨h0, r0⟩ := Hid.start (o := .dK []) k2 nD2 ⟨(fun _ z => by cases z), fun _ z => by cases z⟩
  have sl2 : Slots W S2 σ ρ := (sl.ext k e1).ext k1 e2
  refine ⟨fun i m H3 => m = items.length - i ∧ i ≤ items.length ∧ ∃ (S3 : Stt) (vsx : List (Key × V)) (acc : List (Key × LV)), S3.H = H3 ∧ Hid W S0 S2 S3 D (.dK vsx) ∧ (vsx.map (·.1) = acc.map (·.1) ∧ RelLs W S3 (vsx.map (·.2)) (acc.map (·.2))) ∧ (∀ p ∈ live, RelLV W S3 p.1 p.2) ∧ dcLL gd t fk f (wipeL ρ vs) gu (items.drop i) acc S3.η fun acc η2 => K (.dk acc) η2,
    ⟨items.length, by simp, Nat.zero_le _, _, [], [], by rw [← eH], h0, ⟨rfl, trivial⟩, fun p hp => r0 _ _ (hl p hp), by simpa using hk⟩, ?_⟩
  rintro i m H3 ⟨rfl, hi, S3, vsx, acc, rfl, h3, ra, hl3, hk3⟩
  have sl3 : Slots W S3 σ ρ := sl2.ext k2 h3.x
  by_cases hlt : i < items.length
  · have ed : items.drop i = items[i] :: items.drop (i + 1) := List.drop_eq_getElem_cons hlt
    rw [ed] at hk3
    obtain ⟨gk, hk3⟩ := hk3
    refine .inr ⟨w.go h3.k hl3 gk hlt, fun H4 => ∃ (S4 : Stt) (vsx : List (Key × V)) (acc : List (Key × LV)), S4.H = H4 ∧ Hid W S0 S2 S4 D (.dK vsx) ∧ (vsx.map (·.1) = acc.map (·.1) ∧ RelLs W S4 (vsx.map (·.2)) (acc.map (·.2))) ∧ (∀ p ∈ live, RelLV W S4 p.1 p.2) ∧ dcLL gd t fk f (wipeL ρ vs) gu (items.drop (i + 1)) acc S4.η fun acc η2 => K (.dk acc) η2, fun H4 h4 => ⟨items.length - (i + 1), by omega, rfl, hlt, h4⟩, fun x H4 y => ?_⟩
    obtain ⟨s4, d, hd, xd⟩ := w.yld h3.k hl3 gk hlt y
    have ei : items[i] = d := by simpa [List.getElem?_eq_getElem hlt] using hd
    rw [ei] at hk3
    have k4 := h3.k.stp s4
    have e4 : Ext W S3 { S3 with H := H4 } := .stp s4
    refine sg (S := { S3 with H := H4 }) xd .refl hk3 fun σ' ρ' ss k5 => ⟨by rw [ss.wipe, wipe_wipe], { S3 with H := H4 }, ρ', _, rfl, k4, ss.slots ((sl3.ext h3.k e4).wipe vs), k5, fun b S5 e5 k5 hb => ?_⟩
    have e45 := e4.trans e5
    have ss4 := ss.slots ((sl3.ext h3.k e4).wipe vs)
    cases b with
    | true =>
      refine iteT ⟨S5, ρ', _, rfl, k5, ss4.ext k4 e5, by simpa using hb, fun kv S6 e6 k6 hx y1 r6 => ⟨S6, ρ', _, rfl, k6, (ss4.ext k4 e5).ext k5 e6, hx, fun lv S7 e7 k7 hx y r7 => ?_⟩⟩
      obtain ⟨key, rfl, hl7, hk7⟩ := hx
      have e47 := (e45.trans e6).trans e7
      have h7 := h3.ext e47 k7 (fun _ z => by cases z)
      have ra7 := ra.2.ext h3.k e47
      have hlen : vsx.length = acc.length := by
        have := congrArg List.length ra.1
        simpa using this
      refine ⟨vsx, key, keyV_rel r6, h7.e, by rw [hlen]; exact hl7, ?_⟩
      obtain ⟨h8, r8⟩ := h7.poke (o' := .dK (putK vsx key y)) ⟨(fun _ z => by cases z), (fun _ z => by cases z), fun _ z => by cases z⟩
      exact ⟨_, _, _, rfl, h8, put_rel (r8 _ _ r7) ra.1 (ra7.to r8), fun p hp => r8 _ _ ((hl3 p hp).ext h3.k e47), hk7⟩
    | false => exact iteF ⟨S5, vsx, acc, rfl, h3.ext e45 k5 (fun _ z => by cases z), ⟨ra.1, ra.2.ext h3.k e45⟩, fun p hp => (hl3 p hp).ext h3.k e45, by simpa using hb⟩
  · have e : i = items.length := by omega
    subst e
    rw [List.drop_length] at hk3
    refine .inl ⟨w.stop h3.k hl3 hk3.1, ?_⟩
    obtain ⟨S', eη, x', k', n', eH', r'⟩ := h3.done k2 ⟨(fun _ z => by cases z), (fun _ z => by cases z), fun _ z => by cases z⟩
    have fin := c (.dk acc) S' ((e1.trans e2).trans x') k' (by rw [eη]; exact hk3.2) D (.dK vsx) n' ⟨vsx, rfl, ra.1, ra.2.to r'⟩
    rw [eH'] at fin
    exact fin
theorem lf_lc {scope : Scope} {own : List (Str × Nat)} {fi : LI} {g : TG} {gd : GL} {t : LT} (hc : X.calm = true) (hN : X.N.Nodup) (hi : PI X tg iter (tLI W S0 fi)) (ok : BlkOk X.N X.env.scope scope own)
    (hg : ∀ (s : Shared) (H : Hp) (C : Addr) (cl : List (Str × Addr)) (fp : List Addr), PG (X.blk s H scope (compEnvC scope cl C X.env) fp) tg g) (sg : SndGL W (· ∈ own.map (·.2)) g gd) (ht : ∀ (s : Shared) (H : Hp) (C : Addr) (cl : List (Str × Addr)) (fp : List Addr), PTs (X.blk s H scope (compEnvC scope cl C X.env) fp) ifs (tLT W S0 t))
    (he : ∀ (s : Shared) (H : Hp) (C : Addr) (cl : List (Str × Addr)) (fp : List Addr), PE (X.blk s H scope (compEnvC scope cl C X.env) fp) elt (tL W S0 f)) (hs : ∀ x, foldedSetIterable iter X.env x = pure x := by intro _; rfl) : PE X (.ListComp elt [⟨tg, iter, ifs, 0⟩] scope pos) (tLF W S0 (xLc fi (own.map (·.2)) gd t f)) :=
  (pe_lc hc hN hi ok hg ht he hs).imp fun σ H Q h => lcl_turns sg h
theorem lf_dc {scope : Scope} {own : List (Str × Nat)} {fi : LI} {g : TG} {gd : GL} {t : LT} (hc : X.calm = true) (hN : X.N.Nodup) (hi : PI X tg iter (tLI W S0 fi)) (ok : BlkOk X.N X.env.scope scope own)
    (hg : ∀ (s : Shared) (H : Hp) (C : Addr) (cl : List (Str × Addr)) (fp : List Addr), PG (X.blk s H scope (compEnvC scope cl C X.env) fp) tg g) (sg : SndGL W (· ∈ own.map (·.2)) g gd) (ht : ∀ (s : Shared) (H : Hp) (C : Addr) (cl : List (Str × Addr)) (fp : List Addr), PTs (X.blk s H scope (compEnvC scope cl C X.env) fp) ifs (tLT W S0 t))
    (hk : ∀ (s : Shared) (H : Hp) (C : Addr) (cl : List (Str × Addr)) (fp : List Addr), PE (X.blk s H scope (compEnvC scope cl C X.env) fp) kx (tL W S0 fk))
    (he : ∀ (s : Shared) (H : Hp) (C : Addr) (cl : List (Str × Addr)) (fp : List Addr), PE (X.blk s H scope (compEnvC scope cl C X.env) fp) elt (tL W S0 f)) (hs : ∀ x, foldedSetIterable iter X.env x = pure x := by intro _; rfl) : PE X (.DictComp kx elt [⟨tg, iter, ifs, 0⟩] scope pos) (tLF W S0 (xDc fi (own.map (·.2)) gd t fk f)) :=
  (pe_dc hc hN hi ok hg ht hk he hs).imp fun σ H Q h => dcl_turns sg h
/-- y = [.. for ..]: as data; as a place -/
def zAsgF (i : Nat) (f : LF) : LS := fun E ρ η => f ρ η fun c η1 => ∃ o, c.oc = some o ∧ E.nx (ρ.set i (some (.dat o.pd))) η1
def zAsgC (i : Nat) (f : LF) : LS := fun E ρ η => f ρ η fun c η1 => E.nx (ρ.set i (some (.loc η1.length))) (η1 ++ [some c])
section
variable {i : Nat} {y : Str} {py : Pos} {scope : Scope} {own : List (Str × Nat)} {spos : Pos} {fi : LI} {g : TG} {gd : GL} {t : LT} (hc : X.calm = true) (hN : X.N.Nodup) (hy : X.N[i]? = some y) (hyl : X.env.scope.names.lookup y = some .local)
    (hsw : swapsWith (.ListComp elt [⟨tg, iter, ifs, 0⟩] scope pos) (some (.Name y py)) spos.line X.env = pure true) (hi : PI X tg iter (tLI W S0 fi)) (ok : BlkOk X.N X.env.scope scope own)
    (hg : ∀ (s : Shared) (H : Hp) (C : Addr) (cl : List (Str × Addr)) (fp : List Addr), PG (X.blk s H scope (compEnvC scope cl C X.env) fp) tg g) (sg : SndGL W (· ∈ own.map (·.2)) g gd) (ht : ∀ (s : Shared) (H : Hp) (C : Addr) (cl : List (Str × Addr)) (fp : List Addr), PTs (X.blk s H scope (compEnvC scope cl C X.env) fp) ifs (tLT W S0 t))
    (he : ∀ (s : Shared) (H : Hp) (C : Addr) (cl : List (Str × Addr)) (fp : List Addr), PE (X.blk s H scope (compEnvC scope cl C X.env) fp) elt (tL W S0 f))
include hc hN hy hyl hsw hi ok hg sg ht he
theorem ls_setLc (hs : ∀ x, foldedSetIterable iter X.env x = pure x := by intro _; rfl) : PS X (.Assign [.Name y py] (.ListComp elt [⟨tg, iter, ifs, 0⟩] scope pos) spos) (tLS W S0 (zAsgF i (xLc fi (own.map (·.2)) gd t f))) :=
  (ps_setLc hc hN hy hyl hsw hi ok hg ht he hs).imp fun D σ H ⟨L, S, ρ, E, eH, gd', k, le⟩ => by
    show tLc _ _ _ _ _ σ H _
    refine lcl_turns sg ⟨S, ρ, _, eH, gd'.k, gd'.s, k, fun cc S1 e1 k1 hc p o np r => ?_⟩
    obtain ⟨oc, eo, hk⟩ := hc
    have s : Stp W S1.H (upd S1.H p o) := .new np
    have g1 := (gd'.ext e1 k1).ext (.stp s) (k1.stp s)
    exact le.nx ⟨g1.k0, g1.x, g1.k, g1.s.set (lv := .dat oc.pd) (show Dx S1.M (upd S1.H p o) (.ref p) oc.pd from RelO.dx (fun z => k1.all p z np) upd_same ((r.oc eo).kp (Stp.kp k1.vol s))), g1.live⟩ hk
theorem ls_setLcC (hs : ∀ x, foldedSetIterable iter X.env x = pure x := by intro _; rfl) : PS X (.Assign [.Name y py] (.ListComp elt [⟨tg, iter, ifs, 0⟩] scope pos) spos) (tLS W S0 (zAsgC i (xLc fi (own.map (·.2)) gd t f))) :=
  (ps_setLc hc hN hy hyl hsw hi ok hg ht he hs).imp fun D σ H ⟨L, S, ρ, E, eH, gd', k, le⟩ => by
    show tLc _ _ _ _ _ σ H _
    refine lcl_turns sg ⟨S, ρ, _, eH, gd'.k, gd'.s, k, fun cc S1 e1 k1 hc p o np r => ?_⟩
    obtain ⟨k2, x2, rv⟩ := newCell k1 np r
    have g1 := (gd'.ext e1 k1).ext x2 k2
    exact le.nx ⟨g1.k0, g1.x, g1.k, g1.s.set rv, g1.live⟩ hc
end
/-! ### all, any -/
def agLL (b0 : Bool) (gd : GL) (f : LE) (ρ : LEnv) (gu : LH → Prop) : List LV → LH → (Bool → LH → Prop) → Prop
  | [], η, K => gu η ∧ K b0 η
  | d :: ds, η, K => gu η ∧ gd d ρ fun ρ' => f ρ' η fun x η1 => ∃ b, x = .dat (.bool b) ∧ iteB (b == b0) (agLL b0 gd f ρ gu ds η1 K) (K (!b0) η1)
def xAG (b0 : Bool) (fi : LI) (vs : List Nat) (gd : GL) (f : LE) : LE := fun ρ η K => fi ρ η fun items gu η1 => agLL b0 gd f (wipeL ρ vs) gu items η1 fun b η2 => K (.dat (.bool b)) η2
theorem agl_turns {b0 : Bool} {fi : LI} {vs : List Nat} {g : TG} {gd : GL} {P : Addr} {σ : L2.St} {H : Hp} {Q : VK} (sg : SndGL W (· ∈ vs) g gd) (hP : P ∈ W.Tl) (h : tL W S0 (xAG b0 fi vs gd f) σ H Q) : tAG b0 (tLI W S0 fi) g (tL W S0 f) vs P σ H Q := by
  obtain ⟨S, ρ, K, rfl, k, sl, h, c⟩ := h
  refine ⟨S, ρ, _, rfl, k, sl, h, fun items gu S1 e1 k1 hk J live H1 s1 hl w => ⟨(k1.stp s1).ok.2 P hP, fun H2 tb => ?_⟩⟩
  have s2 : Stp W H1 H2 := .tab hP (k1.stp s1).ok ((k1.stp s1).ok.2 P hP) tb
  have k2 := (k1.stp s1).stp s2
  have e2 : Ext W S { S1 with H := H2 } := (e1.trans (.stp s1)).trans (.stp s2)
  have hl : ∀ p ∈ live, RelLV W { S1 with H := H2 } p.1 p.2 := fun p hp => (hl p hp).ext (k1.stp s1) (.stp s2)
  generalize eS2 : ({ S1 with H := H2 } : Stt) = S2 at k2 e2 hl
  have hk : agLL b0 gd f (wipeL ρ vs) gu items S2.η fun b η2 => K (.dat (.bool b)) η2 := by rw [← eS2]; exact hk
  have eH : S2.H = H2 := by rw [← eS2]
  have sl2 : Slots W S2 σ ρ := sl.ext k e2
  refine ⟨fun i m H3 => m = items.length - i ∧ i ≤ items.length ∧ ∃ S3, S3.H = H3 ∧ Ext W S2 S3 ∧ Cl W S0 S3 ∧ agLL b0 gd f (wipeL ρ vs) gu (items.drop i) S3.η fun b η2 => K (.dat (.bool b)) η2, ⟨items.length, by simp, Nat.zero_le _, S2, eH, .refl, k2, by simpa using hk⟩, ?_⟩
  rintro i m H3 ⟨rfl, hi, S3, rfl, x3, k3, hk3⟩
  have hl3 : ∀ p ∈ live, RelLV W S3 p.1 p.2 := fun p hp => (hl p hp).ext k2 x3
  by_cases hlt : i < items.length
  · have ed : items.drop i = items[i] :: items.drop (i + 1) := List.drop_eq_getElem_cons hlt
    rw [ed] at hk3
    obtain ⟨gk, hk3⟩ := hk3
    refine .inr ⟨w.go k3 hl3 gk hlt, fun H4 => i + 1 ≤ items.length ∧ ∃ S4, S4.H = H4 ∧ Ext W S2 S4 ∧ Cl W S0 S4 ∧ agLL b0 gd f (wipeL ρ vs) gu (items.drop (i + 1)) S4.η fun b η2 => K (.dat (.bool b)) η2, fun H4 h4 => ⟨items.length - (i + 1), by omega, rfl, h4⟩, fun x H4 y => ?_⟩
    obtain ⟨s4, d, hd, xd⟩ := w.yld k3 hl3 gk hlt y
    have ei : items[i] = d := by simpa [List.getElem?_eq_getElem hlt] using hd
    rw [ei] at hk3
    have k4 := k3.stp s4
    have e4 : Ext W S3 { S3 with H := H4 } := .stp s4
    refine sg (S := { S3 with H := H4 }) xd .refl hk3 fun σ' ρ' s5 k5 => ⟨by rw [s5.wipe, wipe_wipe], { S3 with H := H4 }, ρ', _, rfl, k4, s5.slots (((sl2.ext k2 x3).ext k3 e4).wipe vs), k5, fun lv S6 e6 k6 hx y r6 => ?_⟩
    obtain ⟨b, rfl, hb⟩ := hx
    cases (show Dx S6.M S6.H y (.bool b) from r6)
    refine ⟨b, rfl, ?_⟩
    have x6 := (x3.trans e4).trans e6
    by_cases e : b = b0
    · rw [if_pos e]
      rw [show (b == b0) = true from by rw [e]; exact beq_self_eq_true _] at hb
      exact ⟨hlt, S6, rfl, x6, k6, hb⟩
    · rw [if_neg e]
      rw [show (b == b0) = false from by cases b <;> cases b0 <;> first | rfl | exact absurd rfl e] at hb
      exact c (.dat (.bool (!b0))) S6 (e2.trans x6) k6 hb (.bl (!b0)) (show RelLV W S6 (.bl (!b0)) (.dat (.bool (!b0))) from Dx.bl _)
  · have e : i = items.length := by omega
    subst e
    rw [List.drop_length] at hk3
    exact .inl ⟨w.stop k3 hl3 hk3.1, c (.dat (.bool b0)) S3 (e2.trans x3) k3 hk3.2 (.bl b0) (show RelLV W S3 (.bl b0) (.dat (.bool b0)) from Dx.bl _)⟩
theorem le_all {c P : Addr} {scope : Scope} {p gpos : Pos} {own : List (Str × Nat)} {fi : LI} {g : TG} {gd : GL} {k : Nat} (hc : X.calm = true) (hN : X.N.Nodup)
    (hr : Room k X.A) (hgl : Gl X "all") (hm : X.mg "all" = none) (TB : TabB X.base X.mg c P) (hcode : X.env.code = .ref c) (hP : P ∈ W.Tl) (ok : GnOk X.N X.env.scope scope own) (hi : PI X tg iter (tLI W S0 fi))
    (hg : ∀ (s : Shared) (H : Hp) (cl : List (Str × Addr)) (C : Addr) (code : Value) (fp : List Addr), PG (gX X s H (genEnv scope cl C code builtinsNs X.env) fp) tg g) (sg : SndGL W (· ∈ own.map (·.2)) g gd)
    (he : ∀ (s : Shared) (H : Hp) (cl : List (Str × Addr)) (C : Addr) (code : Value) (fp : List Addr), PE (gX X s H (genEnv scope cl C code builtinsNs X.env) fp) elt (tL W S0 f))
    (hs : ∀ v, genFold iter X.env v = pure v := by intro _; rfl)
    (hst : starEach [.GeneratorExp elt [⟨tg, iter, [], 0⟩] scope gpos] X.env = (false, eval (.GeneratorExp elt [⟨tg, iter, [], 0⟩] scope gpos) X.env) :: starEach [] X.env := by rfl) :
    PE X (.Call (.Name "all" p) [.GeneratorExp elt [⟨tg, iter, [], 0⟩] scope gpos] [] pos) (tL W S0 (xAG true fi (own.map (·.2)) gd f)) := (pe_all hc hN hr hgl hm TB hcode ok hi hg he hs hst).imp fun σ H Q h => agl_turns sg hP h
theorem le_any {c P : Addr} {scope : Scope} {p gpos : Pos} {own : List (Str × Nat)} {fi : LI} {g : TG} {gd : GL} {k : Nat} (hc : X.calm = true) (hN : X.N.Nodup)
    (hr : Room k X.A) (hgl : Gl X "any") (hm : X.mg "any" = none) (TB : TabB X.base X.mg c P) (hcode : X.env.code = .ref c) (hP : P ∈ W.Tl) (ok : GnOk X.N X.env.scope scope own) (hi : PI X tg iter (tLI W S0 fi))
    (hg : ∀ (s : Shared) (H : Hp) (cl : List (Str × Addr)) (C : Addr) (code : Value) (fp : List Addr), PG (gX X s H (genEnv scope cl C code builtinsNs X.env) fp) tg g) (sg : SndGL W (· ∈ own.map (·.2)) g gd)
    (he : ∀ (s : Shared) (H : Hp) (cl : List (Str × Addr)) (C : Addr) (code : Value) (fp : List Addr), PE (gX X s H (genEnv scope cl C code builtinsNs X.env) fp) elt (tL W S0 f))
    (hs : ∀ v, genFold iter X.env v = pure v := by intro _; rfl)
    (hst : starEach [.GeneratorExp elt [⟨tg, iter, [], 0⟩] scope gpos] X.env = (false, eval (.GeneratorExp elt [⟨tg, iter, [], 0⟩] scope gpos) X.env) :: starEach [] X.env := by rfl) :
    PE X (.Call (.Name "any" p) [.GeneratorExp elt [⟨tg, iter, [], 0⟩] scope gpos] [] pos) (tL W S0 (xAG false fi (own.map (·.2)) gd f)) := (pe_any hc hN hr hgl hm TB hcode ok hi hg he hs hst).imp fun σ H Q h => agl_turns sg hP h
end
end EL

set_option Elab.async false
set_option linter.all false
set_option maxRecDepth 100000
set_option maxHeartbeats 1000000
/-! Promises of defs over data and places; calls, places lent. -/
namespace EL
open PySem PySem.Spec PyProof.Rows L2 KT KG KX KY KE0 LK GxR DL QY QZ QB QE QF
open He (ga ma)
abbrev KErr := Str → PyData → LH → Prop
abbrev FnL := List LV → LH → (LV → LH → Prop) → KErr → Prop
/-- what is wanted of an error -/
def LnkL (W : Wc) (S0 : Stt) (KE : KErr) (E : XK) : Prop := ∀ c d S v dd, KE c d S.η → Cl W S0 S → S0.H dd = none → ¬ S.M dd → Dx S.M S.H v d → S.H dd = some (.xd [(fld c, v)]) → E (.ref (ga W.K c)) (some dd) S.H
def spL (WP : Wc → Prop) (F : FnL) : Sp := fun vs H Q E => ∃ (W : Wc) (S : Stt) (ds : List LV) (Kk : LV → LH → Prop) (KE : KErr), WP W ∧ S.H = H ∧ Cl W S S ∧ RelLs W S vs ds ∧ F ds S.η Kk KE ∧ (∀ lv S', Cl W S S' → Kk lv S'.η → ∀ v, RelLV W S' v lv → Q v S'.H) ∧ LnkL W S KE E
/-- what a def gives out, what it made for itself forgotten -/
def retK (n : Nat) (Kk : LV → LH → Prop) : LV → LH → Prop := fun lv η => ∃ m, n ≤ m ∧ below m lv = true ∧ cellsB m (η.take m) = true ∧ Kk lv (η.take m)
def start0L (n : Nat) (ds : List LV) : LEnv := ds.map some ++ List.replicate (n - ds.length) none
theorem slots_start {W : Wc} {S : Stt} {N : List Str} {vs : List V} {ds : List LV} (r : RelLs W S vs ds) : Slots W S (start N vs) (start0L N.length ds) := by
  have hl := r.length
  refine ⟨by simp [L2.start, start0L, hl], fun i lv e => ?_⟩
  unfold start0L at e
  unfold L2.start
  rw [List.getElem?_append] at e
  split at e
  · rename_i h
    have h' : i < ds.length := by simpa using h
    rw [List.getElem?_map, List.getElem?_eq_getElem h'] at e
    simp only [Option.map_some, Option.some.injEq] at e
    obtain ⟨v, e1, r1⟩ := r.at (List.getElem?_eq_getElem h')
    refine ⟨v, ?_, by rw [← e]; exact r1⟩
    rw [List.getElem?_append_left (by simpa [hl] using h'), List.getElem?_map, e1]
    rfl
  · rename_i h
    rw [List.getElem?_replicate] at e
    split at e <;> cases e
theorem ret_ok {W : Wc} {S0 : Stt} {Kk : LV → LH → Prop} {Q : VK} (hQ : ∀ lv S', Cl W S0 S' → Kk lv S'.η → ∀ v, RelLV W S' v lv → Q v S'.H) (hl : S0.ms.length = S0.η.length) {S : Stt} {lv : LV} {v : V} (k : Cl W S0 S) (r : RelLV W S v lv) (h : retK S0.η.length Kk lv S.η) : Q v S.H := by
  obtain ⟨m, h1, h2, h3, h4⟩ := h
  exact hQ lv (S.take m) (Cl.take (by rw [hl]; exact h1) k h3) h4 v (r.take h2)
section
variable {P : Program} {w : World} {K : PySem.W.Frag} {mg : Str → Option Value} {base : Heap}
variable {x qual : Str} {q : He.Defn} {st : Stmt} {fd : FuncData} {N ps : List Str} {k : Nat} {WP : Wc → Prop}
theorem told {F : Prop} {cdv : Value} {oc : Value} {od : Option Addr} {kV doc pm ct : Value} {an : Option Addr} {osl : Array (Option Value)} (lk : K.lookup (He.fAd K q) = some ⟨oc, od, .func (PySem.W.fnOf x qual (defArgs st) (defBody st) (defScope st) .none kV doc pm an cdv ct), osl⟩) (hcd : PySem.W.codeIn K cdv qual = true) : cdv = .ref (He.codeOf K q) := by
  obtain ⟨c, ec⟩ := He.codeIn_ref hcd
  rw [He.codeOf_eq lk ec, ec]
/-- a def that lets nothing out -/
theorem okL {F : FnL} (D : FunD K x qual (defArgs st) (defBody st) (defScope st) [] [] (He.fAd K q) fd) (Sc : FnScope N ps (defScope st)) (len : ∀ ds η Kk KE, F ds η Kk KE → ds.length = ps.length)
    (body : ∀ (W : Wc) (S0 : Stt) (cdv : Value) (A : Around) (outer : List Env) (s : Shared) (E : XK), WP W → cdv = .ref (He.codeOf K q) → Room k (A.deeper (envOfC qual (defScope st) s.heap.objs.size (He.fAd K q) cdv)) →
      ∃ g, PSs (cxOf CX0 P w K mg base N qual (defScope st) (He.fAd K q) cdv A outer s S0.H E).nox (defBody st) (tLS W S0 g) ∧ ∀ ds η Kk KE, F ds η Kk KE → g { nx := fun _ => retK η.length Kk (.dat .none), rt := retK η.length Kk, n := η.length } (start0L N.length ds) η) : FnOk P w K mg base CX0 (k + 1) (He.fAd K q) fd ps (spL WP F) := by
  obtain ⟨oc, od, kV, doc, pm, an, cdv, ct, osl, rfl, lk, hcd⟩ := (fun_ofM D).ex
  refine fn_of lk hcd Sc (fun vs H Q E h => ?_) fun A outer s H vs Q E hr h => ?_
  · obtain ⟨W, S, ds, Kk, KE, _, _, _, r, f, _⟩ := h
    rw [r.length]
    exact len ds S.η Kk KE f
  · obtain ⟨W, S, ds, Kk, KE, hW, rfl, k0, r, f, hQ, hE⟩ := h
    obtain ⟨g, hp, hg⟩ := body W S cdv A outer s E hW (told (F := True) lk hcd) hr
    refine ⟨_, hp.nox, [], S, _, _, rfl, ⟨k0, .refl, k0, slots_start r, fun p hp => by cases hp⟩, hg ds S.η Kk KE f, ⟨fun {S' σ ρ} gd k2 => ?_, fun _ k2 => k2.elim, fun _ k2 => k2.elim, fun k2 x2 r2 h2 => ret_ok hQ k0.len k2 r2 h2, k0.len.symm⟩⟩
    exact ret_ok hQ k0.len gd.k (show RelLV W S' .non (.dat .none) from Dx.non) k2
/-- .. that may raise -/
theorem okLX {F : FnL} (D : FunD K x qual (defArgs st) (defBody st) (defScope st) [] [] (He.fAd K q) fd) (Sc : FnScope N ps (defScope st)) (len : ∀ ds η Kk KE, F ds η Kk KE → ds.length = ps.length)
    (body : ∀ (W : Wc) (S0 : Stt) (cdv : Value) (A : Around) (outer : List Env) (s : Shared) (E : XK) (KE : KErr), WP W → LnkL W S0 KE E → cdv = .ref (He.codeOf K q) → Room k (A.deeper (envOfC qual (defScope st) s.heap.objs.size (He.fAd K q) cdv)) →
      ∃ g, PSs (cxOf (L2.CX P w) P w K mg base N qual (defScope st) (He.fAd K q) cdv A outer s S0.H E) (defBody st) (tLS W S0 g) ∧ ∀ ds η Kk, F ds η Kk KE → g { nx := fun _ => retK η.length Kk (.dat .none), rt := retK η.length Kk, n := η.length } (start0L N.length ds) η) : FnOk P w K mg base (L2.CX P w) (k + 1) (He.fAd K q) fd ps (spL WP F) := by
  obtain ⟨oc, od, kV, doc, pm, an, cdv, ct, osl, rfl, lk, hcd⟩ := (fun_ofM D).ex
  refine fn_of lk hcd Sc (fun vs H Q E h => ?_) fun A outer s H vs Q E hr h => ?_
  · obtain ⟨W, S, ds, Kk, KE, _, _, _, r, f, _⟩ := h
    rw [r.length]
    exact len ds S.η Kk KE f
  · obtain ⟨W, S, ds, Kk, KE, hW, rfl, k0, r, f, hQ, hE⟩ := h
    obtain ⟨g, hp, hg⟩ := body W S cdv A outer s E KE hW hE (told (F := True) lk hcd) hr
    refine ⟨_, hp, [], S, _, _, rfl, ⟨k0, .refl, k0, slots_start r, fun p hp => by cases hp⟩, hg ds S.η Kk f, ⟨fun {S' σ ρ} gd k2 => ?_, fun _ k2 => k2.elim, fun _ k2 => k2.elim, fun k2 x2 r2 h2 => ret_ok hQ k0.len k2 r2 h2, k0.len.symm⟩⟩
    exact ret_ok hQ k0.len gd.k (show RelLV W S' .non (.dat .none) from Dx.non) k2
/-! ### promises of the data layer, kept by such bodies -/
def dvL : DV → LV
  | .dat d => .dat d
  | .deck => .deck
  | .gts xs => .gts xs
  | .ob v => .ob v
  | .own c => .dat .none
def s0D (W : Wd) : Stt := { M := W.M0, ms := [], H := W.H0, η := [] }
theorem s0D_cl {W : Wd} (g : GoodH W W.M0 W.H0) : Cl W.toWc (s0D W) (s0D W) := ⟨g.ok, g.vol, g.all, rfl, (fun i j a ci cj e => by cases e), (fun i c e => by cases e), .refl⟩
theorem relD {W : Wd} : ∀ {vs : List V} {ds : List DV}, RelAll W.toWc W.M0 W.H0 vs ds → noOwn ds = true → RelLs W.toWc (s0D W) vs (ds.map dvL)
  | [], [], _, _ => trivial
  | v :: vs, d :: ds, r, n => by
    simp only [noOwn, Bool.and_eq_true, Bool.not_eq_true'] at n
    refine ⟨?_, relD r.2 n.2⟩
    cases d with
    | own c => cases n.1
    | dat d => exact r.1
    | deck => exact r.1
    | gts xs => exact r.1
    | ob u => exact r.1
theorem stpD {W : Wd} {S : Stt} (k : Cl W.toWc (s0D W) S) : Stp W.toWc W.H0 S.H := ⟨fun a o n t e => k.x0.st a o n (fun ⟨i, c, h, _⟩ => by cases h) t e, k.x0.tp, k.x0.on, fun _ => k.ok⟩
theorem dxD {W : Wd} {S : Stt} (k : Cl W.toWc (s0D W) S) {v : V} {d : PyData} (h : Dx S.M S.H v d) : Dx W.M0 S.H v d := Dx.re (fun a _ _ m => k.x0.m a m) _ _ h
def rtD (Kk : PyData → Prop) : LV → LH → Prop := fun lv _ => ∃ d, lv = .dat d ∧ Kk d
theorem okLD {F : FnD} (D : FunD K x qual (defArgs st) (defBody st) (defScope st) [] [] (He.fAd K q) fd) (Sc : FnScope N ps (defScope st)) (len : ∀ ds Kk KE, F ds Kk KE → ds.length = ps.length)
    (body : ∀ (W : Wc) (S0 : Stt) (cdv : Value) (A : Around) (outer : List Env) (s : Shared) (E : XK), WP W → cdv = .ref (He.codeOf K q) → Room k (A.deeper (envOfC qual (defScope st) s.heap.objs.size (He.fAd K q) cdv)) →
      ∃ g, PSs (cxOf CX0 P w K mg base N qual (defScope st) (He.fAd K q) cdv A outer s S0.H E).nox (defBody st) (tLS W S0 g) ∧ ∀ ds Kk KE, F ds Kk KE → g { nx := fun _ _ => Kk .none, rt := rtD Kk, n := 0 } (start0L N.length (ds.map dvL)) []) : FnOk P w K mg base CX0 (k + 1) (He.fAd K q) fd ps (spD WP F) := by
  obtain ⟨oc, od, kV, doc, pm, an, cdv, ct, osl, rfl, lk, hcd⟩ := (fun_ofM D).ex
  refine fn_of lk hcd Sc (fun vs H Q E h => ?_) fun A outer s H vs Q E hr h => ?_
  · obtain ⟨W, ds, Kk, KE, _, _, _, r, _, f, _⟩ := h
    rw [r.length]
    exact len ds Kk KE f
  · obtain ⟨W, ds, Kk, KE, hW, rfl, gh, r, no, f, hQ, hE⟩ := h
    obtain ⟨g, hp, hg⟩ := body W.toWc (s0D W) cdv A outer s E hW (told (F := True) lk hcd) hr
    have k0 := s0D_cl gh
    refine ⟨_, hp.nox, [], s0D W, _, _, rfl, ⟨k0, .refl, k0, slots_start (relD r no), fun p hp => by cases hp⟩, hg ds Kk KE f, ⟨fun {S' σ ρ} gd k2 => ?_, fun _ k2 => k2.elim, fun _ k2 => k2.elim, fun k2 x2 r2 h2 => ?_, rfl⟩⟩
    · exact hQ .none k2 _ _ (stpD gd.k) Dx.non
    · obtain ⟨d, rfl, hd⟩ := h2
      exact hQ d hd _ _ (stpD k2) (dxD k2 r2)
theorem lnkD {W : Wd} {KE : Str → PyData → Prop} {E : XK} (h : Lnk W KE E) : LnkL W.toWc (s0D W) (fun c d _ => KE c d) E := fun c d S v dd hk k n0 _ dx e => h c d hk v dd S.H (stpD k) n0 (dxD k dx) e
theorem okLDX {F : FnD} (D : FunD K x qual (defArgs st) (defBody st) (defScope st) [] [] (He.fAd K q) fd) (Sc : FnScope N ps (defScope st)) (len : ∀ ds Kk KE, F ds Kk KE → ds.length = ps.length)
    (body : ∀ (W : Wc) (S0 : Stt) (cdv : Value) (A : Around) (outer : List Env) (s : Shared) (E : XK) (KE : Str → PyData → Prop), WP W → LnkL W S0 (fun c d _ => KE c d) E → cdv = .ref (He.codeOf K q) → Room k (A.deeper (envOfC qual (defScope st) s.heap.objs.size (He.fAd K q) cdv)) →
      ∃ g, PSs (cxOf (L2.CX P w) P w K mg base N qual (defScope st) (He.fAd K q) cdv A outer s S0.H E) (defBody st) (tLS W S0 g) ∧ ∀ ds Kk, F ds Kk KE → g { nx := fun _ _ => Kk .none, rt := rtD Kk, n := 0 } (start0L N.length (ds.map dvL)) []) : FnOk P w K mg base (L2.CX P w) (k + 1) (He.fAd K q) fd ps (spD WP F) := by
  obtain ⟨oc, od, kV, doc, pm, an, cdv, ct, osl, rfl, lk, hcd⟩ := (fun_ofM D).ex
  refine fn_of lk hcd Sc (fun vs H Q E h => ?_) fun A outer s H vs Q E hr h => ?_
  · obtain ⟨W, ds, Kk, KE, _, _, _, r, _, f, _⟩ := h
    rw [r.length]
    exact len ds Kk KE f
  · obtain ⟨W, ds, Kk, KE, hW, rfl, gh, r, no, f, hQ, hE⟩ := h
    obtain ⟨g, hp, hg⟩ := body W.toWc (s0D W) cdv A outer s E KE hW (lnkD hE) (told (F := True) lk hcd) hr
    have k0 := s0D_cl gh
    refine ⟨_, hp, [], s0D W, _, _, rfl, ⟨k0, .refl, k0, slots_start (relD r no), fun p hp => by cases hp⟩, hg ds Kk f, ⟨fun {S' σ ρ} gd k2 => ?_, fun _ k2 => k2.elim, fun _ k2 => k2.elim, fun k2 x2 r2 h2 => ?_, rfl⟩⟩
    · exact hQ .none k2 _ _ (stpD gd.k) Dx.non
    · obtain ⟨d, rfl, hd⟩ := h2
      exact hQ d hd _ _ (stpD k2) (dxD k2 r2)
end
/-! ### places lent -/
def reloc (ls : List Nat) (b : Nat) : LV → LV
  | .loc i => .loc (match ls[i]? with
    | some j => j
    | none => b + (i - ls.length))
  | x => x
def Cell.mapL (r : LV → LV) : Cell → Cell
  | .lst xs => .lst (xs.map r)
  | .dk kvs => .dk (kvs.map fun p => (p.1, r p.2))
  | .dt kvs => .dt (kvs.map fun p => (p.1, r p.2))
  | .ins c fs => .ins c (fs.map fun p => (p.1, r p.2))
def lentTo (ls : List Nat) (η ηd : LH) : Prop := ηd.map (Option.map (Cell.mapL (reloc ls η.length))) = ls.map (fun j => (η[j]?).join) ∧ ηd.all Option.isSome = true
def putBack (r : LV → LV) : List Nat → LH → LH → LH
  | [], _, η => η
  | j :: ls, [], η => putBack r ls [] (η.set j none)
  | j :: ls, c :: cs, η => putBack r ls cs (η.set j (c.map (Cell.mapL r)))
def back (ls : List Nat) (η η' : LH) : LH := putBack (reloc ls η.length) ls η' η ++ (η'.drop ls.length).map (Option.map (Cell.mapL (reloc ls η.length)))
def callL (F : FnL) (xs : List LV) (η : LH) (K : LV → LH → Prop) (KE : KErr) : Prop := ∃ ls ds ηd, ds.map (reloc ls η.length) = xs ∧ lentTo ls η ηd ∧ ls.Nodup ∧ F ds ηd (fun r η' => K (reloc ls η.length r) (back ls η η')) (fun c d η' => KE c d (back ls η η'))
theorem putBack_len {r : LV → LV} : ∀ {ls : List Nat} {cs η : LH}, (putBack r ls cs η).length = η.length
  | [], _, _ => rfl
  | j :: ls, [], η => by rw [putBack, putBack_len]; simp
  | j :: ls, c :: cs, η => by rw [putBack, putBack_len]; simp
theorem putBack_out {r : LV → LV} {j : Nat} : ∀ {ls : List Nat} {cs η : LH}, j ∉ ls → (putBack r ls cs η)[j]? = η[j]?
  | [], _, _, _ => rfl
  | i :: ls, [], η, h => by
    rw [putBack, putBack_out (fun z => h (List.mem_cons_of_mem _ z)), List.getElem?_set_ne (fun z => h (by rw [z]; exact List.mem_cons_self))]
  | i :: ls, c :: cs, η, h => by
    rw [putBack, putBack_out (fun z => h (List.mem_cons_of_mem _ z)), List.getElem?_set_ne (fun z => h (by rw [z]; exact List.mem_cons_self))]
theorem putBack_in {r : LV → LV} {i j : Nat} : ∀ {ls : List Nat} {cs η : LH}, ls.Nodup → ls[i]? = some j → j < η.length → (putBack r ls cs η)[j]? = some ((cs[i]?).join.map (Cell.mapL r))
  | [], _, _, _, e, _ => by simp at e
  | l :: ls, cs, η, nd, e, hj => by
    have nd' := List.nodup_cons.mp nd
    cases i with
    | zero =>
      simp only [List.getElem?_cons_zero, Option.some.injEq] at e
      subst e
      cases cs with
      | nil =>
        rw [putBack, putBack_out nd'.1, List.getElem?_set_self hj]
        rfl
      | cons c cs =>
        rw [putBack, putBack_out nd'.1, List.getElem?_set_self hj]
        rfl
    | succ i =>
      simp only [List.getElem?_cons_succ] at e
      cases cs with
      | nil =>
        rw [putBack, putBack_in nd'.2 e (by simpa using hj)]
        simp
      | cons c cs =>
        rw [putBack, putBack_in nd'.2 e (by simpa using hj)]
        simp
section
variable {W : Wc} {S0 S S' : Stt} {ls : List Nat} {ηd : LH}
/-- the callee's state -/
def Stt.lend (S : Stt) (ls : List Nat) (ηd : LH) : Stt := { M := S.M, ms := ls.map fun j => (S.ms[j]?).getD 0, H := S.H, η := ηd }
/-- the caller's state behind the call -/
def Stt.join (S S' : Stt) (ls : List Nat) : Stt := { M := S'.M, ms := S.ms ++ S'.ms.drop ls.length, H := S'.H, η := back ls S.η S'.η }
theorem lent_len (h : lentTo ls S.η ηd) : ηd.length = ls.length := by
  have := congrArg List.length h.1
  simpa using this
theorem lent_at (h : lentTo ls S.η ηd) {i j : Nat} (e : ls[i]? = some j) : ∃ c, ηd[i]? = some (some c) ∧ S.η[j]? = some (some (c.mapL (reloc ls S.η.length))) := by
  have hi : i < ηd.length := by rw [lent_len h]; exact (List.getElem?_eq_some_iff.mp e).1
  have h1 : (ηd.map (Option.map (Cell.mapL (reloc ls S.η.length))))[i]? = (ls.map fun j => (S.η[j]?).join)[i]? := by rw [h.1]
  rw [List.getElem?_map, List.getElem?_map, e, List.getElem?_eq_getElem hi] at h1
  simp only [Option.map_some, Option.some.injEq] at h1
  have h2 := List.all_eq_true.mp h.2 ηd[i] (List.getElem_mem hi)
  cases hc : ηd[i] with
  | none => rw [hc] at h2; cases h2
  | some c =>
    rw [hc] at h1
    refine ⟨c, by rw [List.getElem?_eq_getElem hi, hc], ?_⟩
    cases hj : S.η[j]? with
    | none => rw [hj] at h1; cases h1
    | some oc =>
      rw [hj] at h1
      simp only [Option.map_some] at h1
      have : oc = some (c.mapL (reloc ls S.η.length)) := h1.symm
      rw [this]
theorem ms_at (k : Cl W S0 S) (h : lentTo ls S.η ηd) {i j : Nat} (e : ls[i]? = some j) : ∃ a, S.ms[j]? = some a ∧ (S.lend ls ηd).ms[i]? = some a := by
  obtain ⟨c, _, e2⟩ := lent_at h e
  obtain ⟨a, ea, _⟩ := k.cell j _ e2
  refine ⟨a, ea, ?_⟩
  show (ls.map fun j => (S.ms[j]?).getD 0)[i]? = some a
  rw [List.getElem?_map, e]
  simp [ea]
theorem reloc_down (k : Cl W S0 S) (h : lentTo ls S.η ηd) {v : V} {lv : LV} (r : RelLV W S v (reloc ls S.η.length lv)) : RelLV W (S.lend ls ηd) v lv := by
  cases lv with
  | loc i =>
    obtain ⟨a, e1, e2⟩ := r
    cases hi : ls[i]? with
    | some j =>
      simp only [hi] at e2
      obtain ⟨b, q1, q2⟩ := ms_at k h hi
      rw [e2] at q1
      cases q1
      exact ⟨a, e1, q2⟩
    | none =>
      simp only [hi] at e2
      have := (List.getElem?_eq_some_iff.mp e2).1
      rw [k.len] at this
      omega
  | dat d => exact r
  | deck => exact r
  | gts _ => exact r
  | ob _ => exact r
  | err _ _ => exact r
theorem reloc_downs (k : Cl W S0 S) (h : lentTo ls S.η ηd) : ∀ {vs : List V} {ds : List LV}, RelLs W S vs (ds.map (reloc ls S.η.length)) → RelLs W (S.lend ls ηd) vs ds
  | [], [], _ => trivial
  | _ :: _, _ :: _, r => ⟨reloc_down k h r.1, reloc_downs k h r.2⟩
  | [], _ :: _, r => r.elim
  | _ :: _, [], r => r.elim
theorem mapL_snd {α : Type} {f : LV → LV} (kvs : List (α × LV)) : (kvs.map fun p => (p.1, f p.2)).map (·.2) = (kvs.map (·.2)).map f := by
  simp [List.map_map, Function.comp_def]
theorem mapL_fst {α : Type} {f : LV → LV} (kvs : List (α × LV)) : (kvs.map fun p => (p.1, f p.2)).map (·.1) = kvs.map (·.1) := by
  simp [List.map_map, Function.comp_def]
theorem relC_down (k : Cl W S0 S) (h : lentTo ls S.η ηd) {a : Addr} {c : Cell} (r : RelC W S a (c.mapL (reloc ls S.η.length))) : RelC W (S.lend ls ηd) a c := by
  cases c with
  | lst xs =>
    obtain ⟨vs, q, r⟩ := r
    exact ⟨vs, q, reloc_downs k h r⟩
  | dk kvs =>
    obtain ⟨vs, q, r1, r⟩ := r
    rw [mapL_fst] at r1
    rw [mapL_snd] at r
    exact ⟨vs, q, r1, reloc_downs k h r⟩
  | dt kvs =>
    obtain ⟨vs, q, r1, r⟩ := r
    rw [mapL_fst] at r1
    rw [mapL_snd] at r
    exact ⟨vs, q, r1, reloc_downs k h r⟩
  | ins cl fs =>
    obtain ⟨dx, vs, q, r1, r⟩ := r
    rw [mapL_fst] at r1
    rw [mapL_snd] at r
    exact ⟨dx, vs, q, r1, reloc_downs k h r⟩
theorem lend_own {a : Addr} (k : Cl W S0 S) (h : lentTo ls S.η ηd) (o : (S.lend ls ηd).own a) : ∃ (i j : Nat) (c : Cell), ls[i]? = some j ∧ S.η[j]? = some (some c) ∧ S.ms[j]? = some a := by
  obtain ⟨i, c, e1, e2⟩ := o
  have hi : i < ls.length := by
    have := (List.getElem?_eq_some_iff.mp e2).1
    simpa [Stt.lend] using this
  have el := List.getElem?_eq_getElem hi
  obtain ⟨c', q1, q2⟩ := lent_at h el
  obtain ⟨b, q3, q4⟩ := ms_at k h el
  rw [e2] at q4
  cases q4
  exact ⟨i, ls[i], _, el, q2, q3⟩
theorem Cl.lend (k : Cl W S0 S) (h : lentTo ls S.η ηd) (nd : ls.Nodup) : Cl W (S.lend ls ηd) (S.lend ls ηd) := by
  have at_ : ∀ {i : Nat} {c : Cell}, ηd[i]? = some (some c) → ∃ j, ls[i]? = some j ∧ S.η[j]? = some (some (c.mapL (reloc ls S.η.length))) := fun {i c} e => by
    have hi : i < ls.length := by rw [← lent_len h]; exact (List.getElem?_eq_some_iff.mp e).1
    have el := List.getElem?_eq_getElem hi
    obtain ⟨c', q1, q2⟩ := lent_at h el
    rw [e] at q1
    cases q1
    exact ⟨_, el, q2⟩
  refine ⟨k.ok, k.vol, k.all, by show (ls.map _).length = ηd.length; rw [List.length_map, lent_len h], fun i j a ci cj e1 e2 q1 q2 => ?_, fun i c e => ?_, .refl⟩
  · obtain ⟨i', l1, h1⟩ := at_ e1
    obtain ⟨j', l2, h2⟩ := at_ e2
    obtain ⟨a1, m1, m2⟩ := ms_at k h l1
    obtain ⟨a2, m3, m4⟩ := ms_at k h l2
    rw [q1] at m2
    rw [q2] at m4
    cases m2
    cases m4
    have := k.nd i' j' a _ _ h1 h2 m1 m3
    subst this
    have hi := (List.getElem?_eq_some_iff.mp l1).1
    have hj := (List.getElem?_eq_some_iff.mp l2).1
    exact (List.getElem?_inj hi nd).mp (by rw [l1, l2])
  · obtain ⟨j, l, hj⟩ := at_ e
    obtain ⟨a, m1, m2⟩ := ms_at k h l
    obtain ⟨a', m3, mM, nv, r⟩ := k.cell j _ hj
    rw [m1] at m3
    cases m3
    exact ⟨a, m2, mM, nv, relC_down k h r⟩
theorem back_len (η η' : LH) : (back ls η η').length = η.length + (η'.length - ls.length) := by
  unfold back
  rw [List.length_append, putBack_len, List.length_map, List.length_drop]
theorem back_new {η η' : LH} {j : Nat} (h : η.length ≤ j) : (back ls η η')[j]? = (η'[ls.length + (j - η.length)]?).map (Option.map (Cell.mapL (reloc ls η.length))) := by
  unfold back
  rw [List.getElem?_append_right (by rw [putBack_len]; exact h), putBack_len, List.getElem?_map, List.getElem?_drop]
theorem back_old {η η' : LH} {j : Nat} (h : j < η.length) : (back ls η η')[j]? = (putBack (reloc ls η.length) ls η' η)[j]? := by
  unfold back
  rw [List.getElem?_append_left (by rw [putBack_len]; exact h)]
/-- what stands behind the call -/
theorem join_ok (k : Cl W S0 S) (h : lentTo ls S.η ηd) (nd : ls.Nodup) (k' : Cl W (S.lend ls ηd) S') : Cl W S0 (S.join S' ls) ∧ Ext W S (S.join S' ls) ∧ ∀ v lv, RelLV W S' v lv → RelLV W (S.join S' ls) v (reloc ls S.η.length lv) := by
  have hml : (S.lend ls ηd).ms.length = ls.length := by simp [Stt.lend]
  have pre' : ls.length ≤ S'.ms.length := by
    rw [← hml]
    by_cases z : (S.lend ls ηd).ms.length = 0
    · omega
    · have := k'.x0.lt (i := (S.lend ls ηd).ms.length - 1) (by omega)
      omega
  -- addresses
  have msO : ∀ {j a}, S.ms[j]? = some a → (S.ms ++ S'.ms.drop ls.length)[j]? = some a := fun {j a} e => by
    rw [List.getElem?_append_left (List.getElem?_eq_some_iff.mp e).1]
    exact e
  have msN : ∀ {i a}, ls.length ≤ i → S'.ms[i]? = some a → (S.ms ++ S'.ms.drop ls.length)[S.η.length + (i - ls.length)]? = some a := fun {i a} hi e => by
    rw [List.getElem?_append_right (by rw [k.len]; omega), List.getElem?_drop, k.len]
    rw [show ls.length + (S.η.length + (i - ls.length) - S.η.length) = i by omega]
    exact e
  have msL : ∀ {i j a}, ls[i]? = some j → S'.ms[i]? = some a → S.ms[j]? = some a := fun {i j a} el e => by
    obtain ⟨b, q1, q2⟩ := ms_at k h el
    have := k'.x0.pre i b q2
    rw [e] at this
    cases this
    exact q1
  have rel : ∀ v lv, RelLV W S' v lv → RelLV W (S.join S' ls) v (reloc ls S.η.length lv) := fun v lv r => by
    cases lv with
    | loc i =>
      obtain ⟨a, e1, e2⟩ := r
      refine ⟨a, e1, ?_⟩
      cases hi : ls[i]? with
      | some j => exact msO (msL hi e2)
      | none => exact msN (by rw [List.getElem?_eq_none_iff] at hi; exact hi) e2
    | dat d => exact r
    | deck => exact r
    | gts _ => exact r
    | ob _ => exact r
    | err _ _ => exact r
  have rels : ∀ {vs : List V} {ds : List LV}, RelLs W S' vs ds → RelLs W (S.join S' ls) vs (ds.map (reloc ls S.η.length)) := fun {vs ds} r => by
    induction vs generalizing ds with
    | nil => cases ds with
      | nil => trivial
      | cons _ _ => exact r.elim
    | cons v vs ih => cases ds with
      | nil => exact r.elim
      | cons d ds => exact ⟨rel _ _ r.1, ih r.2⟩
  have relC : ∀ {a : Addr} {c : Cell}, RelC W S' a c → RelC W (S.join S' ls) a (c.mapL (reloc ls S.η.length)) := fun {a c} r => by
    cases c with
    | lst xs =>
      obtain ⟨vs, q, r⟩ := r
      exact ⟨vs, q, rels r⟩
    | dk kvs =>
      obtain ⟨vs, q, r1, r⟩ := r
      exact ⟨vs, q, by rw [mapL_fst]; exact r1, by rw [mapL_snd]; exact rels r⟩
    | dt kvs =>
      obtain ⟨vs, q, r1, r⟩ := r
      exact ⟨vs, q, by rw [mapL_fst]; exact r1, by rw [mapL_snd]; exact rels r⟩
    | ins cl fs =>
      obtain ⟨dx, vs, q, r1, r⟩ := r
      exact ⟨dx, vs, q, by rw [mapL_fst]; exact r1, by rw [mapL_snd]; exact rels r⟩
  -- what a live place behind the call is
  have kind : ∀ {j : Nat} {c : Cell}, (back ls S.η S'.η)[j]? = some (some c) → (∃ (i : Nat) (c' : Cell), ls[i]? = some j ∧ S'.η[i]? = some (some c') ∧ c = c'.mapL (reloc ls S.η.length)) ∨ (j < S.η.length ∧ j ∉ ls ∧ S.η[j]? = some (some c)) ∨ ∃ (i : Nat) (c' : Cell), ls.length ≤ i ∧ j = S.η.length + (i - ls.length) ∧ S'.η[i]? = some (some c') ∧ c = c'.mapL (reloc ls S.η.length) := fun {j c} e => by
    by_cases hj : j < S.η.length
    · rw [back_old hj] at e
      by_cases hm : j ∈ ls
      · obtain ⟨i, hi⟩ := List.getElem?_of_mem hm
        rw [putBack_in nd hi hj] at e
        simp only [Option.some.injEq, Option.map_eq_some_iff] at e
        obtain ⟨c', e1, rfl⟩ := e
        refine .inl ⟨i, c', hi, ?_, rfl⟩
        cases q : S'.η[i]? with
        | none => rw [q] at e1; cases e1
        | some oc =>
          rw [q] at e1
          have : oc = some c' := e1
          rw [this]
      · rw [putBack_out hm] at e
        exact .inr (.inl ⟨hj, hm, e⟩)
    · rw [back_new (by omega)] at e
      cases q : S'.η[ls.length + (j - S.η.length)]? with
      | none => rw [q] at e; cases e
      | some oc =>
        rw [q] at e
        simp only [Option.map_some, Option.some.injEq, Option.map_eq_some_iff] at e
        obtain ⟨c', e1, rfl⟩ := e
        exact .inr (.inr ⟨ls.length + (j - S.η.length), c', by omega, by omega, by rw [q, e1], rfl⟩)
  have x : Ext W S (S.join S' ls) := by
    refine ⟨k'.x0.m, k'.x0.fresh, fun i a e => msO e, fun j c hj e => ?_, fun j a c hj e q => ?_, fun a o n1 n2 t e => ?_, k'.x0.tp, k'.x0.on⟩
    · rcases kind e with ⟨i, c', hi, _, _⟩ | ⟨_, _, e⟩ | ⟨i, c', h1, rfl, _⟩
      · obtain ⟨c0, _, q⟩ := lent_at h hi
        exact ⟨_, q⟩
      · exact ⟨c, e⟩
      · rw [k.len] at hj
        omega
    · rcases kind e with ⟨i, c', hi, _, _⟩ | ⟨hj2, _, _⟩ | ⟨i, c', h1, rfl, e2, _⟩
      · obtain ⟨c0, _, q2⟩ := lent_at h hi
        have := (List.getElem?_eq_some_iff.mp q2).1
        rw [k.len] at hj
        omega
      · rw [k.len] at hj
        omega
      · have hi : i < S'.ms.length := by rw [k'.len]; exact (List.getElem?_eq_some_iff.mp e2).1
        have q2 := msN h1 (List.getElem?_eq_getElem hi)
        have q : (S.ms ++ S'.ms.drop ls.length)[S.η.length + (i - ls.length)]? = some a := q
        rw [q] at q2
        exact k'.x0.nw i a c' (by rw [hml]; exact h1) e2 (by rw [List.getElem?_eq_getElem hi]; exact q2.symm)
    · exact k'.x0.st a o n1 (fun z => by
        obtain ⟨i, j, c, l, e1, e2⟩ := lend_own k h z
        exact n2 ⟨j, c, e1, e2⟩) t e
  refine ⟨⟨k'.ok, k'.vol, k'.all, ?_, fun j1 j2 a c1 c2 e1 e2 q1 q2 => ?_, fun j c e => ?_, k.x0.trans x⟩, x, rel⟩
  · show (S.ms ++ S'.ms.drop ls.length).length = (back ls S.η S'.η).length
    rw [back_len, List.length_append, List.length_drop, k.len, k'.len]
  · have q1 : (S.ms ++ S'.ms.drop ls.length)[j1]? = some a := q1
    have q2 : (S.ms ++ S'.ms.drop ls.length)[j2]? = some a := q2
    -- each as a place of the callee, or an old one
    have old : ∀ {j}, j < S.η.length → (S.ms ++ S'.ms.drop ls.length)[j]? = some a → S.ms[j]? = some a := fun {j} hj q => by
      rw [List.getElem?_append_left (by rw [k.len]; exact hj)] at q
      exact q
    have cal : ∀ {i j : Nat}, ls[i]? = some j → (S.ms ++ S'.ms.drop ls.length)[j]? = some a → S'.ms[i]? = some a := fun {i j} l q => by
      obtain ⟨b, m1, m2⟩ := ms_at k h l
      have := msO m1
      rw [q] at this
      cases this
      exact k'.x0.pre i a m2
    have new : ∀ {i : Nat}, ls.length ≤ i → (S.ms ++ S'.ms.drop ls.length)[S.η.length + (i - ls.length)]? = some a → S'.ms[i]? = some a := fun {i} hi q => by
      rw [List.getElem?_append_right (by rw [k.len]; omega), List.getElem?_drop, k.len] at q
      rw [show ls.length + (S.η.length + (i - ls.length) - S.η.length) = i by omega] at q
      exact q
    have lt : ∀ {i : Nat} {j : Nat}, ls[i]? = some j → i < ls.length := fun l => (List.getElem?_eq_some_iff.mp l).1
    -- an old place that was not lent has an address that the callee does not have
    have apart : ∀ {j i : Nat} {c c' : Cell}, j < S.η.length → j ∉ ls → S.η[j]? = some (some c) → S.ms[j]? = some a → S'.η[i]? = some (some c') → S'.ms[i]? = some a → False := fun {j i c c'} hj hm e q e' q' => by
      by_cases hi : i < ls.length
      · have l := List.getElem?_eq_getElem hi
        have m := msL l q'
        obtain ⟨c0, _, e0⟩ := lent_at h l
        exact hm (by rw [k.nd j _ a _ _ e e0 q m]; exact List.getElem_mem hi)
      · have := k'.x0.nw i a c' (by rw [hml]; omega) e' q'
        obtain ⟨a', ea, m, _⟩ := k.cell j c e
        rw [q] at ea
        cases ea
        exact k.all a m this
    rcases kind e1 with ⟨i1, d1, l1, f1, _⟩ | ⟨h1, m1, f1⟩ | ⟨i1, d1, h1, rfl, f1, _⟩
    · rcases kind e2 with ⟨i2, d2, l2, f2, _⟩ | ⟨h2, m2, f2⟩ | ⟨i2, d2, h2, rfl, f2, _⟩
      · have := k'.nd i1 i2 a _ _ f1 f2 (cal l1 q1) (cal l2 q2)
        subst this
        rw [l1] at l2
        exact Option.some.inj l2
      · exact (apart h2 m2 f2 (old h2 q2) f1 (cal l1 q1)).elim
      · have := k'.nd i1 i2 a _ _ f1 f2 (cal l1 q1) (new h2 q2)
        have := lt l1
        omega
    · rcases kind e2 with ⟨i2, d2, l2, f2, _⟩ | ⟨h2, m2, f2⟩ | ⟨i2, d2, h2, rfl, f2, _⟩
      · exact (apart h1 m1 f1 (old h1 q1) f2 (cal l2 q2)).elim
      · exact k.nd j1 j2 a _ _ f1 f2 (old h1 q1) (old h2 q2)
      · exact (apart h1 m1 f1 (old h1 q1) f2 (new h2 q2)).elim
    · rcases kind e2 with ⟨i2, d2, l2, f2, _⟩ | ⟨h2, m2, f2⟩ | ⟨i2, d2, h2, rfl, f2, _⟩
      · have := k'.nd i1 i2 a _ _ f1 f2 (new h1 q1) (cal l2 q2)
        have := lt l2
        omega
      · exact (apart h2 m2 f2 (old h2 q2) f1 (new h1 q1)).elim
      · have := k'.nd i1 i2 a _ _ f1 f2 (new h1 q1) (new h2 q2)
        rw [this]
  · rcases kind e with ⟨i, c', l, f, rfl⟩ | ⟨hj, hm, f⟩ | ⟨i, c', h1, rfl, f, rfl⟩
    · obtain ⟨a, ea, m, nv, r⟩ := k'.cell i c' f
      exact ⟨a, msO (msL l ea), m, nv, relC r⟩
    · obtain ⟨a, ea, m, nv, r⟩ := k.cell j c f
      obtain ⟨o, eo, t, _, _⟩ := r.nt
      refine ⟨a, msO ea, k'.x0.m a m, nv, r.to (S' := S.join S' ls) ?_ fun v lv q => q.ext k x⟩
      show S'.H a = S.H a
      rw [eo]
      exact k'.x0.st a o nv (fun z => by
        obtain ⟨i, j2, c2, l, e1, e2⟩ := lend_own k h z
        exact hm (by rw [k.nd j j2 a _ _ f e1 ea e2]; exact List.mem_of_getElem? l)) t eo
    · obtain ⟨a, ea, m, nv, r⟩ := k'.cell i c' f
      exact ⟨a, msN h1 ea, m, nv, relC r⟩
end
section
variable {X : Cx} {W : Wc} {S0 : Stt} {WP : Wc → Prop} {F : FnL} {FD : FnD} {KE : KErr} {E : XK} {fa : LA} {e : Expr}
theorem callL_ok {S : Stt} {vs : List V} {xs : List LV} {K : LV → LH → Prop} {Q : VK} (hW : WP W) (k : Cl W S0 S) (r : RelLs W S vs xs) (h : callL F xs S.η K KE) (hQ : ContL W S0 S K Q) (hE : LnkL W S0 KE E) : spL WP F vs S.H Q E := by
  obtain ⟨ls, ds, ηd, e1, e2, nd, hF⟩ := h
  refine ⟨W, S.lend ls ηd, ds, _, _, hW, rfl, k.lend e2 nd, reloc_downs k e2 (by rw [e1]; exact r), hF, fun lv S' k' hk v rv => ?_, fun c d S' v dd hk k' n0 nM dx hd => ?_⟩
  · obtain ⟨k2, x2, r2⟩ := join_ok k e2 nd k'
    exact hQ _ (S.join S' ls) x2 k2 hk v (r2 _ _ rv)
  · obtain ⟨k2, x2, r2⟩ := join_ok k e2 nd k'
    exact hE c d (S.join S' ls) v dd hk k2 (k.x0.on dd n0) nM (r2 _ (.dat d) dx) hd
def noKL : KErr := fun _ _ _ => False
theorem lnkL0 {E : XK} : LnkL W S0 noKL E := fun _ _ _ _ _ h => h.elim
/-- a def called -/
def xFn (F : FnL) (KE : KErr) (fa : LA) : LE := fun ρ η K => fa ρ η fun xs η1 => callL F xs η1 K KE
theorem le_call (h : PE X e (tCall (spL WP F) [] E (tLA W S0 fa))) (hW : WP W) : PE X e (tL W S0 (xFn F noKL fa)) := h.imp fun σ H Q h => by
  obtain ⟨S, ρ, K, rfl, k, sl, h, c⟩ := h
  refine ⟨S, ρ, _, rfl, k, sl, h, fun xs S1 e1 k1 hx vs r1 => ?_⟩
  show spL WP F (vs ++ []) S1.H Q E
  rw [List.append_nil]
  exact callL_ok hW k1 r1 hx (c.ext e1) lnkL0
theorem le_callX (h : PE X e (tCall (spL WP F) [] E (tLA W S0 fa))) (hW : WP W) (hE : LnkL W S0 KE E) : PE X e (tL W S0 (xFn F KE fa)) := h.imp fun σ H Q h => by
  obtain ⟨S, ρ, K, rfl, k, sl, h, c⟩ := h
  refine ⟨S, ρ, _, rfl, k, sl, h, fun xs S1 e1 k1 hx vs r1 => ?_⟩
  show spL WP F (vs ++ []) S1.H Q E
  rw [List.append_nil]
  exact callL_ok hW k1 r1 hx (c.ext e1) hE
theorem le_call0 (h : PE X e (tCall (spL WP F) [] E tNil)) (hW : WP W) : PE X e (tL W S0 (xFn F noKL xNil)) := h.imp fun σ H Q h => by
  obtain ⟨S, ρ, K, rfl, k, sl, h, c⟩ := h
  show spL WP F ([] ++ []) S.H Q E
  exact callL_ok (xs := []) hW k trivial h c lnkL0
/-- .. by a promise of the data layer -/
def xFnD (F : FnD) (fa : LA) : LE := fun ρ η K => fa ρ η fun xs η1 => ∃ ds, views η1 xs = some ds ∧ F (ds.map lend) (fun d => (noOwn ds = true ∨ scalarD d = true) ∧ K (.dat d) η1) noKE
theorem callD_ok {S : Stt} {vs : List V} {xs : List LV} {ds : List DV} {K : LV → LH → Prop} {Q : VK} (hW : WP W) (k : Cl W S0 S) (r : RelLs W S vs xs) (v : views S.η xs = some ds) (h : FD (ds.map lend) (fun d => (noOwn ds = true ∨ scalarD d = true) ∧ K (.dat d) S.η) noKE) (hQ : ContL W S0 S K Q) : spD WP FD vs S.H Q E := by
  refine sp_of (W := S.wd W) (Kk := fun dv => ∃ d, dv = .dat d ∧ K (.dat d) S.η) hW k.gh (views_rel k r v) ?_ fun dv hk v H' s rv => ?_
  · simpa using h
  · obtain ⟨d, rfl, hk⟩ := hk
    exact hQ (.dat d) { S with H := H' } (.stp s) (k.stp s) hk v rv
theorem le_callD (h : PE X e (tCall (spD WP FD) [] E (tLA W S0 fa))) (hW : WP W) : PE X e (tL W S0 (xFnD FD fa)) := h.imp fun σ H Q h => by
  obtain ⟨S, ρ, K, rfl, k, sl, h, c⟩ := h
  refine ⟨S, ρ, _, rfl, k, sl, h, fun xs S1 e1 k1 hx vs r1 => ?_⟩
  obtain ⟨ds, hv, hF⟩ := hx
  show spD WP FD (vs ++ []) S1.H Q E
  rw [List.append_nil]
  exact callD_ok hW k1 r1 hv hF (c.ext e1)
theorem le_callD0 (h : PE X e (tCall (spD WP FD) [] E tNil)) (hW : WP W) : PE X e (tL W S0 (xFnD FD xNil)) := h.imp fun σ H Q h => by
  obtain ⟨S, ρ, K, rfl, k, sl, h, c⟩ := h
  obtain ⟨ds, hv, hF⟩ := h
  show spD WP FD ([] ++ []) S.H Q E
  exact callD_ok (xs := []) hW k trivial hv hF c
/-- .. that may raise, in a def that may raise it -/
def xFnDX (F : FnD) (KE : KErr) (fa : LA) : LE := fun ρ η K => fa ρ η fun xs η1 => ∃ ds, views η1 xs = some ds ∧ noOwn ds = true ∧ F ds (fun d => K (.dat d) η1) (fun c d => KE c d η1)
theorem le_callDX (h : PE X e (tCall (spD WP FD) [] E (tLA W S0 fa))) (hW : WP W) (hE : LnkL W S0 KE E) : PE X e (tL W S0 (xFnDX FD KE fa)) := h.imp fun σ H Q h => by
  obtain ⟨S, ρ, K, rfl, k, sl, h, c⟩ := h
  refine ⟨S, ρ, _, rfl, k, sl, h, fun xs S1 e1 k1 hx vs r1 => ?_⟩
  obtain ⟨ds, hv, no, hF⟩ := hx
  show spD WP FD (vs ++ []) S1.H Q E
  rw [List.append_nil]
  refine ⟨S1.wd W, ds, _, _, hW, rfl, k1.gh, views_rel k1 r1 hv, no, hF, fun d hk v H' s2 r2 => (c.ext e1) (.dat d) { S1 with H := H' } (.stp s2) (k1.stp s2) hk v r2, fun cc d hk v dd H' s2 n0 r2 hd => ?_⟩
  exact hE cc d { S1 with H := H' } v dd hk (k1.stp s2) (k1.x0.on dd n0) (fun m => k1.all dd m n0) r2 hd
/-! ### arguments by keywords: in the def's order by g -/
variable {g : {α : Type} → List α → List α}
def xFnK (F : FnL) (g : List LV → List LV) (fa : LA) : LE := fun ρ η K => fa ρ η fun xs η1 => callL F (g xs) η1 K noKL
def xFnDK (F : FnD) (g : List LV → List LV) (fa : LA) : LE := fun ρ η K => fa ρ η fun xs η1 => ∃ ds, views η1 (g xs) = some ds ∧ F (ds.map lend) (fun d => (noOwn ds = true ∨ scalarD d = true) ∧ K (.dat d) η1) noKE
theorem le_callK (h : PE X e (tCallK0 (spL WP F) g E (tLA W S0 fa))) (hg : ∀ {S : Stt} {vs : List V} {ds : List LV}, RelLs W S vs ds → RelLs W S (g vs) (g ds)) (hW : WP W) : PE X e (tL W S0 (xFnK F g fa)) := h.imp fun σ H Q h => by
  obtain ⟨S, ρ, K, rfl, k, sl, h, c⟩ := h
  refine ⟨S, ρ, _, rfl, k, sl, h, fun xs S1 e1 k1 hx vs r1 => ?_⟩
  exact callL_ok hW k1 (hg r1) hx (c.ext e1) lnkL0
theorem le_callDK (h : PE X e (tCallK0 (spD WP FD) g E (tLA W S0 fa))) (hg : ∀ {S : Stt} {vs : List V} {ds : List LV}, RelLs W S vs ds → RelLs W S (g vs) (g ds)) (hW : WP W) : PE X e (tL W S0 (xFnDK FD g fa)) := h.imp fun σ H Q h => by
  obtain ⟨S, ρ, K, rfl, k, sl, h, c⟩ := h
  refine ⟨S, ρ, _, rfl, k, sl, h, fun xs S1 e1 k1 hx vs r1 => ?_⟩
  obtain ⟨ds, hv, hF⟩ := hx
  exact callD_ok hW k1 (hg r1) hv hF (c.ext e1)
theorem lk_nil : PK X [] (tLA W S0 xNil) := pk_nil.imp fun σ H Q h => by
  obtain ⟨S, ρ, K, rfl, k, sl, h, c⟩ := h
  exact c [] S .refl k h [] trivial
theorem lk_cons {kws : List Keyword} {nm : Option Str} {kpos : Pos} {f : LE} {ga : LA} (h1 : PE X e (tL W S0 f)) (h2 : PK X kws (tLA W S0 ga)) : PK X (⟨nm, e, kpos⟩ :: kws) (tLA W S0 (xCons f ga)) := (pk_cons h1 h2).imp fun σ H Q h => by
  obtain ⟨S, ρ, K, rfl, k, sl, h, c⟩ := h
  refine ⟨S, ρ, _, rfl, k, sl, h, fun x S1 e1 k1 hx v r1 => ⟨S1, ρ, _, rfl, k1, sl.ext k e1, hx, fun ds S2 e2 k2 hd vs r2 => ?_⟩⟩
  exact c _ S2 (e1.trans e2) k2 hd _ ⟨r1.ext k1 e2, r2⟩
/-! ### errors raised -/
def zRaise (c : Str) (KE : KErr) (f : LE) : LS := fun _ ρ η => f ρ η fun x η1 => ∃ d, x = .dat d ∧ KE c d η1
theorem ls_raise {x : Str} {fd : FuncData} {f : LE} {p pos pos' : Pos} (Ex : Eq1 X.prog X.w X.K X.mg X.base x (fld x) fd) (hr : Room 2 X.A) (hK : W.K = X.K) (hH : X.H_0 = S0.H) (hl : LnkL W S0 KE E) (hc : X.calm = true) (hex : X.ex = []) (tk : Takes X fun cls d _ H => E cls d H) (he : PE X e (tL W S0 f)) (hg : Gl X x)
    (hdb : (x == ("__debug__" : Str)) = false := by decide) (hse : starEach [e] X.env = (false, eval e X.env) :: starEach [] X.env := by rfl) (hpl : (backTo pos' (starEach [] X.env)).any (·.1) = false := by rfl) :
    PS X (.Raise (some (.Call (.Name x p) [e] [] pos')) none pos) (tLS W S0 (zRaise x KE f)) := (ps_raise hc tk (pmk_q hex (pe_new1 Ex hr he hg hdb hse hpl))).imp fun D σ H ⟨L, S, ρ, E', eH, gd, k, le⟩ => by
  refine ⟨S, ρ, _, eH, gd.k, gd.s, k, fun lv S1 x1 k1 hd v r1 => ⟨by show 1 ≤ 1000; decide, fun a ha => ?_⟩⟩
  obtain ⟨d, rfl, hk⟩ := hd
  refine ⟨a, ga X.K x, ma X.K (ga X.K x) "__init__", v, rfl, Ex.c, upd_same, fun dx hd ne => ⟨rfl, a, ga X.K x, ma X.K (ga X.K x) "__init__", dx, fld x, _, rfl, Ex.c, upd_same, (by rw [upd_ne ne, upd_same]), ?_, ?_⟩⟩
  · rw [hH]
    exact fr0_none (k1.x0.on a ha)
  · have nd : S1.H dx = none := by
      rw [upd_ne ne] at hd
      exact hd
    have sm : Same S1.H (upd (delH (upd (upd (upd S1.H a (exo a (ga X.K x) none)) dx (exd dx [(fld x, v)])) a (exo a (ga X.K x) (some dx))) a) dx (.xd [(fld x, v)])) := fun b o e => by
      have na : b ≠ a := ne_of_none e ha
      have nb : b ≠ dx := ne_of_none e nd
      rw [upd_ne nb, delH_ne na, upd_ne na, upd_ne nb, upd_ne na]
      exact e
    have s : Stp W S1.H _ := .same sm
    have := hl x d { S1 with H := (upd (delH (upd (upd (upd S1.H a (exo a (ga X.K x) none)) dx (exd dx [(fld x, v)])) a (exo a (ga X.K x) (some dx))) a) dx (.xd [(fld x, v)])) } v dx hk (k1.stp s) (k1.x0.on dx nd) (fun m => k1.all dx m nd) (Ext.dx k1 (.stp s) r1) upd_same
    rw [hK] at this
    exact this
end
end EL

set_option Elab.async false
set_option linter.all false
set_option maxRecDepth 100000
set_option maxHeartbeats 1000000
/-! Lists, dicts and instances at places: read and changed. -/
namespace EL
open PySem PySem.Spec PyProof.Rows L2 KT KG KX KY KE0 KQ LK GxR DL
/-- some place's cell, seen at a value -/
theorem cell_at {W : Wc} {S0 S : Stt} {v : V} {l : Nat} {c : Cell} (k : Cl W S0 S) (r : RelLV W S v (.loc l)) (h : S.η[l]? = some (some c)) : ∃ a, v = .ref a ∧ S.ms[l]? = some a ∧ RelC W S a c := by
  obtain ⟨a, e, ha⟩ := r
  obtain ⟨a', ea, _, _, rc⟩ := k.cell l c h
  rw [ha] at ea
  cases ea
  exact ⟨a, e, ha, rc⟩
section
variable {X : Cx} {W : Wc} {S0 : Stt} {e a b o : Expr} {pos : Pos} {f g h : LE}
/-! ### lists -/
def xApp (f g : LE) : LE := fun ρ η K => f ρ η fun x η1 => ∃ l xs0, x = .loc l ∧ η1[l]? = some (some (.lst xs0)) ∧ g ρ η1 fun y η2 => ∃ xs, η2[l]? = some (some (.lst xs)) ∧ xs.length < sizeLine ∧ K (.dat .none) (η2.set l (some (.lst (xs ++ [y]))))
theorem le_append (hh : PE X e (tBM X.K "list" rAppend (tL W S0 f) (tCons (tL W S0 g) tNil))) : PE X e (tL W S0 (xApp f g)) := hh.imp fun σ H Q h => by
  obtain ⟨S, ρ, K, rfl, k, sl, h, c⟩ := h
  refine ⟨S, ρ, _, rfl, k, sl, h, fun x S1 e1 k1 hx v r1 => ?_⟩
  obtain ⟨l, xs0, rfl, h0, hx⟩ := hx
  obtain ⟨a, rfl, ha, vs0, hv0, _⟩ := cell_at k1 r1 h0
  refine ⟨.inl ⟨rfl, _, SqL.of hv0⟩, S1, ρ, _, rfl, k1, sl.ext k e1, hx, fun y S2 e2 k2 hy u r2 => ?_⟩
  obtain ⟨xs, h2, hl, hk⟩ := hy
  obtain ⟨a', e', ha2, vs, hv, rl⟩ := cell_at k2 (r1.ext k1 e2) h2
  cases e'
  refine ⟨a, vs, u, rfl, rfl, hv, by rw [rl.length]; exact hl, ?_⟩
  obtain ⟨k3, e3⟩ := setCell (o := .lst (vs ++ [u])) (c := .lst (xs ++ [y])) k2 h2 ha2 ⟨_, rfl, rl.app ⟨r2, trivial⟩⟩
  exact c (.dat .none) _ ((e1.trans e2).trans e3) k3 hk .non Dx.non
/-- the items of a list, as data or at a place -/
def itemsOfL (η : LH) : LV → (List LV → Prop) → Prop
  | .dat (.list ds), K => K (ds.map .dat)
  | .loc l, K => ∃ xs, η[l]? = some (some (.lst xs)) ∧ K xs
  | _, _ => False
theorem items_rel {S : Stt} {v : V} {x : LV} {K : List LV → Prop} (k : Cl W S0 S) (r : RelLV W S v x) (h : itemsOfL S.η x K) : ∃ b vs ys, v = .ref b ∧ S.H b = some (.lst vs) ∧ RelLs W S vs ys ∧ K ys := by
  match x, h, r with
  | .dat (.list ds), h, r =>
    cases (show Dx S.M S.H v (.list ds) from r) with
    | lst n e ra => exact ⟨_, _, _, rfl, e, dxs_rel ra, h⟩
  | .loc l, h, r =>
    obtain ⟨xs, h0, hk⟩ := h
    obtain ⟨a, rfl, ha, vs, hv, rl⟩ := cell_at k r h0
    exact ⟨a, vs, xs, rfl, hv, rl, hk⟩
def xExt (f g : LE) : LE := fun ρ η K => f ρ η fun x η1 => ∃ l xs0, x = .loc l ∧ η1[l]? = some (some (.lst xs0)) ∧ g ρ η1 fun y η2 => itemsOfL η2 y fun ys => ∃ xs, η2[l]? = some (some (.lst xs)) ∧ xs.length + ys.length ≤ sizeLine ∧ K (.dat .none) (η2.set l (some (.lst (xs ++ ys))))
theorem le_extend (hh : PE X e (tBM X.K "list" rExtend (tL W S0 f) (tCons (tL W S0 g) tNil))) : PE X e (tL W S0 (xExt f g)) := hh.imp fun σ H Q h => by
  obtain ⟨S, ρ, K, rfl, k, sl, h, c⟩ := h
  refine ⟨S, ρ, _, rfl, k, sl, h, fun x S1 e1 k1 hx v r1 => ?_⟩
  obtain ⟨l, xs0, rfl, h0, hx⟩ := hx
  obtain ⟨a, rfl, ha, vs0, hv0, _⟩ := cell_at k1 r1 h0
  refine ⟨.inl ⟨rfl, _, SqL.of hv0⟩, S1, ρ, _, rfl, k1, sl.ext k e1, hx, fun y S2 e2 k2 hy u r2 => ?_⟩
  obtain ⟨b, us, ys, rfl, hb, rb, xs, h2, hl, hk⟩ := items_rel k2 r2 hy
  obtain ⟨a', e', ha2, vs, hv, rl⟩ := cell_at k2 (r1.ext k1 e2) h2
  cases e'
  refine ⟨a, b, vs, us, rfl, rfl, hv, hb, by rw [rl.length, rb.length]; exact hl, ?_⟩
  obtain ⟨k3, e3⟩ := setCell (o := .lst (vs ++ us)) (c := .lst (xs ++ ys)) k2 h2 ha2 ⟨_, rfl, rl.app rb⟩
  exact c (.dat .none) _ ((e1.trans e2).trans e3) k3 hk .non Dx.non
theorem RelLs.split {S : Stt} : ∀ {ys zs : List LV} {vs : List V}, RelLs W S vs (ys ++ zs) → ∃ us ws, vs = us ++ ws ∧ RelLs W S us ys ∧ RelLs W S ws zs
  | [], zs, vs, h => ⟨[], vs, rfl, trivial, h⟩
  | y :: ys, zs, [], h => h.elim
  | y :: ys, zs, v :: vs, h => by
    obtain ⟨us, ws, rfl, h1, h2⟩ := RelLs.split h.2
    exact ⟨v :: us, ws, rfl, ⟨h.1, h1⟩, h2⟩
def xPop (f : LE) : LE := fun ρ η K => f ρ η fun x η1 => ∃ l ys y, x = .loc l ∧ η1[l]? = some (some (.lst (ys ++ [y]))) ∧ K y (η1.set l (some (.lst ys)))
theorem le_pop (hh : PE X e (tBM0 X.K "list" rPop (tL W S0 f))) : PE X e (tL W S0 (xPop f)) := hh.imp fun σ H Q h => by
  obtain ⟨S, ρ, K, rfl, k, sl, h, c⟩ := h
  refine ⟨S, ρ, _, rfl, k, sl, h, fun x S1 e1 k1 hx v r1 => ?_⟩
  obtain ⟨l, ys, y, rfl, h0, hk⟩ := hx
  obtain ⟨a, rfl, ha, vs, hv, rl⟩ := cell_at k1 r1 h0
  obtain ⟨us, ws, rfl, r2, r3⟩ := rl.split
  obtain ⟨w, rfl, rw⟩ := rl1 r3
  refine ⟨.inl ⟨rfl, _, SqL.of hv⟩, a, us ++ [w], w, rfl, rfl, hv, by simp, ?_⟩
  rw [List.dropLast_concat]
  obtain ⟨k3, e3⟩ := setCell (o := .lst us) (c := .lst ys) k1 h0 ha ⟨_, rfl, r2⟩
  exact c y _ (e1.trans e3) k3 hk w (rw.ext k1 e3)
/-- xs.reverse() -/
theorem RelLs.rev {S : Stt} : ∀ {vs : List V} {ys : List LV}, RelLs W S vs ys → RelLs W S vs.reverse ys.reverse
  | [], [], _ => trivial
  | v :: vs, y :: ys, h => by
    rw [List.reverse_cons, List.reverse_cons]
    exact (RelLs.rev h.2).app ⟨h.1, trivial⟩
  | [], _ :: _, h => h.elim
  | _ :: _, [], h => h.elim
def xRev (f : LE) : LE := fun ρ η K => f ρ η fun x η1 => ∃ l ys, x = .loc l ∧ η1[l]? = some (some (.lst ys)) ∧ K (.dat .none) (η1.set l (some (.lst ys.reverse)))
theorem le_reverse (hh : PE X e (tBM0 X.K "list" rReverse (tL W S0 f))) : PE X e (tL W S0 (xRev f)) := hh.imp fun σ H Q h => by
  obtain ⟨S, ρ, K, rfl, k, sl, h, c⟩ := h
  refine ⟨S, ρ, _, rfl, k, sl, h, fun x S1 e1 k1 hx v r1 => ?_⟩
  obtain ⟨l, ys, rfl, h0, hk⟩ := hx
  obtain ⟨a, rfl, ha, vs, hv, rl⟩ := cell_at k1 r1 h0
  refine ⟨.inl ⟨rfl, _, SqL.of hv⟩, a, vs, rfl, rfl, hv, ?_⟩
  obtain ⟨k3, e3⟩ := setCell (o := .lst vs.reverse) (c := .lst ys.reverse) k1 h0 ha ⟨_, rfl, rl.rev⟩
  exact c (.dat .none) _ (e1.trans e3) k3 hk .non Dx.non
/-- len of what stands at a place, by its items -/
def lenL (η : LH) : LV → (Nat → Prop) → Prop
  | .dat (.list ds), K => K ds.length
  | .dat (.tuple ds), K => K ds.length
  | .dat (.str z), K => z.length ≤ sizeLine ∧ K z.length
  | .loc l, K => ∃ xs, η[l]? = some (some (.lst xs)) ∧ K xs.length
  | _, _ => False
def xLen (f : LE) : LE := fun ρ η K => f ρ η fun x η1 => lenL η1 x fun n => K (.dat (.int n)) η1
theorem le_len (hh : PE X e (tCB (fun xs H Q => ∃ x n, xs = [x] ∧ LenV X.K x H n ∧ Q (.int n) H) (tCons (tL W S0 f) tNil))) : PE X e (tL W S0 (xLen f)) := hh.imp fun σ H Q h => by
  obtain ⟨S, ρ, K, rfl, k, sl, h, c⟩ := h
  refine ⟨S, ρ, _, rfl, k, sl, h, fun x S1 e1 k1 hx v r1 => ?_⟩
  match x, hx, r1 with
  | .dat (.list ds), hx, r1 =>
    cases (show Dx S1.M S1.H v (.list ds) from r1) with
    | lst n e ra => exact ⟨_, ds.length, rfl, .inl ⟨_, SqL.of e, (DxAll.length ra).symm⟩, c _ S1 e1 k1 hx _ (Dx.int _)⟩
  | .dat (.tuple ds), hx, r1 =>
    cases (show Dx S1.M S1.H v (.tuple ds) from r1) with
    | tup e ra => exact ⟨_, ds.length, rfl, .inr ⟨_, SqT.of e, (DxAll.length ra).symm⟩, c _ S1 e1 k1 hx _ (Dx.int _)⟩
  | .dat (.str z), hx, r1 =>
    cases (show Dx S1.M S1.H v (.str z) from r1) with
    | str _ => exact ⟨_, z.length, rfl, ⟨hx.1, rfl⟩, c _ S1 e1 k1 hx.2 _ (Dx.int _)⟩
  | .loc l, hx, r1 =>
    obtain ⟨xs, h0, hk⟩ := hx
    obtain ⟨a, rfl, ha, vs, hv, rl⟩ := cell_at k1 r1 h0
    exact ⟨_, xs.length, rfl, .inl ⟨_, SqL.of hv, rl.length.symm⟩, c _ S1 e1 k1 hk _ (Dx.int _)⟩
/-! ### dicts -/
def keyOf : PyData → Option Key
  | .int i => some (.inl i)
  | .str x => some (.inr x)
  | _ => none
def lookP : List (PyData × PyData) → Key → Option PyData
  | [], _ => none
  | p :: r, k => if keyOf p.1 = some k then some p.2 else lookP r k
theorem keyOf_D (k : Key) : keyOf (keyD k) = some k := by cases k <;> rfl
theorem lookP_rel {M : Addr → Prop} {H : Hp} (k : Key) : ∀ {r : List (Key × V)} {s : List (PyData × PyData)}, DxKv M H r s → ((lookP s k = none ∧ valV r k = none) ∨ ∃ v y, lookP s k = some y ∧ valV r k = some v ∧ Dx M H v y)
  | [], [], _ => .inl ⟨rfl, rfl⟩
  | (k', v) :: r, (p, d) :: s, h => by
    cases h with
    | cons h1 h2 =>
      by_cases e : k' = k
      · refine .inr ⟨v, d, ?_, valV_pos e, h1⟩
        unfold lookP
        rw [keyOf_D, if_pos (by rw [e])]
      · rw [valV_neg e]
        unfold lookP
        rw [keyOf_D, if_neg (fun z => e (Option.some.inj z))]
        exact lookP_rel k h2
  | [], _ :: _, h => by cases h
  | _ :: _, [], h => by cases h
/-- what a dict holds at a key -/
def dgetC : Cell → PyData → (Option LV → Prop) → Prop
  | .dk kvs, y, K => ∃ k, y = keyD k ∧ K (look kvs k)
  | .dt kvs, y, K => ∃ k : List Key, y = .tuple (k.map keyD) ∧ K (look kvs k)
  | _, _, _ => False
def dgetL (η : LH) : LV → LV → (Option LV → Prop) → Prop
  | .dat (.dict ds), .dat y, K => ∃ k, y = keyD k ∧ K ((lookP ds k).map .dat)
  | .loc l, .dat y, K => ∃ c, η[l]? = some (some c) ∧ dgetC c y K
  | _, _, _ => False
theorem keysV_rel {M : Addr → Prop} {H : Hp} {v : V} {k : List Key} (r : Dx M H v (.tuple (k.map keyD))) : ∃ b, v = .ref b ∧ H b = some (.tup (k.map kV)) := by
  obtain ⟨a, xs, rfl, e, ra⟩ := Dx.tupOf r
  refine ⟨a, rfl, ?_⟩
  have : ∀ {xs : List V} {k : List Key}, DxAll M H xs (k.map keyD) → xs = k.map kV := fun {xs k} h => by
    induction k generalizing xs with
    | nil =>
      cases h
      rfl
    | cons k ks ih =>
      cases h with
      | cons h1 h2 =>
        rw [ih h2]
        cases k with
        | inl i =>
          cases h1
          rfl
        | inr x =>
          cases h1
          rfl
  rw [e, this ra]
theorem dget_rel {S : Stt} {v u : V} {x y : LV} {K : Option LV → Prop} (k : Cl W S0 S) (r : RelLV W S v x) (ru : RelLV W S u y) (h : dgetL S.η x y K) : ∃ a r, v = .ref a ∧ DGet S.H a u r ∧ IsD S.H a ∧ ((r = none ∧ K none) ∨ ∃ z lv, r = some z ∧ RelLV W S z lv ∧ K (some lv)) := by
  match x, y, h, r, ru with
  | .dat (.dict ds), .dat y, h, r, ru =>
    obtain ⟨key, rfl, hk⟩ := h
    cases (show Dx S.M S.H v (.dict ds) from r) with
    | dk n e rk =>
      cases keyV_rel (W := W) (S := S) ru
      rcases lookP_rel key rk with ⟨h1, h2⟩ | ⟨z, d, h1, h2, h3⟩
      · rw [h1] at hk
        exact ⟨_, none, rfl, .inl ⟨_, key, .inl e, rfl, h2.symm⟩, .inl ⟨_, .inl e⟩, .inl ⟨rfl, hk⟩⟩
      · rw [h1] at hk
        exact ⟨_, some z, rfl, .inl ⟨_, key, .inl e, rfl, h2.symm⟩, .inl ⟨_, .inl e⟩, .inr ⟨z, .dat d, rfl, h3, hk⟩⟩
  | .loc l, .dat y, h, r, ru =>
    obtain ⟨c, h0, hk0⟩ := h
    obtain ⟨a, rfl, ha, rc⟩ := cell_at k r h0
    match c, hk0, rc with
    | .dk kvs, hk0, rc =>
      obtain ⟨key, rfl, hk⟩ := hk0
      obtain ⟨ks, e, r1, r2⟩ := rc
      cases keyV_rel (W := W) (S := S) ru
      rcases look_rel key r1 r2 with ⟨h1, h2⟩ | ⟨z, d, h1, h2, h3⟩
      · rw [h1] at hk
        exact ⟨_, none, rfl, .inl ⟨_, key, .inl e, rfl, h2.symm⟩, .inl ⟨_, .inl e⟩, .inl ⟨rfl, hk⟩⟩
      · rw [h1] at hk
        exact ⟨_, some z, rfl, .inl ⟨_, key, .inl e, rfl, h2.symm⟩, .inl ⟨_, .inl e⟩, .inr ⟨z, d, rfl, h3, hk⟩⟩
    | .dt kvs, hk0, rc =>
      obtain ⟨key, rfl, hk⟩ := hk0
      obtain ⟨ks, e, r1, r2⟩ := rc
      obtain ⟨b, rfl, eb⟩ := keysV_rel (show Dx S.M S.H u (.tuple (key.map keyD)) from ru)
      rcases look_rel key r1 r2 with ⟨h1, h2⟩ | ⟨z, d, h1, h2, h3⟩
      · rw [h1] at hk
        exact ⟨_, none, rfl, .inr ⟨_, key, b, .inl e, rfl, eb, h2.symm⟩, .inr ⟨_, .inl e⟩, .inl ⟨rfl, hk⟩⟩
      · rw [h1] at hk
        exact ⟨_, some z, rfl, .inr ⟨_, key, b, .inl e, rfl, eb, h2.symm⟩, .inr ⟨_, .inl e⟩, .inr ⟨z, d, rfl, h3, hk⟩⟩
def xDGet (f g : LE) : LE := fun ρ η K => f ρ η fun x η1 => g ρ η1 fun y η2 => dgetL η2 x y fun r => ∃ z, r = some z ∧ K z η2
theorem le_dget (hu : X.A.units + 1 < cLine) (ha : PE X a (tL W S0 f)) (hb : PE X b (tL W S0 g)) (hs : NoSl b) : PE X (.Subscript a b pos) (tL W S0 (xDGet f g)) := (pe_dget hu ha hb hs).imp fun σ H Q h => by
  obtain ⟨S, ρ, K, rfl, k, sl, h, c⟩ := h
  refine ⟨S, ρ, _, rfl, k, sl, h, fun x S1 e1 k1 hx v r1 => ⟨S1, ρ, _, rfl, k1, sl.ext k e1, hx, fun y S2 e2 k2 hy u r2 => ?_⟩⟩
  obtain ⟨a, r, rfl, hd, _, q⟩ := dget_rel k2 (r1.ext k1 e2) r2 hy
  rcases q with ⟨rfl, z, hz, _⟩ | ⟨z, lv, rfl, rz, z2, hz, hk⟩
  · cases hz
  · cases hz
    exact ⟨a, z, rfl, hd, c lv S2 (e1.trans e2) k2 hk z rz⟩
def xDIn (neg : Bool) (g f : LE) : LE := fun ρ η K => g ρ η fun y η1 => f ρ η1 fun x η2 => dgetL η2 x y fun r => K (.dat (.bool (if neg = true then !r.isSome else r.isSome))) η2
theorem le_din (hu : X.A.units + 1 < cLine) (hb : PE X b (tL W S0 g)) (ha : PE X a (tL W S0 f)) : PC X .In b a (tL W S0 (xDIn false g f)) := ⟨fun pins s σ H Q I h => by
  obtain ⟨S, ρ, K, rfl, k, sl, h, c⟩ := h
  refine (pc_din hu hb ha).run pins s σ S.H Q I ⟨S, ρ, _, rfl, k, sl, h, fun y S1 e1 k1 hy u r1 => ⟨S1, ρ, _, rfl, k1, sl.ext k e1, hy, fun x S2 e2 k2 hx v r2 => ?_⟩⟩
  obtain ⟨a, r, rfl, hd, _, q⟩ := dget_rel k2 r2 (r1.ext k1 e2) hx
  refine ⟨a, r, rfl, hd, ?_⟩
  rcases q with ⟨rfl, hk⟩ | ⟨z, lv, rfl, _, hk⟩
  · exact c (.dat (.bool false)) S2 (e1.trans e2) k2 hk (.bl false) (show RelLV W S2 (.bl false) (.dat (.bool false)) from Dx.bl _)
  · exact c (.dat (.bool true)) S2 (e1.trans e2) k2 hk (.bl true) (show RelLV W S2 (.bl true) (.dat (.bool true)) from Dx.bl _)⟩
theorem le_dnotin (hu : X.A.units + 1 < cLine) (hb : PE X b (tL W S0 g)) (ha : PE X a (tL W S0 f)) : PC X .NotIn b a (tL W S0 (xDIn true g f)) := ⟨fun pins s σ H Q I h => by
  obtain ⟨S, ρ, K, rfl, k, sl, h, c⟩ := h
  refine (pc_dnotin hu hb ha).run pins s σ S.H Q I ⟨S, ρ, _, rfl, k, sl, h, fun y S1 e1 k1 hy u r1 => ⟨S1, ρ, _, rfl, k1, sl.ext k e1, hy, fun x S2 e2 k2 hx v r2 => ?_⟩⟩
  obtain ⟨a, r, rfl, hd, _, q⟩ := dget_rel k2 r2 (r1.ext k1 e2) hx
  refine ⟨a, r, rfl, hd, ?_⟩
  rcases q with ⟨rfl, hk⟩ | ⟨z, lv, rfl, _, hk⟩
  · exact c (.dat (.bool true)) S2 (e1.trans e2) k2 hk (.bl true) (show RelLV W S2 (.bl true) (.dat (.bool true)) from Dx.bl _)
  · exact c (.dat (.bool false)) S2 (e1.trans e2) k2 hk (.bl false) (show RelLV W S2 (.bl false) (.dat (.bool false)) from Dx.bl _)⟩
theorem le_pc {op : CmpOp} (h : PC X op a b (tL W S0 f)) (hm : behindInMarks op b = false := by first | exact nobehind _ (by decide) (by decide) | rfl) : PE X (.Compare a [op] [b] pos) (tL W S0 f) := pe_cmp h hm
theorem lt_pc {op : CmpOp} (h : PC X op a b (tL W S0 f)) (hm : behindInMarks op b = false := by first | exact nobehind _ (by decide) (by decide) | rfl) : PT X (.Compare a [op] [b] pos) (tLT W S0 (xB f)) := (pt_cmp h hm).imp fun σ H Q z => by
  obtain ⟨S, ρ, K, eH, k, sl, h, c⟩ := z
  refine ⟨S, ρ, _, eH, k, sl, h, fun lv S' e k' hk v r => ?_⟩
  obtain ⟨b, rfl, hb⟩ := hk
  cases (show Dx S'.M S'.H v (.bool b) from r)
  exact ⟨b, rfl, c b S' e k' hb⟩
/-- d[k] = v -/
def dputC : Cell → PyData → LV → (Cell → Prop) → Prop
  | .dk kvs, y, v, K => ∃ k, y = keyD k ∧ kvs.length < sizeLine ∧ K (.dk (putA kvs k v))
  | .dt kvs, y, v, K => ∃ k : List Key, y = .tuple (k.map keyD) ∧ kvs.length < sizeLine ∧ K (.dt (putA kvs k v))
  | _, _, _, _ => False
def zDPut (fv fd fk : LE) : LS := fun E ρ η => fv ρ η fun v η1 => fd ρ η1 fun x η2 => fk ρ η2 fun y η3 => ∃ l c k', x = .loc l ∧ y = .dat k' ∧ η3[l]? = some (some c) ∧ dputC c k' v fun c' => E.nx ρ (η3.set l (some c'))
theorem ls_dput {value : Expr} {pos' : Pos} {fd fk fv : LE} (hu : X.A.units + 1 < cLine) (ho : PE X o (tL W S0 fd)) (hi : PE X b (tL W S0 fk)) (hv : PE X value (tL W S0 fv)) (hs : swapsWith value (some (.Subscript o b pos')) pos.line X.env = pure false := by rfl) :
    PS X (.Assign [.Subscript o b pos'] value pos) (tLS W S0 (zDPut fv fd fk)) := (ps_dput hu ho hi hv hs).imp fun D σ H ⟨L, S, ρ, E, eH, gd, k, le⟩ => by
  refine ⟨S, ρ, _, eH, gd.k, gd.s, k, fun v S1 e1 k1 h1 z r1 => ⟨S1, ρ, _, rfl, k1, gd.s.ext gd.k e1, h1, fun x S2 e2 k2 h2 w r2 => ⟨S2, ρ, _, rfl, k2, (gd.s.ext gd.k e1).ext k1 e2, h2, fun y S3 e3 k3 h3 u r3 => ?_⟩⟩⟩
  obtain ⟨l, c, k', rfl, rfl, h0, hk⟩ := h3
  obtain ⟨a, rfl, ha, rc⟩ := cell_at k3 (r2.ext k2 e3) h0
  have rz := r1.ext k1 (e2.trans e3)
  have g3 := gd.ext ((e1.trans e2).trans e3) k3
  match c, hk, rc, h0 with
  | .dk kvs, hk0, rc, h0 =>
    obtain ⟨key, rfl, hl, hn⟩ := hk0
    obtain ⟨ks, e, q1, q2⟩ := rc
    have hlen : ks.length = kvs.length := by
      have := congrArg List.length q1
      simpa using this
    obtain ⟨k4, e4⟩ := setCell (o := .dK (putK ks key z)) (c := .dk (putA kvs key v)) k3 h0 ha ⟨_, rfl, put_rel rz q1 q2⟩
    exact ⟨a, _, rfl, .inl ⟨ks, key, e, keyV_rel (W := W) (S := S3) r3, by rw [hlen]; exact hl, rfl⟩, le.nx (g3.ext e4 k4) hn⟩
  | .dt kvs, hk0, rc, h0 =>
    obtain ⟨key, rfl, hl, hn⟩ := hk0
    obtain ⟨ks, e, q1, q2⟩ := rc
    have hlen : ks.length = kvs.length := by
      have := congrArg List.length q1
      simpa using this
    obtain ⟨b, rfl, eb⟩ := keysV_rel (show Dx S3.M S3.H u (.tuple (key.map keyD)) from r3)
    obtain ⟨k4, e4⟩ := setCell (o := .dT (putK ks key z)) (c := .dt (putA kvs key v)) k3 h0 ha ⟨_, rfl, put_rel rz q1 q2⟩
    exact ⟨a, _, rfl, .inr ⟨ks, key, b, e, rfl, eb, by rw [hlen]; exact hl, rfl⟩, le.nx (g3.ext e4 k4) hn⟩
/-- it is a dict -/
def isDC : Cell → Prop
  | .dk _ => True
  | .dt _ => True
  | _ => False
def isDL (η : LH) : LV → Prop
  | .dat (.dict _) => True
  | .loc l => ∃ c, η[l]? = some (some c) ∧ isDC c
  | _ => False
theorem isD_rel {S : Stt} {v : V} {x : LV} (k : Cl W S0 S) (r : RelLV W S v x) (h : isDL S.η x) : ∃ a, v = .ref a ∧ IsD S.H a := by
  match x, h, r with
  | .dat (.dict ds), h, r =>
    cases (show Dx S.M S.H v (.dict ds) from r) with
    | dk n e rk => exact ⟨_, rfl, .inl ⟨_, .inl e⟩⟩
  | .loc l, h, r =>
    obtain ⟨c, h0, hc⟩ := h
    obtain ⟨a, rfl, ha, rc⟩ := cell_at k r h0
    match c, hc, rc with
    | .dk kvs, _, rc =>
      obtain ⟨ks, e, _⟩ := rc
      exact ⟨a, rfl, .inl ⟨_, .inl e⟩⟩
    | .dt kvs, _, rc =>
      obtain ⟨ks, e, _⟩ := rc
      exact ⟨a, rfl, .inr ⟨_, .inl e⟩⟩
/-- d.get(k), d.get(k, x) -/
def xGet1 (f g : LE) : LE := fun ρ η K => f ρ η fun x η1 => isDL η1 x ∧ g ρ η1 fun y η2 => dgetL η2 x y fun r => K (r.getD (.dat .none)) η2
def xGet2 (f g h : LE) : LE := fun ρ η K => f ρ η fun x η1 => isDL η1 x ∧ g ρ η1 fun y η2 => h ρ η2 fun z η3 => dgetL η3 x y fun r => K (r.getD z) η3
theorem le_get1 {apos cpos : Pos} (hu : X.A.units + 1 < cLine) (ho : PE X o (tL W S0 f)) (he : PE X e (tL W S0 g)) (m : M1 X o "get" apos e cpos) : PE X (.Call (.Attribute o "get" apos) [e] [] cpos) (tL W S0 (xGet1 f g)) := (pe_dget1 hu ho he m).imp fun σ H Q h => by
  obtain ⟨S, ρ, K, rfl, k, sl, h, c⟩ := h
  refine ⟨S, ρ, _, rfl, k, sl, h, fun x S1 e1 k1 hx v r1 => ?_⟩
  obtain ⟨a, rfl, hD⟩ := isD_rel k1 r1 hx.1
  refine ⟨a, rfl, hD, S1, ρ, _, rfl, k1, sl.ext k e1, hx.2, fun y S2 e2 k2 hy u r2 => ?_⟩
  obtain ⟨a', r, e', hd, _, q⟩ := dget_rel k2 (r1.ext k1 e2) r2 hy
  cases e'
  refine ⟨r, hd, ?_⟩
  rcases q with ⟨rfl, hk⟩ | ⟨z, lv, rfl, rz, hk⟩
  · exact c (.dat .none) S2 (e1.trans e2) k2 hk .non Dx.non
  · exact c lv S2 (e1.trans e2) k2 hk z rz
theorem le_get2 {ex : Expr} {apos cpos : Pos} (hu : X.A.units + 1 < cLine) (ho : PE X o (tL W S0 f)) (he : PE X e (tL W S0 g)) (hx : PE X ex (tL W S0 h)) (m : M2 X o "get" apos e ex cpos) : PE X (.Call (.Attribute o "get" apos) [e, ex] [] cpos) (tL W S0 (xGet2 f g h)) := (pe_dget2 hu ho he hx m).imp fun σ H Q h => by
  obtain ⟨S, ρ, K, rfl, k, sl, h, c⟩ := h
  refine ⟨S, ρ, _, rfl, k, sl, h, fun x S1 e1 k1 hx v r1 => ?_⟩
  obtain ⟨a, rfl, hD⟩ := isD_rel k1 r1 hx.1
  refine ⟨a, rfl, hD, S1, ρ, _, rfl, k1, sl.ext k e1, hx.2, fun y S2 e2 k2 hy u r2 => ⟨S2, ρ, _, rfl, k2, (sl.ext k e1).ext k1 e2, hy, fun w S3 e3 k3 hw t r3 => ?_⟩⟩
  obtain ⟨a', r, e', hd, _, q⟩ := dget_rel k3 (r1.ext k1 (e2.trans e3)) (r2.ext k2 e3) hw
  cases e'
  refine ⟨r, hd, ?_⟩
  rcases q with ⟨rfl, hk⟩ | ⟨z, lv, rfl, rz, hk⟩
  · exact c w S3 ((e1.trans e2).trans e3) k3 hk t r3
  · exact c lv S3 ((e1.trans e2).trans e3) k3 hk z rz
end
end EL

set_option Elab.async false
set_option linter.all false
set_option maxRecDepth 100000
set_option maxHeartbeats 1000000
/-! Times over data: ints, a text some times, a tuple some times; the greater, the lesser of two. -/
namespace DL
open PySem PySem.Spec PyProof.Rows L2 KT KG KX KY KE0 KQ LK GxR
section
variable {X : Cx} {W : Wd}
def rMulS : R2 := fun x y H Q => ∃ z k, x = V.str z ∧ y = V.int k ∧ MulOk z k ∧ Q (V.str (Txt.mul z k)) H
theorem op_mulS : OpR X (binaryOp .Mult) rMulS := by
  intro pins s σ H x y v u Q I rx ry h
  obtain ⟨z, k, rfl, rfl, ok, q⟩ := h
  obtain ⟨t, rfl⟩ := rx
  obtain ⟨t', rfl⟩ := ry
  exact SB.mul ok fun t2 k2 => ⟨.str _, H, I.kept (t' := k2) fun _ _ e => e, ⟨t2, rfl⟩, q⟩
theorem op_mulD : OpR X (binaryOp .Mult) (fun x y H Q => rI CMulW (fun i j => .int (i * j)) x y H Q ∨ rMulS x y H Q ∨ rRepT X.K x y H Q) := OpR.or op_mulW (OpR.or op_mulS op_repT)
def mulP : PyData → PyData → (PyData → Prop) → Prop
  | .int a, .int b, K => CMulW a b ∧ K (.int (a * b))
  | .str z, .int k, K => MulOk z k ∧ K (.str (Txt.mul z k))
  | .tuple xs, .int k, K => xs ≠ [] ∧ 2 ≤ k ∧ k ≤ 1000 ∧ xs.length ≤ 1000 ∧ K (.tuple (List.replicate k.toNat xs).flatten)
  | _, _, _ => False
theorem DxAll.rep {M : Addr → Prop} {H : Hp} {vs : List V} {ds : List PyData} (h : DxAll M H vs ds) : ∀ n : Nat, DxAll M H (List.replicate n vs).flatten (List.replicate n ds).flatten
  | 0 => .nil
  | n + 1 => by
    simp only [List.replicate_succ, List.flatten_cons]
    exact h.app (DxAll.rep h n)
theorem sn_mulD : Snd2 W (fun x y H Q => rI CMulW (fun i j => .int (i * j)) x y H Q ∨ rMulS x y H Q ∨ rRepT X.K x y H Q) (op2 mulP) := by
  intro M H x y dx dy K Q g rx ry h c
  obtain ⟨d, e, hd, he, h⟩ := h
  cases d with
  | int a =>
    cases e with
    | int b =>
      cases pd_int hd rx
      cases pd_int he ry
      exact .inl ⟨a, b, rfl, rfl, h.1, c _ h.2 _ H .refl (Dx.int _)⟩
    | _ => exact h.elim
  | str z =>
    cases e with
    | int b =>
      cases pd_str hd rx
      cases pd_int he ry
      exact .inr (.inl ⟨z, b, rfl, rfl, h.1, c _ h.2 _ H .refl (Dx.str _)⟩)
    | _ => exact h.elim
  | tuple xs =>
    cases e with
    | int b =>
      cases pd_int he ry
      obtain ⟨h1, h2, h3, h4, hk⟩ := h
      obtain ⟨a, vs, rfl, eb, rb⟩ := pd_tup hd rx
      refine .inr (.inr ⟨_, b, vs, rfl, rfl, SqT.of eb, fun z => ?_, h2, h3, by rw [DxAll.length rb]; exact h4, fun p np => ?_⟩)
      · subst z
        have := DxAll.length rb
        exact h1 (List.eq_nil_of_length_eq_zero this.symm)
      · exact c _ hk _ _ (.new np) (Dx.tup upd_same (Dx.kpAll (Kp.same (same_new np)) _ _ (DxAll.rep rb b.toNat)))
    | _ => exact h.elim
  | _ => exact h.elim
def max2P : List DV → (DV → Prop) → Prop := fun xs K => ∃ i j : Int, xs = [.dat (.int i), .dat (.int j)] ∧ K (.dat (.int (if j > i then j else i)))
def min2P : List DV → (DV → Prop) → Prop := fun xs K => ∃ i j : Int, xs = [.dat (.int i), .dat (.int j)] ∧ K (.dat (.int (if j < i then j else i)))
def max3P : List DV → (DV → Prop) → Prop := fun xs K => ∃ i j k : Int, xs = [.dat (.int i), .dat (.int j), .dat (.int k)] ∧ K (.dat (.int (if k > (if j > i then j else i) then k else (if j > i then j else i))))
theorem sn_max2 : SndC W (fun xs H Q => ∃ i j, xs = [V.int i, V.int j] ∧ Q (.int (if j > i then j else i)) H) max2P := by
  intro M H xs ds K Q g rs h c
  obtain ⟨i, j, rfl, hk⟩ := h
  obtain ⟨v, u, rfl, r1, r2⟩ := rel2 rs
  cases relI r1
  cases relI r2
  exact ⟨i, j, rfl, c _ hk _ H .refl (Dx.int _)⟩
theorem sn_min2 : SndC W (fun xs H Q => ∃ i j, xs = [V.int i, V.int j] ∧ Q (.int (if j < i then j else i)) H) min2P := by
  intro M H xs ds K Q g rs h c
  obtain ⟨i, j, rfl, hk⟩ := h
  obtain ⟨v, u, rfl, r1, r2⟩ := rel2 rs
  cases relI r1
  cases relI r2
  exact ⟨i, j, rfl, c _ hk _ H .refl (Dx.int _)⟩
theorem nu_max2 (i j : Int) : nuMax2 (.int i) (.int j) = some (.int (if j > i then j else i)) := by
  have e : nuLt (.int i) (.int j) = some (decide (i < j)) := rfl
  unfold nuMax2
  rw [e]
  by_cases h : i < j
  · simp [h]
  · simp [h]
theorem sn_max3 : SndC W (rNuC3 nuMax3) max3P := by
  intro M H xs ds K Q g rs h c
  obtain ⟨i, j, k, rfl, hk⟩ := h
  obtain ⟨v, u, z, rfl, r1, r2, r3⟩ := rel3 rs
  cases relI r1
  cases relI r2
  cases relI r3
  refine ⟨_, _, _, _, rfl, ?_, c _ hk _ H .refl (Dx.int _)⟩
  unfold nuMax3
  rw [nu_max2]
  exact nu_max2 _ _
theorem mulP_ii (K : PyData → Prop) (a b : Int) : mulP (.int a) (.int b) K = (CMulW a b ∧ K (.int (a * b))) := rfl
theorem mulP_si (K : PyData → Prop) (z : Str) (k : Int) : mulP (.str z) (.int k) K = (MulOk z k ∧ K (.str (Txt.mul z k))) := rfl
theorem mulP_ti (K : PyData → Prop) (xs : List PyData) (k : Int) : mulP (.tuple xs) (.int k) K = (xs ≠ [] ∧ 2 ≤ k ∧ k ≤ 1000 ∧ xs.length ≤ 1000 ∧ K (.tuple (List.replicate k.toNat xs).flatten)) := rfl
theorem mulOk_1 {z : Str} (h : z.length ≤ 1) {k : Int} (h0 : 0 ≤ k) (h1 : k ≤ 1000000) : MulOk z k := by
  refine ⟨?_, fun _ _ => ?_, fun _ _ => ?_⟩
  · rw [decide_eq_false (by omega), decide_eq_false (by omega)]
    rfl
  · have h3 : (1 : Int) ≤ (2 ^ 63 - 1) / k ∨ ¬ 0 < k := by
      by_cases z : 0 < k
      · left
        exact (Int.le_ediv_iff_mul_le z).mpr (by omega)
      · exact .inr z
    rcases h3 with h3 | h3
    · omega
    · have : k = 0 := by omega
      omega
  · have a1 : z.length * k.toNat ≤ 1 * 1000000 := Nat.mul_le_mul h (by omega)
    show decide (z.length * k.toNat > sizeLine) = false
    refine decide_eq_false ?_
    rw [sizeLine_eq]
    omega
theorem mulOk_s {z : Str} (h : z.length ≤ 1000) {k : Int} (h0 : 0 ≤ k) (h1 : k ≤ 1000) : MulOk z k := by
  refine ⟨?_, fun a _ => ?_, fun _ _ => ?_⟩
  · rw [decide_eq_false (by omega), decide_eq_false (by omega)]
    rfl
  · have h3 : (1000 : Int) ≤ (2 ^ 63 - 1) / k := (Int.le_ediv_iff_mul_le (by omega)).mpr (by omega)
    omega
  · have a1 : z.length * k.toNat ≤ 1000 * 1000 := Nat.mul_le_mul h (by omega)
    show decide (z.length * k.toNat > sizeLine) = false
    refine decide_eq_false ?_
    rw [sizeLine_eq]
    omega
/-! ### ord of a sign, zfill -/
def ordP : PyData → (PyData → Prop) → Prop
  | .str z, K => z.length = 1 ∧ K (.int (z.cps.getD 0 0 : Nat))
  | _, _ => False
theorem sn_ord : SndC W (fun xs H Q => ∃ x, xs = [V.str x] ∧ x.length = 1 ∧ Q (.int (x.cps.getD 0 0 : Nat)) H) (c1 ordP) := by
  intro M H xs ds K Q g rs h c
  obtain ⟨x, d, rfl, hd, h⟩ := h
  obtain ⟨v, rfl, rx⟩ := rel1 rs
  cases d with
  | str z =>
    cases pd_str hd rx
    exact ⟨z, rfl, h.1, c _ h.2 _ H .refl (Dx.int _)⟩
  | _ => exact h.elim
def zfillP (a : Str) : PyData → (PyData → Prop) → Prop
  | .int i, K => PadOk i = true ∧ K (.str (Txt.zfill a i))
  | _, _ => False
theorem sn_zfill : SndM1 W (fun x xs H Q => ∃ (a : Str) (i : Int), x = V.str a ∧ xs = [V.int i] ∧ PadOk i = true ∧ Q (.str (Txt.zfill a i)) H) zfillP := by
  intro M H a y dy d K Q g ry hd h c
  cases d with
  | int i =>
    cases pd_int hd ry
    exact ⟨a, i, rfl, rfl, h.1, c _ h.2 _ H .refl (Dx.str _)⟩
  | _ => exact h.elim
end
/-- a while whose turns count down (the same as PV's, for all laws) -/
theorem wh_down {t : FT} {fb : FS} {E : DEnds} (Inv : Nat → DEnv → Prop) (step : ∀ i ρ (N : DEnv → Prop), Inv i ρ → (∀ ρ', 0 < i → Inv (i - 1) ρ' → N ρ') → t ρ fun c => iteB c (fb { E with nx := N, ct := N, bk := E.nx } ρ) (E.nx ρ)) : ∀ i ρ, Inv i ρ → whN t fb E (i + 1) ρ
  | 0, ρ, h => step 0 ρ _ h fun _ z _ => absurd z (Nat.lt_irrefl 0)
  | i + 1, ρ, h => step (i + 1) ρ _ h fun ρ' _ h' => wh_down Inv step i ρ' h'
end DL

set_option Elab.async false
set_option linter.all false
set_option maxRecDepth 100000
set_option maxHeartbeats 1000000
/-! Fields, methods, displays, slices, ranges with a step, chains, texts. -/
namespace EL
open PySem PySem.Spec PyProof.Rows L2 KT KG KX KY KE0 KQ LK GxR DL
open He (ga ma)
theorem lookS_rel {W : Wc} {S : Stt} (k : Str) : ∀ {r : List (Str × V)} {s : List (Str × LV)}, r.map (·.1) = s.map (·.1) → RelLs W S (r.map (·.2)) (s.map (·.2)) → (s.lookup k = none → r.lookup k = none) ∧ ∀ y, s.lookup k = some y → ∃ v, r.lookup k = some v ∧ RelLV W S v y
  | [], [], _, _ => ⟨fun _ => rfl, fun y h => by cases h⟩
  | p :: r, q :: s, h, rl => by
    obtain ⟨h1, h2⟩ := keys_cons h
    have ih := lookS_rel k h2 rl.2
    obtain ⟨p1, p2⟩ := p
    obtain ⟨q1, q2⟩ := q
    simp only at h1
    subst h1
    rw [List.lookup_cons, List.lookup_cons]
    cases e : k == p1 with
    | true => exact ⟨(fun z => by cases z), fun y hy => by
        cases hy
        exact ⟨p2, rfl, rl.1⟩⟩
    | false => exact ih
  | [], _ :: _, h, _ => by simp at h
  | _ :: _, [], h, _ => by simp at h
def putS (f : Str) (y : LV) : List (Str × LV) → List (Str × LV)
  | [] => [(f, y)]
  | p :: r => if p.1 = f then (f, y) :: r else p :: putS f y r
theorem tru_rel {K : PySem.W.Frag} {W : Wc} {S0 S : Stt} {v : V} {x : LV} {Kk : Bool → Prop} (k : Cl W S0 S) (r : RelLV W S v x) (h : truL S.η x Kk) : ∃ b, TruV K v S.H b ∧ Kk b := by
  match x, h, r with
  | .dat d, hx, r1 =>
    obtain ⟨hz, hb⟩ := hx
    cases (show Dx S.M S.H v d from r1) with
    | non => exact ⟨_, rfl, hb⟩
    | bl b => exact ⟨_, rfl, hb⟩
    | int i => exact ⟨_, rfl, hb⟩
    | str x => exact ⟨_, ⟨hz x rfl, rfl⟩, hb⟩
    | lst n e ra => exact ⟨_, .inl ⟨_, SqL.of e, by rw [emp_of (DxAll.length ra)]; rfl⟩, hb⟩
    | tup e ra => exact ⟨_, .inr (.inl ⟨_, SqT.of e, by rw [emp_of (DxAll.length ra)]; rfl⟩), hb⟩
    | dk n e ra => exact ⟨_, .inr (.inr ⟨_, e, by rw [emp_of (kv_length ra)]; rfl⟩), hb⟩
  | .loc l, hx, r1 =>
    obtain ⟨cc, hc, hb⟩ := hx
    obtain ⟨a, rfl, ha, rc⟩ := cell_at k r1 hc
    match cc, hb, rc with
    | .lst xs, hb, rc =>
      obtain ⟨vs, hv, rl⟩ := rc
      exact ⟨_, .inl ⟨_, SqL.of hv, by rw [emp_of rl.length]⟩, hb⟩
    | .dk xs, hb, rc =>
      obtain ⟨vs, hv, rl, _⟩ := rc
      have hl : vs.length = xs.length := by
        have := congrArg List.length rl
        simpa using this
      exact ⟨_, .inr (.inr ⟨_, hv, by rw [emp_of hl]⟩), hb⟩
section
variable {X : Cx} {W : Wc} {S0 : Stt} {e a b c o : Expr} {es rest : List Expr} {pos : Pos} {f g h : LE} {fa : LA}
/-! ### x or y, x and y, not x, of any values -/
def xOrT (f g : LE) : LE := fun ρ η K => f ρ η fun x η1 => truL η1 x fun b => iteB b (K x η1) (g ρ η1 K)
def xAndT (f g : LE) : LE := fun ρ η K => f ρ η fun x η1 => truL η1 x fun b => iteB b (g ρ η1 K) (K x η1)
def xNotT2 (f : LE) : LE := fun ρ η K => f ρ η fun x η1 => truL η1 x fun b => K (.dat (.bool (!b))) η1
theorem le_orT (ha : PE X a (tL W S0 f)) (hb : PE X (.BoolOp .Or (b :: rest) pos) (tL W S0 g)) : PE X (.BoolOp .Or (a :: b :: rest) pos) (tL W S0 (xOrT f g)) := (pe_orT ha hb).imp fun σ H Q h => by
  obtain ⟨S, ρ, K, rfl, k, sl, h, c⟩ := h
  refine ⟨S, ρ, _, rfl, k, sl, h, fun x S1 e1 k1 hx v r1 => ?_⟩
  obtain ⟨b, tv, hb⟩ := tru_rel (K := X.K) k1 r1 hx
  refine ⟨b, tv, ?_⟩
  cases b with
  | true => exact iteT (c x S1 e1 k1 (by simpa using hb) v r1)
  | false => exact iteF ⟨S1, ρ, _, rfl, k1, sl.ext k e1, by simpa using hb, c.ext e1⟩
theorem le_andT (ha : PE X a (tL W S0 f)) (hb : PE X (.BoolOp .And (b :: rest) pos) (tL W S0 g)) : PE X (.BoolOp .And (a :: b :: rest) pos) (tL W S0 (xAndT f g)) := (pe_andT ha hb).imp fun σ H Q h => by
  obtain ⟨S, ρ, K, rfl, k, sl, h, c⟩ := h
  refine ⟨S, ρ, _, rfl, k, sl, h, fun x S1 e1 k1 hx v r1 => ?_⟩
  obtain ⟨b, tv, hb⟩ := tru_rel (K := X.K) k1 r1 hx
  refine ⟨b, tv, ?_⟩
  cases b with
  | false => exact iteF (c x S1 e1 k1 (by simpa using hb) v r1)
  | true => exact iteT ⟨S1, ρ, _, rfl, k1, sl.ext k e1, by simpa using hb, c.ext e1⟩
theorem le_notT (ha : PE X a (tL W S0 f)) : PE X (.UnaryOp .Not a pos) (tL W S0 (xNotT2 f)) := (pe_notT ha).imp fun σ H Q h => by
  obtain ⟨S, ρ, K, rfl, k, sl, h, c⟩ := h
  refine ⟨S, ρ, _, rfl, k, sl, h, fun x S1 e1 k1 hx v r1 => ?_⟩
  obtain ⟨b, tv, hb⟩ := tru_rel (K := X.K) k1 r1 hx
  exact ⟨b, tv, c (.dat (.bool (!b))) S1 e1 k1 hb (.bl (!b)) (show RelLV W S1 (.bl (!b)) (.dat (.bool (!b))) from Dx.bl _)⟩
/-! ### fields -/
/-- what is known of a class and a field -/
def FldOk (K : PySem.W.Frag) (fl : List (Str × Str)) : Prop := ∀ p ∈ fl, Cls K (ga K p.1) ∧ NoAttr K (ga K p.1) p.2
def xFld (fl : List (Str × Str)) (f : LE) (n : Str) : LE := fun ρ η K => f ρ η fun x η1 => ∃ l cl fs y, x = .loc l ∧ η1[l]? = some (some (.ins cl fs)) ∧ (cl, n) ∈ fl ∧ fs.lookup n = some y ∧ K y η1
theorem le_fld {fl : List (Str × Str)} {n : Str} (hF : FldOk X.K fl) (hK : W.K = X.K) (he : PE X e (tL W S0 f)) (hb : attributeBase e n X.env (eval e X.env) = eval e X.env := by rfl) : PE X (.Attribute e n pos) (tL W S0 (xFld fl f n)) := (pe_fld he hb).imp fun σ H Q h => by
  obtain ⟨S, ρ, K, rfl, k, sl, h, c⟩ := h
  refine ⟨S, ρ, _, rfl, k, sl, h, fun x S1 e1 k1 hx v r1 => ?_⟩
  obtain ⟨l, cl, fs, y, rfl, h0, hm, hl, hk⟩ := hx
  obtain ⟨a, rfl, ha, dx, gs, hv, q1, q2⟩ := cell_at k1 r1 h0
  obtain ⟨z, hz, rz⟩ := (lookS_rel n q1 q2).2 y hl
  rw [hK] at hv
  exact ⟨a, _, dx, gs, z, rfl, hv, (hF _ hm).1, (hF _ hm).2, hz, c y S1 e1 k1 hk z rz⟩
theorem putF_rel {S : Stt} {n : Str} {v : V} {y : LV} (ry : RelLV W S v y) : ∀ {r : List (Str × V)} {s : List (Str × LV)}, r.map (·.1) = s.map (·.1) → RelLs W S (r.map (·.2)) (s.map (·.2)) → (putF n v r).map (·.1) = (putS n y s).map (·.1) ∧ RelLs W S ((putF n v r).map (·.2)) ((putS n y s).map (·.2))
  | [], [], _, _ => ⟨rfl, ry, trivial⟩
  | (p1, p2) :: r, (q1, q2) :: s, h, rl => by
    obtain ⟨h1, h2⟩ := keys_cons h
    simp only at h1
    subst h1
    obtain ⟨i1, i2⟩ := putF_rel ry h2 rl.2
    by_cases e : p1 = n
    · simp only [putF, putS, if_pos e, List.map_cons]
      subst e
      exact ⟨by rw [h2], ry, rl.2⟩
    · simp only [putF, putS, if_neg e, List.map_cons]
      exact ⟨by rw [i1], rl.1, i2⟩
  | [], _ :: _, h, _ => by simp at h
  | _ :: _, [], h, _ => by simp at h
/-- o.n = v -/
def zFld (fl : List (Str × Str)) (fv f : LE) (n : Str) : LS := fun E ρ η => fv ρ η fun v η1 => f ρ η1 fun x η2 => ∃ l cl fs, x = .loc l ∧ η2[l]? = some (some (.ins cl fs)) ∧ (cl, n) ∈ fl ∧ fs.length < 1000 ∧ E.nx ρ (η2.set l (some (.ins cl (putS n v fs))))
theorem ls_fld {fl : List (Str × Str)} {n : Str} {value : Expr} {pos' : Pos} {fv : LE} (hF : FldOk X.K fl) (hK : W.K = X.K) (ho : PE X o (tL W S0 f)) (hv : PE X value (tL W S0 fv)) (hs : swapsWith value (some (.Attribute o n pos')) pos.line X.env = pure false := by rfl) : PS X (.Assign [.Attribute o n pos'] value pos) (tLS W S0 (zFld fl fv f n)) := (ps_fld ho hv hs).imp fun D σ H ⟨L, S, ρ, E, eH, gd, k, le⟩ => by
  refine ⟨S, ρ, _, eH, gd.k, gd.s, k, fun v S1 e1 k1 h1 z r1 => ⟨S1, ρ, _, rfl, k1, gd.s.ext gd.k e1, h1, fun x S2 e2 k2 h2 w r2 => ?_⟩⟩
  obtain ⟨l, cl, fs, rfl, h0, hm, hl, hn⟩ := h2
  obtain ⟨a, rfl, ha, dx, gs, hv, q1, q2⟩ := cell_at k2 r2 h0
  have hlen : gs.length = fs.length := by
    have := congrArg List.length q1
    simpa using this
  obtain ⟨k4, e4⟩ := setCell (o := .ins (ga W.K cl) dx (putF n z gs)) (c := .ins cl (putS n v fs)) k2 h0 ha ⟨dx, _, rfl, putF_rel (r1.ext k1 e2) q1 q2⟩
  have fin := le.nx ((gd.ext (e1.trans e2) k2).ext e4 k4) hn
  rw [hK] at hv
  refine ⟨a, _, dx, gs, rfl, hv, (hF _ hm).1, (hF _ hm).2, by rw [hlen]; exact hl, ?_⟩
  have eq : upd S2.H a (.ins (ga X.K cl) dx (putF n z gs)) = (S2.set l a (.ins (ga W.K cl) dx (putF n z gs)) (.ins cl (putS n v fs))).H := by rw [hK]; rfl
  rw [eq]
  exact fin
/-- o.n += v, of ints -/
def zFldInc (fl : List (Str × Str)) (sub : Bool) (f fv : LE) (n : Str) : LS := fun E ρ η => f ρ η fun x η1 => ∃ l cl fs i, x = .loc l ∧ η1[l]? = some (some (.ins cl fs)) ∧ (cl, n) ∈ fl ∧ fs.lookup n = some (.dat (.int i)) ∧ fv ρ η1 fun y η2 => ∃ j fs2, y = .dat (.int j) ∧ η2[l]? = some (some (.ins cl fs2)) ∧ fs2.length < 1000 ∧ E.nx ρ (η2.set l (some (.ins cl (putS n (.dat (.int (if sub = true then i - j else i + j))) fs2))))
theorem ls_fldinc {fl : List (Str × Str)} {n : Str} {value : Expr} {pos' : Pos} {fv : LE} (hF : FldOk X.K fl) (hK : W.K = X.K) (ho : PE X o (tL W S0 f)) (hv : PE X value (tL W S0 fv)) : PS X (.AugAssign (.Attribute o n pos') .Add value pos) (tLS W S0 (zFldInc fl false f fv n)) := (ps_fldaug ho hv in_add).imp fun D σ H ⟨L, S, ρ, E, eH, gd, k, le⟩ => by
  refine ⟨S, ρ, _, eH, gd.k, gd.s, k, fun x S1 e1 k1 h1 w r1 => ?_⟩
  obtain ⟨l, cl, fs, i, rfl, h0, hm, hl, h1⟩ := h1
  obtain ⟨a, rfl, ha, dx, gs, hv, q1, q2⟩ := cell_at k1 r1 h0
  obtain ⟨z, hz, rz⟩ := (lookS_rel n q1 q2).2 _ hl
  rw [hK] at hv
  refine ⟨a, _, dx, gs, z, rfl, hv, (hF _ hm).1, (hF _ hm).2, hz, S1, ρ, _, rfl, k1, gd.s.ext gd.k e1, h1, fun y S2 e2 k2 h2 u r2 => ?_⟩
  obtain ⟨j, fs2, rfl, h02, hl2, hn⟩ := h2
  cases rlI rz
  cases rlI r2
  obtain ⟨a', e', ha2, dx2, gs2, hv2, q3, q4⟩ := cell_at k2 (r1.ext k1 e2) h02
  cases e'
  have hlen : gs2.length = fs2.length := by
    have := congrArg List.length q3
    simpa using this
  obtain ⟨k4, e4⟩ := setCell (o := .ins (ga W.K cl) dx2 (putF n (.int (i + j)) gs2)) (c := .ins cl (putS n (.dat (.int (i + j))) fs2)) k2 h02 ha2 ⟨dx2, _, rfl, putF_rel (show RelLV W S2 (.int (i + j)) (.dat (.int (i + j))) from Dx.int _) q3 q4⟩
  have fin := le.nx ((gd.ext (e1.trans e2) k2).ext e4 k4) hn
  rw [hK] at hv2
  refine ⟨i, j, rfl, rfl, dx2, gs2, hv2, by rw [hlen]; exact hl2, ?_⟩
  have eq : upd S2.H a (.ins (ga X.K cl) dx2 (putF n (.int (i + j)) gs2)) = (S2.set l a (.ins (ga W.K cl) dx2 (putF n (.int (i + j)) gs2)) (.ins cl (putS n (.dat (.int (i + j))) fs2))).H := by rw [hK]; rfl
  rw [eq]
  exact fin
/-! ### methods, instances made -/
variable {WP : Wc → Prop} {F : FnL} {KE : KErr} {E : XK}
def xMeth (F : FnL) (cl m : Str) (KE : KErr) (f : LE) (fa : LA) : LE := fun ρ η K => f ρ η fun x η1 => ∃ l fs, x = .loc l ∧ η1[l]? = some (some (.ins cl fs)) ∧ fs.lookup m = none ∧ fa ρ η1 fun xs η2 => callL F (.loc l :: xs) η2 K KE
theorem le_methX {cl m : Str} (hh : PE X e (tMeth (ga X.K cl) m (spL WP F) [] E (tL W S0 f) (tLA W S0 fa))) (hK : W.K = X.K) (hW : WP W) (hE : LnkL W S0 KE E) : PE X e (tL W S0 (xMeth F cl m KE f fa)) := hh.imp fun σ H Q h => by
  obtain ⟨S, ρ, K, rfl, k, sl, h, c⟩ := h
  refine ⟨S, ρ, _, rfl, k, sl, h, fun x S1 e1 k1 hx v r1 => ?_⟩
  obtain ⟨l, fs, rfl, h0, hm, hx⟩ := hx
  obtain ⟨a, rfl, ha, dx, gs, hv, q1, q2⟩ := cell_at k1 r1 h0
  rw [hK] at hv
  refine ⟨a, dx, gs, rfl, hv, (lookS_rel m q1 q2).1 hm, S1, ρ, _, rfl, k1, sl.ext k e1, hx, fun xs S2 e2 k2 hx vs r2 => ?_⟩
  show spL WP F (V.ref a :: (vs ++ [])) S2.H Q E
  rw [List.append_nil]
  exact callL_ok (vs := V.ref a :: vs) (xs := .loc l :: xs) hW k2 ⟨r1.ext k1 e2, r2⟩ hx (c.ext (e1.trans e2)) hE
theorem le_meth {cl m : Str} (hh : PE X e (tMeth (ga X.K cl) m (spL WP F) [] E (tL W S0 f) (tLA W S0 fa))) (hK : W.K = X.K) (hW : WP W) : PE X e (tL W S0 (xMeth F cl m noKL f fa)) := le_methX hh hK hW lnkL0
theorem le_meth0 {cl m : Str} (hh : PE X e (tMeth (ga X.K cl) m (spL WP F) [] E (tL W S0 f) tNil)) (hK : W.K = X.K) (hW : WP W) : PE X e (tL W S0 (xMeth F cl m noKL f xNil)) := hh.imp fun σ H Q h => by
  obtain ⟨S, ρ, K, rfl, k, sl, h, c⟩ := h
  refine ⟨S, ρ, _, rfl, k, sl, h, fun x S1 e1 k1 hx v r1 => ?_⟩
  obtain ⟨l, fs, rfl, h0, hm, hx⟩ := hx
  obtain ⟨a, rfl, ha, dx, gs, hv, q1, q2⟩ := cell_at k1 r1 h0
  rw [hK] at hv
  exact ⟨a, dx, gs, rfl, hv, (lookS_rel m q1 q2).1 hm, callL_ok (xs := [.loc l]) hW k1 ⟨r1, trivial⟩ hx (c.ext e1) lnkL0⟩
/-- C(..) -/
def xMake (F : FnL) (cl : Str) (KE : KErr) (fa : LA) : LE := fun ρ η K => fa ρ η fun xs η1 => callL F (.loc η1.length :: xs) (η1 ++ [some (.ins cl [])]) (fun r η2 => r = .dat .none ∧ K (.loc η1.length) η2) KE
theorem make_ok {cl : Str} {S1 : Stt} {vs : List V} {xs : List LV} {K : LV → LH → Prop} {Q : VK} (hK : W.K = X.K) (hW : WP W) (hE : LnkL W S0 KE E) (k1 : Cl W S0 S1) (r1 : RelLs W S1 vs xs) (hx : callL F (.loc S1.η.length :: xs) (S1.η ++ [some (.ins cl [])]) (fun r η2 => r = .dat .none ∧ K (.loc S1.η.length) η2) KE) (c : ContL W S0 S1 K Q) :
    ∀ x dx, S1.H x = none → S1.H dx = none → dx ≠ x → spL WP F (.ref x :: (vs ++ [])) (upd (upd S1.H dx (.own x)) x (.ins (ga X.K cl) dx [])) (fun v H2 => v = .non ∧ Q (.ref x) H2) E := by
  intro x dx nx ndx ne
  have s : Stp W S1.H (upd S1.H dx (.own x)) := .new ndx
  have k2 := k1.stp s
  have e2 : Ext W S1 { S1 with H := upd S1.H dx (.own x) } := .stp s
  have nx2 : (upd S1.H dx (.own x)) x = none := by
    rw [upd_ne (fun z => ne z.symm)]
    exact nx
  obtain ⟨k3, e3, r3⟩ := newCell (S := { S1 with H := upd S1.H dx (.own x) }) (p := x) (o := .ins (ga W.K cl) dx []) (c := .ins cl []) k2 nx2 ⟨dx, [], rfl, rfl, trivial⟩
  rw [List.append_nil]
  have r3' : RelLV W (Stt.put { S1 with H := upd S1.H dx (.own x) } x (.ins (ga W.K cl) dx []) (.ins cl [])) (.ref x) (.loc S1.η.length) := r3
  have := callL_ok (E := E) (Q := fun v H2 => v = .non ∧ Q (.ref x) H2) (vs := .ref x :: vs) (xs := .loc S1.η.length :: xs) hW k3 ⟨r3', (r1.ext k1 e2).ext k2 e3⟩ hx (fun lv S4 e4 k4 hk v r4 => by
    obtain ⟨rfl, hk⟩ := hk
    cases (show Dx S4.M S4.H v .none from r4)
    exact ⟨rfl, c _ S4 ((e2.trans e3).trans e4) k4 hk (.ref x) (r3'.ext k3 e4)⟩) hE
  rw [← hK]
  exact this
theorem le_make {cl : Str} (hh : PE X e (tMake (ga X.K cl) (spL WP F) [] E (tLA W S0 fa))) (hK : W.K = X.K) (hW : WP W) : PE X e (tL W S0 (xMake F cl noKL fa)) := hh.imp fun σ H Q h => by
  obtain ⟨S, ρ, K, rfl, k, sl, h, c⟩ := h
  exact ⟨S, ρ, _, rfl, k, sl, h, fun xs S1 e1 k1 hx vs r1 => make_ok hK hW lnkL0 k1 r1 hx (c.ext e1)⟩
theorem le_make0 {cl : Str} (hh : PE X e (tMake (ga X.K cl) (spL WP F) [] E tNil)) (hK : W.K = X.K) (hW : WP W) : PE X e (tL W S0 (xMake F cl noKL xNil)) := hh.imp fun σ H Q h => by
  obtain ⟨S, ρ, K, rfl, k, sl, h, c⟩ := h
  exact make_ok (vs := []) (xs := []) hK hW lnkL0 k trivial h c
/-! ### dicts written out -/
def xPairs : List (LE × LE) → LEnv → LH → (List (LV × LV) → LH → Prop) → Prop
  | [], _, η, K => K [] η
  | (fk, fv) :: r, ρ, η, K => fk ρ η fun x η1 => fv ρ η1 fun y η2 => xPairs r ρ η2 fun ps η3 => K ((x, y) :: ps) η3
def xDisp (trs : List (LE × LE)) : LF := fun ρ η K => xPairs trs ρ η fun ps η1 => ∃ kvs : List (Key × LV), ps = kvs.map (fun p => (.dat (keyD p.1), p.2)) ∧ kvs.length ≤ 15 ∧ (kvs.map (·.1)).Nodup ∧ K (.dk kvs) η1
inductive RelPs (W : Wc) (S : Stt) : List (V × V) → List (LV × LV) → Prop
  | nil : RelPs W S [] []
  | cons {x y : V} {a b : LV} {r : List (V × V)} {s : List (LV × LV)} : RelLV W S x a → RelLV W S y b → RelPs W S r s → RelPs W S ((x, y) :: r) ((a, b) :: s)
theorem RelPs.ext {S S' : Stt} (k : Cl W S0 S) (e : Ext W S S') {r : List (V × V)} {s : List (LV × LV)} (h : RelPs W S r s) : RelPs W S' r s := by
  induction h with
  | nil => exact .nil
  | cons h1 h2 _ ih => exact .cons (h1.ext k e) (h2.ext k e) ih
theorem pairs_ok {σ : L2.St} {ρ : LEnv} : ∀ {trs : List (LE × LE)} {S : Stt} {K : List (LV × LV) → LH → Prop} {Q : List (V × V) → Hp → Prop}, Cl W S0 S → Slots W S σ ρ → xPairs trs ρ S.η K → (∀ ps S', Ext W S S' → Cl W S0 S' → K ps S'.η → ∀ vs, RelPs W S' vs ps → Q vs S'.H) → tPairs (trs.map fun p => (tL W S0 p.1, tL W S0 p.2)) σ S.H Q
  | [], S, K, Q, k, sl, h, c => c [] S .refl k h [] .nil
  | (fk, fv) :: trs, S, K, Q, k, sl, h, c => by
    refine ⟨S, ρ, _, rfl, k, sl, h, fun x S1 e1 k1 hx v r1 => ⟨S1, ρ, _, rfl, k1, sl.ext k e1, hx, fun y S2 e2 k2 hy u r2 => ?_⟩⟩
    exact pairs_ok k2 ((sl.ext k e1).ext k1 e2) hy fun ps S3 e3 k3 hk vs r3 => c _ S3 ((e1.trans e2).trans e3) k3 hk _ (.cons (r1.ext k1 (e2.trans e3)) (r2.ext k2 e3) r3)
theorem relPs_kv {S : Stt} : ∀ {kvs : List (Key × LV)} {ps : List (V × V)}, RelPs W S ps (kvs.map fun p => (LV.dat (keyD p.1), p.2)) → ∃ ks : List (Key × V), ps = ks.map (fun kv => (kV kv.1, kv.2)) ∧ ks.map (·.1) = kvs.map (·.1) ∧ RelLs W S (ks.map (·.2)) (kvs.map (·.2))
  | [], ps, h => by
    cases h
    exact ⟨[], rfl, rfl, trivial⟩
  | (k, x) :: kvs, ps, h => by
    cases h with
    | cons h1 h2 h3 =>
      obtain ⟨ks, rfl, e1, e2⟩ := relPs_kv h3
      exact ⟨(k, _) :: ks, by rw [keyV_rel h1]; rfl, by simp [e1], h2, e2⟩
theorem merge_nodup : ∀ {more acc : List (Key × V)}, ((acc ++ more).map (·.1)).Nodup → mergeK acc more = acc ++ more
  | [], acc, _ => by simp [mergeK]
  | (k, v) :: more, acc, h => by
    have hk : ¬ (acc.any fun p => decide (p.1 = k)) = true := fun z => by
      obtain ⟨p, hp, e⟩ := List.any_eq_true.mp z
      have e : p.1 = k := by simpa using e
      rw [List.map_append, List.nodup_append] at h
      exact h.2.2 p.1 (List.mem_map.mpr ⟨p, hp, rfl⟩) k (by simp) e
    have e : putK acc k v = acc ++ [(k, v)] := by
      unfold putK
      rw [if_neg hk]
    have ih := merge_nodup (more := more) (acc := acc ++ [(k, v)]) (by rw [List.append_assoc]; exact h)
    rw [List.append_assoc] at ih
    show mergeK (putK acc k v) more = _
    rw [e, ih]
    rfl
theorem lf_disp {keys : List (Option Expr)} {values : List Expr} {trs : List (LE × LE)} (hp : PPs X pos keys values (trs.map fun p => (tL W S0 p.1, tL W S0 p.2))) (hall : keys.all (·.isSome) = true) (hl : keys.length = values.length) (h0 : keys ≠ [])
    (h15 : keys.length ≤ 15) : PE X (.Dict keys values pos) (tLF W S0 (xDisp trs)) := (pe_disp hp hall hl h0 h15).imp fun σ H Q h => by
  obtain ⟨S, ρ, K, rfl, k, sl, h, c⟩ := h
  intro p np
  obtain ⟨h1, r1⟩ := Hid.start (o := .dK []) k np ⟨(fun _ z => by cases z), fun _ z => by cases z⟩
  have sl1 : Slots W { S with M := fun a => S.M a ∨ a = p, H := upd S.H p (.dK []) } σ ρ := ⟨sl.1, fun i lv e => by
    obtain ⟨v, e1, r⟩ := sl.2 i lv e
    exact ⟨v, e1, r1 _ _ r⟩⟩
  refine pairs_ok (S := { S with M := fun a => S.M a ∨ a = p, H := upd S.H p (.dK []) }) h1.k sl1 h fun ps S2 e2 k2 hk vs rv => ?_
  obtain ⟨kvs, rfl, hl2, hnd, hk⟩ := hk
  have h2 := h1.ext e2 k2 (fun _ z => by cases z)
  obtain ⟨ks, rfl, q1, q2⟩ := relPs_kv rv
  refine ⟨h2.e, ks, rfl, ?_, ?_⟩
  · have := congrArg List.length q1
    simp only [List.length_map] at this
    omega
  · obtain ⟨S', eη, x', k', n', eH', r'⟩ := h2.done k ⟨(fun _ z => by cases z), (fun _ z => by cases z), fun _ z => by cases z⟩
    have em : mergeK [] ks = ks := by
      have := merge_nodup (more := ks) (acc := []) (by simp only [List.nil_append]; rw [q1]; exact hnd)
      simpa using this
    rw [em]
    have eq : upd S2.H p (.dK ks) = upd S'.H p (.dK ks) := by
      rw [← eH']
      exact upd_upd
    rw [eq]
    exact c (.dk kvs) S' x' k' (by rw [eη]; exact hk) p (.dK ks) n' ⟨ks, rfl, q1, q2.to r'⟩
/-! ### slices -/
abbrev LO := LEnv → LH → (Option Int → LH → Prop) → Prop
def tLO (W : Wc) (S0 : Stt) (f : LO) : TO := fun σ H Q => ∃ S ρ K, S.H = H ∧ Cl W S0 S ∧ Slots W S σ ρ ∧ f ρ S.η K ∧ ∀ o S', Ext W S S' → Cl W S0 S' → K o S'.η → Q o S'.H
def xNone : LO := fun _ η K => K none η
def xPart (f : LE) : LO := fun ρ η K => f ρ η fun x η1 => ∃ i, x = .dat (.int i) ∧ K (some i) η1
theorem lo_none : PO X none (tLO W S0 xNone) := po_none.imp fun σ H Q h => by
  obtain ⟨S, ρ, K, rfl, k, sl, h, c⟩ := h
  exact c none S .refl k h
theorem lo_some (he : PE X e (tL W S0 f)) : PO X (some e) (tLO W S0 (xPart f)) := (po_some he).imp fun σ H Q h => by
  obtain ⟨S, ρ, K, rfl, k, sl, h, c⟩ := h
  refine ⟨S, ρ, _, rfl, k, sl, h, fun x S1 e1 k1 hx v r1 => ?_⟩
  obtain ⟨i, rfl, hi⟩ := hx
  cases rlI r1
  exact ⟨i, rfl, c (some i) S1 e1 k1 hi⟩
def xSl (f : LE) (l u : LO) : LE := fun ρ η K => f ρ η fun x η1 => l ρ η1 fun lo η2 => u ρ η2 fun hi η3 => ∃ dv d, view η3 x = some dv ∧ dv.pd = some d ∧ slP d lo hi fun r => K (.dat r) η3
theorem le_slice {lo hi : Option Expr} {l u : LO} {p2 : Pos} (he : PE X e (tL W S0 f)) (hl : PO X lo (tLO W S0 l)) (hu : PO X hi (tLO W S0 u)) : PE X (.Subscript e (.Slice lo hi none p2) pos) (tL W S0 (xSl f l u)) := (pe_slice sl_all he hl hu).imp fun σ H Q h => by
  obtain ⟨S, ρ, K, rfl, k, sl, h, c⟩ := h
  refine ⟨S, ρ, _, rfl, k, sl, h, fun x S1 e1 k1 hx v r1 => ⟨S1, ρ, _, rfl, k1, sl.ext k e1, hx, fun lo S2 e2 k2 hlo => ⟨S2, ρ, _, rfl, k2, (sl.ext k e1).ext k1 e2, hlo, fun hi S3 e3 k3 hhi => ?_⟩⟩⟩
  obtain ⟨dv, d, hv, hp, hk⟩ := hhi
  have r3 := (r1.ext k1 (e2.trans e3)).view k3 hv
  have c3 := c.ext ((e1.trans e2).trans e3)
  refine sn_sl (W := S3.wd W) (K := fun dv => ∃ r, dv = .dat r ∧ K (.dat r) S3.η) k3.gh r3 hp ?_ fun dv hw v2 H' s r => ?_
  · simpa using hk
  · obtain ⟨w, rfl, hw⟩ := hw
    exact c3 (.dat w) { S3 with H := H' } (.stp s) (k3.stp s) hw v2 r
/-! ### chains: a < b < c -/
def xChain (o1 o2 : DV → DV → (DV → Prop) → Prop) (f g h : LE) : LE := fun ρ η K => f ρ η fun x η1 => g ρ η1 fun y η2 => ∃ dx dy, view η2 x = some dx ∧ view η2 y = some dy ∧ o1 dx dy fun dv => ∃ b, dv = .dat (.bool b) ∧ iteB b (h ρ η2 fun z η3 => ∃ dy dz, view η3 y = some dy ∧ view η3 z = some dz ∧ o2 dy dz (up K η3)) (K (.dat (.bool false)) η2)
theorem impChain {r r' : R2} {o1 o2 : DV → DV → (DV → Prop) → Prop} (s1 : ∀ S : Stt, Snd2 (S.wd W) r o1) (s2 : ∀ S : Stt, Snd2 (S.wd W) r' o2) (σ : L2.St) (H : Hp) (Q : VK) (hh : tL W S0 (xChain o1 o2 f g h) σ H Q) : tChain r r' (tL W S0 f) (tL W S0 g) (tL W S0 h) σ H Q := by
  obtain ⟨S, ρ, K, rfl, k, sl, h, c⟩ := hh
  refine ⟨S, ρ, _, rfl, k, sl, h, fun x S1 e1 k1 hx v r1 => ⟨S1, ρ, _, rfl, k1, sl.ext k e1, hx, fun y S2 e2 k2 hy u r2 => ?_⟩⟩
  obtain ⟨dx, dy, vx, vy, ho⟩ := hy
  refine s1 S2 k2.gh ((r1.ext k1 e2).view k2 vx) (r2.view k2 vy) ho fun dv hb w H' st rw => ?_
  obtain ⟨b, rfl, hb⟩ := hb
  cases (show Dx S2.M H' w (.bool b) from rw)
  refine ⟨b, rfl, ?_⟩
  have k3 := k2.stp st
  have e3 : Ext W S2 { S2 with H := H' } := .stp st
  cases b with
  | true =>
    refine iteT ⟨{ S2 with H := H' }, ρ, _, rfl, k3, ((sl.ext k e1).ext k1 e2).ext k2 e3, hb, fun z S4 e4 k4 hz t r4 => ?_⟩
    obtain ⟨dy, dz, vy, vz, ho⟩ := hz
    exact s2 S4 k4.gh (((r2.ext k2 e3).ext k3 e4).view k4 vy) (r4.view k4 vz) ho ((c.ext (((e1.trans e2).trans e3).trans e4)).cont k4)
  | false => exact iteF (c (.dat (.bool false)) { S2 with H := H' } ((e1.trans e2).trans e3) k3 (by simpa using hb) (.bl false) (show RelLV W { S2 with H := H' } (.bl false) (.dat (.bool false)) from Dx.bl _))
theorem le_chain {op op' : CmpOp} {r r' : R2} {o1 o2 : DV → DV → (DV → Prop) → Prop} (h1 : OpR X (compareOp op) r) (h2 : OpR X (compareOp op') r') (s1 : ∀ S : Stt, Snd2 (S.wd W) r o1) (s2 : ∀ S : Stt, Snd2 (S.wd W) r' o2) (ha : PE X a (tL W S0 f)) (hb : PE X b (tL W S0 g)) (hc : PE X c (tL W S0 h))
    (hm : lastMarks [op, op'] [b, c] = false := by with_unfolding_all rfl) : PE X (.Compare a [op, op'] [b, c] pos) (tL W S0 (xChain o1 o2 f g h)) := (pe_chain h1 h2 ha hb hc hm).imp (impChain s1 s2)
theorem lt_chain {op op' : CmpOp} {r r' : R2} {o1 o2 : DV → DV → (DV → Prop) → Prop} (h1 : OpR X (compareOp op) r) (h2 : OpR X (compareOp op') r') (s1 : ∀ S : Stt, Snd2 (S.wd W) r o1) (s2 : ∀ S : Stt, Snd2 (S.wd W) r' o2) (ha : PE X a (tL W S0 f)) (hb : PE X b (tL W S0 g)) (hc : PE X c (tL W S0 h))
    (hm : lastMarks [op, op'] [b, c] = false := by with_unfolding_all rfl) : PT X (.Compare a [op, op'] [b, c] pos) (tLT W S0 (xB (xChain o1 o2 f g h))) := (pt_chain h1 h2 ha hb hc hm).imp fun σ H Q z => by
  obtain ⟨S, ρ, K, eH, k, sl, h, c⟩ := z
  exact impChain s1 s2 σ H _ ⟨S, ρ, _, eH, k, sl, h, fun lv S' e k' hk v r => by
    obtain ⟨b, rfl, hb⟩ := hk
    cases (show Dx S'.M S'.H v (.bool b) from r)
    exact ⟨b, rfl, c b S' e k' hb⟩⟩
/-! ### ranges with a step -/
def rngC (lo c : Int) (n : Nat) : List PyData := (List.range n).map fun (i : Nat) => PyData.int (lo + (i : Int) * c)
theorem walkD_rngC {W : Wd} {lo c : Int} {n : Nat} : WalkD W (Itc lo c n) (rngC lo c n) [] := by
  have hl : (rngC lo c n).length = n := by simp [rngC]
  refine ⟨fun _ hi => by rw [hl] at hi; exact hi, fun _ => by rw [hl]; exact Nat.le_refl _, fun g _ hi y => ?_⟩
  obtain ⟨rfl, rfl⟩ := y
  rw [hl] at hi
  exact ⟨.refl, _, by simp [rngC, hi], Dx.int _⟩
def xRng3 (fa : LA) : LI := fun ρ η K => fa ρ η fun xs η1 => ∃ (i j s : Int) (n : Nat), xs = [.dat (.int i), .dat (.int j), .dat (.int s)] ∧ RgC i j s n ∧ K ((rngC i s n).map .dat) (fun _ => True) η1
theorem li_range3 {tg : Expr} {p : Pos} (hg : Gl X "range") (hm : X.mg "range" = none) (ha : PA X [a, b, c] (tLA W S0 fa)) (hs : starEach [a, b, c] X.env = (false, eval a X.env) :: starEach [b, c] X.env := by rfl) (hpl : (backTo pos (starEach [b, c] X.env)).any (·.1) = false := by rfl) : PI X tg (.Call (.Name "range" p) [a, b, c] [] pos) (tLI W S0 (xRng3 fa)) := (pi_range3 hg hm ha hs hpl).imp fun σ H R h => by
  obtain ⟨S, ρ, K, rfl, k, sl, h, c⟩ := h
  refine ⟨S, ρ, _, rfl, k, sl, h, fun xs S1 e1 k1 hx vs r1 => ?_⟩
  obtain ⟨i, j, s, n, rfl, hr, hk⟩ := hx
  obtain ⟨v, u, z, rfl, r, r2, r3⟩ := rl3 r1
  cases rlI r
  cases rlI r2
  cases rlI r3
  exact ⟨i, j, s, n, rfl, hr, c _ _ S1 e1 k1 hk _ [] S1.H .refl (fun p hp => by cases hp) (.ofD (liveD := []) (fun S k h p hp => by cases hp) fun S => walkD_rngC)⟩
/-! ### texts' methods -/
def xM0 (p : Str → (PyData → Prop) → Prop) (f : LE) : LE := fun ρ η K => f ρ η fun x η1 => ∃ a, x = .dat (.str a) ∧ p a fun r => K (.dat r) η1
def xM1 (p : Str → PyData → (PyData → Prop) → Prop) (f g : LE) : LE := fun ρ η K => f ρ η fun x η1 => ∃ a, x = .dat (.str a) ∧ g ρ η1 fun y η2 => ∃ dv d, view η2 y = some dv ∧ dv.pd = some d ∧ p a d fun r => K (.dat r) η2
theorem contD {S : Stt} {K : LV → LH → Prop} {Q : VK} (k : Cl W S0 S) (c : ContL W S0 S K Q) : Cont (S.wd W) S.M S.H (fun dv => ∃ r, dv = .dat r ∧ K (.dat r) S.η) Q := fun dv hw v2 H' s r => by
  obtain ⟨w, rfl, hw⟩ := hw
  exact c (.dat w) { S with H := H' } (.stp s) (k.stp s) hw v2 r
theorem le_m0 {r : V → List V → Hp → VK → Prop} {p : Str → (PyData → Prop) → Prop} (hh : PE X e (tM0 r (tL W S0 f))) (s : ∀ S : Stt, SndM0 (S.wd W) r p) : PE X e (tL W S0 (xM0 p f)) := hh.imp fun σ H Q h => by
  obtain ⟨S, ρ, K, rfl, k, sl, h, c⟩ := h
  refine ⟨S, ρ, _, rfl, k, sl, h, fun x S1 e1 k1 hx v r1 => ?_⟩
  obtain ⟨a, rfl, hp⟩ := hx
  cases (show Dx S1.M S1.H v (.str a) from r1)
  exact ⟨⟨a, rfl⟩, s S1 (K := fun dv => ∃ r, dv = .dat r ∧ K (.dat r) S1.η) k1.gh (by simpa using hp) (contD k1 (c.ext e1))⟩
theorem le_m1 {r : V → List V → Hp → VK → Prop} {p : Str → PyData → (PyData → Prop) → Prop} (hh : PE X e (tM1 r (tL W S0 f) (tL W S0 g))) (s : ∀ S : Stt, SndM1 (S.wd W) r p) : PE X e (tL W S0 (xM1 p f g)) := hh.imp fun σ H Q h => by
  obtain ⟨S, ρ, K, rfl, k, sl, h, c⟩ := h
  refine ⟨S, ρ, _, rfl, k, sl, h, fun x S1 e1 k1 hx v r1 => ?_⟩
  obtain ⟨a, rfl, hx⟩ := hx
  cases (show Dx S1.M S1.H v (.str a) from r1)
  refine ⟨⟨a, rfl⟩, S1, ρ, _, rfl, k1, sl.ext k e1, hx, fun y S2 e2 k2 hy u r2 => ?_⟩
  obtain ⟨dv, d, hv, hd, hp⟩ := hy
  exact s S2 (K := fun dv => ∃ r, dv = .dat r ∧ K (.dat r) S2.η) k2.gh (r2.view k2 hv) hd (by simpa using hp) (contD k2 (c.ext (e1.trans e2)))
/-- the items of a list or tuple -/
def seqL (η : LH) : LV → (List LV → Prop) → Prop
  | .dat (.list ds), K => K (ds.map .dat)
  | .dat (.tuple ds), K => K (ds.map .dat)
  | .loc l, K => ∃ xs, η[l]? = some (some (.lst xs)) ∧ K xs
  | _, _ => False
theorem seq_rel {S : Stt} {v : V} {x : LV} {K : List LV → Prop} (k : Cl W S0 S) (r : RelLV W S v x) (h : seqL S.η x K) : ∃ b vs ys, v = .ref b ∧ (S.H b = some (.lst vs) ∨ S.H b = some (.tup vs)) ∧ RelLs W S vs ys ∧ K ys := by
  match x, h, r with
  | .dat (.list ds), h, r =>
    cases (show Dx S.M S.H v (.list ds) from r) with
    | lst n e ra => exact ⟨_, _, _, rfl, .inl e, dxs_rel ra, h⟩
  | .dat (.tuple ds), h, r =>
    cases (show Dx S.M S.H v (.tuple ds) from r) with
    | tup e ra => exact ⟨_, _, _, rfl, .inr e, dxs_rel ra, h⟩
  | .loc l, h, r =>
    obtain ⟨xs, h0, hk⟩ := h
    obtain ⟨a, rfl, ha, vs, hv, rl⟩ := cell_at k r h0
    exact ⟨a, vs, xs, rfl, .inl hv, rl, hk⟩
/-! ### list(x) anew -/
def xListOf (fa : LA) : LF := fun ρ η K => fa ρ η fun xs η1 => ∃ x, xs = [x] ∧ seqL η1 x fun ys => K (.lst ys) η1
theorem lf_list (hh : PE X e (tCB (fun xs H Q => ∃ p ys, xs = [V.ref p] ∧ (SqL X.K H p ys ∨ SqT X.K H p ys) ∧ ∀ l, H l = none → Q (.ref l) (upd H l (.lst ys))) (tLA W S0 fa))) : PE X e (tLF W S0 (xListOf fa)) := hh.imp fun σ H Q h => by
  obtain ⟨S, ρ, K, rfl, k, sl, h, c⟩ := h
  refine ⟨S, ρ, _, rfl, k, sl, h, fun xs S1 e1 k1 hx vs r1 => ?_⟩
  obtain ⟨x, rfl, hx⟩ := hx
  obtain ⟨v, rfl, r⟩ := rl1 r1
  obtain ⟨b, us, ys, rfl, hb, rb, hk⟩ := seq_rel k1 r hx
  refine ⟨b, us, rfl, hb.imp SqL.of SqT.of, fun l nl => ?_⟩
  exact c (.lst ys) S1 e1 k1 hk l (.lst us) nl ⟨us, rfl, rb⟩
/-! ### several names at once -/
def zPar (i j : Nat) (fa : LA) : LS := fun E ρ η => fa ρ η fun xs η1 => ∃ x y, xs = [x, y] ∧ E.nx ((ρ.set i (some x)).set j (some y)) η1
theorem ls_par {i j : Nat} {st : Stmt} (hh : PS X st (tPar i j (tLA W S0 fa))) : PS X st (tLS W S0 (zPar i j fa)) := hh.imp fun D σ H ⟨L, S, ρ, E, eH, gd, k, le⟩ =>
  ⟨S, ρ, _, eH, gd.k, gd.s, k, fun xs S1 e1 k1 hx vs r1 => by
    obtain ⟨x, y, rfl, hx⟩ := hx
    obtain ⟨v, u, rfl, r, r2⟩ := rl2 r1
    have g1 := gd.ext e1 k1
    exact ⟨v, u, rfl, le.nx ⟨g1.k0, g1.x, g1.k, (g1.s.set r).set r2, g1.live⟩ hx⟩⟩
def zPar3 (i j l : Nat) (fa : LA) : LS := fun E ρ η => fa ρ η fun xs η1 => ∃ x y z, xs = [x, y, z] ∧ E.nx (((ρ.set i (some x)).set j (some y)).set l (some z)) η1
theorem ls_par3 {i j l : Nat} {st : Stmt} (hh : PS X st (tPar3 i j l (tLA W S0 fa))) : PS X st (tLS W S0 (zPar3 i j l fa)) := hh.imp fun D σ H ⟨L, S, ρ, E, eH, gd, k, le⟩ =>
  ⟨S, ρ, _, eH, gd.k, gd.s, k, fun xs S1 e1 k1 hx vs r1 => by
    obtain ⟨x, y, z, rfl, hx⟩ := hx
    obtain ⟨v, u, t, rfl, r, r2, r3⟩ := rl3 r1
    have g1 := gd.ext e1 k1
    exact ⟨v, u, t, rfl, le.nx ⟨g1.k0, g1.x, g1.k, ((g1.s.set r).set r2).set r3, g1.live⟩ hx⟩⟩
/-- name op= e -/
def zAug (i : Nat) (o : DV → DV → (DV → Prop) → Prop) (f : LE) : LS := fun E ρ η => ∃ x, ρ[i]? = some (some x) ∧ f ρ η fun y η1 => ∃ dx dy, view η1 x = some dx ∧ view η1 y = some dy ∧ o dx dy fun dv => ∃ lv, ofDV dv = some lv ∧ E.nx (ρ.set i (some lv)) η1
theorem ls_aug {i : Nat} {ti : TIp} {o : DV → DV → (DV → Prop) → Prop} {st : Stmt} (s : ∀ S : Stt, Snd2 (S.wd W) ti o) (hh : PS X st (tAug i (tL W S0 f) ti)) : PS X st (tLS W S0 (zAug i o f)) := hh.imp fun D σ H ⟨L, S, ρ, E, eH, gd, k, le⟩ => by
  obtain ⟨x, hi, k⟩ := k
  obtain ⟨v, hσ, r⟩ := gd.s.2 i x hi
  refine ⟨v, hσ, S, ρ, _, eH, gd.k, gd.s, k, fun y S1 e1 k1 hy u r1 => ?_⟩
  obtain ⟨dx, dy, vx, vy, ho⟩ := hy
  refine s S1 k1.gh ((r.ext gd.k e1).view k1 vx) (r1.view k1 vy) ho fun dv hz t H2 st rz => ?_
  obtain ⟨lv, el, hn⟩ := hz
  have g2 := (gd.ext e1 k1).ext (.stp st) (k1.stp st)
  exact le.nx ⟨g2.k0, g2.x, g2.k, g2.s.set (RelLV.ofDV (S := { S1 with H := H2 }) rz el), g2.live⟩ hn
end
/-! ### a sign in a text -/
def inSP : PyData → PyData → (PyData → Prop) → Prop
  | .str x, .str z, K => ∃ c, x = ⟨#[c]⟩ ∧ K (.bool (decide (c ∈ z.cps.toList)))
  | _, _, _ => False
def notInSP : PyData → PyData → (PyData → Prop) → Prop
  | .str x, .str z, K => ∃ c, x = ⟨#[c]⟩ ∧ K (.bool (!decide (c ∈ z.cps.toList)))
  | _, _, _ => False
theorem sn_inS {W : Wd} : Snd2 W (fun x y H Q => ∃ (c : Nat) (z : Str), x = .str ⟨#[c]⟩ ∧ y = .str z ∧ Q (.bl (decide (c ∈ z.cps.toList))) H) (op2 inSP) := by
  intro M H x y dx dy K Q g rx ry h c
  obtain ⟨d, e, hd, he, h⟩ := h
  match d, e, hd, he, h with
  | .str x', .str z, hd, he, h =>
    obtain ⟨cc, rfl, h⟩ := h
    cases pd_str hd rx
    cases pd_str he ry
    exact ⟨cc, z, rfl, rfl, c _ h _ H .refl (Dx.bl _)⟩
theorem sn_notInS {W : Wd} : Snd2 W (fun x y H Q => ∃ (c : Nat) (z : Str), x = .str ⟨#[c]⟩ ∧ y = .str z ∧ Q (.bl (!decide (c ∈ z.cps.toList))) H) (op2 notInSP) := by
  intro M H x y dx dy K Q g rx ry h c
  obtain ⟨d, e, hd, he, h⟩ := h
  match d, e, hd, he, h with
  | .str x', .str z, hd, he, h =>
    obtain ⟨cc, rfl, h⟩ := h
    cases pd_str hd rx
    cases pd_str he ry
    exact ⟨cc, z, rfl, rfl, c _ h _ H .refl (Dx.bl _)⟩
/-! ### a list some times -/
def mulLP : PyData → PyData → (PyData → Prop) → Prop
  | .list xs, .int k, K => 0 ≤ k ∧ k ≤ 1000 ∧ xs.length ≤ 1000 ∧ K (.list (List.replicate k.toNat xs).flatten)
  | _, _, _ => False
theorem sn_mulL {W : Wd} : Snd2 W rRep (op2 mulLP) := by
  intro M H x y dx dy K Q g rx ry h c
  obtain ⟨d, e, hd, he, h⟩ := h
  match d, e, hd, he, h with
  | .list xs, .int k, hd, he, h =>
    obtain ⟨h0, h1, h2, h⟩ := h
    obtain ⟨a, vs, rfl, ha, ra⟩ := pd_lst hd rx
    cases pd_int he ry
    have hz : vs.length * k.toNat ≤ sizeLine := by
      rw [DxAll.length ra, sizeLine_eq]
      have : xs.length * k.toNat ≤ 1000 * 1000 := Nat.mul_le_mul h2 (by omega)
      omega
    refine ⟨a, k, vs, rfl, rfl, ha, by omega, by omega, hz, fun p np => c _ h _ _ (.new np) ?_⟩
    have s : Stp W.toWc H (upd H p (.lst (List.replicate k.toNat vs).flatten)) := .new np
    exact Dx.lst (fun z => g.all p z np) upd_same (Dx.kpAll (s.kp g.vol) _ _ (DxAll.rep ra _))
end EL

set_option Elab.async false
set_option linter.all false
set_option maxRecDepth 100000
set_option maxHeartbeats 1000000
/-! Short words for goals over data and places; loops. -/
namespace EL
open PySem PySem.Spec PyProof.Rows L2 KT KG KX KY KE0 KQ LK GxR DL
theorem view_dat (η : LH) (d : PyData) : view η (.dat d) = some (.dat d) := rfl
theorem view_loc (η : LH) (i : Nat) : view η (.loc i) = viewC η[i]? := rfl
theorem view_deck (η : LH) : view η .deck = some .deck := rfl
theorem view_gts (η : LH) (xs : List Str) : view η (.gts xs) = some (.gts xs) := rfl
theorem view_ob (η : LH) (v : V) : view η (.ob v) = some (.ob v) := rfl
theorem viewC_c (c : Cell) : viewC (some (some c)) = c.oc.map .own := rfl
theorem oc_lst (xs : List LV) : (Cell.lst xs).oc = (asData xs).map .lst := rfl
theorem oc_dk (kvs : List (Key × LV)) : (Cell.dk kvs).oc = (asData (kvs.map (·.2))).map fun ds => .dk ((kvs.map (·.1)).zip ds) := rfl
theorem oc_dt (kvs : List (List Key × LV)) : (Cell.dt kvs).oc = none := rfl
theorem oc_ins (c : Str) (fs : List (Str × LV)) : (Cell.ins c fs).oc = none := rfl
theorem asData_nil : asData [] = some [] := rfl
theorem asData_cons (d : PyData) (r : List LV) : asData (.dat d :: r) = (asData r).map (d :: ·) := rfl
theorem asData_snoc (d : PyData) : ∀ r : List LV, asData (r ++ [.dat d]) = (asData r).map (· ++ [d])
  | [] => rfl
  | x :: r => by
    cases x with
    | dat y =>
      rw [List.cons_append, asData_cons, asData_snoc d r, asData_cons]
      cases asData r <;> rfl
    | _ => rfl
theorem views_nil (η : LH) : views η [] = some [] := rfl
theorem views_cons (η : LH) (x : LV) (xs : List LV) : views η (x :: xs) = (view η x).bind fun d => (views η xs).map (d :: ·) := by
  show (match view η x, views η xs with
    | some d, some ds => some (d :: ds)
    | _, _ => none) = _
  cases view η x <;> cases views η xs <;> rfl
theorem up_dat (K : LV → LH → Prop) (η : LH) (d : PyData) : up K η (.dat d) = K (.dat d) η := by
  unfold up
  simp [ofDV]
theorem up_ob (K : LV → LH → Prop) (η : LH) (v : V) : up K η (.ob v) = K (.ob v) η := by
  unfold up
  simp [ofDV]
theorem ofDV_dat (d : PyData) : ofDV (.dat d) = some (.dat d) := rfl
theorem dvL_dat (d : PyData) : dvL (.dat d) = .dat d := rfl
theorem dvL_deck : dvL .deck = .deck := rfl
theorem dvL_ob (v : V) : dvL (.ob v) = .ob v := rfl
theorem frz_dat (n : Nat) (η : LH) (d : PyData) : frz n η (.dat d) = some d := rfl
theorem frz_loc (n : Nat) (η : LH) (l : Nat) : frz n η (.loc l) = if n ≤ l then (match viewC η[l]? with
    | some (.own o) => some o.pd
    | _ => none) else none := rfl
theorem rtD_dat (Kk : PyData → Prop) (d : PyData) (η : LH) : rtD Kk (.dat d) η = Kk d := by
  unfold rtD
  simp
theorem reloc_dat (ls : List Nat) (b : Nat) (d : PyData) : reloc ls b (.dat d) = .dat d := rfl
theorem reloc_deck (ls : List Nat) (b : Nat) : reloc ls b .deck = .deck := rfl
theorem reloc_gts (ls : List Nat) (b : Nat) (xs : List Str) : reloc ls b (.gts xs) = .gts xs := rfl
theorem reloc_ob (ls : List Nat) (b : Nat) (v : V) : reloc ls b (.ob v) = .ob v := rfl
theorem reloc_loc (ls : List Nat) (b i : Nat) : reloc ls b (.loc i) = .loc (match ls[i]? with
    | some j => j
    | none => b + (i - ls.length)) := rfl
theorem reloc_map (ls : List Nat) (b : Nat) (ds : List PyData) : (ds.map LV.dat).map (reloc ls b) = ds.map LV.dat := by
  rw [List.map_map]
  rfl
theorem mapL_lst (r : LV → LV) (xs : List LV) : (Cell.lst xs).mapL r = .lst (xs.map r) := rfl
theorem mapL_dk (r : LV → LV) (xs : List (Key × LV)) : (Cell.dk xs).mapL r = .dk (xs.map fun p => (p.1, r p.2)) := rfl
theorem mapL_dt (r : LV → LV) (xs : List (List Key × LV)) : (Cell.dt xs).mapL r = .dt (xs.map fun p => (p.1, r p.2)) := rfl
theorem mapL_ins (r : LV → LV) (c : Str) (xs : List (Str × LV)) : (Cell.ins c xs).mapL r = .ins c (xs.map fun p => (p.1, r p.2)) := rfl
theorem putBack_n (r : LV → LV) (cs η : LH) : putBack r [] cs η = η := rfl
theorem putBack_c (r : LV → LV) (j : Nat) (ls : List Nat) (c : Option Cell) (cs η : LH) : putBack r (j :: ls) (c :: cs) η = putBack r ls cs (η.set j (c.map (Cell.mapL r))) := rfl
theorem cellsB_nil (n : Nat) : cellsB n [] = true := rfl
theorem cellsB_none (n : Nat) (r : LH) : cellsB n (none :: r) = cellsB n r := by simp [cellsB]
theorem cellsB_some (n : Nat) (c : Cell) (r : LH) : cellsB n (some c :: r) = (cellB n c && cellsB n r) := by simp [cellsB]
theorem cellB_lst (n : Nat) (xs : List LV) : cellB n (.lst xs) = xs.all (below n) := rfl
theorem cellB_dk (n : Nat) (xs : List (Key × LV)) : cellB n (.dk xs) = xs.all fun p => below n p.2 := rfl
theorem cellB_ins (n : Nat) (c : Str) (xs : List (Str × LV)) : cellB n (.ins c xs) = xs.all fun p => below n p.2 := rfl
theorem below_dat (n : Nat) (d : PyData) : below n (.dat d) = true := rfl
theorem below_loc (n l : Nat) : below n (.loc l) = decide (l < n) := rfl
theorem below_deck (n : Nat) : below n .deck = true := rfl
theorem cleanR_nil (n : Nat) : cleanR n [] = [] := rfl
theorem cleanR_some (n : Nat) (lv : LV) (r : LEnv) : cleanR n (some lv :: r) = (if below n lv = true then some lv else none) :: cleanR n r := rfl
theorem cleanR_none (n : Nat) (r : LEnv) : cleanR n (none :: r) = none :: cleanR n r := rfl
theorem retK_same {n : Nat} {Kk : LV → LH → Prop} {lv : LV} {η : LH} (hn : η.length = n) (b : below n lv = true) (c : cellsB n η = true) (k : Kk lv η) : retK n Kk lv η := ⟨n, Nat.le_refl _, b, by rw [List.take_of_length_le (by omega)]; exact c, by rw [List.take_of_length_le (by omega)]; exact k⟩
theorem map_dat_snoc (ds : List PyData) (d : PyData) : ds.map LV.dat ++ [LV.dat d] = (ds ++ [d]).map LV.dat := by simp
theorem map_dat_app (ds es : List PyData) : ds.map LV.dat ++ es.map LV.dat = (ds ++ es).map LV.dat := by simp
/-! ### loops -/
section
variable {gd : GL} {body : LS} {E : LEnds} {gu : LH → Prop}
/-- a for, by an invariant of the turn -/
theorem forL_inv {items : List LV} (Inv : Nat → LEnv → LH → Prop) (step : ∀ i d ρ η (N : LEnv → LH → Prop), items[i]? = some d → Inv i ρ η → (∀ ρ' η', Inv (i + 1) ρ' η' → N ρ' η') → gu η ∧ gd d ρ fun ρ' => body { E with nx := N, ct := N, bk := E.nx } ρ' η)
    {ρ : LEnv} {η : LH} (h0 : Inv 0 ρ η) (hd : ∀ ρ η, Inv items.length ρ η → gu η ∧ E.nx ρ η) : forLL gd body E gu items ρ η := by
  have go : ∀ (k : Nat) (ds : List LV) (ρ : LEnv) (η : LH), k + ds.length = items.length → items.drop k = ds → Inv k ρ η → forLL gd body E gu ds ρ η := by
    intro k ds
    induction ds generalizing k with
    | nil =>
      intro ρ η hl _ h
      simp only [List.length_nil, Nat.add_zero] at hl
      subst hl
      exact hd ρ η h
    | cons d ds ih =>
      intro ρ η hl hdr h
      have hk : k < items.length := by
        simp only [List.length_cons] at hl
        omega
      have e : items[k]? = some d := by
        have := congrArg List.head? hdr
        rw [List.head?_drop] at this
        simpa using this
      refine step k d ρ η (forLL gd body E gu ds) e h fun ρ' η' h' => ih (k + 1) ρ' η' (by simp only [List.length_cons] at hl; omega) ?_ h'
      have := congrArg List.tail hdr
      simpa [List.tail_drop] using this
  exact go 0 items ρ η (by simp) (by simp) h0
/-- .. over data -/
theorem forD_inv {items : List PyData} (Inv : Nat → LEnv → LH → Prop) (step : ∀ i d ρ η (N : LEnv → LH → Prop), items[i]? = some d → Inv i ρ η → (∀ ρ' η', Inv (i + 1) ρ' η' → N ρ' η') → gd (.dat d) ρ fun ρ' => body { E with nx := N, ct := N, bk := E.nx } ρ' η)
    {ρ : LEnv} {η : LH} (h0 : Inv 0 ρ η) (hd : ∀ ρ η, Inv items.length ρ η → E.nx ρ η) : forLL gd body E (fun _ => True) (items.map .dat) ρ η := by
  refine forL_inv Inv (fun i d ρ η N hi hI hN => ⟨trivial, ?_⟩) h0 (fun ρ η hI => ⟨trivial, hd ρ η (by simpa using hI)⟩)
  rw [List.getElem?_map] at hi
  cases hx : items[i]? with
  | none => rw [hx] at hi; cases hi
  | some x =>
    rw [hx] at hi
    cases hi
    exact step i x ρ η N hx hI hN
/-- a for that looks: it ends early at an item that does not pass -/
theorem forD_chk {p : PyData → Bool} {R : Prop} (Inv : LEnv → LH → Prop) : ∀ {items : List PyData} {ρ : LEnv} {η : LH}, (∀ d ∈ items, ∀ ρ η (N : LEnv → LH → Prop), Inv ρ η → (p d = true → ∀ ρ' η', Inv ρ' η' → N ρ' η') → (p d = false → R) → gd (.dat d) ρ fun ρ' => body { E with nx := N, ct := N, bk := E.nx } ρ' η) → Inv ρ η → (items.all p = true → ∀ ρ' η', Inv ρ' η' → E.nx ρ' η') → (items.all p = false → R) → forLL gd body E (fun _ => True) (items.map .dat) ρ η
  | [], ρ, η, _, h0, h1, _ => ⟨trivial, h1 rfl ρ η h0⟩
  | d :: ds, ρ, η, h, h0, h1, h2 => by
    refine ⟨trivial, h d List.mem_cons_self ρ η _ h0 (fun hp ρ' η' h' => ?_) (fun hp => h2 (by rw [List.all_cons, hp]; rfl))⟩
    exact forD_chk Inv (fun d hd => h d (List.mem_cons_of_mem _ hd)) h' (fun ha => h1 (by rw [List.all_cons, hp, ha]; rfl)) (fun ha => h2 (by rw [List.all_cons, hp, ha]; rfl))
/-- a while whose turns count down -/
theorem whL_down {t : LT} {fb : LS} (Inv : Nat → LEnv → LH → Prop) (step : ∀ i ρ η (N : LEnv → LH → Prop), Inv i ρ η → (∀ j ρ' η', j < i → Inv j ρ' η' → N ρ' η') → t ρ η fun c η1 => iteB c (fb { E with nx := N, ct := N, bk := E.nx } ρ η1) (E.nx ρ η1)) : ∀ n i ρ η, i ≤ n → Inv i ρ η → whLL t fb E (n + 1) ρ η
  | 0, i, ρ, η, hi, h => step i ρ η _ h fun j _ _ hj _ => absurd hj (by omega)
  | n + 1, i, ρ, η, hi, h => step i ρ η _ h fun j ρ' η' hj h' => whL_down Inv step n j ρ' η' (by omega) h'
end
section
variable {gd : GL} {t : LT} {f : LE} {ρ : LEnv} {gu : LH → Prop}
theorem lcl_fun' {q : PyData → PyData} {η : LH} {K : List LV → LH → Prop} (hg : gu η) : ∀ {items acc : List PyData}, (∀ d ∈ items, ∀ Q : LV → LH → Prop, Q (.dat (q d)) η → gd (.dat d) ρ fun ρ' => f ρ' η Q) → acc.length + items.length ≤ sizeLine → K ((acc ++ items.map q).map .dat) η → lcLL gd yYes f ρ gu (items.map .dat) (acc.map .dat) η K
  | [], acc, _, _, k => ⟨hg, by simpa using k⟩
  | d :: ds, acc, h, hl, k => by
    simp only [List.length_cons] at hl
    refine ⟨hg, h d List.mem_cons_self (fun x η2 => (acc.map LV.dat).length < sizeLine ∧ lcLL gd yYes f ρ gu (ds.map LV.dat) (acc.map LV.dat ++ [x]) η2 K) ⟨by simp; omega, ?_⟩⟩
    have := lcl_fun' (acc := acc ++ [q d]) hg (fun d hd => h d (List.mem_cons_of_mem _ hd)) (by simp; omega) (by simpa using k)
    simpa using this
/-- [q(x) for x in items] -/
theorem lcl_fun {q : PyData → PyData} {η : LH} {K : List LV → LH → Prop} (hg : gu η) {items : List PyData} (h : ∀ d ∈ items, ∀ Q : LV → LH → Prop, Q (.dat (q d)) η → gd (.dat d) ρ fun ρ' => f ρ' η Q) (hl : items.length ≤ sizeLine) (k : K ((items.map q).map .dat) η) : lcLL gd yYes f ρ gu (items.map .dat) [] η K := lcl_fun' (acc := []) hg h (by simpa using hl) (by simpa using k)
theorem lcl_fil' {p : PyData → Bool} {q : PyData → PyData} {η : LH} {K : List LV → LH → Prop} (hg : gu η) : ∀ {items acc : List PyData}, (∀ d ∈ items, ∀ Q : LEnv → Bool → LH → Prop, (∀ ρ', (∀ Q2 : LV → LH → Prop, p d = true → Q2 (.dat (q d)) η → f ρ' η Q2) → Q ρ' (p d) η) → gd (.dat d) ρ fun ρ' => t ρ' η (Q ρ')) → acc.length + items.length ≤ sizeLine → K ((acc ++ (items.filter p).map q).map .dat) η → lcLL gd t f ρ gu (items.map .dat) (acc.map .dat) η K
  | [], acc, _, _, k => ⟨hg, by simpa using k⟩
  | d :: ds, acc, h, hl, k => by
    simp only [List.length_cons] at hl
    refine ⟨hg, h d List.mem_cons_self (fun ρ' b η1 => iteB b (f ρ' η1 fun x η2 => (acc.map LV.dat).length < sizeLine ∧ lcLL gd t f ρ gu (ds.map LV.dat) (acc.map LV.dat ++ [x]) η2 K) (lcLL gd t f ρ gu (ds.map .dat) (acc.map .dat) η1 K)) fun ρ' hf => ?_⟩
    cases hp : p d with
    | true =>
      refine hf _ hp ⟨by simp; omega, ?_⟩
      have := lcl_fil' (acc := acc ++ [q d]) hg (fun d hd => h d (List.mem_cons_of_mem _ hd)) (by simp; omega) (by simpa [List.filter_cons, hp] using k)
      simpa using this
    | false => exact lcl_fil' hg (fun d hd => h d (List.mem_cons_of_mem _ hd)) (by omega) (by simpa [List.filter_cons, hp] using k)
/-- [q(x) for x in items if p(x)] -/
theorem lcl_fil {p : PyData → Bool} {q : PyData → PyData} {η : LH} {K : List LV → LH → Prop} (hg : gu η) {items : List PyData} (h : ∀ d ∈ items, ∀ Q : LEnv → Bool → LH → Prop, (∀ ρ', (∀ Q2 : LV → LH → Prop, p d = true → Q2 (.dat (q d)) η → f ρ' η Q2) → Q ρ' (p d) η) → gd (.dat d) ρ fun ρ' => t ρ' η (Q ρ')) (hl : items.length ≤ sizeLine) (k : K (((items.filter p).map q).map .dat) η) : lcLL gd t f ρ gu (items.map .dat) [] η K := lcl_fil' (acc := []) hg h (by simpa using hl) (by simpa using k)
theorem lcl_any' {R : PyData → PyData → Prop} {η : LH} {K : List LV → LH → Prop} (hg : gu η) : ∀ {items acc : List PyData}, (∀ d ∈ items, ∀ Q : LV → LH → Prop, (∀ e, R d e → Q (.dat e) η) → gd (.dat d) ρ fun ρ' => f ρ' η Q) → acc.length + items.length ≤ sizeLine → (∀ es, All2 R items es → K ((acc ++ es).map .dat) η) → lcLL gd yYes f ρ gu (items.map .dat) (acc.map .dat) η K
  | [], acc, _, _, k => ⟨hg, by simpa using k [] .nil⟩
  | d :: ds, acc, h, hl, k => by
    simp only [List.length_cons] at hl
    refine ⟨hg, h d List.mem_cons_self (fun x η2 => (acc.map LV.dat).length < sizeLine ∧ lcLL gd yYes f ρ gu (ds.map LV.dat) (acc.map LV.dat ++ [x]) η2 K) fun e he => ⟨by simp; omega, ?_⟩⟩
    have := lcl_any' (acc := acc ++ [e]) hg (fun d hd => h d (List.mem_cons_of_mem _ hd)) (by simp; omega) (fun es hes => by simpa using k (e :: es) (.cons he hes))
    simpa using this
/-- any turns of a comprehension: what each may tell -/
theorem lcl_any {R : PyData → PyData → Prop} {η : LH} {K : List LV → LH → Prop} (hg : gu η) {items : List PyData} (h : ∀ d ∈ items, ∀ Q : LV → LH → Prop, (∀ e, R d e → Q (.dat e) η) → gd (.dat d) ρ fun ρ' => f ρ' η Q) (hl : items.length ≤ sizeLine) (k : ∀ es, All2 R items es → K (es.map .dat) η) : lcLL gd yYes f ρ gu (items.map .dat) [] η K := lcl_any' (acc := []) hg h (by simpa using hl) (by simpa using k)
/-- all, any by a plain function -/
theorem agl_fun {b0 : Bool} {p : PyData → Bool} {η : LH} {K : Bool → LH → Prop} (hg : gu η) : ∀ {items : List PyData}, (∀ d ∈ items, ∀ Q : LV → LH → Prop, Q (.dat (.bool (p d))) η → gd (.dat d) ρ fun ρ' => f ρ' η Q) → K (if b0 = true then items.all p else items.any p) η → agLL b0 gd f ρ gu (items.map .dat) η K
  | [], _, k => ⟨hg, by cases b0 <;> exact k⟩
  | d :: ds, h, k => by
    refine ⟨hg, h d List.mem_cons_self _ ⟨p d, rfl, ?_⟩⟩
    cases b0 with
    | true =>
      cases hp : p d with
      | true => exact agl_fun hg (fun d hd => h d (List.mem_cons_of_mem _ hd)) (by simpa [hp] using k)
      | false => simpa [hp] using k
    | false =>
      cases hp : p d with
      | true => simpa [hp] using k
      | false => exact agl_fun hg (fun d hd => h d (List.mem_cons_of_mem _ hd)) (by simpa [hp] using k)
/-- {qk(x): qv(x) for x in items} -/
theorem dcl_fun' {fk : LE} {qk : PyData → Key} {q : PyData → PyData} {η : LH} {K : List (Key × LV) → LH → Prop} (hg : gu η) : ∀ {items : List PyData} {acc : List (Key × LV)}, (∀ d ∈ items, ∀ Q : LV → LV → LH → Prop, Q (.dat (keyD (qk d))) (.dat (q d)) η → gd (.dat d) ρ fun ρ' => fk ρ' η fun y η2 => f ρ' η2 (Q y)) → acc.length + items.length ≤ sizeLine → K (items.foldl (fun acc d => putA acc (qk d) (.dat (q d))) acc) η → dcLL gd yYes fk f ρ gu (items.map .dat) acc η K
  | [], acc, _, _, k => ⟨hg, k⟩
  | d :: ds, acc, h, hl, k => by
    simp only [List.length_cons] at hl
    refine ⟨hg, h d List.mem_cons_self (fun y x η3 => ∃ k, y = .dat (keyD k) ∧ acc.length < sizeLine ∧ dcLL gd yYes fk f ρ gu (ds.map .dat) (putA acc k x) η3 K) ⟨qk d, rfl, by omega, ?_⟩⟩
    refine dcl_fun' hg (fun d hd => h d (List.mem_cons_of_mem _ hd)) ?_ k
    have : (putA acc (qk d) (LV.dat (q d))).length ≤ acc.length + 1 := by
      unfold putA
      split <;> simp
    omega
end
end EL

set_option Elab.async false
set_option linter.all false
set_option maxRecDepth 100000
set_option maxHeartbeats 4000000
/-! try .. except C1 as n: .. except C2 as m: ..; the caught error stands in the abstract heap. -/
namespace QT
open PySem PySem.Spec PyProof.Rows L2 KT QY QZ
abbrev Cl : Type := Value × Nat × (Addr → TS)
/-- where a suite goes on: its name's slot is empty again -/
def endsAs (i : Nat) (D : Ends) : Ends := { nx := fun σ H => D.nx (σ.set i none) H, rt := D.rt, bk := fun σ H => D.bk (σ.set i none) H, ct := fun σ H => D.ct (σ.set i none) H }
/-- what the clauses wish of an error of the body -/
def wAll (K : PySem.W.Frag) (Wout : WX) (D : Ends) : List Cl → WX
  | [] => Wout
  | (c, i, ts) :: r => fun cls d σ H => ∃ b, PySem.W.exmOne K cls c = some b ∧ (b = true → ∃ C, cls = .ref C ∧ ∀ a, H a = none → ts a (endsAs i D) (σ.set i (some (.ref a))) (upd H a (exq a C d))) ∧ (b = false → wAll K Wout D r cls d σ H)
inductive HdsAs (X : Cx) : List ExceptHandler → List Cl → Prop
  | nil : HdsAs X [] []
  | cons {x n : Str} {c : Value} {i : Nat} {ts : Addr → TS} {b₀ : Stmt} {suite : List Stmt} {np pos' : Pos} {hds : List ExceptHandler} {l : List Cl} (hi : X.N[i]? = some n) (hln : X.env.kindOf n = some .local) (hc : Names X x c)
      (hsu : ∀ (a : Addr) (pn : List (Addr × Obj)), PSs (X.suite a pn) (b₀ :: suite) (ts a)) (r : HdsAs X hds l) : HdsAs X (.ExceptHandler (some (.Name x np)) (some n) (b₀ :: suite) pos' :: hds) ((c, i, ts) :: l)
section
variable {X : Cx} {pins : List (Addr × Obj)} {σ : L2.St} {H : Hp} {sI s s' : Shared} {B : Heap}
/-- into a suite, the error tracked -/
theorem Inv.caught {a C : Addr} {d : Option Addr} {oe : Obj} {vs : Array Value} (I : Inv X pins σ H sI) (nb : ∀ b o, sI.heap.get? b = some o → b ∉ frs X.stack → B.get? b = some o) (st : B.StaysIn s'.heap) (up : sI.heap.UpToSlots s'.heap) (os : s'.os = sI.os) (ag : AllBare s'.gens)
    (gB : B.get? a = none) (nf : a ∉ frs X.stack) (na : H a = none) (he : s'.heap.get? a = some oe) (hz : Zc (.ref C) d oe) (hv : oe.data = .fields vs) : Inv X pins σ (upd H a (exq a C d)) s' := by
  have gI : sI.heap.get? a = none := by
    cases e : sI.heap.get? a with
    | none => rfl
    | some o =>
      have := nb a o e nf
      rw [gB] at this
      cases this
  have ne : ∀ b o, sI.heap.get? b = some o → b ≠ a := fun b o e z => by
    rw [z, gI] at e
    cases e
  have fr : ∀ b ∈ frs X.stack, ∀ o, sI.heap.get? b = some o → ∃ sl, s'.heap.get? b = some { o with slots := sl } := fun b hb o e => by
    obtain ⟨_, oF, eF, hd⟩ := I.stack.mem hb
    cases e.symm.trans eF
    exact up b o e hd
  have hok0 : HOk X.prog X.w H s'.heap := (I.inGround nb).kept st
  refine I.call' (ch := []) os ⟨fun b o e _ hb _ => st b o (nb b o e hb), fun b o e _ hb _ => fr b hb o e, fun b o e n _ => by rw [upd_ne (ne b o e)]; exact n, fun b o e _ => ?_, fun b xs e => by rw [upd_ne (ne_of_none e na)]; exact e, fun b o u e => by rw [upd_ne (ne_of_none e na)]; exact e, fun b ps e => ⟨#[], by rw [upd_ne (ne_of_none e na), e]; simp⟩⟩ (fun b o e => ?_) ag (fun b z => nomatch z)
  · by_cases isF : b ∈ frs X.stack
    · obtain ⟨sl, q⟩ := fr b isF o e
      exact ⟨_, q⟩
    · exact ⟨o, st b o (nb b o e isF)⟩
  · by_cases hb : b = a
    · subst hb
      rw [upd_same] at e
      cases e
      exact ⟨⟨oe, he, hz, vs, hv⟩, ⟨oe, he⟩, fun _ _ ⟨o2, q, r⟩ k => ⟨o2, k _ q, r⟩⟩
    · rw [upd_ne hb] at e
      exact (hok0 b o e).stay (fun c v _ q => q) (fun c q => by rw [upd_ne (ne_of_none q na)]; exact q) fun c xs q => by rw [upd_ne (ne_of_none q na)]; exact q
theorem Inv.toSuite (I : Inv X pins σ H s) (a : Addr) : Inv (X.suite a (X.pn ++ pins)) [] σ H s where
  ok := I.ok.suite _ _
  os := I.os
  bare := I.bare
  base := I.base
  loc := I.loc
  cell := I.cell
  free := I.free
  freeC := I.freeC
  pin := fun q hq => I.pin q ((List.append_nil (X.pn ++ pins)) ▸ hq)
  hok := I.hok
  len := I.len
theorem Inv.ofSuite {a : Addr} {pn' : List (Addr × Obj)} (ok : X.Ok) (I : Inv (X.suite a (X.pn ++ pins)) pn' σ H s) : Inv X pins σ H s where
  ok := ok
  os := I.os
  bare := I.bare
  base := I.base
  loc := I.loc
  cell := I.cell
  free := I.free
  freeC := I.freeC
  pin := fun q hq => I.pin q (List.mem_append.mpr (.inl hq))
  hok := I.hok
  len := I.len
end
/-- an end told in one context, told in another -/
theorem sp_in {X Y : Cx} {ps qs : List (Addr × Obj)} {D : Ends} (go : ∀ σ H s, Inv Y ps σ H s → Inv X qs σ H s) : ∀ {f : Flow} {s : Shared}, SP Y ps D f s → SP X qs D f s
  | .next, _, ⟨_, _, j, q⟩ => ⟨_, _, go _ _ _ j, q⟩
  | .brk, _, ⟨_, _, j, q⟩ => ⟨_, _, go _ _ _ j, q⟩
  | .cont, _, ⟨_, _, j, q⟩ => ⟨_, _, go _ _ _ j, q⟩
  | .ret _, _, ⟨_, _, _, j, r, q⟩ => ⟨_, _, _, go _ _ _ j, r, q⟩
section
variable {X : Cx} {pins : List (Addr × Obj)} {σ : L2.St} {H : Hp} {D : Ends} {Wout : WX} {B : Heap} {a : Addr} {cls : Value} {d : Option Addr} {sI sE : Shared} {h : Heap}
/-- the error a has come down at the heap h; sI is the state without it -/
structure Down (X : Cx) (B : Heap) (a : Addr) (cls : Value) (d : Option Addr) (sI sE : Shared) (h : Heap) : Prop where
  fl : HandSPX.FlyingZ B (X.env :: X.outer) a (Zc cls d) h
  up : sI.heap.UpToSlots h
  gr : ∀ b o, sI.heap.get? b = some o → b ∉ frs X.stack → B.get? b = some o
  os : sE.os = sI.os
  ag : AllBare sE.gens
theorem Down.off (z : Down X B a cls d sI sE h) (hs : X.stack = X.env :: X.outer) : a ∉ frs X.stack := fun m => by
  obtain ⟨_, vs, e1, _, ed⟩ := z.fl.there
  rw [hs] at m
  obtain ⟨_, o2, e2, nf⟩ := z.fl.2.2.1.mem m
  cases e1.symm.trans e2
  exact nf vs ed
/-- no clause is left -/
theorem down_nil (hs : X.stack = X.env :: X.outer) (hf : X.env.frame = some X.env.locals) (tk : Takes X Wout) (z : Down X B a cls d sI sE h) (J : Inv X pins σ H sI) (na : H a = none) (wish : Wout cls d σ H) :
    wpAny (model X.prog X.w) X.A (handleBy (.ref a) X.env []) (SP X pins D) X.xe { sE with heap := h } := by
  have out : ∀ h4, HandSPX.HeldZ B (X.env :: X.outer) a (Zc cls d) X.env.locals h4 → h.UpToSlots h4 → X.xe (.ref a) { sE with heap := h4 } := fun h4 held up4 =>
    tk _ _ ⟨a, B, sI, pins, σ, H, cls, d, rfl, J, z.gr, z.up.trans up4, .inr (.inr (hs ▸ held)), na, z.os, z.ag, wish⟩
  have last : wpAny (model X.prog X.w) X.A (setFlight (.ref a) X.env.frame) (fun _ s4 => wpAny (model X.prog X.w) X.A (throw (.ref a) : Sem Flow) (SP X pins D) X.xe s4) X.xe { sE with heap := h } := by
    simp only [hf]
    exact HandSPX.setFlight_upZ z.fl fun h4 held up4 => wpAny_throw (out h4 held up4)
  obtain ⟨_, _, _, oa, fields, tbk, _, _, ea, _, ed, e1, _⟩ := z.fl
  have some_tb : ¬ ((Value.ref tbk == Value.none) = true) := by simp
  refine wpAny_handleBy_nil ?_
  unfold PySem.passOn
  refine wpAny_bind (wpAny_field ea ed e1 ?_)
  simp only [if_neg some_tb]
  first
    | exact wpAny_bind (wpAny_pure (wpAny_bind last))
    | exact wpAny_bind last
/-- what a clause's class is, asked where the error is handled -/
theorem names_at {x : Str} {c : Value} {np : Pos} {s : Shared} {Q : Value → Shared → Prop} {E : Value → Shared → Prop} {pn : List (Addr × Obj)} (S : Inv (X.suite a pn) [] σ H s) (hc : Names X x c) (q : Q c s) :
    wpAny (model X.prog X.w) (X.A.mark (some (.ref a))) (eval (.Name x np) X.env) Q E s := by
  rcases hc with ⟨g, db, own | ⟨nil, boot, nn⟩⟩
  · exact ld_glob (X := X.suite a pn) S g own q db
  · exact ld_blt (X := X.suite a pn) S g nil boot q nn db
/-- the clauses, one behind another -/
theorem down_all (hs : X.stack = X.env :: X.outer) (hf : X.env.frame = some X.env.locals) (hN : X.N.Nodup) (tk : Takes X Wout) (ok : X.Ok) (J : Inv X pins σ H sI) (na : H a = none) (z : Down X B a cls d sI sE h) (J3 : Inv X pins σ H { sE with heap := h }) :
    ∀ {cs : List ExceptHandler} {l : List Cl}, HdsAs X cs l → wAll X.K Wout D l cls d σ H → wpAny (model X.prog X.w) X.A (handleBy (.ref a) X.env cs) (SP X pins D) X.xe { sE with heap := h }
  | _, _, .nil, wish => down_nil hs hf tk z J na wish
  | _, _, .cons (x := x) (n := n) (i := i) (ts := ts) (pos' := pos') (hds := more) hi hln hc hsu r, ⟨b, kb, yes, no⟩ => by
    obtain ⟨oa, _, ea, za, _⟩ := z.fl.there
    have kind : PySem.W.Looks (model X.prog X.w) h (typeOf (.ref a)) cls := fun A Q E s k q => by
      refine wpAny_typeOf_ref (k _ _ ea) ?_
      rw [za.1]
      exact q
    have S3 := Inv.toSuite J3 a
    refine wpAny_handleBy_cons (codeAny_handlers_test (names_at S3 hc ((PySem.W.exm_one (M := model X.prog X.w) J3.kIn kind kb).here ?_))) (fun q => nomatch q)
    match b, yes, no with
    | false, _, no => exact down_all hs hf hN tk ok J na z J3 r (no rfl)
    | true, yes, _ =>
      obtain ⟨C, rfl, body⟩ := yes rfl
      refine codeAny_handlers_suite_as (HandSPX.lands_againZ z.fl fun h4 fl4 up4 => ?_)
      obtain ⟨o4, _, e4, z4, d4⟩ := fl4.there
      have J4 : Inv X pins σ (upd H a (exq a C d)) { sE with heap := h4 } := Inv.caught (s' := { sE with heap := h4 }) J z.gr fl4.1 (z.up.trans up4) z.os z.ag fl4.2.1 (z.off hs) na e4 z4 d4
      refine store_ok (X := X.suite a (X.pn ++ pins)) (v := .ref a) (Inv.toSuite J4 a) hN hi (.inl hln) rfl (fun s5 S5 => ?_) (.inr hln)
      refine wpAny_mono ((hsu a (X.pn ++ pins)).run [] s5 _ _ _ S5 (body a na)) (fun f s6 e6 => ?_) (fun _ _ no => no.elim)
      have gone : ∀ {σ6 : L2.St} {H6 : Hp} {Q : Shared → Prop}, Inv (X.suite a (X.pn ++ pins)) [] σ6 H6 s6 → (∀ s7, Inv X pins (σ6.set i none) H6 s7 → Q s7) →
          wpAny (model X.prog X.w) X.A (do bindName X.env n .none; unbindBehindTheSuite X.env n pos') (fun _ s7 => Q s7) X.xe s6 := fun {σ6 H6 Q} S6 hq => gone_ok (Q := fun _ s7 => Q s7) (Inv.ofSuite ok S6) hN hi hln hq
      match f, e6 with
      | .next, ⟨_, _, S6, q⟩ => exact gone S6 fun _ j => ⟨_, _, j, q⟩
      | .brk, ⟨_, _, S6, q⟩ => exact gone S6 fun _ j => ⟨_, _, j, q⟩
      | .cont, ⟨_, _, S6, q⟩ => exact gone S6 fun _ j => ⟨_, _, j, q⟩
      | .ret _, ⟨_, _, _, S6, rv, q⟩ => exact gone S6 fun _ j => ⟨_, _, _, j, rv, q⟩
end
section
variable {X : Cx} {body : List Stmt} {h₀ : ExceptHandler} {hds : List ExceptHandler} {l : List Cl} {pos : Pos} {tb : WX → TS} {Wout : WX}
/-- the body of a try, told for any wish that its own context takes -/
def BodyAs (X : Cx) (body : List Stmt) (tb : WX → TS) : Prop := ∀ (W : WX) (pn : List (Addr × Obj)) (xe : Value → Shared → Prop), Takes (X.tr pn xe) W → PassesOwn (model X.prog X.w) X.A X.env xe → PSs (X.tr pn xe) body (tb W)
theorem ps_try_all (hs : X.stack = X.env :: X.outer) (hf : X.env.frame = some X.env.locals) (hN : X.N.Nodup) (tk : Takes X Wout) (told : BodyAs X body tb) (hh : HdsAs X (h₀ :: hds) l) :
    PS X (.Try body (h₀ :: hds) [] [] pos) (fun D σ H => tb (wAll X.K Wout D l) D σ H) where
  run := fun pins s σ H D I wish => by
    have ok := I.ok
    refine wpAny_Try_except ?_
    refine wpAny_mono ((told (wAll X.K Wout D l) (X.pn ++ pins) _ (fun u s' air => ?_) PassesOwn.looking).run [] s σ H D (I.toTry _) wish) (fun f s1 e => ?_) (fun _ _ e => e)
    · obtain ⟨a, B, sI, pins', σ', H', cls, d, rfl, J', gr, up, sky, na, os, ag, w⟩ := air
      have jI := J'.ofTry ok
      have two : X.A.frames = some (X.env :: X.outer) := ok.frames.trans (congrArg some hs)
      refine Sky.land Zc.steady two hf (hs ▸ sky) fun h3 fl3 up3 => ?_
      exact down_all hs hf hN tk ok jI na ⟨fl3, up.trans up3, gr, os, ag⟩ (jI.landed gr fl3.1 (up.trans up3) os ag) hh w
    · have here : SP X pins D f s1 := sp_in (fun _ _ _ j => j.ofTry ok) e
      cases f with
      | next => exact wpAny_execs_nil here
      | _ => exact here
end
end QT

set_option Elab.async false
set_option linter.all false
set_option maxRecDepth 100000
set_option maxHeartbeats 4000000
/-! A lambda handed to a def, over data: all but the maker's own table stays. -/
namespace LB
open PySem PySem.Spec PyProof.Rows L2 KT KG KX KY KZ KE0 KQ LK GxR DL LamX QY QZ QB QE QF QT
/-- all but what is at P -/
def Rest (P : Addr) (H H' : Hp) : Prop := ∀ b o, b ≠ P → H b = some o → H' b = some o
section
variable {X : Cx} {pins : List (Addr × Obj)} {σ : L2.St} {H : Hp} {s : Shared}
theorem lam_mk {c P : Addr} {q : Str} {pms : Arguments} {bdy : Expr} {sco : Scope} {pos : Pos} {E : Value → Shared → Prop} {Q : Value → Shared → Prop} (I : Inv X pins σ H s) (TB : LamX.TabB X.base X.mg c P) (hcode : X.env.code = .ref c) (hq : q = X.env.qual ++ "<lambda>") (hT : TabS H P q)
    (hdef : defaultsOf pms X.env = ([], [])) (hfree : ∀ y ∈ sco.names, y.2 = .free → ∃ c, X.env.cells.lookup y.1 = some c)
    (k : ∀ (f c' : Addr) (pm ctv : Value) (H1 : Hp) (s' : Shared), Inv X pins σ H1 s' → Rest P H H1 → TabS H1 P q → s'.heap.get? f = some (PySem.W.kla_obj "<lambda>" q pms bdy sco (cloFrom X.env.cells sco.names []) pm c' ctv) → H1 f = none → f ∉ frs X.stack → H1 c' = some (CodeO c' q) → Q (.ref f) s') :
    wpAny (model X.prog X.w) X.A (eval (.Lambda pms bdy sco pos) X.env) Q E s := by
  subst hq
  obtain ⟨ps, hP, ht, ha⟩ := hT
  have gP := I.hok P _ hP
  have out : ∀ f, s.heap.objs.size ≤ f → f ∉ frs X.stack := fun f hf z => by
    rcases List.mem_cons.mp (I.stkSub _ z) with rfl | e
    · exact absurd I.lt (Nat.not_lt.mpr hf)
    · exact I.nofs hf e
  refine PySem.W.kla_eval hdef ?_; cases hc : codeAmong pos ps.toList with
  | some cv =>
    obtain ⟨c', rfl, hco⟩ := ha pos cv hc
    refine PySem.W.kla_makeFunctionHit (mg := X.mg) (c := c) (P := P) (ps := ps) (closure_ok hfree) I.ok.glob (I.mod.glob.keeps I.bk) hcode (TB.code.keeps I.bk) gP ht hc (TB.bm.keeps I.bk) fun ctv h' tk hx hsz => ?_
    exact k _ c' _ ctv H _ (I.kept fun b o e => Heap.get?_push_of_some _ (hx b o e)) (fun _ _ _ e => e) ⟨ps, hP, ht, ha⟩ (Heap.get?_push_size _ rfl) (I.hok.fresh hsz) (out _ hsz) hco
  | none =>
    refine PySem.W.kla_makeFunction (mg := X.mg) (c := c) (P := P) (ps := ps) (closure_ok hfree) I.ok.glob (I.mod.glob.keeps I.bk) hcode (TB.code.keeps I.bk) gP ht hc TB.gP (TB.bm.keeps I.bk) fun c' ctv h' tk hx hge hlt hrec htb => ?_
    obtain ⟨c0, oc, vs, tt, z0, hoc, hd, hv⟩ := hrec
    cases z0
    have big : s.heap.objs.size ≤ h'.objs.size := Nat.le_of_lt (Nat.lt_of_le_of_lt hge hlt)
    have nc : H c' = none := I.hok.fresh hge
    have up : ∀ b o, b ≠ P → H b = some o → upd (upd H P (.tbl (ps ++ #[rawInt pos.line, rawInt pos.col, .ref c']))) c' (CodeO c' (X.env.qual ++ "<lambda>")) b = some o := fun b o n e => by
      rw [upd_ne (ne_of_none e nc), upd_ne n]
      exact e
    refine k h'.objs.size c' ((X.mg "__name__").getD .none) ctv _ _ (inv_table (t' := tk) (more := #[rawInt pos.line, rawInt pos.col, .ref c']) (h' := h'.push (PySem.W.kla_obj "<lambda>" (X.env.qual ++ "<lambda>") pms bdy sco (cloFrom X.env.cells sco.names []) ((X.mg "__name__").getD .none) c' ctv)) I hP
      (fun b o n e => Heap.get?_push_of_some _ (hx b o n e)) (Heap.get?_push_of_some _ htb) hge ⟨oc, vs, tt, Heap.get?_push_of_some _ hoc, hd, hv⟩) up ⟨_, by rw [upd_ne (ne_of_none hP nc), upd_same], ?_, fun p' cv hcv => ?_⟩ (Heap.get?_push_size _ rfl) ?_ (out _ big) upd_same
    · have e : (ps ++ #[rawInt pos.line, rawInt pos.col, .ref c']).toList = ps.toList ++ [rawInt pos.line, rawInt pos.col, .ref c'] := by simp
      rw [e]
      exact PySem.TriplesOk_snoc _ _ _ _ ht
    · have e : (ps ++ #[rawInt pos.line, rawInt pos.col, .ref c']).toList = ps.toList ++ [rawInt pos.line, rawInt pos.col, .ref c'] := by simp
      rw [e] at hcv
      rcases among_app _ ht hcv with z | rfl
      · obtain ⟨c0, rfl, e2⟩ := ha p' _ z
        refine ⟨c0, rfl, up c0 _ (fun y => ?_) e2⟩
        rw [y, hP] at e2
        exact codeO_ne ps (Option.some.inj e2).symm
      · exact ⟨c', rfl, upd_same⟩
    · rw [upd_ne (Nat.ne_of_gt hlt), upd_ne (Nat.ne_of_gt (Nat.lt_of_lt_of_le (Heap.lt_size gP) big))]
      exact I.hok.fresh big
end
/-- x(lambda: ..): the maker's table, then what x makes of the lambda -/
def tLm (P : Addr) (q : Str) (TT : (XK → Hp → VK → Prop) → Hp → VK → Prop) (t : XK → TE) : TE := fun σ H Q => TabS H P q ∧ ∀ H1, Rest P H H1 → TabS H1 P q → TT (fun E H' Q' => t E σ H' Q') H1 Q
section
variable {X : Cx}
theorem pe_lm {TT : (XK → Hp → VK → Prop) → Hp → VK → Prop} {x a q : Str} {g c P : Addr} {k : Nat} {st : Stmt} {fd : FuncData} {Ng : List Str} {pms : Arguments} {bdy : Expr} {sco : Scope} {t : XK → TE} {p pl pos : Pos} (hg : Gl X x) (hm : X.mg x = some (.ref g))
    (F : FnP X.K x st g fd) (hb : L2.Binds X.K fd [a] []) (Sg : FnScope Ng [a] (defScope st)) (hNg : Ng[0]? = some a) (hva : Vis (defScope st) a) (hq : q = X.env.qual ++ "<lambda>") (hG : ∀ cdv, GivesTo X Ng x (defScope st) g cdv (defBody st) a q TT)
    (TB : LamX.TabB X.base X.mg c P) (hcode : X.env.code = .ref c) (hr : Room (k + 2) X.A) (L : LamS X.env.scope sco) (hdef : defaultsOf pms X.env = ([], [])) (hbind : ∀ (q : Str) (cl : List (Str × Addr)) (pm cv ctv : Value), bindArgs (PySem.W.kla_fn "<lambda>" q pms bdy sco cl pm cv ctv) ⟨[], []⟩ = pure [])
    (hbody : ∀ (A : Around) (outer : List Env) (s : Shared) (H : Hp) (E : XK) (f c' : Addr), Room k (A.deeper (lamEnv X sco s.heap.objs.size f c')) → PE (lamCx X A outer s H E sco f c') bdy (t E))
    (hdb : (x == ("__debug__" : Str)) = false := by decide) (hd : (a == ("__debug__" : Str)) = false := by decide) (hcd : (a == ("__classdict__" : Str)) = false := by decide) : PE X (.Call (.Name x p) [.Lambda pms bdy sco pl] [] pos) (tLm P q TT t) := by
  obtain ⟨oc, od, kV, doc, pm, an, cdv, ct, osl, rfl, lk, hcg⟩ := (fun_of F).ex
  refine ⟨fun pins s σ H Q I ⟨hT, h⟩ => wpAny_Call_Name_kw (ld_glob I hg hm ?_ hdb)⟩
  refine PySem.W.callWith_K (h₀ := X.base) I.ok.mod.kin F.kp ?_ (by rfl) (by rfl)
  show wpAny _ _ (spliced ((false, eval (.Lambda pms bdy sco pl) X.env) :: backTo pos (starEach [] X.env))) _ _ s
  refine Calls.spliced_cons (lam_mk I TB hcode hq hT hdef (L.has I.ok) fun f c' pm' ctv H1 s' I1 eN T1 hf hfn hfr hco => Calls.spliced_nil ⟨I1.kIn, ?_⟩)
  have run : codeAny (model X.prog X.w) X.A (.call (.ref g) ⟨[.ref f], []⟩) (CR C8.CX0 X.stack X.prog X.w H1 s' Q C8.E0) s' := by
    refine run_ofS (N := Ng) (ps := [a]) (us := [.ref f]) (vs := [.ref f]) lk hcg Sg hr I1.env0 (hb s' [.ref f] I1.kIn rfl) (.cons rfl .nil) rfl fun hr' => ?_
    obtain ⟨t', ht', hq'⟩ := hG _ f c' s' H1 Q (fun E H' Q' => t E σ H' Q') (fun W pn xe E p1 p2 tk hW => by
      subst hq
      exact pe_act (i := 0) I1 L hf hfn hfr (hbind _ _ _ _ _) tk hW hr' (fun A outer s H hr2 => hbody A outer s H E f c' hr2) hNg hva hd hcd) hco (h H1 eN T1)
    exact ⟨t', ht'.nox, hq'⟩
  refine wpAny_call (codeAny_mono run fun r s2 hq => ?_)
  match r, hq with
  | .ok (.ret u), hq => exact I1.after hq
end
section
variable {P : Program} {w : World} {K : PySem.W.Frag} {mg : Str → Option Value} {base : Heap}
/-- KT's okG, the code object told -/
theorem okGC {x : Str} {st : Stmt} {fd : FuncData} {N ps : List Str} {k : Nat} {sp : Sp} (F : Fun K x x st (He.fAd K (x, none)) fd) (S : FnScope N ps (defScope st)) (len : ∀ vs H Q E, sp vs H Q E → vs.length = ps.length)
    (hbody : ∀ (cdv : Value) (A : Around) (outer : List Env) (s : Shared) (H : Hp) (vs : List V) (Q : VK) (E : XK), cdv = .ref (He.codeOf K (x, none)) → A.guards = some [] → Room k (A.deeper (envOfC x (defScope st) s.heap.objs.size (He.fAd K (x, none)) cdv)) → sp vs H Q E →
      ∃ t, PSs (cxOf CX0 P w K mg base N x (defScope st) (He.fAd K (x, none)) cdv A outer s H E).nox (defBody st) t ∧ t { nx := fun _ H' => Q .non H', rt := Q } (start N vs) H) : FnG P w K mg base (k + 1) (He.fAd K (x, none)) fd ps sp := by
  obtain ⟨oc, od, kV, doc, pm, an, cdv, ct, osl, rfl, lk, hcd⟩ := F.ex
  have told : cdv = .ref (He.codeOf K (x, none)) := by
    obtain ⟨c, ec⟩ := He.codeIn_ref hcd
    rw [He.codeOf_eq lk ec, ec]
  refine ⟨len, fun A outer s H args us vs Q E hA hr e0 hb r hsp => ?_⟩
  have KX : K.In s.heap := e0.mod.kin.keeps fun b o e => (e0.bs b o e).1
  have knd : ∀ y ∈ ps.zip us, (defScope st).names.lookup y.1 = some .local ∨ ((defScope st).names.lookup y.1 = some .cell ∧ ((cellsFrom (s.heap.objs.size + 1) (defScope st).names []).lookup y.1).isSome = true) := by
    rintro ⟨n, v⟩ hy
    exact (S.par n (List.of_mem_zip hy).1).imp id fun q => ⟨q, PySem.W.cellsFrom_some _ _ _ (.inl q)⟩
  refine codeAny_call_function hr.depth (KX _ _ lk) rfl S.co S.gen rfl (PySem.W.codeRec_of KX hcd) (hb _ _ _ _ (wpAny_newFunctionEnv_cells S.kind knd fun env he s1 x1 => ?_))
  subst he
  obtain ⟨t, ht, hq⟩ := hbody cdv A outer s H vs Q E told hA (hr.deeper _) hsp
  have J := inv_start (CX := CX0) (E := E) (mg := mg) (cd := cdv) (f := He.fAd K (x, none)) (qual := x) S hr.hd e0 (len _ _ _ _ hsp) r x1
  refine ⟨(e0.mod.nolimit.keeps fun b o e => (e0.bs b o e).1).keeps x1.toInCall.keep, codeAny_func (wpAny_mono (ht.nox.run [] s1 (start N vs) H _ J hq) (fun fl s' hs => ?_) fun e s' z => z)⟩
  have done : ∀ {σ' : L2.St} {H' : Hp} {v : V} {u : Value}, Inv (cxOf CX0 P w K mg base N x (defScope st) (He.fAd K (x, none)) cdv A outer s H E) [] σ' H' s' → RelV v u → Q v H' → CE outer P w H s Q u s' := fun j rv q => ⟨_, _, j.os, j.bare, j.base, j.hok, rv, q⟩
  cases fl with
  | ret u =>
    obtain ⟨v, σ', H', j, rv, q⟩ := hs
    exact done j rv q
  | next =>
    obtain ⟨σ', H', j, q⟩ := hs
    exact done (v := V.non) (u := Value.none) j rfl q
  | brk => exact hs.elim fun _ z => z.elim fun _ z => z.2.elim
  | cont => exact hs.elim fun _ z => z.elim fun _ z => z.2.elim
end
section
variable {X : Cx} {W : Wd}
/-- {i: z} -/
theorem df_disp1 {i : Int} {z : Str} {k v : Expr} {pos : Pos} (hk : PE X k (tC (.int i))) (hv : PE X v (tC (.str z))) : PE X (.Dict [some k] [v] pos) (tFr W fun _ K => K (.dk [(.inl i, .str z)])) :=
  (pe_disp (pps_cons hk hv pps_nil) rfl rfl (by simp) (by show 1 ≤ 15; decide)).imp fun σ H Q ⟨M, ρ, K, ge, k, c⟩ => fun p np => ⟨upd_same, [(.inl i, .str z)], rfl, by show 1 ≤ 15; decide, by
    rw [upd_upd]
    exact c _ k p (.dK [(.inl i, .str z)]) H .refl np (.dk rfl (.cons (Dx.str z) .nil))⟩
end
end LB

set_option Elab.async false
set_option linter.all false
set_option maxRecDepth 100000
set_option maxHeartbeats 1000000
/-! Errors held, try .. except, lambdas handed to a def that tries them. -/
namespace EL
open PySem PySem.Spec PyProof.Rows L2 KT KG KX KY KE0 KQ LK GxR DL QY QZ QB QE QF QT LB LamX
open He (ga ma)
/-- what is known of some classes of errors -/
structure ErsOk (P : Program) (w : World) (K : PySem.W.Frag) (mg : Str → Option Value) (base : Heap) (ers : List Str) : Prop where
  e : ∀ x ∈ ers, ∃ fd, Eq1 P w K mg base x (fld x) fd
  qu : mg "QuickError" = some (.ref (ga K "QuickError"))
  exq : ∀ x ∈ ers, PySem.W.exmOne K (.ref (ga K x)) (.ref (ga K "QuickError")) = some true
  exx : ∀ x ∈ ers, ∀ y ∈ ers, PySem.W.exmOne K (.ref (ga K x)) (.ref (ga K y)) = some (x == y)
  kiq : ∀ x ∈ ers, PySem.W.kitOne K (.ref (ga K x)) (.ref (ga K "QuickError")) = some true
  kit : ∀ x ∈ ers, ∀ y ∈ ers, PySem.W.kitOne K (.ref (ga K x)) (.ref (ga K y)) = some (x == y)
/-- is an error of class c one of x -/
def isKind (c x : Str) : Bool := (x == "QuickError") || (c == x)
section
variable {P : Program} {w : World} {K : PySem.W.Frag} {mg : Str → Option Value} {base : Heap} {ers : List Str}
theorem ErsOk.ex (E : ErsOk P w K mg base ers) {c x : Str} (hc : c ∈ ers) (hx : x ∈ ers ∨ x = "QuickError") (nq : ∀ y ∈ ers, (y == ("QuickError" : Str)) = false) : PySem.W.exmOne K (.ref (ga K c)) (.ref (ga K x)) = some (isKind c x) := by
  unfold isKind
  rcases hx with hx | rfl
  · rw [nq x hx, Bool.false_or]
    exact E.exx c hc x hx
  · rw [E.exq c hc, beq_self_eq_true, Bool.true_or]
theorem ErsOk.ki (E : ErsOk P w K mg base ers) {c x : Str} (hc : c ∈ ers) (hx : x ∈ ers ∨ x = "QuickError") (nq : ∀ y ∈ ers, (y == ("QuickError" : Str)) = false) : PySem.W.kitOne K (.ref (ga K c)) (.ref (ga K x)) = some (isKind c x) := by
  unfold isKind
  rcases hx with hx | rfl
  · rw [nq x hx, Bool.false_or]
    exact E.kit c hc x hx
  · rw [E.kiq c hc, beq_self_eq_true, Bool.true_or]
end
section
variable {X : Cx} {W : Wc} {S0 : Stt} {e : Expr} {pos : Pos} {f : LE} {ers : List Str}
theorem err_xo {S : Stt} {v : V} {c : Str} {d : PyData} (r : RelLV W S v (.err c d)) : ∃ a z, v = .ref a ∧ Xo S.H a (ga W.K c) (fld c) z ∧ Dx S.M S.H z d := by
  obtain ⟨a, dx, fs, z, rfl, _, _, h1, h2, hl, hd⟩ := r
  exact ⟨a, z, rfl, ⟨dx, fs, h1, h2, hl⟩, hd⟩
/-- isinstance(e, x) of an error -/
def xIsErr (ers : List Str) (f : LE) (x : Str) : LE := fun ρ η K => f ρ η fun v η1 => ∃ c d, v = .err c d ∧ c ∈ ers ∧ K (.dat (.bool (isKind c x))) η1
theorem le_isErr {x : Str} (Er : ErsOk X.prog X.w X.K X.mg X.base ers) (nq : ∀ y ∈ ers, (y == ("QuickError" : Str)) = false) (hK : W.K = X.K) (hx : x ∈ ers ∨ x = "QuickError") (hh : PE X e (tCB (rIsQ X.K) (tCons (tL W S0 f) (tCons (tC (.ref (ga X.K x))) tNil)))) : PE X e (tL W S0 (xIsErr ers f x)) := hh.imp fun σ H Q h => by
  obtain ⟨S, ρ, K, rfl, k, sl, h, c⟩ := h
  refine ⟨S, ρ, _, rfl, k, sl, h, fun lv S1 e1 k1 hv v r1 => ?_⟩
  obtain ⟨cc, d, rfl, hc, hk⟩ := hv
  obtain ⟨a, z, rfl, xo, _⟩ := err_xo r1
  obtain ⟨fd, E⟩ := Er.e cc hc
  rw [hK] at xo
  exact ⟨a, _, _, _, z, _, _, _, rfl, xo, E.c, E.i, .own _, Er.ki hc hx nq, c (.dat (.bool _)) S1 e1 k1 hk (.bl _) (show RelLV W S1 (.bl _) (.dat (.bool _)) from Dx.bl _)⟩
/-- e.thing, e.at -/
def xErrF (ers : List Str) (f : LE) (n : Str) : LE := fun ρ η K => f ρ η fun v η1 => ∃ c d, v = .err c d ∧ c ∈ ers ∧ fld c = n ∧ K (.dat d) η1
theorem le_errF {n : Str} (Er : ErsOk X.prog X.w X.K X.mg X.base ers) (hK : W.K = X.K) (hh : PE X e (tQf X.K n (tL W S0 f))) : PE X e (tL W S0 (xErrF ers f n)) := hh.imp fun σ H Q h => by
  obtain ⟨S, ρ, K, rfl, k, sl, h, c⟩ := h
  refine ⟨S, ρ, _, rfl, k, sl, h, fun lv S1 e1 k1 hv v r1 => ?_⟩
  obtain ⟨cc, d, rfl, hc, rfl, hk⟩ := hv
  obtain ⟨a, z, rfl, xo, hd⟩ := err_xo r1
  obtain ⟨fd, E⟩ := Er.e cc hc
  rw [hK] at xo
  exact ⟨a, _, _, z, rfl, E.c, xo, c (.dat d) S1 e1 k1 hk z hd⟩
/-- the same, its facts told apart from the context -/
theorem le_isErr' {x : Str} {Pg : Program} {w : World} {K : PySem.W.Frag} {mg : Str → Option Value} {base : Heap} {np pos' : Pos} (Er : ErsOk Pg w K mg base ers) (nq : ∀ y ∈ ers, (y == ("QuickError" : Str)) = false) (hx : x ∈ ers ∨ x = "QuickError") (he : PE X e (tL W S0 f)) (hm : mg x = some (.ref (ga K x))) (T : mg "isinstance" = none)
    (hP : X.prog = Pg) (hw : X.w = w) (hKK : X.K = K) (hmg : X.mg = mg) (hb : X.base = base) (hK : W.K = X.K) (hgi : Gl X "isinstance") (hgx : Gl X x) (hdb : (x == ("__debug__" : Str)) = false)
    (h1 : starEach [e, .Name x np] X.env = (false, eval e X.env) :: starEach [.Name x np] X.env) (h2 : starEach [.Name x np] X.env = (false, eval (.Name x np) X.env) :: starEach [] X.env) (h3 : (backTo pos' (starEach [.Name x np] X.env)).any (·.1) = false) : PE X (.Call (.Name "isinstance" pos) [e, .Name x np] [] pos') (tL W S0 (xIsErr ers f x)) := by
  subst hP hw hKK hmg hb
  exact le_isErr Er nq hK hx (pe_callB call_isQ hgi T (by decide +kernel) (pa_cons he (pa_cons (pe_glob (v := .ref (ga X.K x)) hgx hm rfl hdb) pa_nil h2) h1) (by decide) (by decide) h1 h3)
theorem le_errF' {n : Str} {Pg : Program} {w : World} {K : PySem.W.Frag} {mg : Str → Option Value} {base : Heap} (Er : ErsOk Pg w K mg base ers) (he : PE X e (tL W S0 f)) (hP : X.prog = Pg) (hw : X.w = w) (hKK : X.K = K) (hmg : X.mg = mg) (hb : X.base = base) (hK : W.K = X.K)
    (ha : attributeBase e n X.env (eval e X.env) = eval e X.env) : PE X (.Attribute e n pos) (tL W S0 (xErrF ers f n)) := by
  subst hP hw hKK hmg hb
  exact le_errF Er hK (pe_qf he ha)
/-! ### try .. except .. as n -/
abbrev KErrS := Str → PyData → LEnv → LH → Prop
def LnkS (W : Wc) (S0 : Stt) (KS : KErrS) (Wi : WX) : Prop := ∀ c d ρ S σ v dd, KS c d ρ S.η → Cl W S0 S → Slots W S σ ρ → ¬ S.M dd → Dx S.M S.H v d → S.H dd = some (.xd [(fld c, v)]) → Wi (.ref (ga W.K c)) (some dd) σ S.H
def endE (i : Nat) (E : LEnds) : LEnds := { E with nx := fun ρ η => E.nx (ρ.set i none) η, bk := fun ρ η => E.bk (ρ.set i none) η, ct := fun ρ η => E.ct (ρ.set i none) η }
def hdlL (ers : List Str) : List (Str × Nat × LS) → LEnds → KErrS
  | [], _, _, _, _, _ => False
  | (x, i, g) :: r, E, c, d, ρ, η => c ∈ ers ∧ iteB (isKind c x) (g (endE i E) (ρ.set i (some (.err c d))) η) (hdlL ers r E c d ρ η)
def zTry (ers : List Str) (gb : KErrS → LS) (hl : List (Str × Nat × LS)) : LS := fun E ρ η => gb (hdlL ers hl E) { E with n := η.length } ρ η
theorem endE_le {S0 : Stt} {L : List (V × LV)} {E : LEnds} {D : Ends} {i : Nat} (le : LeL W S0 L E D) : LeL W S0 L (endE i E) (endsAs i D) :=
  ⟨fun gd h => le.nx ⟨gd.k0, gd.x, gd.k, gd.s.unset, gd.live⟩ h, fun gd h => le.bk ⟨gd.k0, gd.x, gd.k, gd.s.unset, gd.live⟩ h, fun gd h => le.ct ⟨gd.k0, gd.x, gd.k, gd.s.unset, gd.live⟩ h, le.rt, le.n⟩
theorem hdl_ok {Wout : WX} {L : List (V × LV)} {E : LEnds} {D : Ends} (Er : ErsOk X.prog X.w X.K X.mg X.base ers) (nq : ∀ y ∈ ers, (y == ("QuickError" : Str)) = false) (hK : W.K = X.K) {c : Str} {d : PyData} {σ : L2.St} {ρ : LEnv} {S : Stt} {v : V} {dd : Addr} (g : GoodS W S0 L S σ ρ) (nM : ¬ S.M dd) (dx : Dx S.M S.H v d) (hd : S.H dd = some (.xd [(fld c, v)])) (le : LeL W S0 L E D) :
    ∀ hl : List (Str × Nat × LS), (∀ p ∈ hl, p.1 ∈ ers ∨ p.1 = "QuickError") → hdlL ers hl E c d ρ S.η → wAll X.K Wout D (hl.map fun p => (.ref (ga X.K p.1), p.2.1, fun _ => tLS W S0 p.2.2)) (.ref (ga X.K c)) (some dd) σ S.H
  | [], _, h => h.elim
  | (x, i, gh) :: r, hm, h => by
    obtain ⟨hc, h⟩ := h
    refine ⟨isKind c x, Er.ex hc (hm _ List.mem_cons_self) nq, fun hb => ⟨ga X.K c, rfl, fun a ha => ?_⟩, fun hb => ?_⟩
    · rw [hb] at h
      have s : Stp W S.H (upd S.H a (exq a (ga X.K c) (some dd))) := .new ha
      have g2 := g.ext (.stp s) (g.k.stp s)
      have ne : dd ≠ a := ne_of_none hd ha
      have rv : RelLV W { S with H := upd S.H a (exq a (ga X.K c) (some dd)) } (.ref a) (.err c d) := by
        refine ⟨a, dd, [(fld c, v)], v, rfl, fun z => g.k.all a z ha, nM, .inr ?_, .inr ?_, ?_, Ext.dx g.k (.stp s) dx⟩
        · rw [hK]
          exact upd_same
        · show upd S.H a _ dd = _
          rw [upd_ne ne]
          exact hd
        · simp [List.lookup_cons]
      exact ⟨L, { S with H := upd S.H a (exq a (ga X.K c) (some dd)) }, ρ.set i (some (.err c d)), endE i E, rfl, ⟨g2.k0, g2.x, g2.k, g2.s.set rv, g2.live⟩, h, endE_le le⟩
    · rw [hb] at h
      exact hdl_ok Er nq hK g nM dx hd le r (fun p hp => hm p (List.mem_cons_of_mem _ hp)) h
theorem ls_try {body : List Stmt} {h₀ : ExceptHandler} {hds : List ExceptHandler} {gb : KErrS → LS} {hl : List (Str × Nat × LS)} {Wout : WX} (Er : ErsOk X.prog X.w X.K X.mg X.base ers) (nq : ∀ y ∈ ers, (y == ("QuickError" : Str)) = false) (hK : W.K = X.K) (hm : ∀ p ∈ hl, p.1 ∈ ers ∨ p.1 = "QuickError") (hs : X.stack = X.env :: X.outer) (hf : X.env.frame = some X.env.locals) (hN : X.N.Nodup) (tk : Takes X Wout)
    (told : ∀ (S1 : Stt) (x1 : Ext W S0 S1) (k1 : Cl W S1 S1) (Wi : WX) (pn : List (Addr × Obj)) (xe : Value → Shared → Prop) (KS : KErrS), Takes (X.tr pn xe) Wi → PassesOwn (model X.prog X.w) X.A X.env xe → LnkS W S1 KS Wi → PSs (X.tr pn xe) body (tLS W S1 (gb KS)))
    (hh : HdsAs X (h₀ :: hds) (hl.map fun p => (.ref (ga X.K p.1), p.2.1, fun _ => tLS W S0 p.2.2))) : PS X (.Try body (h₀ :: hds) [] [] pos) (tLS W S0 (zTry ers gb hl)) := by
  refine (ps_try_all (tb := fun Wi D σ H => ∃ S1 KS, Ext W S0 S1 ∧ Cl W S1 S1 ∧ LnkS W S1 KS Wi ∧ tLS W S1 (gb KS) D σ H) hs hf hN tk (fun Wi pn xe tk ps => ⟨fun pins s σ H D I ⟨S1, KS, x1, k1, h1, h2⟩ => (told S1 x1 k1 Wi pn xe KS tk ps h1).run pins s σ H D I h2⟩) hh).imp fun D σ H ⟨L, S, ρ, E, eH, gd, h, le⟩ => ?_
  subst eH
  have kS : Cl W S S := { gd.k with x0 := .refl }
  have back : ∀ {S2 : Stt} {σ2 ρ2}, GoodS W S L S2 σ2 ρ2 → GoodS W S0 L S2 σ2 ρ2 := fun g2 => ⟨gd.k0, gd.x.trans g2.x, { g2.k with x0 := gd.x.trans g2.k.x0 }, g2.s, g2.live⟩
  refine ⟨S, hdlL ers hl E, gd.x, kS, fun c d ρ2 S2 σ2 v dd hk k2 sl2 nM dx hd => ?_, L, S, ρ, { E with n := S.η.length }, rfl, ⟨kS, .refl, kS, gd.s, gd.live⟩, h, ⟨fun g2 h2 => le.nx (back g2) h2, fun g2 h2 => le.bk (back g2) h2, fun g2 h2 => le.ct (back g2) h2, fun k2 x2 r2 h2 => le.rt { k2 with x0 := gd.x.trans k2.x0 } (gd.x.trans x2) r2 h2, by show S.η.length = S.ms.length; rw [gd.k.len]⟩⟩
  have g2 : GoodS W S0 L S2 σ2 ρ2 := ⟨gd.k0, gd.x.trans k2.x0, { k2 with x0 := gd.x.trans k2.x0 }, sl2, fun p hp => (gd.live p hp).ext gd.k k2.x0⟩
  rw [hK]
  exact hdl_ok Er nq hK g2 nM dx hd le hl hm hk
theorem hds_nil {W : Wc} {S0 : Stt} : HdsAs X [] (([] : List (Str × Nat × LS)).map fun p => (.ref (ga X.K p.1), p.2.1, fun _ => tLS W S0 p.2.2)) := .nil
theorem hds_cons {W : Wc} {S0 : Stt} {x n : Str} {i : Nat} {g : LS} {b₀ : Stmt} {suite : List Stmt} {np pos' : Pos} {hds : List ExceptHandler} {hl : List (Str × Nat × LS)} (hi : X.N[i]? = some n) (hln : X.env.kindOf n = some .local) (hc : Names X x (.ref (ga X.K x)))
    (hsu : ∀ (a : Addr) (pn : List (Addr × Obj)), PSs (X.suite a pn) (b₀ :: suite) (tLS W S0 g)) (r : HdsAs X hds (hl.map fun p => (.ref (ga X.K p.1), p.2.1, fun _ => tLS W S0 p.2.2))) : HdsAs X (.ExceptHandler (some (.Name x np)) (some n) (b₀ :: suite) pos' :: hds) (((x, i, g) :: hl).map fun p => (.ref (ga X.K p.1), p.2.1, fun _ => tLS W S0 p.2.2)) := .cons hi hln hc hsu r
/-! ### a call that may raise, directly within a try -/
variable {WP : Wc → Prop} {FD : FnD} {KS : KErrS} {Wi : WX} {fa : LA}
theorem passAtS {Wi : WX} (tk : Takes X Wi) (σ : L2.St) : PassesAt (L2.CX X.prog X.w) X σ (fun cls d H => Wi cls d σ H) := fun pins H s e s' I c => tk e s' (XE.of_call I (fun cls d H' h => h) c)
def xFnDS (F : FnD) (KS : KErrS) (fa : LA) : LE := fun ρ η K => fa ρ η fun xs η1 => ∃ ds, views η1 xs = some ds ∧ noOwn ds = true ∧ F ds (fun d => K (.dat d) η1) (fun c d => KS c d ρ η1)
theorem le_callDS (h : PE X e (tCallSD (spD WP FD) [] (fun σ cls d H => Wi cls d σ H) (tLA W S0 fa))) (hW : WP W) (hE : LnkS W S0 KS Wi) : PE X e (tL W S0 (xFnDS FD KS fa)) := h.imp fun σ H Q h => by
  obtain ⟨S, ρ, K, rfl, k, sl, h, c⟩ := h
  refine ⟨S, ρ, _, rfl, k, sl, h, fun xs S1 e1 k1 hx vs r1 => ?_⟩
  obtain ⟨ds, hv, no, hF⟩ := hx
  show spD WP FD (vs ++ []) S1.H Q _
  rw [List.append_nil]
  refine ⟨S1.wd W, ds, _, _, hW, rfl, k1.gh, views_rel k1 r1 hv, no, hF, fun d hk v H' s2 r2 => (c.ext e1) (.dat d) { S1 with H := H' } (.stp s2) (k1.stp s2) hk v r2, fun cc d hk v dd H' s2 n0 r2 hd => ?_⟩
  exact hE cc d ρ { S1 with H := H' } σ v dd hk (k1.stp s2) ((sl.ext k e1).ext k1 (.stp s2)) (fun m => k1.all dd m n0) r2 hd
end
/-! ### a lambda, called by a def that tries it -/
abbrev LamR := KErr → LH → (LV → LH → Prop) → Prop
/-- what a lambda's reading gives -/
def Lams (W : Wc) (S1 : Stt) (lam : LamR) (tl : XK → Hp → VK → Prop) : Prop := ∀ S1', Ext W S1 S1' → Cl W S1' S1' → ∀ S KE K E Q, Cl W S1' S → lam KE S.η K → LnkL W S1' KE E → ContL W S1' S K Q → tl E S.H Q
def xLam (fa : Addr) (lam : LamR) (KS : KErrS) (n : Nat) : LE := fun ρ η K => ρ[0]? = some (some (.ob (.ref fa))) ∧ lam (fun c d η' => KS c d (List.replicate n none) η') η K
section
variable {X : Cx} {W : Wc} {S1 : Stt} {e : Expr}
theorem slots_none {S : Stt} {σ : L2.St} {n : Nat} (h : σ.length = n) : Slots W S σ (List.replicate n none) := ⟨by simp [h], fun i lv e => by
  rw [List.getElem?_replicate] at e
  split at e <;> cases e⟩
/-- a world that keeps the lambdas' table -/
structure LamWE (Pt : Addr) (q : Str) (W : Wc) : Prop where
  no : Pt ∉ W.Tl
  tab : ∀ H, W.inv H → TabS H Pt q
  keep : ∀ H H', W.inv H → Rest Pt H H' → TabS H' Pt q → W.inv H'
  nvx : ∀ H a φ, W.inv H → W.vol a → H a ≠ some (.ext φ)
theorem rest_stp {Pt : Addr} {q : Str} {H H1 : Hp} (L : LamWE Pt q W) (h : W.inv H) (r : Rest Pt H H1) (t : TabS H1 Pt q) : Stp W H H1 := by
  obtain ⟨ps0, e0, _⟩ := L.tab H h
  have ne : ∀ b o, (∀ ps, o ≠ .tbl ps) → H b = some o → b ≠ Pt := fun b o n e z => by
    rw [z, e0] at e
    exact n _ (Option.some.inj e).symm
  refine ⟨fun a o _ n e => r a o (ne a o n e) e, fun a xs e => r a _ (ne a _ (fun _ z => by cases z) e) e, fun a e => ?_, fun ok => ⟨L.keep H H1 ok.1 r t, fun b hb => ?_⟩⟩
  · cases q : H a with
    | none => rfl
    | some o =>
      by_cases z : a = Pt
      · obtain ⟨ps, e1, _⟩ := t
        rw [z, e1] at e
        cases e
      · rw [r a o z q] at e
        cases e
  · obtain ⟨ps, e, tr⟩ := ok.2 b hb
    exact ⟨ps, r b _ (fun z => L.no (by rw [← z]; exact hb)) e, tr⟩
theorem le_lam {S1' : Stt} {fa c' Pt : Addr} {q : Str} {lam : LamR} {KS : KErrS} {Wi : WX} {E : XK} {tl : XK → Hp → VK → Prop} {n : Nat} (L : LamWE Pt q W) (hh : PE X e (fun σZ HZ Q => σZ[0]? = some (some (.ref fa)) ∧ HZ c' = some (CodeO c' q) ∧ tl E HZ Q)) (hE : ∀ cls d H, (∀ σ : L2.St, σ.length = n → Wi cls d σ H) → E cls d H) (hl : Lams W S1 lam tl) (hS : LnkS W S1' KS Wi) (hc : S1.H c' = some (CodeO c' q)) (k1 : Cl W S1 S1) (x : Ext W S1 S1') (k1' : Cl W S1' S1') : PE X e (tL W S1' (xLam fa lam KS n)) := hh.imp fun σ H Q h => by
  obtain ⟨S, ρ, K, rfl, k, sl, ⟨h0, h⟩, c⟩ := h
  obtain ⟨v, e1, r1⟩ := sl.2 0 _ h0
  have r1 : v = .ref fa := r1
  subst r1
  have nown : ¬ S1.own c' := fun ⟨i, cc, e1, e2⟩ => by
    obtain ⟨a, ea, _, _, r⟩ := k1.cell i cc e1
    rw [e2] at ea
    cases ea
    obtain ⟨o, eo, _, _, nx⟩ := r.nt
    rw [hc] at eo
    unfold CodeO at eo
    exact nx _ (Option.some.inj eo).symm
  have nv : ¬ W.vol c' := fun z => by
    unfold CodeO at hc
    exact L.nvx _ _ _ k1.ok.1 z hc
  exact ⟨e1, (x.trans k.x0).st c' _ nv nown (fun _ z => by unfold CodeO at z; cases z) hc, hl S1' x k1' S _ K E Q k h (fun cc d S2 v dd hk k2 n0 nM dx hd => hE _ _ _ fun σ2 hl2 => hS cc d _ S2 σ2 v dd hk k2 (slots_none hl2) nM dx hd) c⟩
/-- what the def makes of the lambda: gT its body's reading, by the lambda's -/
def TTl (W : Wc) (n : Nat) (gT : Addr → LamR → LS) : (XK → Hp → VK → Prop) → Hp → VK → Prop := fun tl H Q => ∃ (S1 : Stt) (lam : LamR) (K : LV → LH → Prop), S1.H = H ∧ Cl W S1 S1 ∧ Lams W S1 lam tl ∧ (∀ fa, gT fa lam { nx := fun _ => K (.dat .none), rt := K, n := S1.η.length } (start0L n [.ob (.ref fa)]) S1.η) ∧ ∀ lv S', Cl W S1 S' → K lv S'.η → ∀ v, RelLV W S' v lv → Q v S'.H
theorem gives_l {N : List Str} {x a q : Str} {sg : Scope} {g : Addr} {cdg : Value} {bg : List Stmt} {gT : Addr → LamR → LS}
    (hb : ∀ (f c' : Addr) (s : Shared) (S1 : Stt) (tl : XK → Hp → VK → Prop) (lam : LamR), Lams W S1 lam tl → S1.H c' = some (CodeO c' q) → Cl W S1 S1 →
      (∀ (Wi : WX) (pn : List (Addr × Obj)) (xe : Value → Shared → Prop) (E : XK) (p1 p2 : Pos), Takes ((cxOf C8.CX0 X.prog X.w X.K X.mg X.base N x sg g cdg X.A X.stack s S1.H C8.E0).tr pn xe) Wi → (∀ cls d σ' H', E cls d H' → Wi cls d σ' H') →
        PE ((cxOf C8.CX0 X.prog X.w X.K X.mg X.base N x sg g cdg X.A X.stack s S1.H C8.E0).tr pn xe) (.Call (.Name a p1) [] [] p2) (fun σZ HZ Q => σZ[0]? = some (some (.ref f)) ∧ HZ c' = some (CodeO c' q) ∧ tl E HZ Q)) →
      PSs (cxOf C8.CX0 X.prog X.w X.K X.mg X.base N x sg g cdg X.A X.stack s S1.H C8.E0).nox bg (tLS W S1 (gT f lam))) : GivesTo X N x sg g cdg bg a q (TTl W N.length gT) := by
  intro f c' s H Q tl act hc h
  obtain ⟨S1, lam, K, rfl, k1, hl, hg, hQ⟩ := h
  refine ⟨_, hb f c' s S1 tl lam hl hc k1 act, [], S1, start0L N.length [.ob (.ref f)], _, rfl, ⟨k1, .refl, k1, slots_start (N := N) (vs := [.ref f]) (ds := [.ob (.ref f)]) ⟨rfl, trivial⟩, fun p hp => by cases hp⟩, hg f, ⟨fun {S σ ρ} gd h2 => ?_, fun _ h2 => h2.elim, fun _ h2 => h2.elim, fun k2 _ r2 h2 => hQ _ _ k2 h2 _ r2, k1.len.symm⟩⟩
  exact hQ (.dat .none) S gd.k h2 .non Dx.non
/-- f(lambda: ..), over data and places -/
def xTried (n : Nat) (gT : Addr → LamR → LS) (fb : KErr → LE) : LE := fun ρ η K => ∀ fa, gT fa (fun KE η1 K1 => fb KE ρ η1 K1) { nx := fun _ => K (.dat .none), rt := K, n := η.length } (start0L n [.ob (.ref fa)]) η
def tAnyL (W : Wc) (fb : KErr → LE) (E : XK) : TE := fun σ H Q => ∃ (S1 : Stt) (KE : KErr), LnkL W S1 KE E ∧ tL W S1 (fb KE) σ H Q
theorem imp_tried {S0 : Stt} {Pt : Addr} {q : Str} {n : Nat} {gT : Addr → LamR → LS} {fb : KErr → LE} {σ : L2.St} {H : Hp} {Q : VK} (L : LamWE Pt q W) (h : tL W S0 (xTried n gT fb) σ H Q) : tLm Pt q (TTl W n gT) (tAnyL W fb) σ H Q := by
  obtain ⟨S, ρ, K, rfl, k, sl, h, c⟩ := h
  refine ⟨L.tab _ k.ok.1, fun H1 r t => ?_⟩
  have st := rest_stp L k.ok.1 r t
  have k1 := k.stp st
  have x1 : Ext W S { S with H := H1 } := .stp st
  have kS1 : Cl W { S with H := H1 } { S with H := H1 } := { k1 with x0 := .refl }
  refine ⟨{ S with H := H1 }, fun KE η1 K1 => fb KE ρ η1 K1, K, rfl, kS1, fun S3 x3 k3 S2 KE K2 E Q2 k2 h2 hE c2 => ?_, h, fun lv S' k' hk v rv => ?_⟩
  · exact ⟨S3, KE, hE, S2, ρ, K2, rfl, k2, (sl.ext k x1).ext kS1 (x3.trans k2.x0), h2, c2⟩
  · exact c lv S' (x1.trans k'.x0) { k' with x0 := k.x0.trans (x1.trans k'.x0) } hk v rv
theorem le_tried {S0 : Stt} {x a : Str} {st : Stmt} {fd : FuncData} {Ng : List Str} {c Pt : Addr} {q : Str} {k : Nat} {params : Arguments} {body : Expr} {scope : Scope} {p lpos pos : Pos} {gT : Addr → LamR → LS} {fb : KErr → LE} (L : LamWE Pt q W)
    (hGv : ∀ cdv, GivesTo X Ng x (defScope st) (He.fAd X.K (x, none)) cdv (defBody st) a q (TTl W Ng.length gT)) (hg : Gl X x) (D : Df X.K X.mg x st [a] fd) (Sg : FnScope Ng [a] (defScope st)) (hNg : Ng[0]? = some a) (hva : Vis (defScope st) a) (hq : q = X.env.qual ++ "<lambda>")
    (TB : LamX.TabB X.base X.mg c Pt) (hcode : X.env.code = .ref c) (hr : Room (k + 2) X.A) (Ls : LamS X.env.scope scope) (hdef : defaultsOf params X.env = ([], [])) (hbind : ∀ (q : Str) (cl : List (Str × Addr)) (pm cv ctv : Value), bindArgs (PySem.W.kla_fn "<lambda>" q params body scope cl pm cv ctv) ⟨[], []⟩ = pure [])
    (hbody : ∀ (A : Around) (outer : List Env) (s : Shared) (H : Hp) (E : XK) (f c' : Addr) (S9 : Stt) (KE : KErr), LnkL W S9 KE E → Room k (A.deeper (lamEnv X scope s.heap.objs.size f c')) → PE (lamCx X A outer s H E scope f c') body (tL W S9 (fb KE)))
    (hdb : (x == ("__debug__" : Str)) = false := by decide) (hd : (a == ("__debug__" : Str)) = false := by decide) (hcd : (a == ("__classdict__" : Str)) = false := by decide) :
    PE X (.Call (.Name x p) [.Lambda params body scope lpos] [] pos) (tL W S0 (xTried Ng.length gT fb)) :=
  (pe_lm (t := tAnyL W fb) hg D.g D.F D.b Sg hNg hva hq hGv TB hcode hr Ls hdef hbind (fun A outer s H E f c' hr2 => ⟨fun pins s' σ H' Q I ⟨S9, KE, h1, h2⟩ => (hbody A outer s H E f c' S9 KE h1 hr2).run pins s' σ H' Q I h2⟩) hdb hd hcd).imp fun σ H Q h => imp_tried L h
end
end EL

set_option Elab.async false
set_option linter.all false
set_option maxRecDepth 100000
set_option maxHeartbeats 1000000
/-! The deck's world; a law's start; the head's facts. -/
namespace EL
open PySem PySem.Spec PyProof.Rows L2 KT KG KX KY KE0 KQ LK GxR DL KA DW QX QY QZ QB QE QF QT LB LamX
theorem _root_.DW.WP.mem {K : PySem.W.Frag} {Tl : List Addr} {W : Wc} {a : Addr} (h : WP K Tl W) (m : a ∈ Tl) : a ∈ W.Tl := by rw [h.tl]; exact m
section
variable {X : Cx} {W : Wc} {S0 : Stt} {x : Str} {pos : Pos}
theorem le_gi {i : Int} (hg : Gl X x) (h : ∃ t, X.mg x = some (.int i t)) (hdb : (x == ("__debug__" : Str)) = false := by decide) : PE X (.Name x pos) (tL W S0 (xC (.int i))) := by
  obtain ⟨t, h⟩ := h
  exact le_gint (pe_glob (v := .int i) hg h ⟨_, rfl⟩ hdb)
theorem le_gs {z : Str} (hg : Gl X x) (h : ∃ t, X.mg x = some (.str z t)) (hdb : (x == ("__debug__" : Str)) = false := by decide) : PE X (.Name x pos) (tL W S0 (xC (.str z))) := by
  obtain ⟨t, h⟩ := h
  exact le_gstr (pe_glob (v := .str z) hg h ⟨_, rfl⟩ hdb)
theorem le_gt {zs : List Str} (hg : Gl X x) (h : ∃ a, X.mg x = some (.ref a) ∧ ∀ H, SqT X.K H a (zs.map V.str)) (hK : W.K = X.K) (hdb : (x == ("__debug__" : Str)) = false := by decide) : PE X (.Name x pos) (tL W S0 (xGts zs)) := by
  obtain ⟨a, h, hs⟩ := h
  exact le_gts (pe_glob (v := .ref a) hg h rfl hdb) hK hs
variable {E : XK} {KE : KErr} {f : LE} {e : Expr} {p pos' : Pos} {ers : List Str}
theorem ls_raiseE (Er : ErsOk X.prog X.w X.K X.mg X.base ers) (hx : x ∈ ers) (hr : Room 2 X.A) (hK : W.K = X.K) (hH : X.H_0 = S0.H) (hl : LnkL W S0 KE E) (hc : X.calm = true) (hex : X.ex = []) (tk : Takes X fun cls d _ H => E cls d H) (he : PE X e (tL W S0 f)) (hg : Gl X x)
    (hdb : (x == ("__debug__" : Str)) = false := by decide) (hse : starEach [e] X.env = (false, eval e X.env) :: starEach [] X.env := by rfl) (hpl : (backTo pos' (starEach [] X.env)).any (·.1) = false := by rfl) :
    PS X (.Raise (some (.Call (.Name x p) [e] [] pos')) none pos) (tLS W S0 (zRaise x KE f)) := by
  obtain ⟨fd, E1⟩ := Er.e x hx
  exact ls_raise E1 hr hK hH hl hc hex tk he hg hdb hse hpl
end
section
variable {P : Program} {w : World} {K : PySem.W.Frag} {mg : Str → Option Value} {base : Heap}
variable {x : Str} {st : Stmt} {fd : FuncData} {N ps : List Str} {k : Nat} {WP : Wc → Prop}
/-- a promise under no repr -/
theorem okLG {F : FnD} (D : FnP K x st (He.fAd K (x, none)) fd) (Sc : FnScope N ps (defScope st)) (len : ∀ ds Kk KE, F ds Kk KE → ds.length = ps.length)
    (body : ∀ (W : Wc) (S0 : Stt) (cdv : Value) (A : Around) (outer : List Env) (s : Shared) (E : XK), WP W → cdv = .ref (He.codeOf K (x, none)) → A.guards = some [] → Room k (A.deeper (envOfC x (defScope st) s.heap.objs.size (He.fAd K (x, none)) cdv)) →
      ∃ g, PSs (cxOf CX0 P w K mg base N x (defScope st) (He.fAd K (x, none)) cdv A outer s S0.H E).nox (defBody st) (tLS W S0 g) ∧ ∀ ds Kk KE, F ds Kk KE → g { nx := fun _ _ => Kk .none, rt := rtD Kk, n := 0 } (start0L N.length (ds.map dvL)) []) : FnG P w K mg base (k + 1) (He.fAd K (x, none)) fd ps (spD WP F) := by
  refine okGC (fun_of D) Sc (fun vs H Q E h => ?_) (fun cdv A outer s H vs Q E hcd hA hr h => ?_)
  · obtain ⟨W, ds, Kk, KE, _, _, _, r, _, f, _⟩ := h
    rw [r.length]
    exact len ds Kk KE f
  · obtain ⟨W, ds, Kk, KE, hW, rfl, gh, r, no, f, hQ, hE⟩ := h
    obtain ⟨g, hp, hg⟩ := body W.toWc (s0D W) cdv A outer s E hW hcd hA hr
    have k0 := s0D_cl gh
    refine ⟨_, hp, [], s0D W, _, _, rfl, ⟨k0, .refl, k0, slots_start (relD r no), fun p hp => by cases hp⟩, hg ds Kk KE f, ⟨fun {S' σ ρ} gd k2 => ?_, fun _ k2 => k2.elim, fun _ k2 => k2.elim, fun k2 x2 r2 h2 => ?_, rfl⟩⟩
    · exact hQ .none k2 _ _ (stpD gd.k) Dx.non
    · obtain ⟨d, rfl, hd⟩ := h2
      exact hQ d hd _ _ (stpD k2) (dxD k2 r2)
end
/-! ### a law's start -/
/-- the world of a law that makes lambdas -/
def lamDeck (K : PySem.W.Frag) (Tl : List Addr) (d L Pt : Addr) (q : Str) (nt : Pt ∉ Tl) : Wc where
  K := K
  vol := fun a => a = d ∨ a = L
  inv := fun H => DK d L H ∧ LamX.TabS H Pt q
  deck := fun v => v = .ref d
  Tl := Tl
  keep := fun {H H'} k h => by
    obtain ⟨⟨ns, m, z, h1, h2, h3⟩, ps, e, tr, cs⟩ := h
    refine ⟨⟨ns, m, z, k _ _ (.inl (.inl rfl)) h1, k _ _ (.inl (.inr rfl)) h2, h3⟩, ps, k _ _ (.inr (.inr ⟨nt, _, rfl⟩)) e, tr, fun pos cv hc => ?_⟩
    obtain ⟨c, rfl, hco⟩ := cs pos cv hc
    exact ⟨c, rfl, k _ _ (.inr (.inl ⟨_, rfl⟩)) hco⟩
  there := fun {H a} h v => dk_here h.1 v
theorem tabS_keep {d L Pt : Addr} {q : Str} {H H' : Hp} (h : DK d L H) (t : LamX.TabS H Pt q) (s : ∀ a o, a ≠ d → a ≠ L → H a = some o → H' a = some o) : LamX.TabS H' Pt q := by
  obtain ⟨ns, m, z, h1, h2, h3⟩ := h
  obtain ⟨ps, e, tr, cs⟩ := t
  have ne : ∀ a o, H a = some o → (∀ kv, o ≠ .dK kv) → (∀ xs, o ≠ .lst xs) → a ≠ d ∧ a ≠ L := fun a o q n1 n2 => ⟨fun z => by
    rw [z, h1] at q
    exact n1 _ (Option.some.inj q).symm, fun z => by
    rw [z, h2] at q
    exact n2 _ (Option.some.inj q).symm⟩
  have ne1 := ne Pt _ e (fun _ z => by cases z) (fun _ z => by cases z)
  refine ⟨ps, s _ _ ne1.1 ne1.2 e, tr, fun pos cv hc => ?_⟩
  obtain ⟨c, rfl, hco⟩ := cs pos cv hc
  have ne2 := ne c _ hco (fun _ z => by unfold LamX.CodeO at z; cases z) (fun _ z => by unfold LamX.CodeO at z; cases z)
  exact ⟨c, rfl, s _ _ ne2.1 ne2.2 hco⟩
theorem lamDeck_ok {K : PySem.W.Frag} {Tl : List Addr} {d L Pt : Addr} {q : Str} (nt : Pt ∉ Tl) : WP K Tl (lamDeck K Tl d L Pt q nt) :=
  ⟨rfl, rfl, fun v h => ⟨d, L, h, fun H h => h.1, fun H H' h k s => ⟨k, tabS_keep h.1 h.2 s⟩, fun a => Iff.rfl⟩⟩
theorem lamDeck_lam {K : PySem.W.Frag} {Tl : List Addr} {d L Pt : Addr} {q : Str} (nt : Pt ∉ Tl) : LamWE Pt q (lamDeck K Tl d L Pt q nt) := by
  refine ⟨nt, fun H h => h.2, fun H H' h r t => ⟨?_, t⟩, fun H a φ h v e => ?_⟩
  · obtain ⟨⟨ns, m, z, h1, h2, h3⟩, ps, e, tr, cs⟩ := h
    exact ⟨ns, m, z, r _ _ (ne_of h1 e (by intro z; cases z)) h1, r _ _ (ne_of h2 e (by intro z; cases z)) h2, h3⟩
  · obtain ⟨⟨ns, m, z, h1, h2, h3⟩, _⟩ := h
    rcases v with rfl | rfl
    · rw [h1] at e
      cases e
    · rw [h2] at e
      cases e
def spLaw (K : PySem.W.Frag) (Tl : List Addr) (Pt : Addr) : Sp := fun vs H Q _ => ∃ (a : Addr) (ns : List Int), vs = [.ref a] ∧ SqL K H a (ns.map V.int) ∧ Ts Tl H ∧ H Pt = some (.tbl #[]) ∧ ∀ H', Q (.bl true) H'
def spLaw0 (K : PySem.W.Frag) (Tl : List Addr) : Sp := fun vs H Q _ => ∃ (a : Addr) (ns : List Int), vs = [.ref a] ∧ SqL K H a (ns.map V.int) ∧ Ts Tl H ∧ ∀ H', Q (.bl true) H'
/-- over any such world -/
def tAnyW (c : Wc → Prop) (g : LS) : TS := fun D σ H => ∃ (W : Wc) (S0 : Stt), c W ∧ tLS W S0 g D σ H
theorem pss_any {X : Cx} {sts : List Stmt} {c : Wc → Prop} {g : LS} (h : ∀ (W : Wc) (S0 : Stt), c W → PSs X sts (tLS W S0 g)) : PSs X sts (tAnyW c g) := ⟨fun pins s σ H D I ⟨W, S0, h1, h2⟩ => (h W S0 h1).run pins s σ H D I h2⟩
/-- where a law is behind its deck's making -/
theorem law_start {K : PySem.W.Frag} {Tl : List Addr} {W : Wc} {d L : Addr} {H1 : Hp} {σ : L2.St} {n i : Nat} {g : LS} {D : Ends} {c : Wc → Prop} (hc : c W) (ok : W.ok H1) (hv : ∀ a, W.vol a ↔ a = d ∨ a = L) (dk : DK d L H1) (hσ : σ.length = n) (hd : W.deck (.ref d)) (hi : σ[i]? = some (some (.ref d)))
    (h : g { nx := fun _ _ => False, rt := rtD fun x => x = .bool true, n := 0 } ((List.replicate n none).set i (some .deck)) []) (hQ : ∀ H', D.rt (.bl true) H') : tAnyW c g D σ H1 := by
  have here : ∀ b, b = d ∨ b = L → H1 b ≠ none := fun b hb => by
    obtain ⟨o, e, _⟩ := dk_here dk hb
    rw [e]
    exact fun z => by cases z
  let S : Stt := { M := fun b => b = d ∨ b = L, ms := [], H := H1, η := [] }
  have k : Cl W S S := ⟨ok, fun a z => (hv a).mp z, fun a m => here a m, rfl, (fun i j a ci cj e => by cases e), (fun i c e => by cases e), .refl⟩
  refine ⟨W, S, hc, [], S, (List.replicate n none).set i (some .deck), _, rfl, ⟨k, .refl, k, ⟨by simp [hσ], fun j lv e => ?_⟩, fun p hp => by cases hp⟩, h, ⟨fun _ h => h.elim, fun _ h => h.elim, fun _ h => h.elim, fun {S2 lv v} k2 x2 r2 h2 => ?_, rfl⟩⟩
  · rcases setAt e with ⟨rfl, q, _⟩ | ⟨_, q⟩
    · cases q
      exact ⟨_, hi, hd⟩
    · rw [List.getElem?_replicate] at q
      split at q <;> cases q
  · obtain ⟨x, rfl, rfl⟩ := h2
    cases (show Dx S2.M S2.H v (.bool true) from r2)
    exact hQ _
/-! ### the head's facts -/
def ersB (K : PySem.W.Frag) (ers : List Str) : Bool := ers.all fun x => qB K x (fld x) && (decide (PySem.W.exmOne K (.ref (He.ga K x)) (.ref (He.ga K "QuickError")) = some true) && (decide (PySem.W.kitOne K (.ref (He.ga K x)) (.ref (He.ga K "QuickError")) = some true) && ers.all fun y => decide (PySem.W.exmOne K (.ref (He.ga K x)) (.ref (He.ga K y)) = some (x == y)) && decide (PySem.W.kitOne K (.ref (He.ga K x)) (.ref (He.ga K y)) = some (x == y))))
theorem and2' {a b : Bool} (h : (a && b) = true) : a = true ∧ b = true := by simpa using h
theorem ers_of {P : Program} {w : World} {K : PySem.W.Frag} {mg : Str → Option Value} {base : Heap} {ers : List Str} (k : ersB K ers = true) (hq : mg "QuickError" = some (.ref (He.ga K "QuickError"))) (h : ∀ x ∈ ers, mg x = some (.ref (He.ga K x)) ∧ ∃ fd, FnOk P w K mg base CX0 1 (He.ma K (He.ga K x) "__init__") fd ["self", fld x] (spI K (fld x)) ∧ L2.Binds K fd ["self", fld x] []) : ErsOk P w K mg base ers := by
  have at_ : ∀ x ∈ ers, qB K x (fld x) = true ∧ PySem.W.exmOne K (.ref (He.ga K x)) (.ref (He.ga K "QuickError")) = some true ∧ PySem.W.kitOne K (.ref (He.ga K x)) (.ref (He.ga K "QuickError")) = some true ∧ ∀ y ∈ ers, PySem.W.exmOne K (.ref (He.ga K x)) (.ref (He.ga K y)) = some (x == y) ∧ PySem.W.kitOne K (.ref (He.ga K x)) (.ref (He.ga K y)) = some (x == y) := fun x hx => by
    obtain ⟨h1, h2⟩ := and2' (List.all_eq_true.mp k x hx)
    obtain ⟨h2, h3⟩ := and2' h2
    obtain ⟨h3, h4⟩ := and2' h3
    exact ⟨h1, of_decide_eq_true h2, of_decide_eq_true h3, fun y hy => by
      obtain ⟨q1, q2⟩ := and2' (List.all_eq_true.mp h4 y hy)
      exact ⟨of_decide_eq_true q1, of_decide_eq_true q2⟩⟩
  refine ⟨fun x hx => ?_, hq, fun x hx => (at_ x hx).2.1, fun x hx y hy => ((at_ x hx).2.2.2 y hy).1, fun x hx => (at_ x hx).2.2.1, fun x hx y hy => ((at_ x hx).2.2.2 y hy).2⟩
  obtain ⟨q1, q2⟩ := qB_ok (at_ x hx).1
  obtain ⟨hg, fd, F, b⟩ := h x hx
  exact ⟨fd, q1, q2, hg, F, b⟩
theorem kb0_of {K : PySem.W.Frag} {x qual : Str} {params : Arguments} {body : List Stmt} {scope : Scope} {f : Addr} {fd : FuncData} {ps ks : List Str} {g : {α : Type} → List α → List α} (F : FunD K x qual params body scope [] [] f fd)
    (h : ∀ (kV doc pm : Value) (an : Option Addr) (cdv ct : Value) (ws : List Value), (g ws).length = ps.length → bindArgs (PySem.W.fnOf x qual params body scope .none kV doc pm an cdv ct) ⟨[], ks.zip ws⟩ = pure (ps.zip (g ws))) (hr : ∀ {zs : List V} {ws : List Value}, Vals zs ws → Vals (g zs) (g ws)) : KB0 fd ps ks g := by
  obtain ⟨oc, od, dV, kV, doc, pm, an, cdv, ct, osl, rfl, lk, hcd, hD, hK⟩ := F.ex
  rcases hD with ⟨_, rfl⟩ | ⟨e, _⟩
  · exact ⟨fun s ws hl => .of_eq (h kV doc pm an cdv ct ws hl), hr⟩
  · exact absurd rfl e
/-- a def's datum, by its name -/
def lk (d : FuncData) : List Str → List FuncData → Str → FuncData
  | a :: r, f :: g, n => if n = a then f else lk d r g n
  | _, _, _ => d
theorem lk_at {d : FuncData} : ∀ {ns : List Str} {fs : List FuncData} {n : Str} {f : FuncData} (i : Nat), fs[i]? = some f → ns[i]? = some n → (ns.take i).all (fun a => decide (a ≠ n)) = true → lk d ns fs n = f
  | [], _, _, _, i, _, h, _ => by simp at h
  | _ :: _, [], _, _, i, h, _, _ => by simp at h
  | a :: r, g :: t, n, f, 0, h1, h2, _ => by
    cases h1
    cases h2
    unfold lk
    rw [if_pos rfl]
  | a :: r, g :: t, n, f, i + 1, h1, h2, h3 => by
    rw [List.take_succ_cons, List.all_cons, Bool.and_eq_true] at h3
    unfold lk
    rw [if_neg (Ne.symm (of_decide_eq_true h3.1))]
    exact lk_at i h1 h2 h3.2
end EL


set_option Elab.async false
set_option linter.all false
set_option maxRecDepth 100000
set_option maxHeartbeats 4000000
/-! All that a law's top leaves, in one place. -/
namespace TP
open PySem PySem.Spec PyProof.Rows L2 KT KG KX KQ LK GxR DL KA DW EL QE QF
abbrev N_is_whole : List Str := ["thing"]
abbrev P_is_whole : List Str := ["thing"]
theorem sc_is_whole : FnScope N_is_whole P_is_whole (defScope s_is_whole) := ⟨rfl, rfl, rfl, by decide +kernel, rfl, by decide +kernel, by decide +kernel⟩
abbrev N_is_word : List Str := ["thing"]
abbrev P_is_word : List Str := ["thing"]
theorem sc_is_word : FnScope N_is_word P_is_word (defScope s_is_word) := ⟨rfl, rfl, rfl, by decide +kernel, rfl, by decide +kernel, by decide +kernel⟩
abbrev N_plain_word : List Str := ["number", "word", "left"]
abbrev P_plain_word : List Str := ["number"]
theorem sc_plain_word : FnScope N_plain_word P_plain_word (defScope s_plain_word) := ⟨rfl, rfl, rfl, by decide +kernel, rfl, by decide +kernel, by decide +kernel⟩
abbrev N_word_of_text : List Str := ["text", "sign", "words"]
abbrev P_word_of_text : List Str := ["text"]
theorem sc_word_of_text : FnScope N_word_of_text P_word_of_text (defScope s_word_of_text) := ⟨rfl, rfl, rfl, by decide +kernel, rfl, by decide +kernel, by decide +kernel⟩
abbrev N_text_of_word : List Str := ["word", "words", "signs", "sign", "pieces", "at", "piece"]
abbrev P_text_of_word : List Str := ["word"]
theorem sc_text_of_word : FnScope N_text_of_word P_text_of_word (defScope s_text_of_word) := ⟨rfl, rfl, rfl, by decide +kernel, rfl, by decide +kernel, by decide +kernel⟩
abbrev N_sign_words : List Str := ["sign"]
abbrev P_sign_words : List Str := []
theorem sc_sign_words : FnScope N_sign_words P_sign_words (defScope s_sign_words) := ⟨rfl, rfl, rfl, by decide +kernel, rfl, by decide +kernel, by decide +kernel⟩
abbrev N__law_same : List Str := ["_law_told", "_law_due"]
abbrev P__law_same : List Str := ["_law_told", "_law_due"]
theorem sc__law_same : FnScope N__law_same P__law_same (defScope s__law_same) := ⟨rfl, rfl, rfl, by decide +kernel, rfl, by decide +kernel, by decide +kernel⟩
abbrev N__law_bits : List Str := ["_law_number", "_law_found", "_law_turn"]
abbrev P__law_bits : List Str := ["_law_number"]
theorem sc__law_bits : FnScope N__law_bits P__law_bits (defScope s__law_bits) := ⟨rfl, rfl, rfl, by decide +kernel, rfl, by decide +kernel, by decide +kernel⟩
abbrev N__law_word_of : List Str := ["_law_text", "_law_sign"]
abbrev P__law_word_of : List Str := ["_law_text"]
theorem sc__law_word_of : FnScope N__law_word_of P__law_word_of (defScope s__law_word_of) := ⟨rfl, rfl, rfl, by decide +kernel, rfl, by decide +kernel, by decide +kernel⟩
abbrev N__law_signs : List Str := []
abbrev P__law_signs : List Str := []
theorem sc__law_signs : FnScope N__law_signs P__law_signs (defScope s__law_signs) := ⟨rfl, rfl, rfl, by decide +kernel, rfl, by decide +kernel, by decide +kernel⟩
abbrev N__law_codes : List Str := ["_law_word", "_law_codes_here", "_law_at", "_law_code", "_law_letter"]
abbrev P__law_codes : List Str := ["_law_word"]
theorem sc__law_codes : FnScope N__law_codes P__law_codes (defScope s__law_codes) := ⟨rfl, rfl, rfl, by decide +kernel, rfl, by decide +kernel, by decide +kernel⟩
abbrev N__law_tried : List Str := ["_law_call", "e", "_law_found"]
abbrev P__law_tried : List Str := ["_law_call"]
theorem sc__law_tried : FnScope N__law_tried P__law_tried (defScope s__law_tried) := ⟨rfl, rfl, rfl, by decide +kernel, rfl, by decide +kernel, by decide +kernel⟩
abbrev N__law_is_told : List Str := ["_law_word", "_law_due", "_law_known", "_law_sign", "_law_others", "_law_code", "_law_told"]
abbrev P__law_is_told : List Str := ["_law_word"]
theorem sc__law_is_told : FnScope N__law_is_told P__law_is_told (defScope s__law_is_told) := ⟨rfl, rfl, rfl, by decide +kernel, rfl, by decide +kernel, by decide +kernel⟩
abbrev N_law : List Str := ["_law_script", "_law_deck_here", "_law_signs_here", "_law_turn", "_law_many", "_law_text", "_law_word", "_law_told", "_law_near", "_law_thing", "_law_at", "_law_code", "_law_place", "_law_more", "_law_codes_here", "_law_sign", "_law_few"]
abbrev P_law : List Str := ["_law_script"]
theorem sc_law : FnScope N_law P_law (defScope s_law) := ⟨rfl, rfl, rfl, by decide +kernel, rfl, by decide +kernel, by decide +kernel⟩
abbrev N_BadWord___init__ : List Str := ["self", "thing"]
abbrev P_BadWord___init__ : List Str := ["self", "thing"]
theorem sc_BadWord___init__ : FnScope N_BadWord___init__ P_BadWord___init__ (defScope s_BadWord___init__) := ⟨rfl, rfl, rfl, by decide +kernel, rfl, by decide +kernel, by decide +kernel⟩
abbrev N_BadText___init__ : List Str := ["self", "at"]
abbrev P_BadText___init__ : List Str := ["self", "at"]
theorem sc_BadText___init__ : FnScope N_BadText___init__ P_BadText___init__ (defScope s_BadText___init__) := ⟨rfl, rfl, rfl, by decide +kernel, rfl, by decide +kernel, by decide +kernel⟩
abbrev N_BadNumber___init__ : List Str := ["self", "thing"]
abbrev P_BadNumber___init__ : List Str := ["self", "thing"]
theorem sc_BadNumber___init__ : FnScope N_BadNumber___init__ P_BadNumber___init__ (defScope s_BadNumber___init__) := ⟨rfl, rfl, rfl, by decide +kernel, rfl, by decide +kernel, by decide +kernel⟩
def ers : List Str := ["BadWord", "BadText", "BadNumber"]
theorem nq : ∀ y ∈ ers, (y == ("QuickError" : Str)) = false := by decide +kernel
def str_TEXT_SIGNS : Str := "\n !\"#$&'()*+,-./0123456789:;<=>?\x40ABCDEFGHIJKLMNOPQRSTUVWXYZ[\\]^_`abcdefghijklmnopqrstuvwxyz{|}~"
structure TbA (mg : Str → Option Value) : Prop where
  Exception : mg "Exception" = none
  all : mg "all" = none
  int : mg "int" = none
  isinstance : mg "isinstance" = none
  len : mg "len" = none
  list : mg "list" = none
  max : mg "max" = none
  ord : mg "ord" = none
  range : mg "range" = none
  repr : mg "repr" = none
  str : mg "str" = none
  tuple : mg "tuple" = none
  type : mg "type" = none
structure Top (P : Program) (w : World) (K : PySem.W.Frag) (mg : Str → Option Value) (base : Heap) (Tl : List Addr) (fn : Str → FuncData) : Prop where
  T : TbA mg
  TD : KA.Tb mg
  hm : HasMods base
  Er : ErsOk P w K mg base ers
  D_is_whole : Df K mg "is_whole" s_is_whole P_is_whole (fn "is_whole")
  D_is_word : Df K mg "is_word" s_is_word P_is_word (fn "is_word")
  D_plain_word : Df K mg "plain_word" s_plain_word P_plain_word (fn "plain_word")
  D_word_of_text : Df K mg "word_of_text" s_word_of_text P_word_of_text (fn "word_of_text")
  D_text_of_word : Df K mg "text_of_word" s_text_of_word P_text_of_word (fn "text_of_word")
  D_sign_words : Df K mg "sign_words" s_sign_words P_sign_words (fn "sign_words")
  D__law_deck : Df K mg "_law_deck" s__law_deck KA.P__law_deck (fn "_law_deck")
  D__law_draw : Df K mg "_law_draw" s__law_draw KA.P__law_draw (fn "_law_draw")
  D__law_pick : Df K mg "_law_pick" s__law_pick DW.P__law_pick (fn "_law_pick")
  D__law_same : Df K mg "_law_same" s__law_same P__law_same (fn "_law_same")
  D__law_bits : Df K mg "_law_bits" s__law_bits P__law_bits (fn "_law_bits")
  D__law_word_of : Df K mg "_law_word_of" s__law_word_of P__law_word_of (fn "_law_word_of")
  D__law_signs : Df K mg "_law_signs" s__law_signs P__law_signs (fn "_law_signs")
  D__law_codes : Df K mg "_law_codes" s__law_codes P__law_codes (fn "_law_codes")
  D__law_tried : Df K mg "_law_tried" s__law_tried P__law_tried (fn "_law_tried")
  D__law_is_told : Df K mg "_law_is_told" s__law_is_told P__law_is_told (fn "_law_is_told")
  D_law : Df K mg "law" s_law P_law (fn "law")
  g_QuickError : mg "QuickError" = some (.ref (He.ga K "QuickError"))
  g_BadWord : mg "BadWord" = some (.ref (He.ga K "BadWord"))
  g_BadText : mg "BadText" = some (.ref (He.ga K "BadText"))
  g_BadNumber : mg "BadNumber" = some (.ref (He.ga K "BadNumber"))
  mg_TEXT_SIGNS : ∃ t, mg "TEXT_SIGNS" = some (.str str_TEXT_SIGNS t)
  mg_LETTERS_OF_SIGN : ∃ t, mg "LETTERS_OF_SIGN" = some (.int 7 t)
  TB_word_of_text : GxR.TabB base mg (He.cT K ("word_of_text", none)).1 (He.cT K ("word_of_text", none)).2
  hT_word_of_text : (He.cT K ("word_of_text", none)).2 ∈ Tl
  TB_text_of_word : GxR.TabB base mg (He.cT K ("text_of_word", none)).1 (He.cT K ("text_of_word", none)).2
  hT_text_of_word : (He.cT K ("text_of_word", none)).2 ∈ Tl
  kb_word_of_text_0 : KB0 (fn "word_of_text") P_word_of_text ["text"] (fun l => l)
  kb_text_of_word_0 : KB0 (fn "text_of_word") P_text_of_word ["word"] (fun l => l)
end TP


set_option Elab.async false
set_option linter.all false
set_option maxRecDepth 100000
set_option maxHeartbeats 1000000
/-! What a datum shows is a text of signs that there are, whatever it holds. -/
namespace SO
open PySem PySem.Spec PyProof.Rows L2 PySem.Builtin PySem.Builtin.Str
abbrev Ok (z : Str) : Prop := ∀ c ∈ z.cps.toList, c < 0x110000
theorem ok_app {a b : Str} (h : Ok a) (k : Ok b) : Ok (a ++ b) := fun c hc => by
  have e : (a ++ b).cps.toList = a.cps.toList ++ b.cps.toList := by
    show (a.cps ++ b.cps).toList = _
    simp
  rw [e] at hc
  rcases List.mem_append.mp hc with q | q
  · exact h c q
  · exact k c q
theorem char_lt (c : Char) : c.toNat < 0x110000 := by
  have := c.valid
  rcases this with h | h
  · have h : c.toNat < 0xd800 := h
    omega
  · exact h.2
theorem ok_of (s : String) : Ok (Str.ofString s) := fun c hc => by
  rw [Str.ofString_eq_toList] at hc
  have hc : c ∈ (s.toList.map Char.toNat).toArray.toList := hc
  rw [List.toList_toArray] at hc
  obtain ⟨d, _, rfl⟩ := List.mem_map.mp hc
  exact char_lt d
theorem within_lt : ∀ (l : List (Nat × Nat)) (c : Nat), l.all (fun p => decide (p.2 < 0x110000)) = true → Unicode.within l c = true → c < 0x110000
  | [], c, _, h => by cases h
  | (a, b) :: r, c, k, h => by
    rw [List.all_cons, Bool.and_eq_true] at k
    have k1 : b < 0x110000 := of_decide_eq_true k.1
    have h : (if c < a then false else decide (c ≤ b) || Unicode.within r c) = true := h
    split at h
    · cases h
    · rw [Bool.or_eq_true] at h
      rcases h with h | h
      · have := of_decide_eq_true h
        omega
      · exact within_lt r c k.2 h
theorem print_lt {c : Nat} (h : Unicode.isPrintable c = true) : c < 0x110000 := within_lt UnicodeData.printable c (by decide +kernel) h
theorem hex_ok (w c : Nat) : ∀ d ∈ List.replicate (w - ((Nat.toDigits 16 c).map Char.toNat).length) 48 ++ (Nat.toDigits 16 c).map Char.toNat, d < 0x110000 := fun d hd => by
  rcases List.mem_append.mp hd with h | h
  · rw [List.eq_of_mem_replicate h]
    decide
  · obtain ⟨e, _, rfl⟩ := List.mem_map.mp h
    exact char_lt e
theorem reprChar_ok {q c : Nat} (hq : q < 0x110000) : ∀ d ∈ reprChar q c, d < 0x110000 := fun d hd => by
  unfold reprChar at hd
  dsimp only at hd
  have pre : ∀ {a b w : Nat}, a < 0x110000 → b < 0x110000 → d ∈ [a, b] ++ (List.replicate (w - ((Nat.toDigits 16 c).map Char.toNat).length) 48 ++ (Nat.toDigits 16 c).map Char.toNat) → d < 0x110000 := fun {a b w} h1 h2 h => by
    rcases List.mem_append.mp h with h | h
    · simp only [List.mem_cons, List.not_mem_nil, or_false] at h
      rcases h with rfl | rfl
      · exact h1
      · exact h2
    · exact hex_ok w c d h
  split at hd
  · rename_i h
    simp only [List.mem_cons, List.not_mem_nil, or_false] at hd
    rw [Bool.or_eq_true, beq_iff_eq, beq_iff_eq] at h
    rcases hd with rfl | rfl
    · decide
    · rcases h with rfl | rfl
      · exact hq
      · decide
  split at hd
  · simp only [List.mem_cons, List.not_mem_nil, or_false] at hd
    rcases hd with rfl | rfl <;> decide
  split at hd
  · simp only [List.mem_cons, List.not_mem_nil, or_false] at hd
    rcases hd with rfl | rfl <;> decide
  split at hd
  · simp only [List.mem_cons, List.not_mem_nil, or_false] at hd
    rcases hd with rfl | rfl <;> decide
  split at hd
  · rename_i h
    simp only [List.mem_cons, List.not_mem_nil, or_false] at hd
    subst hd
    exact print_lt h
  split at hd
  · exact pre (by decide) (by decide) hd
  split at hd
  · exact pre (by decide) (by decide) hd
  · exact pre (by decide) (by decide) hd
theorem fold_ok {q : Nat} (hq : q < 0x110000) : ∀ (l : List Nat) (acc : Array Nat), (∀ c ∈ acc.toList, c < 0x110000) → ∀ c ∈ (l.foldl (fun out c => out ++ (reprChar q c).toArray) acc).toList, c < 0x110000
  | [], acc, h => h
  | x :: r, acc, h => fold_ok hq r _ fun c hc => by
    rw [Array.toList_append, List.toList_toArray] at hc
    rcases List.mem_append.mp hc with hc | hc
    · exact h c hc
    · exact reprChar_ok hq c hc
theorem quote_lt (x : Str) : reprQuote x < 0x110000 := by
  unfold reprQuote
  split <;> decide
theorem repr_ok (x : Str) : Ok (reprText x) := fun c hc => by
  unfold reprText at hc
  have hc : c ∈ ((x.cps.foldl (fun out c => out ++ (reprChar (reprQuote x) c).toArray) #[reprQuote x]).push (reprQuote x)).toList := hc
  rw [Array.toList_push, ← Array.foldl_toList] at hc
  rcases List.mem_append.mp hc with hc | hc
  · refine fold_ok (quote_lt x) _ _ (fun d hd => ?_) c hc
    have hd : d ∈ [reprQuote x] := hd
    rw [List.mem_singleton.mp hd]
    exact quote_lt x
  · rw [List.mem_singleton.mp hc]
    exact quote_lt x
theorem join_ok {s : Str} (hs : Ok s) : ∀ {ts : List Str}, (∀ t ∈ ts, Ok t) → Ok (Str.join s ts)
  | [], _ => fun c hc => by cases hc
  | [t], h => h t List.mem_cons_self
  | t :: u :: r, h => ok_app (ok_app (h t List.mem_cons_self) hs) (join_ok hs fun x hx => h x (List.mem_cons_of_mem _ hx))
mutual
theorem shown_ok : ∀ d : PyData, Ok d.shown
  | .none => by
    rw [PyData.shown_none]
    exact ok_of _
  | .bool b => by
    rw [PyData.shown_bool]
    cases b <;> exact ok_of _
  | .int i => by
    rw [PyData.shown_int]
    exact ok_of _
  | .str z => by
    rw [PyData.shown_str]
    exact repr_ok z
  | .list xs => by
    rw [PyData.shown_list]
    exact ok_app (ok_app (ok_of _) (join_ok (ok_of _) (shown_okL xs))) (ok_of _)
  | .tuple xs => by
    rw [PyData.shown_tuple]
    exact ok_app (ok_app (ok_of _) (join_ok (ok_of _) (shown_okL xs))) (ok_of _)
  | .dict kvs => by
    rw [PyData.shown_dict]
    exact ok_app (ok_app (ok_of _) (join_ok (ok_of _) (shown_okK kvs))) (ok_of _)
theorem shown_okL : ∀ xs : List PyData, ∀ t ∈ PyData.shownAll xs, Ok t
  | [], t, h => by cases h
  | x :: r, t, h => by
    rw [PyData.shownAll_cons] at h
    rcases List.mem_cons.mp h with rfl | h
    · exact shown_ok x
    · exact shown_okL r t h
theorem shown_okK : ∀ xs : List (PyData × PyData), ∀ t ∈ PyData.shownKv xs, Ok t
  | [], t, h => by cases h
  | (k, v) :: r, t, h => by
    rw [PyData.shownKv_cons] at h
    rcases List.mem_cons.mp h with rfl | h
    · exact ok_app (ok_app (shown_ok k) (ok_of _)) (shown_ok v)
    · exact shown_okK r t h
end
theorem shown_strOk (d : PyData) : PyData.strOk d.shown = true := by
  unfold PyData.strOk
  rw [← Array.all_toList]
  exact List.all_eq_true.mpr fun c hc => decide_eq_true (shown_ok d c hc)
end SO

set_option Elab.async false
set_option linter.all false
set_option maxRecDepth 100000
set_option maxHeartbeats 1000000
/-! How much a datum shows: its weight, its depth, put together and cut. -/
namespace WT
open PySem PySem.Spec PyProof.Rows L2
mutual
def wt : PyData → Nat
  | .none => 5
  | .bool _ => 5
  | .int i => (PyData.shown (.int i)).length
  | .str z => (PyData.shown (.str z)).length + z.length
  | .list xs => wtL xs + 3
  | .tuple xs => wtL xs + 3
  | .dict kvs => wtK kvs + 3
def wtL : List PyData → Nat
  | [] => 0
  | x :: r => wt x + 2 + wtL r
def wtK : List (PyData × PyData) → Nat
  | [] => 0
  | (k, v) :: r => wt k + wt v + 4 + wtK r
end
def sumL (ts : List Str) : Nat := (ts.map (·.length)).sum
theorem from_len : ∀ (ts : List Str) (k : Nat) (acc : Str), (textFrom k acc ts).length ≤ acc.length + sumL ts + 2 * ts.length
  | [], k, acc => by
    show acc.length ≤ _
    simp [sumL]
  | t :: r, k, acc => by
    have ih := from_len r (k + 1) (acc ++ (if k > 0 then ", " else "" : String) ++ t)
    have e : (acc ++ Str.ofString (if k > 0 then ", " else "" : String) ++ t).length ≤ acc.length + 2 + t.length := by
      rw [Str.length_append, Str.length_append]
      by_cases h : k > 0
      · rw [if_pos h]
        show acc.length + 2 + t.length ≤ _
        omega
      · rw [if_neg h]
        show acc.length + 0 + t.length ≤ _
        omega
    show (textFrom (k + 1) (acc ++ Str.ofString (if k > 0 then ", " else "" : String) ++ t) r).length ≤ _
    refine Nat.le_trans ih ?_
    simp only [sumL, List.map_cons, List.sum_cons, List.length_cons]
    omega
theorem list_len (ts : List Str) : (listText ts).length ≤ sumL ts + 2 * ts.length + 2 := by
  unfold listText
  rw [Str.length_append]
  have := from_len ts 0 "["
  have e : ("[" : Str).length = 1 := rfl
  have e2 : ("]" : Str).length = 1 := rfl
  omega
theorem join_len (ts : List Str) : (Str.join ", " ts).length ≤ sumL ts + 2 * ts.length := by
  have := StrLaws.join_length_le ", " ts
  have e : (", " : Str).length = 2 := rfl
  rw [e] at this
  unfold sumL
  omega
theorem tuple_len (ts : List Str) : (tupleText ts).length ≤ sumL ts + 2 * ts.length + 3 := by
  unfold tupleText
  rw [Str.length_append, Str.length_append]
  have := join_len ts
  have e : ("(" : Str).length = 1 := rfl
  by_cases h : (ts.length == 1) = true
  · rw [if_pos h]
    have e2 : (Str.ofString ",)").length = 2 := rfl
    omega
  · rw [if_neg h]
    have e2 : (Str.ofString ")").length = 1 := rfl
    omega
theorem dict_len (ts : List Str) : (dictText ts).length ≤ sumL ts + 2 * ts.length + 2 := by
  unfold dictText
  rw [Str.length_append, Str.length_append]
  have := join_len ts
  have e : ("{" : Str).length = 1 := rfl
  have e2 : ("}" : Str).length = 1 := rfl
  omega
mutual
theorem shown_le : ∀ d : PyData, d.shown.length ≤ wt d
  | .none => by
    simp only [PyData.shown, wt]
    decide +kernel
  | .bool c => by
    simp only [PyData.shown, wt]
    cases c <;> decide +kernel
  | .int i => by
    unfold wt
    exact Nat.le_refl _
  | .str z => by
    unfold wt
    exact Nat.le_add_right _ _
  | .list xs => by
    simp only [PyData.shown, wt]
    obtain ⟨h1, h2⟩ := shown_leL xs
    have := list_len (PyData.shownAll xs)
    omega
  | .tuple xs => by
    simp only [PyData.shown, wt]
    obtain ⟨h1, h2⟩ := shown_leL xs
    have := tuple_len (PyData.shownAll xs)
    omega
  | .dict kvs => by
    simp only [PyData.shown, wt]
    have h1 := shown_leK kvs
    have := dict_len (PyData.shownKv kvs)
    omega
theorem shown_leL : ∀ xs : List PyData, sumL (PyData.shownAll xs) + 2 * (PyData.shownAll xs).length ≤ wtL xs ∧ (PyData.shownAll xs).length = xs.length
  | [] => ⟨by simp [PyData.shownAll, sumL, wtL], rfl⟩
  | x :: r => by
    have h1 := shown_le x
    obtain ⟨h2, h3⟩ := shown_leL r
    simp only [PyData.shownAll, wtL, sumL, List.map_cons, List.sum_cons, List.length_cons]
    unfold sumL at h2
    exact ⟨by omega, by omega⟩
theorem shown_leK : ∀ xs : List (PyData × PyData), sumL (PyData.shownKv xs) + 2 * (PyData.shownKv xs).length ≤ wtK xs
  | [] => by simp [PyData.shownKv, sumL, wtK]
  | (k, v) :: r => by
    have h1 := shown_le k
    have h2 := shown_le v
    have h3 := shown_leK r
    simp only [PyData.shownKv, wtK, sumL, List.map_cons, List.sum_cons, List.length_cons]
    unfold sumL at h3
    have e : (Str.ofString ": ").length = 2 := rfl
    simp only [Str.length_append]
    omega
end
theorem wtL_app (a b : List PyData) : wtL (a ++ b) = wtL a + wtL b := by
  induction a with
  | nil => simp [wtL]
  | cons x r ih => simp only [List.cons_append, wtL, ih]; omega
theorem wtL_take : ∀ (n : Nat) (a : List PyData), wtL (a.take n) ≤ wtL a
  | 0, a => by simp [wtL]
  | n + 1, [] => by simp [wtL]
  | n + 1, x :: r => by
    have := wtL_take n r
    simp only [List.take_succ_cons, wtL]
    omega
theorem wtL_drop : ∀ (n : Nat) (a : List PyData), wtL (a.drop n) ≤ wtL a
  | 0, a => by simp
  | n + 1, [] => by simp [wtL]
  | n + 1, x :: r => by
    have := wtL_drop n r
    simp only [List.drop_succ_cons, wtL]
    omega
theorem wtL_mem : ∀ {a : List PyData} {x : PyData}, x ∈ a → wt x + 2 ≤ wtL a
  | y :: r, x, h => by
    rcases List.mem_cons.mp h with rfl | h
    · simp only [wtL]; omega
    · have := wtL_mem h
      simp only [wtL]; omega
theorem wtL_len : ∀ a : List PyData, 2 * a.length ≤ wtL a
  | [] => by simp [wtL]
  | x :: r => by
    have := wtL_len r
    simp only [wtL, List.length_cons]; omega
/-- it can be shown, it is no deeper than s, weighs no more than w -/
structure Nb (s w : Nat) (d : PyData) : Prop where
  sh : d.showable = true
  dp : d.depth ≤ s
  w : wt d ≤ w
structure NbL (s w : Nat) (xs : List PyData) : Prop where
  sh : PyData.showableAll xs = true
  dp : PyData.depthAll xs ≤ s
  w : wtL xs ≤ w
theorem Nb.mono {s w s' w' : Nat} {d : PyData} (h : Nb s w d) (h1 : s ≤ s') (h2 : w ≤ w') : Nb s' w' d := ⟨h.sh, Nat.le_trans h.dp h1, Nat.le_trans h.w h2⟩
theorem NbL.mono {s w s' w' : Nat} {d : List PyData} (h : NbL s w d) (h1 : s ≤ s') (h2 : w ≤ w') : NbL s' w' d := ⟨h.sh, Nat.le_trans h.dp h1, Nat.le_trans h.w h2⟩
theorem NbL.nil (s w : Nat) : NbL s w [] := ⟨rfl, by simp [PyData.depthAll], by simp [wtL]⟩
theorem NbL.cons {s w w' : Nat} {x : PyData} {xs : List PyData} (h : Nb s w x) (k : NbL s w' xs) : NbL s (w + 2 + w') (x :: xs) := ⟨by
  show (x.showable && PyData.showableAll xs) = true
  rw [h.sh, k.sh]
  rfl, by
  have := h.dp
  have := k.dp
  simp only [PyData.depthAll]
  omega, by
  have := h.w
  have := k.w
  simp only [wtL]
  omega⟩
theorem NbL.tup {s w : Nat} {xs : List PyData} (h : NbL s w xs) : Nb (s + 1) (w + 3) (.tuple xs) := ⟨h.sh, by
  have := h.dp
  simp only [PyData.depth]
  omega, by
  have := h.w
  simp only [wt]
  omega⟩
theorem NbL.lst {s w : Nat} {xs : List PyData} (h : NbL s w xs) : Nb (s + 1) (w + 3) (.list xs) := ⟨h.sh, by
  have := h.dp
  simp only [PyData.depth]
  omega, by
  have := h.w
  simp only [wt]
  omega⟩
theorem Nb.ofTup {s w : Nat} {xs : List PyData} (h : Nb (s + 1) (w + 3) (.tuple xs)) : NbL s w xs := ⟨h.sh, by
  have := h.dp
  simp only [PyData.depth] at this
  omega, by
  have := h.w
  simp only [wt] at this
  omega⟩
theorem Nb.parts {s w : Nat} {xs : List PyData} (h : Nb s w (.tuple xs)) : NbL (s - 1) (w - 3) xs ∧ 1 ≤ s ∧ 3 ≤ w := by
  have h1 := h.dp
  have h2 := h.w
  simp only [PyData.depth] at h1
  simp only [wt] at h2
  exact ⟨⟨h.sh, by omega, by omega⟩, by omega, by omega⟩
theorem showAll_app : ∀ (a b : List PyData), PyData.showableAll (a ++ b) = (PyData.showableAll a && PyData.showableAll b)
  | [], b => rfl
  | x :: r, b => by
    show (x.showable && PyData.showableAll (r ++ b)) = ((x.showable && PyData.showableAll r) && PyData.showableAll b)
    rw [showAll_app r b, Bool.and_assoc]
theorem depthAll_app : ∀ (a b : List PyData), PyData.depthAll (a ++ b) = max (PyData.depthAll a) (PyData.depthAll b)
  | [], b => by simp [PyData.depthAll]
  | x :: r, b => by
    simp only [List.cons_append, PyData.depthAll, depthAll_app r b]
    omega
theorem NbL.app {s w w' : Nat} {a b : List PyData} (h : NbL s w a) (k : NbL s w' b) : NbL s (w + w') (a ++ b) := ⟨by rw [showAll_app, h.sh, k.sh]; rfl, by
  rw [depthAll_app]
  have := h.dp
  have := k.dp
  omega, by
  rw [wtL_app]
  have := h.w
  have := k.w
  omega⟩
theorem NbL.take {s w : Nat} {a : List PyData} (n : Nat) (h : NbL s w a) : NbL s w (a.take n) := by
  have e := List.take_append_drop n a
  have h1 := h.sh
  have h2 := h.dp
  rw [← e, showAll_app, Bool.and_eq_true] at h1
  rw [← e, depthAll_app] at h2
  exact ⟨h1.1, by omega, Nat.le_trans (wtL_take n a) h.w⟩
theorem NbL.drop {s w : Nat} {a : List PyData} (n : Nat) (h : NbL s w a) : NbL s w (a.drop n) := by
  have e := List.take_append_drop n a
  have h1 := h.sh
  have h2 := h.dp
  rw [← e, showAll_app, Bool.and_eq_true] at h1
  rw [← e, depthAll_app] at h2
  exact ⟨h1.2, by omega, Nat.le_trans (wtL_drop n a) h.w⟩
theorem NbL.mem {s w : Nat} {x : PyData} : ∀ {a : List PyData}, NbL s w a → x ∈ a → Nb s w x
  | y :: r, h, m => by
    have h1 : (y.showable && PyData.showableAll r) = true := h.sh
    have h2 := h.dp
    have h3 := h.w
    rw [Bool.and_eq_true] at h1
    simp only [PyData.depthAll] at h2
    simp only [wtL] at h3
    rcases List.mem_cons.mp m with rfl | m
    · exact ⟨h1.1, by omega, by omega⟩
    · exact NbL.mem (a := r) ⟨h1.2, by omega, by omega⟩ m
theorem NbL.len {s w : Nat} {a : List PyData} (h : NbL s w a) : 2 * a.length ≤ w := Nat.le_trans (wtL_len a) h.w
theorem Nb.str {s w : Nat} {z : Str} (h : Nb s w (.str z)) : z.length ≤ w := by
  have := h.w
  simp only [wt] at this
  omega
theorem Nb.say {s w : Nat} {d : PyData} (h : Nb s w d) (h1 : s ≤ 150) (h2 : w ≤ sizeLine) : d.showable = true ∧ d.depth ≤ 150 ∧ d.shown.length ≤ sizeLine := ⟨h.sh, Nat.le_trans h.dp h1, Nat.le_trans (shown_le d) (Nat.le_trans h.w h2)⟩
end WT

set_option linter.all false
set_option maxRecDepth 100000
set_option maxHeartbeats 4000000
namespace KM
open PySem PySem.Spec PyProof.Rows L2 KT
theorem small1000' {n : Nat} (h : n ≤ 2000) : n < sizeLine := Nat.lt_of_le_of_lt h (by decide)
def isW (z : Str) : Bool := z.cps.toList.all fun c => decide (c ∈ ("01" : Str).cps.toList)
theorem tw_all {p : Nat → Bool} : ∀ {l : List Nat}, l.all p = true → l.takeWhile p = l
  | [], _ => rfl
  | a :: r, h => by
    rw [List.all_cons, Bool.and_eq_true] at h
    rw [List.takeWhile_cons, h.1, tw_all h.2]
    rfl
theorem tw_lt {p : Nat → Bool} : ∀ {l : List Nat}, l.all p = false → (l.takeWhile p).length < l.length
  | [], h => by cases h
  | a :: r, h => by
    rw [List.takeWhile_cons]
    cases e : p a with
    | false => exact Nat.succ_pos _
    | true =>
      rw [List.all_cons, e, Bool.true_and] at h
      have ih := tw_lt h
      show (a :: r.takeWhile p).length < (a :: r).length
      rw [List.length_cons, List.length_cons]
      omega
theorem tw_head {p : Nat → Bool} : ∀ {l : List Nat}, l.all p = false → ∃ a r, l.drop (l.takeWhile p).length = a :: r ∧ p a = false
  | [], h => by cases h
  | a :: r, h => by
    rw [List.takeWhile_cons]
    cases e : p a with
    | false => exact ⟨a, r, rfl, e⟩
    | true =>
      rw [List.all_cons, e, Bool.true_and] at h
      exact tw_head h
theorem strip_len (goes : Nat → Bool) (z : Str) : (Txt.stripBy goes true true z).length = z.length - ((z.cps.toList.drop (z.cps.toList.takeWhile goes).length).reverse.takeWhile goes).length - (z.cps.toList.takeWhile goes).length := by
  have e1 : stripLo goes true z = (z.cps.toList.takeWhile goes).length := rfl
  have e2 : stripHi goes true z (stripLo goes true z) = z.length - ((z.cps.toList.drop (z.cps.toList.takeWhile goes).length).reverse.takeWhile goes).length := rfl
  unfold Txt.stripBy
  by_cases h : stripSame goes true true z = true
  · rw [if_pos h]
    unfold stripSame at h
    rw [Bool.and_eq_true] at h
    have h1 : stripLo goes true z = 0 := eq_of_beq h.1
    have h2 : stripHi goes true z (stripLo goes true z) = z.length := eq_of_beq h.2
    rw [← e2, ← e1, h2, h1, Nat.sub_zero]
  · rw [if_neg h]
    unfold stripped
    rw [size_strSub]
    · rw [e2, e1]
    · rw [e2]
      exact Nat.sub_le _ _
theorem len0 {z : Str} : z.length = 0 ↔ z = "" := by
  constructor
  · intro h
    obtain ⟨a⟩ := z
    have h2 : a.size = 0 := h
    have h3 : a = #[] := Array.eq_empty_of_size_eq_zero h2
    subst h3
    rfl
  · intro h
    subst h
    rfl
theorem strip_empty (goes : Nat → Bool) (z : Str) : (Txt.stripBy goes true true z = "") ↔ z.cps.toList.all goes = true := by
  rw [← len0, strip_len]
  have hl : z.cps.toList.length = z.length := by
    show z.cps.toList.length = z.cps.size
    rw [Array.length_toList]
  cases h : z.cps.toList.all goes with
  | true =>
    have e := tw_all h
    simp only [e, List.drop_length, List.reverse_nil, List.takeWhile_nil, List.length_nil, Nat.sub_zero, iff_true]
    omega
  | false =>
    have h1 := tw_lt h
    obtain ⟨a, r, h2, h3⟩ := tw_head h
    have h4 : ((z.cps.toList.drop (z.cps.toList.takeWhile goes).length).reverse).all goes = false := by
      rw [h2, List.all_reverse, List.all_cons, h3, Bool.false_and]
    have h5 := tw_lt h4
    rw [List.length_reverse, List.length_drop] at h5
    simp only [Bool.false_eq_true, iff_false]
    omega
theorem strip01 (z : Str) : decide (V.str (Txt.stripChars z "01") = V.str "") = isW z := by
  have h := strip_empty (("01" : Str).cps.contains) z
  have e : z.cps.toList.all (("01" : Str).cps.contains) = isW z := by
    unfold isW
    congr 1
    funext c
    rw [Array.contains_eq_mem]
    exact decide_eq_decide.mpr Array.mem_def
  rw [e] at h
  cases hw : isW z with
  | true => exact decide_eq_true (congrArg V.str (h.mpr hw))
  | false =>
    refine decide_eq_false fun q => ?_
    have z2 := h.mp (V.str.inj q)
    rw [hw] at z2
    cases z2
/-! ### signs of a text -/
def sg (c : Nat) : V := .str ⟨#[c]⟩
theorem dp_signs {K : PySem.W.Frag} {H : Hp} : ∀ cs : List Nat, DpAll K H (cs.map sg) (cs.map fun c => PyData.str ⟨#[c]⟩)
  | [] => .nil
  | c :: r => .cons (.str _) (dp_signs r)
theorem lay_signs : ∀ cs : List Nat, (∀ c ∈ cs, c < 128) → PyData.canLayAll0 (cs.map fun c => PyData.str ⟨#[c]⟩) = true
  | [], _ => rfl
  | c :: r, h => by
    show (PyData.canLay0 (.str ⟨#[c]⟩) && PyData.canLayAll0 (r.map fun c => PyData.str ⟨#[c]⟩)) = true
    rw [lay_signs r fun x hx => h x (List.mem_cons_of_mem _ hx), Bool.and_true]
    have hc := h c (List.mem_cons_self ..)
    show PyData.strOk ⟨#[c]⟩ = true
    have : c < 0x110000 := by omega
    simp [PyData.strOk, this]
theorem dep_signs : ∀ cs : List Nat, PyData.depthAll (cs.map fun c => PyData.str ⟨#[c]⟩) ≤ 1
  | [] => by simp [PyData.depthAll]
  | c :: r => by
    have h := dep_signs r
    simp only [List.map_cons, PyData.depthAll, PyData.depth]
    omega
theorem shaped_signs {cs : List Nat} (h : ∀ c ∈ cs, c < 128) : SeqAt.shaped (.list (cs.map fun c => PyData.str ⟨#[c]⟩)) = true := by
  unfold SeqAt.shaped
  rw [Bool.and_eq_true]
  refine ⟨lay_signs cs h, decide_eq_true ?_⟩
  have h2 := dep_signs cs
  simp only [PyData.depth]
  omega
theorem eqv_signs (cs : List Nat) : PyData.eqv (.list (cs.map fun c => PyData.str ⟨#[c]⟩)) (.list []) = cs.isEmpty := by
  cases cs <;> simp [PyData.eqv, PyData.eqvAll]
/-- a comprehension over a text that keeps some signs -/
theorem lc_signs {z : Str} {i : Nat} {tt : TT} {σ : L2.St} {H1 : Hp} {D : Addr} {Qd : Hp → Prop} (pb : Nat → Bool) (hz : z.length ≤ 2000) (hi : i < σ.length)
    (ht : ∀ c H (Q : Bool → Hp → Prop), c ∈ z.cps.toList → Q (pb c) H → tt ((wipe σ [i]).set i (some (sg c))) H Q) (hd : Qd (upd H1 D (.lst ((z.cps.toList.filter pb).map sg)))) :
    ∃ W : Nat → Nat → Hp → Prop, (∃ m, W 0 m (upd H1 D (.lst []))) ∧ ∀ j m H, W j m H →
      ((Its z).stop j H ∧ Qd H) ∨ ((Its z).go j H ∧ ∃ Nx : Hp → Prop, (∀ H', Nx H' → ∃ m', m' < m ∧ W (j + 1) m' H') ∧ ∀ x H', (Its z).yld j H x H' → gName i x (wipe σ [i]) H' fun σ2 H2 => wipe σ2 [i] = wipe σ [i] ∧ tt σ2 H2 fun b H3 =>
        if b = true then tVar i σ2 H3 fun y H4 => ∃ acc, H4 D = some (.lst acc) ∧ acc.length < sizeLine ∧ Nx (upd H4 D (.lst (acc ++ [y]))) else Nx H3) := by
  have hl : z.cps.toList.length = z.length := by
    show z.cps.toList.length = z.cps.size
    rw [Array.length_toList]
  refine lc_it walk_str (fun j H => H = upd H1 D (.lst (((z.cps.toList.take j).filter pb).map sg))) rfl (fun _ _ _ _ => trivial) (fun j x H H' hj h y => ?_) (fun H h => ?_)
  · obtain ⟨rfl, c, hc, rfl⟩ := y
    subst h
    have hc2 : z.cps.toList[j]? = some c := by rw [Array.getElem?_toList]; exact hc
    have hwi : (wipe σ [i]).length = σ.length := wipe_length σ [i]
    refine ⟨?_, ht c _ _ (List.mem_of_getElem? hc2) ?_⟩
    · show ((σ.set i none).set i (some (sg c))).set i none = σ.set i none
      rw [List.set_set, List.set_set]
    · have et : (z.cps.toList.take (j + 1)).filter pb = (z.cps.toList.take j).filter pb ++ (if pb c = true then [c] else []) := by
        rw [List.take_add_one, hc2, List.filter_append]
        congr 1
        show List.filter pb [c] = _
        rw [List.filter_cons, List.filter_nil]
      cases hp : pb c with
      | true =>
        rw [if_pos rfl]
        refine ⟨sg c, ?_, _, upd_same, ?_, ?_⟩
        · show ((σ.set i none).set i (some (sg c)))[i]? = some (some (sg c))
          rw [List.set_set, List.getElem?_set_self hi]
        · rw [List.length_map]
          refine small1000' ?_
          refine Nat.le_trans (List.length_filter_le _ _) ?_
          rw [List.length_take]
          omega
        · rw [upd_upd, et, hp, if_pos rfl, List.map_append]
          rfl
      | false =>
        rw [if_neg Bool.false_ne_true, et, hp, if_neg Bool.false_ne_true, List.append_nil]
  · subst h
    rw [List.take_of_length_le (by rw [hl]; exact Nat.le_refl _)]
    exact hd
end KM

set_option Elab.async false
set_option linter.all false
set_option maxRecDepth 100000
set_option maxHeartbeats 4000000
/-! What nearly all laws have: whole numbers, words, draws, picks, the same text. -/
namespace GA
open PySem PySem.Spec PyProof.Rows L2 KT KG KM KX KY KE0 KQ LK GxR DL KA DW EL QE QF TP
/-- what repr may be asked of -/
def Say (d : PyData) : Prop := d.showable = true ∧ d.depth ≤ 150 ∧ d.shown.length ≤ sizeLine
theorem say_str {z : Str} (h : ∀ c ∈ z.cps.toList, c < 0x110000) (hl : z.length ≤ 100000) : Say (.str z) := by
  refine ⟨rfl, by simp [PyData.depth], ?_⟩
  have := StrLaws.reprText_len z fun c hc => Nat.lt_of_lt_of_le (h c hc) (by decide)
  show (reprText z).length ≤ _
  rw [sizeLine_eq]
  omega
def wholeD : PyData → Bool
  | .int i => decide (0 ≤ i)
  | _ => false
def F_whole : FnD := fun ds K _ => ∃ d, ds = [.dat d] ∧ K (.bool (wholeD d))
def wordB : PyData → Bool
  | .str z => isW z
  | _ => false
def shortP (d : PyData) : Prop := ∀ z, d = .str z → z.length ≤ sizeLine
def F_word : FnD := fun ds K _ => ∃ d, ds = [.dat d] ∧ shortP d ∧ K (.bool (wordB d))
def stripP (a : Str) (d : PyData) (K : PyData → Prop) : Prop := ∃ b, d = .str b ∧ a.length ≤ sizeLine ∧ K (.str (Txt.stripChars a b))
theorem sn_strip {W : Wd} : SndM1 W (fun x xs H Q => ∃ a b, x = V.str a ∧ xs = [V.str b] ∧ a.length ≤ sizeLine ∧ Q (V.str (Txt.stripChars a b)) H) stripP := by
  intro M H a y dy d K Q g ry hd h c
  obtain ⟨b, rfl, hl, k⟩ := h
  cases pd_str hd ry
  exact ⟨a, b, rfl, rfl, hl, c _ k _ H .refl (Dx.str _)⟩
theorem strip_beq (z : Str) : (Txt.stripChars z "01" == "") = isW z := by
  have h := strip01 z
  rw [← h]
  by_cases e : Txt.stripChars z "01" = ""
  · rw [e]
    exact (decide_eq_true rfl).symm
  · rw [decide_eq_false (fun q => e (V.str.inj q))]
    exact beq_eq_false_iff_ne.mpr e
section
variable {P : Program} {w : World} {K : PySem.W.Frag} {mg : Str → Option Value} {base : Heap} {Tl : List Addr} {fn : Str → FuncData}
theorem ok_is_whole (p : Top P w K mg base Tl fn) : FnOk P w K mg base CX0 1 (He.fAd K ("is_whole", none)) (fn "is_whole") P_is_whole (spD (WP K Tl) F_whole) := by
  refine okLD p.D_is_whole.F sc_is_whole (fun ds Kk KE h => by obtain ⟨d, rfl, h⟩ := h; rfl) (fun W S0 cdv A outer s E hW hcd hr => ⟨_, (lss_one (ls_ret (le_and (le_cmp op_isTyB (fun _ => sn_tyIs) (le_cb (pe_callTy (call_typeX W.vol) (by rfl) p.T.type (by decide +kernel) (la_cons (lvar 0) la_nil)) (fun _ => sn_type)) (le_ob (pe_bltn (v := .ty "int") (by rfl) p.T.int (by decide +kernel) rfl))) (pe_one (le_cmp op_ge (fun _ => sn_cmp) (lvar 0) EL.le_int))))), fun ds Kk KE h => ?_⟩)
  obtain ⟨d, rfl, h⟩ := h
  (try simp only [DL.iteB_true, DL.iteB_false, EL.zSeq, EL.zNext, EL.zRet, EL.zRetF, EL.zRetN, EL.zIf, EL.zAsg, EL.zAsgF, EL.zAsgC, EL.zDrop, EL.zRel, EL.zFor, EL.zBreak, EL.zCont, EL.zAsgT, EL.zPar, EL.zPar3, EL.zAug, EL.zCut, EL.zRaise, EL.zWhile, EL.zTrim, EL.trimmed, EL.zDPut, EL.zFld, EL.zFldInc, EL.xVar, EL.xC, EL.xOb, EL.xGts, EL.x2, EL.x1, EL.xCall, EL.xB, EL.xTru, EL.xAnd, EL.xOr, EL.xNot, EL.xIf, EL.yAnd, EL.yOr, EL.yNot, EL.xNil, EL.xCons, EL.xTup, EL.xLst, EL.xDnew, EL.xNew, EL.xCell, EL.xIt, EL.xRng1, EL.xRng2, EL.xRng3, EL.xLc, EL.xDc, EL.xAG, EL.xFnD, EL.xFnDX, EL.xFnDK, EL.xSl, EL.xNone, EL.xPart, EL.xListOf, EL.xM0, EL.xM1, EL.yYes, EL.xIx, EL.xApp, EL.xExt, EL.xPop, EL.xRev, EL.xLen, EL.xDGet, EL.xDIn, EL.xGet1, EL.xGet2, EL.xOrT, EL.xAndT, EL.xNotT2, EL.xFld, EL.xMeth, EL.xMake, EL.xPairs, EL.xDisp, EL.xChain, EL.xFn, EL.xFnK, EL.glN, EL.glT_t, EL.glNil_n, EL.glCons_c, DL.op2, DL.op1, DL.opC, DL.c1, DL.isiP, DL.typeO, DL.tyIs, DL.inG, DL.isND, EL.wipeL, DL.le_s0, DL.le_s1, DL.le_s2, DL.le_s3, DL.le_s4, DL.le_s5, DL.le_s6, DL.le_s7, DL.le_s8, DL.le_s9, DL.le_s10, EL.start0L, EL.rtD_dat, EL.up_dat, EL.up_ob, EL.ofDV_dat, EL.dvL_dat, EL.dvL_deck, EL.dvL_ob, EL.frz_dat, EL.frz_loc, DL.lend, DL.noOwn, DL.DV.isOwn, DL.pd_dat, DL.pd_own, DL.ocpd_lst, DL.ocpd_dk, EL.itemsL, EL.itemsOfL, EL.seqL, EL.lenL, EL.ixL, EL.lookC, EL.truL, EL.truC, EL.dgetL, EL.dgetC, EL.dputC, EL.isDL, EL.isDC, EL.view_dat, EL.view_loc, EL.view_deck, EL.view_gts, EL.view_ob, EL.viewC_c, EL.oc_lst, EL.oc_dk, EL.oc_dt, EL.oc_ins, EL.asData_nil, EL.asData_cons, EL.asData_map, EL.asData_snoc, EL.views_nil, EL.views_cons, Option.bind_some, Option.map_some, Option.map_none, List.map_map, List.map_cons, List.map_nil, List.append_nil, List.cons_append, List.nil_append, List.length_cons, List.length_nil, List.length_map, List.replicate_succ, List.replicate_zero, List.getElem?_cons_zero, List.getElem?_cons_succ, List.set_cons_zero, List.set_cons_succ, Nat.reduceSub, Nat.reduceAdd, Nat.sub_self, Nat.zero_add, Option.some.injEq, EL.LV.dat.injEq, EL.LV.loc.injEq, EL.LV.ob.injEq, EL.Cell.lst.injEq, EL.Cell.dk.injEq, EL.Cell.ins.injEq, DL.DV.dat.injEq, PyData.bool.injEq, PyData.int.injEq, PyData.str.injEq, PyData.tuple.injEq, PyData.list.injEq, DL.DV.ob.injEq, V.ty.injEq, DL.DV.own.injEq, DL.OC.lst.injEq, List.cons.injEq, exists_eq_left', exists_eq_left, exists_eq_right, exists_eq_right', exists_and_left, and_true, true_and, Bool.not_true, Bool.not_false, Bool.and_true, Bool.true_and, true_or, Bool.not_eq_true', Bool.false_eq_true, if_true, if_false, reduceIte, reduceCtorEq])
  rw [ty_intD]
  cases d <;> simpa [isIntD, wholeD, int0P] using h
theorem ok_is_word (p : Top P w K mg base Tl fn) : FnOk P w K mg base CX0 1 (He.fAd K ("is_word", none)) (fn "is_word") P_is_word (spD (WP K Tl) F_word) := by
  refine okLD p.D_is_word.F sc_is_word (fun ds Kk KE h => by obtain ⟨d, rfl, hs, h⟩ := h; rfl) (fun W S0 cdv A outer s E hW hcd hr => ⟨_, (lss_one (ls_ret (le_and (le_cb (pe_callB call_isi (by rfl) p.T.isinstance (by decide +kernel) (la_cons (lvar 0) (la_cons (le_ob (pe_bltn (v := .ty "str") (by rfl) p.T.str (by decide +kernel) rfl)) la_nil))) (fun _ => sn_isi kb_str)) (pe_one (le_cmp (op_eqX hr W.vol) (fun _ => sn_eq) (le_m1 (pe_m1 F.slot_str_strip F.type_str_strip mt_stripChars (lvar 0) EL.le_str) (fun _ => sn_strip)) EL.le_str))))), fun ds Kk KE h => ?_⟩)
  obtain ⟨d, rfl, hs, h⟩ := h
  (try simp only [DL.iteB_true, DL.iteB_false, EL.zSeq, EL.zNext, EL.zRet, EL.zRetF, EL.zRetN, EL.zIf, EL.zAsg, EL.zAsgF, EL.zAsgC, EL.zDrop, EL.zRel, EL.zFor, EL.zBreak, EL.zCont, EL.zAsgT, EL.zPar, EL.zPar3, EL.zAug, EL.zCut, EL.zRaise, EL.zWhile, EL.zTrim, EL.trimmed, EL.zDPut, EL.zFld, EL.zFldInc, EL.xVar, EL.xC, EL.xOb, EL.xGts, EL.x2, EL.x1, EL.xCall, EL.xB, EL.xTru, EL.xAnd, EL.xOr, EL.xNot, EL.xIf, EL.yAnd, EL.yOr, EL.yNot, EL.xNil, EL.xCons, EL.xTup, EL.xLst, EL.xDnew, EL.xNew, EL.xCell, EL.xIt, EL.xRng1, EL.xRng2, EL.xRng3, EL.xLc, EL.xDc, EL.xAG, EL.xFnD, EL.xFnDX, EL.xFnDK, EL.xSl, EL.xNone, EL.xPart, EL.xListOf, EL.xM0, EL.xM1, EL.yYes, EL.xIx, EL.xApp, EL.xExt, EL.xPop, EL.xRev, EL.xLen, EL.xDGet, EL.xDIn, EL.xGet1, EL.xGet2, EL.xOrT, EL.xAndT, EL.xNotT2, EL.xFld, EL.xMeth, EL.xMake, EL.xPairs, EL.xDisp, EL.xChain, EL.xFn, EL.xFnK, EL.glN, EL.glT_t, EL.glNil_n, EL.glCons_c, DL.op2, DL.op1, DL.opC, DL.c1, DL.isiP, DL.typeO, DL.tyIs, DL.inG, DL.isND, EL.wipeL, DL.le_s0, DL.le_s1, DL.le_s2, DL.le_s3, DL.le_s4, DL.le_s5, DL.le_s6, DL.le_s7, DL.le_s8, DL.le_s9, DL.le_s10, EL.start0L, EL.rtD_dat, EL.up_dat, EL.up_ob, EL.ofDV_dat, EL.dvL_dat, EL.dvL_deck, EL.dvL_ob, EL.frz_dat, EL.frz_loc, DL.lend, DL.noOwn, DL.DV.isOwn, DL.pd_dat, DL.pd_own, DL.ocpd_lst, DL.ocpd_dk, EL.itemsL, EL.itemsOfL, EL.seqL, EL.lenL, EL.ixL, EL.lookC, EL.truL, EL.truC, EL.dgetL, EL.dgetC, EL.dputC, EL.isDL, EL.isDC, EL.view_dat, EL.view_loc, EL.view_deck, EL.view_gts, EL.view_ob, EL.viewC_c, EL.oc_lst, EL.oc_dk, EL.oc_dt, EL.oc_ins, EL.asData_nil, EL.asData_cons, EL.asData_map, EL.asData_snoc, EL.views_nil, EL.views_cons, Option.bind_some, Option.map_some, Option.map_none, List.map_map, List.map_cons, List.map_nil, List.append_nil, List.cons_append, List.nil_append, List.length_cons, List.length_nil, List.length_map, List.replicate_succ, List.replicate_zero, List.getElem?_cons_zero, List.getElem?_cons_succ, List.set_cons_zero, List.set_cons_succ, Nat.reduceSub, Nat.reduceAdd, Nat.sub_self, Nat.zero_add, Option.some.injEq, EL.LV.dat.injEq, EL.LV.loc.injEq, EL.LV.ob.injEq, EL.Cell.lst.injEq, EL.Cell.dk.injEq, EL.Cell.ins.injEq, DL.DV.dat.injEq, PyData.bool.injEq, PyData.int.injEq, PyData.str.injEq, PyData.tuple.injEq, PyData.list.injEq, DL.DV.ob.injEq, V.ty.injEq, DL.DV.own.injEq, DL.OC.lst.injEq, List.cons.injEq, exists_eq_left', exists_eq_left, exists_eq_right, exists_eq_right', exists_and_left, and_true, true_and, Bool.not_true, Bool.not_false, Bool.and_true, Bool.true_and, true_or, Bool.not_eq_true', Bool.false_eq_true, if_true, if_false, reduceIte, reduceCtorEq])
  cases d with
  | str z =>
    simp only [isStrD, iteB_true]
    refine ⟨z, rfl, "01", rfl, hs z rfl, ?_⟩
    (try simp only [DL.iteB_true, DL.iteB_false, EL.zSeq, EL.zNext, EL.zRet, EL.zRetF, EL.zRetN, EL.zIf, EL.zAsg, EL.zAsgF, EL.zAsgC, EL.zDrop, EL.zRel, EL.zFor, EL.zBreak, EL.zCont, EL.zAsgT, EL.zPar, EL.zPar3, EL.zAug, EL.zCut, EL.zRaise, EL.zWhile, EL.zTrim, EL.trimmed, EL.zDPut, EL.zFld, EL.zFldInc, EL.xVar, EL.xC, EL.xOb, EL.xGts, EL.x2, EL.x1, EL.xCall, EL.xB, EL.xTru, EL.xAnd, EL.xOr, EL.xNot, EL.xIf, EL.yAnd, EL.yOr, EL.yNot, EL.xNil, EL.xCons, EL.xTup, EL.xLst, EL.xDnew, EL.xNew, EL.xCell, EL.xIt, EL.xRng1, EL.xRng2, EL.xRng3, EL.xLc, EL.xDc, EL.xAG, EL.xFnD, EL.xFnDX, EL.xFnDK, EL.xSl, EL.xNone, EL.xPart, EL.xListOf, EL.xM0, EL.xM1, EL.yYes, EL.xIx, EL.xApp, EL.xExt, EL.xPop, EL.xRev, EL.xLen, EL.xDGet, EL.xDIn, EL.xGet1, EL.xGet2, EL.xOrT, EL.xAndT, EL.xNotT2, EL.xFld, EL.xMeth, EL.xMake, EL.xPairs, EL.xDisp, EL.xChain, EL.xFn, EL.xFnK, EL.glN, EL.glT_t, EL.glNil_n, EL.glCons_c, DL.op2, DL.op1, DL.opC, DL.c1, DL.isiP, DL.typeO, DL.tyIs, DL.inG, DL.isND, EL.wipeL, DL.le_s0, DL.le_s1, DL.le_s2, DL.le_s3, DL.le_s4, DL.le_s5, DL.le_s6, DL.le_s7, DL.le_s8, DL.le_s9, DL.le_s10, EL.start0L, EL.rtD_dat, EL.up_dat, EL.up_ob, EL.ofDV_dat, EL.dvL_dat, EL.dvL_deck, EL.dvL_ob, EL.frz_dat, EL.frz_loc, DL.lend, DL.noOwn, DL.DV.isOwn, DL.pd_dat, DL.pd_own, DL.ocpd_lst, DL.ocpd_dk, EL.itemsL, EL.itemsOfL, EL.seqL, EL.lenL, EL.ixL, EL.lookC, EL.truL, EL.truC, EL.dgetL, EL.dgetC, EL.dputC, EL.isDL, EL.isDC, EL.view_dat, EL.view_loc, EL.view_deck, EL.view_gts, EL.view_ob, EL.viewC_c, EL.oc_lst, EL.oc_dk, EL.oc_dt, EL.oc_ins, EL.asData_nil, EL.asData_cons, EL.asData_map, EL.asData_snoc, EL.views_nil, EL.views_cons, Option.bind_some, Option.map_some, Option.map_none, List.map_map, List.map_cons, List.map_nil, List.append_nil, List.cons_append, List.nil_append, List.length_cons, List.length_nil, List.length_map, List.replicate_succ, List.replicate_zero, List.getElem?_cons_zero, List.getElem?_cons_succ, List.set_cons_zero, List.set_cons_succ, Nat.reduceSub, Nat.reduceAdd, Nat.sub_self, Nat.zero_add, Option.some.injEq, EL.LV.dat.injEq, EL.LV.loc.injEq, EL.LV.ob.injEq, EL.Cell.lst.injEq, EL.Cell.dk.injEq, EL.Cell.ins.injEq, DL.DV.dat.injEq, PyData.bool.injEq, PyData.int.injEq, PyData.str.injEq, PyData.tuple.injEq, PyData.list.injEq, DL.DV.ob.injEq, V.ty.injEq, DL.DV.own.injEq, DL.OC.lst.injEq, List.cons.injEq, exists_eq_left', exists_eq_left, exists_eq_right, exists_eq_right', exists_and_left, and_true, true_and, Bool.not_true, Bool.not_false, Bool.and_true, Bool.true_and, true_or, Bool.not_eq_true', Bool.false_eq_true, if_true, if_false, reduceIte, reduceCtorEq])
    (try simp only [DL.negP_i, DL.le_s0, DL.le_s1, DL.le_s2, DL.le_s3, DL.le_s4, DL.le_s5, DL.le_s6, DL.le_s7, DL.le_s8, DL.le_s9, DL.le_s10, DL.le_s11, DL.le_s12, DL.le_s13, DL.le_s14, DL.le_s15, DL.le_s16, DL.le_s17, DL.le_s18, DL.le_s19, DL.le_s20, DL.le_s21, DL.le_s22, DL.le_s23, DL.le_s24, DL.le_s25, DL.le_s26, DL.le_s27, DL.le_s28, DL.le_s29, DL.le_s30, DL.le_s31, DL.le_s32, DL.le_s33, DL.le_s34, DL.le_s35, DL.le_s36, DL.le_s37, DL.le_s38, DL.le_s39, DL.le_s40, DL.le_s41, DL.le_s42, DL.le_s43, DL.le_s44, DL.le_s45, DL.le_s46, DL.le_s47, DL.le_s48, DL.le_s49, DL.le_s50, DL.le_s51, DL.le_s52, DL.le_s53, DL.le_s54, DL.le_s55, DL.le_s56, DL.le_s57, DL.le_s58, DL.le_s59, DL.le_s60, DL.le_s61, DL.le_s62, DL.le_s63, DL.le_s64, DL.iteB_true, DL.iteB_false, DL.lenP_t, DL.lenP_l, DL.lenP_s, DL.eqP, DL.eqOk_int, DL.eqOk_str, DL.eqOk_emp, DL.eqOk_empL, DL.eqv_emp1, DL.eqv_empL1, DL.eqv_ii, DL.eqv_ss, DL.ixP_t, DL.ixP_l, DL.ixP_s, DL.slP_t, DL.slP_l, DL.slP_s, DL.intcP_i, DL.intcP_b, DL.intcP_s, DL.tupcP_l, DL.tupcP_t, DL.atI_z, DL.atI_o, DL.atI_t, DL.int0P_ii, DL.intP_ii, DL.addP_ii, DL.addP_ss, DL.addP_tt, DL.addP_ll, DL.isTup_t, DL.reprP, Bool.false_eq_true, if_true, if_false, reduceIte, Option.some.injEq, PyData.bool.injEq, exists_eq_left', exists_eq_left, exists_eq_right, exists_eq_right', true_and, and_true, Bool.true_eq_false, Bool.not_true, Bool.not_false, false_and, and_false, exists_and_left, reduceCtorEq, DL.DV.gts.injEq, exists_const])
    rw [strip_beq]
    exact h
  | _ => simpa [isStrD, wordB] using h
theorem ok__law_draw (p : Top P w K mg base Tl fn) : FnOk P w K mg base CX0 1 (He.fAd K ("_law_draw", none)) (fn "_law_draw") KA.P__law_draw (spD (WP K Tl) F_draw) := DW.ok_draw p.D__law_draw p.TD
def itemsD : PyData → Option (List PyData)
  | .list es => some es
  | .tuple es => some es
  | .str z => some (DL.signs z)
  | _ => none
/-- one of some, also of a text's signs -/
def F_pick : FnD := fun ds K _ => ∃ d es, ds = [.deck, .dat d] ∧ itemsD d = some es ∧ 0 < es.length ∧ es.length ≤ 1000000 ∧ ∀ e ∈ es, K e
theorem ok__law_pick (p : Top P w K mg base Tl fn) : FnOk P w K mg base CX0 2 (He.fAd K ("_law_pick", none)) (fn "_law_pick") DW.P__law_pick (spD (WP K Tl) F_pick) := by
  refine okLD p.D__law_pick.F DW.sc__law_pick (fun ds Kk KE h => by obtain ⟨d, es, rfl, _⟩ := h; rfl) (fun W S0 cdv A outer s E hW hcd hr => ⟨_, (lss_one (ls_ret (le_ix (lvar 1) (le_callD (pe_call (ok__law_draw p) (hr.mono (by first | decide | omega)) (by rfl) p.D__law_draw.g p.D__law_draw.F.kp p.D__law_draw.b .nil pass0 (la_cons (lvar 0) (la_cons (le_len (pe_callB call_len (by rfl) p.T.len (by decide +kernel) (pa_cons (lvar 1) pa_nil))) la_nil))) hW) (fun _ _ => rfl)))), fun ds Kk KE h => ?_⟩)
  obtain ⟨d, es, rfl, hd, n0, n1, hk⟩ := h
  (try simp only [DL.iteB_true, DL.iteB_false, EL.zSeq, EL.zNext, EL.zRet, EL.zRetF, EL.zRetN, EL.zIf, EL.zAsg, EL.zAsgF, EL.zAsgC, EL.zDrop, EL.zRel, EL.zFor, EL.zBreak, EL.zCont, EL.zAsgT, EL.zPar, EL.zPar3, EL.zAug, EL.zCut, EL.zRaise, EL.zWhile, EL.zTrim, EL.trimmed, EL.zDPut, EL.zFld, EL.zFldInc, EL.xVar, EL.xC, EL.xOb, EL.xGts, EL.x2, EL.x1, EL.xCall, EL.xB, EL.xTru, EL.xAnd, EL.xOr, EL.xNot, EL.xIf, EL.yAnd, EL.yOr, EL.yNot, EL.xNil, EL.xCons, EL.xTup, EL.xLst, EL.xDnew, EL.xNew, EL.xCell, EL.xIt, EL.xRng1, EL.xRng2, EL.xRng3, EL.xLc, EL.xDc, EL.xAG, EL.xFnD, EL.xFnDX, EL.xFnDK, EL.xSl, EL.xNone, EL.xPart, EL.xListOf, EL.xM0, EL.xM1, EL.yYes, EL.xIx, EL.xApp, EL.xExt, EL.xPop, EL.xRev, EL.xLen, EL.xDGet, EL.xDIn, EL.xGet1, EL.xGet2, EL.xOrT, EL.xAndT, EL.xNotT2, EL.xFld, EL.xMeth, EL.xMake, EL.xPairs, EL.xDisp, EL.xChain, EL.xFn, EL.xFnK, EL.glN, EL.glT_t, EL.glNil_n, EL.glCons_c, DL.op2, DL.op1, DL.opC, DL.c1, DL.isiP, DL.typeO, DL.tyIs, DL.inG, DL.isND, EL.wipeL, DL.le_s0, DL.le_s1, DL.le_s2, DL.le_s3, DL.le_s4, DL.le_s5, DL.le_s6, DL.le_s7, DL.le_s8, DL.le_s9, DL.le_s10, EL.start0L, EL.rtD_dat, EL.up_dat, EL.up_ob, EL.ofDV_dat, EL.dvL_dat, EL.dvL_deck, EL.dvL_ob, EL.frz_dat, EL.frz_loc, DL.lend, DL.noOwn, DL.DV.isOwn, DL.pd_dat, DL.pd_own, DL.ocpd_lst, DL.ocpd_dk, EL.itemsL, EL.itemsOfL, EL.seqL, EL.lenL, EL.ixL, EL.lookC, EL.truL, EL.truC, EL.dgetL, EL.dgetC, EL.dputC, EL.isDL, EL.isDC, EL.view_dat, EL.view_loc, EL.view_deck, EL.view_gts, EL.view_ob, EL.viewC_c, EL.oc_lst, EL.oc_dk, EL.oc_dt, EL.oc_ins, EL.asData_nil, EL.asData_cons, EL.asData_map, EL.asData_snoc, EL.views_nil, EL.views_cons, Option.bind_some, Option.map_some, Option.map_none, List.map_map, List.map_cons, List.map_nil, List.append_nil, List.cons_append, List.nil_append, List.length_cons, List.length_nil, List.length_map, List.replicate_succ, List.replicate_zero, List.getElem?_cons_zero, List.getElem?_cons_succ, List.set_cons_zero, List.set_cons_succ, Nat.reduceSub, Nat.reduceAdd, Nat.sub_self, Nat.zero_add, Option.some.injEq, EL.LV.dat.injEq, EL.LV.loc.injEq, EL.LV.ob.injEq, EL.Cell.lst.injEq, EL.Cell.dk.injEq, EL.Cell.ins.injEq, DL.DV.dat.injEq, PyData.bool.injEq, PyData.int.injEq, PyData.str.injEq, PyData.tuple.injEq, PyData.list.injEq, DL.DV.ob.injEq, V.ty.injEq, DL.DV.own.injEq, DL.OC.lst.injEq, List.cons.injEq, exists_eq_left', exists_eq_left, exists_eq_right, exists_eq_right', exists_and_left, and_true, true_and, Bool.not_true, Bool.not_false, Bool.and_true, Bool.true_and, true_or, Bool.not_eq_true', Bool.false_eq_true, if_true, if_false, reduceIte, reduceCtorEq])
  match d, hd with
  | .list xs, hd =>
    cases hd
    refine ⟨_, rfl, by omega, by omega, fun r r0 r1 => ?_⟩
    obtain ⟨i, rfl⟩ := Int.eq_ofNat_of_zero_le r0
    have hi : i < es.length := by omega
    exact ⟨es[i], L2.atI_nat (List.getElem?_eq_getElem hi), hk _ (List.getElem_mem hi)⟩
  | .tuple xs, hd =>
    cases hd
    refine ⟨_, rfl, by omega, by omega, fun r r0 r1 => ?_⟩
    obtain ⟨i, rfl⟩ := Int.eq_ofNat_of_zero_le r0
    have hi : i < es.length := by omega
    exact ⟨es[i], L2.atI_nat (List.getElem?_eq_getElem hi), hk _ (List.getElem_mem hi)⟩
  | .str z, hd =>
    cases hd
    have e : (DL.signs z).length = z.length := by
      unfold DL.signs
      rw [List.length_map]
      rfl
    rw [e] at n0 n1
    refine ⟨by rw [sizeLine_eq]; omega, _, rfl, by omega, by omega, fun r r0 r1 => ?_⟩
    obtain ⟨i, rfl⟩ := Int.eq_ofNat_of_zero_le r0
    have hi : i < z.cps.toList.length := by
      have : z.cps.toList.length = z.length := rfl
      omega
    refine ⟨by rw [sizeLine_eq]; omega, z.cps.toList[i], L2.atI_nat (List.getElem?_eq_getElem hi), hk _ ?_⟩
    exact List.mem_map.mpr ⟨_, List.getElem_mem hi, rfl⟩
def F_same : FnD := fun ds K _ => ∃ a b, ds = [.dat a, .dat b] ∧ Say a ∧ Say b ∧ K (.bool (a.shown == b.shown))
theorem ok__law_same (p : Top P w K mg base Tl fn) : FnG P w K mg base 1 (He.fAd K ("_law_same", none)) (fn "_law_same") P__law_same (spD (WP K Tl) F_same) := by
  refine okLG p.D__law_same.F sc__law_same (fun ds Kk KE h => by obtain ⟨a, b, rfl, h1, h2, h⟩ := h; rfl) (fun W S0 cdv A outer s E hW hcd hA hr => ⟨_, (lss_one (ls_ret (le_cmp (op_eqX hr W.vol) (fun _ => sn_eq) (le_cb (pe_callB (call_reprX hr hA p.hm W.vol) (by rfl) p.T.repr (by decide +kernel) (la_cons (lvar 0) la_nil)) (fun _ => sn_repr)) (le_cb (pe_callB (call_reprX hr hA p.hm W.vol) (by rfl) p.T.repr (by decide +kernel) (la_cons (lvar 1) la_nil)) (fun _ => sn_repr))))), fun ds Kk KE h => ?_⟩)
  obtain ⟨a, b, rfl, h1, h2, h⟩ := h
  (try simp only [DL.iteB_true, DL.iteB_false, EL.zSeq, EL.zNext, EL.zRet, EL.zRetF, EL.zRetN, EL.zIf, EL.zAsg, EL.zAsgF, EL.zAsgC, EL.zDrop, EL.zRel, EL.zFor, EL.zBreak, EL.zCont, EL.zAsgT, EL.zPar, EL.zPar3, EL.zAug, EL.zCut, EL.zRaise, EL.zWhile, EL.zTrim, EL.trimmed, EL.zDPut, EL.zFld, EL.zFldInc, EL.xVar, EL.xC, EL.xOb, EL.xGts, EL.x2, EL.x1, EL.xCall, EL.xB, EL.xTru, EL.xAnd, EL.xOr, EL.xNot, EL.xIf, EL.yAnd, EL.yOr, EL.yNot, EL.xNil, EL.xCons, EL.xTup, EL.xLst, EL.xDnew, EL.xNew, EL.xCell, EL.xIt, EL.xRng1, EL.xRng2, EL.xRng3, EL.xLc, EL.xDc, EL.xAG, EL.xFnD, EL.xFnDX, EL.xFnDK, EL.xSl, EL.xNone, EL.xPart, EL.xListOf, EL.xM0, EL.xM1, EL.yYes, EL.xIx, EL.xApp, EL.xExt, EL.xPop, EL.xRev, EL.xLen, EL.xDGet, EL.xDIn, EL.xGet1, EL.xGet2, EL.xOrT, EL.xAndT, EL.xNotT2, EL.xFld, EL.xMeth, EL.xMake, EL.xPairs, EL.xDisp, EL.xChain, EL.xFn, EL.xFnK, EL.glN, EL.glT_t, EL.glNil_n, EL.glCons_c, DL.op2, DL.op1, DL.opC, DL.c1, DL.isiP, DL.typeO, DL.tyIs, DL.inG, DL.isND, EL.wipeL, DL.le_s0, DL.le_s1, DL.le_s2, DL.le_s3, DL.le_s4, DL.le_s5, DL.le_s6, DL.le_s7, DL.le_s8, DL.le_s9, DL.le_s10, EL.start0L, EL.rtD_dat, EL.up_dat, EL.up_ob, EL.ofDV_dat, EL.dvL_dat, EL.dvL_deck, EL.dvL_ob, EL.frz_dat, EL.frz_loc, DL.lend, DL.noOwn, DL.DV.isOwn, DL.pd_dat, DL.pd_own, DL.ocpd_lst, DL.ocpd_dk, EL.itemsL, EL.itemsOfL, EL.seqL, EL.lenL, EL.ixL, EL.lookC, EL.truL, EL.truC, EL.dgetL, EL.dgetC, EL.dputC, EL.isDL, EL.isDC, EL.view_dat, EL.view_loc, EL.view_deck, EL.view_gts, EL.view_ob, EL.viewC_c, EL.oc_lst, EL.oc_dk, EL.oc_dt, EL.oc_ins, EL.asData_nil, EL.asData_cons, EL.asData_map, EL.asData_snoc, EL.views_nil, EL.views_cons, Option.bind_some, Option.map_some, Option.map_none, List.map_map, List.map_cons, List.map_nil, List.append_nil, List.cons_append, List.nil_append, List.length_cons, List.length_nil, List.length_map, List.replicate_succ, List.replicate_zero, List.getElem?_cons_zero, List.getElem?_cons_succ, List.set_cons_zero, List.set_cons_succ, Nat.reduceSub, Nat.reduceAdd, Nat.sub_self, Nat.zero_add, Option.some.injEq, EL.LV.dat.injEq, EL.LV.loc.injEq, EL.LV.ob.injEq, EL.Cell.lst.injEq, EL.Cell.dk.injEq, EL.Cell.ins.injEq, DL.DV.dat.injEq, PyData.bool.injEq, PyData.int.injEq, PyData.str.injEq, PyData.tuple.injEq, PyData.list.injEq, DL.DV.ob.injEq, V.ty.injEq, DL.DV.own.injEq, DL.OC.lst.injEq, List.cons.injEq, exists_eq_left', exists_eq_left, exists_eq_right, exists_eq_right', exists_and_left, and_true, true_and, Bool.not_true, Bool.not_false, Bool.and_true, Bool.true_and, true_or, Bool.not_eq_true', Bool.false_eq_true, if_true, if_false, reduceIte, reduceCtorEq])
  (try simp only [DL.negP_i, DL.le_s0, DL.le_s1, DL.le_s2, DL.le_s3, DL.le_s4, DL.le_s5, DL.le_s6, DL.le_s7, DL.le_s8, DL.le_s9, DL.le_s10, DL.le_s11, DL.le_s12, DL.le_s13, DL.le_s14, DL.le_s15, DL.le_s16, DL.le_s17, DL.le_s18, DL.le_s19, DL.le_s20, DL.le_s21, DL.le_s22, DL.le_s23, DL.le_s24, DL.le_s25, DL.le_s26, DL.le_s27, DL.le_s28, DL.le_s29, DL.le_s30, DL.le_s31, DL.le_s32, DL.le_s33, DL.le_s34, DL.le_s35, DL.le_s36, DL.le_s37, DL.le_s38, DL.le_s39, DL.le_s40, DL.le_s41, DL.le_s42, DL.le_s43, DL.le_s44, DL.le_s45, DL.le_s46, DL.le_s47, DL.le_s48, DL.le_s49, DL.le_s50, DL.le_s51, DL.le_s52, DL.le_s53, DL.le_s54, DL.le_s55, DL.le_s56, DL.le_s57, DL.le_s58, DL.le_s59, DL.le_s60, DL.le_s61, DL.le_s62, DL.le_s63, DL.le_s64, DL.iteB_true, DL.iteB_false, DL.lenP_t, DL.lenP_l, DL.lenP_s, DL.eqP, DL.eqOk_int, DL.eqOk_str, DL.eqOk_emp, DL.eqOk_empL, DL.eqv_emp1, DL.eqv_empL1, DL.eqv_ii, DL.eqv_ss, DL.ixP_t, DL.ixP_l, DL.ixP_s, DL.slP_t, DL.slP_l, DL.slP_s, DL.intcP_i, DL.intcP_b, DL.intcP_s, DL.tupcP_l, DL.tupcP_t, DL.atI_z, DL.atI_o, DL.atI_t, DL.int0P_ii, DL.intP_ii, DL.addP_ii, DL.addP_ss, DL.addP_tt, DL.addP_ll, DL.isTup_t, DL.reprP, Bool.false_eq_true, if_true, if_false, reduceIte, Option.some.injEq, PyData.bool.injEq, exists_eq_left', exists_eq_left, exists_eq_right, exists_eq_right', true_and, and_true, Bool.true_eq_false, Bool.not_true, Bool.not_false, false_and, and_false, exists_and_left, reduceCtorEq, DL.DV.gts.injEq, exists_const])
  exact ⟨h1, h2, h⟩
end
end GA


set_option Elab.async false
set_option linter.all false
set_option maxRecDepth 100000
set_option maxHeartbeats 1000000
/-! Texts as lists of signs; comprehensions over ranges and maps; tables. -/
namespace EL
open PySem PySem.Spec PyProof.Rows L2 KT KG KM KX KQ LK GxR DL
def ofL (l : List Nat) : Str := ⟨l.toArray⟩
theorem ofL_cps (l : List Nat) : (ofL l).cps.toList = l := rfl
theorem ofL_len (l : List Nat) : (ofL l).length = l.length := rfl
theorem ofL_app (a b : List Nat) : ofL a ++ ofL b = ofL (a ++ b) := by
  show (⟨a.toArray ++ b.toArray⟩ : Str) = ⟨(a ++ b).toArray⟩
  rw [List.append_toArray]
theorem ofL_of (z : Str) : ofL z.cps.toList = z := rfl
theorem ofL_inj {a b : List Nat} (h : ofL a = ofL b) : a = b := congrArg (fun z : Str => z.cps.toList) h
theorem join_ofL : ∀ ls : List (List Nat), Txt.join "" (ls.map ofL) = ofL ls.flatten := by
  intro ls
  rw [show Txt.join "" (ls.map ofL) = Str.join "" (ls.map ofL) from StrLaws.glued_eq_join _ _]
  induction ls with
  | nil => rfl
  | cons x r ih =>
    cases r with
    | nil =>
      simp only [List.map_cons, List.map_nil, List.flatten_cons, List.flatten_nil, List.append_nil]
      rfl
    | cons y r =>
      have e : Str.join "" ((x :: y :: r).map ofL) = ofL x ++ "" ++ Str.join "" ((y :: r).map ofL) := rfl
      rw [e, ih, show ("" : Str) = ofL [] from rfl, ofL_app, ofL_app, List.append_nil, List.flatten_cons (l := x)]
theorem cut_nn (l : List Nat) (i j : Nat) : cutS (ofL l) (some (i : Int)) (some (j : Int)) = ofL ((l.drop i).take (j - i)) := by
  unfold cutS
  rw [HT.sIx_nat, HT.sIx_nat, ofL_cps, ofL_len]
  show ofL _ = _
  congr 1
  by_cases h : i ≤ l.length
  · rw [Nat.min_eq_left h]
    by_cases h2 : j ≤ l.length
    · rw [Nat.min_eq_left h2]
    · rw [Nat.min_eq_right (by omega), List.take_of_length_le (by simp), List.take_of_length_le (by simp; omega)]
  · rw [List.drop_of_length_le (by omega), List.drop_of_length_le (by omega)]
    simp
theorem cut_0n (l : List Nat) (j : Nat) : cutS (ofL l) none (some (j : Int)) = ofL (l.take j) := by
  have := cut_nn l 0 j
  rw [List.drop_zero, Nat.sub_zero] at this
  rw [← this]
  rfl
theorem cut_n0 (l : List Nat) (i : Nat) : cutS (ofL l) (some (i : Int)) none = ofL (l.drop i) := by
  unfold cutS
  rw [HT.sIx_nat, HT.sIx_none, ofL_cps, ofL_len]
  show ofL _ = _
  congr 1
  by_cases h : i ≤ l.length
  · rw [Nat.min_eq_left h, List.take_of_length_le (by simp)]
  · rw [Nat.min_eq_right (by omega)]
    simp [List.drop_of_length_le (show l.length ≤ i by omega)]
theorem rgC_of {n c : Nat} (hc : 0 < c) (h1 : c < 1000000) (h2 : n < 1000000000) : RgC 0 (n : Int) (c : Int) ((n + c - 1) / c) := by
  have e : Builtin.Range.rangeSize 0 (n : Int) (c : Int) = ((n + c - 1) / c : Nat) := by
    rw [rangeSize_pos (by omega) (by omega), show ((n : Int) + (c : Int) - 1) = ((n + c - 1 : Nat) : Int) by omega]
    exact (Int.natCast_ediv _ _).symm
  have l1 : (n + c - 1) / c ≤ n + c - 1 := Nat.div_le_self _ _
  have l2 : (n + c - 1) / c * c ≤ n + c - 1 := Nat.div_mul_le_self _ _
  have l3 : (((n + c - 1) / c : Nat) : Int) * (c : Int) ≤ n + c - 1 := by
    have := Int.ofNat_le.mpr l2
    rw [Int.natCast_mul] at this
    omega
  refine ⟨by omega, by omega, ?_, e⟩
  unfold Builtin.Range.small
  rw [e]
  simp only [Builtin.Range.rangeFitsLong, Bool.and_eq_true, Bool.or_eq_true, decide_eq_true_eq, beq_iff_eq, show (c : Int) > 0 by omega, if_true]
  clear e l2 l3
  generalize (n + c - 1) / c = q at l1 ⊢
  exact ⟨⟨⟨⟨⟨by decide, by decide⟩, by omega, by omega⟩, by omega, by omega⟩, by omega, by omega⟩, .inr ⟨by omega, by omega⟩⟩
theorem asData_fun {α : Type} (f : α → PyData) (l : List α) : asData (l.map fun x => .dat (f x)) = some (l.map f) := by
  rw [← asData_map, List.map_map]
  rfl
theorem foldl_put {α : Type} {qk : α → Key} {q : α → LV} : ∀ {items : List α} {acc : List (Key × LV)}, (acc.map (·.1) ++ items.map qk).Nodup → items.foldl (fun acc d => putA acc (qk d) (q d)) acc = acc ++ items.map fun d => (qk d, q d)
  | [], acc, _ => by simp
  | d :: ds, acc, h => by
    have e : putA acc (qk d) (q d) = acc ++ [(qk d, q d)] := by
      unfold putA
      rw [if_neg]
      intro z
      obtain ⟨p, hp, h2⟩ := List.any_eq_true.mp z
      have h2 := of_decide_eq_true h2
      rw [List.nodup_append] at h
      exact h.2.2 _ (List.mem_map.mpr ⟨p, hp, rfl⟩) _ (by simp) h2
    rw [List.foldl_cons, e, foldl_put (by simpa using h)]
    simp
theorem len_app (a b : Str) : (a ++ b).length = a.length + b.length := by
  show (a.cps ++ b.cps).size = _
  rw [Array.size_append]
  rfl
theorem band1 (l : Nat) : Builtin.bitAnd (l : Int) 1 = ((l % 2 : Nat) : Int) := by
  have := Bits.bitAnd_mask (x := (l : Int)) 1 (by omega)
  rw [show ((2 : Int) ^ 1 - 1) = 1 from rfl, show ((2 : Int) ^ 1) = 2 from rfl] at this
  rw [this]
  omega
section
variable {gd : GL} {t : LT} {f : LE} {ρ : LEnv} {gu : LH → Prop}
/-- [q(x) for x in (g(a) for a in l)], data -/
theorem lcl_map {α : Type} {g q : α → PyData} {η : LH} {K : List LV → LH → Prop} (hg : gu η) {l : List α} (h : ∀ a ∈ l, ∀ Q : LV → LH → Prop, Q (.dat (q a)) η → gd (.dat (g a)) ρ fun ρ' => f ρ' η Q) (hl : l.length ≤ sizeLine) (k : K (l.map fun a => .dat (q a)) η) : lcLL gd yYes f ρ gu ((l.map g).map .dat) [] η K := by
  have go : ∀ (l : List α) (acc : List LV), (∀ a ∈ l, ∀ Q : LV → LH → Prop, Q (.dat (q a)) η → gd (.dat (g a)) ρ fun ρ' => f ρ' η Q) → acc.length + l.length ≤ sizeLine → K (acc ++ l.map fun a => .dat (q a)) η → lcLL gd yYes f ρ gu ((l.map g).map .dat) acc η K := by
    intro l
    induction l with
    | nil =>
      intro acc _ _ k
      exact ⟨hg, by simpa using k⟩
    | cons a l ih =>
      intro acc h hl k
      simp only [List.length_cons] at hl
      refine ⟨hg, h a List.mem_cons_self (fun x η2 => acc.length < sizeLine ∧ lcLL gd yYes f ρ gu ((l.map g).map LV.dat) (acc ++ [x]) η2 K) ⟨by omega, ?_⟩⟩
      exact ih _ (fun a ha => h a (List.mem_cons_of_mem _ ha)) (by simp; omega) (by simpa using k)
  exact go l [] h (by simpa using hl) (by simpa using k)
/-- .. with a test -/
theorem lcl_mapf {α : Type} {g q : α → PyData} {p : α → Bool} {η : LH} {K : List LV → LH → Prop} (hg : gu η) {l : List α} (h : ∀ a ∈ l, ∀ Q : LEnv → Bool → LH → Prop, (∀ ρ', (∀ Q2 : LV → LH → Prop, p a = true → Q2 (.dat (q a)) η → f ρ' η Q2) → Q ρ' (p a) η) → gd (.dat (g a)) ρ fun ρ' => t ρ' η (Q ρ')) (hl : l.length ≤ sizeLine) (k : K ((l.filter p).map fun a => .dat (q a)) η) : lcLL gd t f ρ gu ((l.map g).map .dat) [] η K := by
  have go : ∀ (l : List α) (acc : List LV), (∀ a ∈ l, ∀ Q : LEnv → Bool → LH → Prop, (∀ ρ', (∀ Q2 : LV → LH → Prop, p a = true → Q2 (.dat (q a)) η → f ρ' η Q2) → Q ρ' (p a) η) → gd (.dat (g a)) ρ fun ρ' => t ρ' η (Q ρ')) → acc.length + l.length ≤ sizeLine → K (acc ++ (l.filter p).map fun a => .dat (q a)) η → lcLL gd t f ρ gu ((l.map g).map .dat) acc η K := by
    intro l
    induction l with
    | nil =>
      intro acc _ _ k
      exact ⟨hg, by simpa using k⟩
    | cons a l ih =>
      intro acc h hl k
      simp only [List.length_cons] at hl
      refine ⟨hg, h a List.mem_cons_self (fun ρ' b η1 => iteB b (f ρ' η1 fun x η2 => acc.length < sizeLine ∧ lcLL gd t f ρ gu ((l.map g).map LV.dat) (acc ++ [x]) η2 K) (lcLL gd t f ρ gu ((l.map g).map .dat) acc η1 K)) fun ρ' hf => ?_⟩
      cases hp : p a with
      | true => exact hf _ hp ⟨by omega, ih _ (fun a ha => h a (List.mem_cons_of_mem _ ha)) (by simp; omega) (by simpa [List.filter_cons, hp] using k)⟩
      | false => exact ih _ (fun a ha => h a (List.mem_cons_of_mem _ ha)) (by omega) (by simpa [List.filter_cons, hp] using k)
  exact go l [] h (by simpa using hl) (by simpa using k)
/-- all(..), any(..) over (g(a) for a in l) -/
theorem agl_map {α : Type} {g : α → PyData} {b0 : Bool} {p : α → Bool} {η : LH} {K : Bool → LH → Prop} (hg : gu η) : ∀ {l : List α}, (∀ a ∈ l, ∀ Q : LV → LH → Prop, Q (.dat (.bool (p a))) η → gd (.dat (g a)) ρ fun ρ' => f ρ' η Q) → K (if b0 = true then l.all p else l.any p) η → agLL b0 gd f ρ gu ((l.map g).map .dat) η K
  | [], _, k => ⟨hg, by cases b0 <;> exact k⟩
  | d :: ds, h, k => by
    refine ⟨hg, h d List.mem_cons_self _ ⟨p d, rfl, ?_⟩⟩
    cases b0 with
    | true =>
      cases hp : p d with
      | true => exact agl_map hg (fun d hd => h d (List.mem_cons_of_mem _ hd)) (by simpa [hp] using k)
      | false => simpa [hp] using k
    | false =>
      cases hp : p d with
      | true => simpa [hp] using k
      | false => exact agl_map hg (fun d hd => h d (List.mem_cons_of_mem _ hd)) (by simpa [hp] using k)
end
theorem joinP_ofL {ls : List (List Nat)} {K : PyData → Prop} (hl : (ls.map (·.length)).sum ≤ 16777216) (k : K (.str (ofL ls.flatten))) : joinP "" (.list (ls.map fun l => .str (ofL l))) K := by
  refine ⟨ls.map ofL, .inl (by rw [List.map_map]; rfl), ?_, ?_⟩
  · rw [List.map_map, show (("" : Str).length) = 0 from rfl, Nat.mul_zero, Nat.add_zero]
    exact hl
  · rw [join_ofL]
    exact k
theorem signs_ofL (l : List Nat) : DL.signs (ofL l) = l.map fun c => .str ⟨#[c]⟩ := rfl
theorem rngC_eq (c n : Nat) : rngC 0 (c : Int) n = (List.range n).map fun i => PyData.int ((c * i : Nat) : Int) := by
  unfold rngC
  congr 1
  funext i
  rw [Int.zero_add, Int.mul_comm]
  rfl
theorem lookP_no {α : Type} {f g : α → PyData} {k : Key} : ∀ {l : List α}, (∀ a ∈ l, keyOf (f a) ≠ some k) → lookP (l.map fun a => (f a, g a)) k = none
  | [], _ => rfl
  | a :: l, h => by
    show (if keyOf (f a) = some k then _ else lookP (l.map fun a => (f a, g a)) k) = none
    rw [if_neg (h a List.mem_cons_self)]
    exact lookP_no fun b hb => h b (List.mem_cons_of_mem _ hb)
theorem lookP_yes {α : Type} {f g : α → PyData} {k : α → Key} (hk : ∀ a, keyOf (f a) = some (k a)) {a : α} : ∀ {l : List α}, (∀ b ∈ l, k b = k a → b = a) → a ∈ l → lookP (l.map fun a => (f a, g a)) (k a) = some (g a)
  | [], _, h => by cases h
  | b :: l, inj, h => by
    show (if keyOf (f b) = some (k a) then some (g b) else lookP (l.map fun a => (f a, g a)) (k a)) = _
    rw [hk b]
    by_cases e : k b = k a
    · rw [if_pos (by rw [e]), inj b List.mem_cons_self e]
    · rw [if_neg (fun z => e (Option.some.inj z))]
      rcases List.mem_cons.mp h with rfl | h
      · exact absurd rfl e
      · exact lookP_yes hk (fun b hb => inj b (List.mem_cons_of_mem _ hb)) h
theorem ofL1_inj {a b : Nat} (h : (⟨#[a]⟩ : Str) = ⟨#[b]⟩) : a = b := by
  have := congrArg (fun z : Str => z.cps.toList) h
  simpa using this
end EL
namespace EL
open PySem PySem.Spec PyProof.Rows L2 KT KG KM KX KQ LK GxR DL
theorem ints_lay {α : Type} (f : α → Int) : ∀ l : List α, PyData.canLayAll0 (l.map fun a => .int (f a)) = true
  | [] => rfl
  | a :: l => by
    show (PyData.canLay0 (.int (f a)) && PyData.canLayAll0 (l.map fun a => .int (f a))) = true
    rw [ints_lay f l]
    rfl
theorem ints_depth {α : Type} (f : α → Int) : ∀ l : List α, PyData.depthAll (l.map fun a => .int (f a)) ≤ 1
  | [] => by simp [PyData.depthAll]
  | a :: l => by
    have := ints_depth f l
    show max (PyData.depth (.int (f a))) (PyData.depthAll (l.map fun a => .int (f a))) ≤ 1
    have e : PyData.depth (.int (f a)) ≤ 1 := by simp [PyData.depth]
    omega
theorem ints_shaped {α : Type} (f : α → Int) (l : List α) : SeqAt.shaped (.list (l.map fun a => .int (f a))) = true := by
  unfold SeqAt.shaped
  have h1 : PyData.canLay0 (.list (l.map fun a => .int (f a))) = true := ints_lay f l
  have h2 := ints_depth f l
  have h3 : PyData.depth (.list (l.map fun a => .int (f a))) ≤ 64 := by
    show _ + _ ≤ 64
    omega
  rw [h1, decide_eq_true h3]
  rfl
theorem ints_eq {α : Type} (f : α → Int) (l : List α) (neg : Bool) (K : PyData → Prop) (h : K (.bool (!neg))) : eqP neg (.list (l.map fun a => .int (f a))) (.list (l.map fun a => .int (f a))) K := by
  refine ⟨by simp [eqOk, ints_shaped f l], ?_⟩
  rw [SeqAt.eqv_refl _ (show PyData.canLay0 (.list (l.map fun a => .int (f a))) = true from ints_lay f l)]
  cases neg <;> exact h
theorem ints_ne_nil {xs : List PyData} {K : PyData → Prop} (h : K (.bool (!xs.isEmpty))) : eqP true (.list xs) (.list []) K := by
  refine ⟨by simp [eqOk, isLT, isEmp], ?_⟩
  cases xs <;> exact h
theorem ints_nin {α : Type} (f : α → Int) (l : List α) (i : Int) {K : PyData → Prop} (h : K (.bool (!l.any fun a => f a == i))) : ninP (.int i) (.list (l.map fun a => .int (f a))) K := by
  refine ⟨⟨rfl, _, .inr rfl, ?_⟩, ?_⟩
  · rw [List.all_map]
    exact List.all_eq_true.mpr fun _ _ => rfl
  · have e : inD (.int i) (.list (l.map fun a => .int (f a))) = l.any fun a => f a == i := by
      show (l.map fun a => PyData.int (f a)).any _ = _
      rw [List.any_map]
      rfl
    rw [e]
    exact h
end EL
namespace EL
open PySem PySem.Spec PyProof.Rows L2 KT KG KM KX KQ LK GxR DL
theorem log2_le {n : Nat} (h : n < 2 ^ 1000) : n.log2 < 1000 := by
  by_cases h0 : n = 0
  · subst h0
    decide
  · exact (Nat.log2_lt h0).mpr h
theorem cdivW {i j : Int} (h : 0 < j) (h2 : j < 1000000000) : CDivW i j := ⟨h, by
  have := log2_le (n := j.natAbs) (Nat.lt_of_lt_of_le (show j.natAbs < 2 ^ 30 by omega) (Nat.pow_le_pow_right (by decide) (by decide)))
  omega⟩
theorem cmulW {i j : Int} (h : i.natAbs < 2 ^ 62) (h2 : j.natAbs < 2 ^ 62) : CMulW i j := by
  have e1 := log2_le (n := i.natAbs) (Nat.lt_of_lt_of_le h (Nat.pow_le_pow_right (by decide) (by decide)))
  have e2 := log2_le (n := j.natAbs) (Nat.lt_of_lt_of_le h2 (Nat.pow_le_pow_right (by decide) (by decide)))
  show _ + _ < _
  omega
end EL

set_option Elab.async false
set_option linter.all false
set_option maxRecDepth 100000
set_option maxHeartbeats 4000000
/-! Texts as words: the program's side. -/
namespace PA
open PySem PySem.Spec PyProof.Rows L2 KT KG KM KX KY KE0 KQ LK GxR DL KA DW EL QE QF TP GA
/-- the seven signs of a number below 128 -/
def bits (n : Nat) : List Nat := [64, 32, 16, 8, 4, 2, 1].map fun k => 48 + n / k % 2
def dig (n : Nat) : Str := ofL [48 + n]
/-- the known signs -/
def S : List Nat := 10 :: ((List.range 5).map (· + 32) ++ (List.range 89).map (· + 38))
theorem S_txt : str_TEXT_SIGNS.cps.toList = S := by decide +kernel
theorem S_lt : ∀ c ∈ S, c < 128 := by decide
/-- plain_word's loop -/
def pw : Nat → Nat → Str → Str
  | 0, _, w => w
  | k + 1, l, w => if l = 0 then w else pw k (l / 2) (dig (l % 2) ++ w)
theorem pw_bits : ∀ n < 128, Txt.zfill (pw 8 n "") 7 = ofL (bits n) := by decide +kernel
def F_plain : FnD := fun ds K _ => ∃ n : Nat, ds = [.dat (.int n)] ∧ n < 128 ∧ K (.str (pw 8 n ""))
def tabW : List (PyData × PyData) := S.map fun c => (.str ⟨#[c]⟩, .str (ofL (bits c)))
def F_sw : FnD := fun ds K _ => ds = [] ∧ K (.dict tabW)
section
variable {P : Program} {w : World} {K : PySem.W.Frag} {mg : Str → Option Value} {base : Heap} {Tl : List Addr} {fn : Str → FuncData}
theorem dig_eq : ∀ l < 2, (Str.ofString (toString ((l : Nat) : Int))) = dig l ∧ (dig l).length = 1 := by decide +kernel
theorem ok_plain_word (p : Top P w K mg base Tl fn) : FnOk P w K mg base (L2.CX P w) 3 (He.fAd K ("plain_word", none)) (fn "plain_word") P_plain_word (spD (WP K Tl) F_plain) := by
  refine okLDX p.D_plain_word.F sc_plain_word (fun ds Kk KE h => by obtain ⟨n, rfl, hn, h⟩ := h; rfl) (fun W S0 cdv A outer s E KE hW hE hcd hr => ⟨_, (lss_cons (ls_if (lt_not (lt_val (le_callD (pe_call (ok_is_whole p) (hr.mono (by first | decide | omega)) (by rfl) p.D_is_whole.g p.D_is_whole.F.kp p.D_is_whole.b .nil pass0 (la_cons (lvar 0) la_nil)) hW))) (lss_one (ls_raiseE p.Er (by simp [ers]) (hr.mono (by first | decide | omega)) hW.k rfl hE rfl rfl (takes_of rfl rfl rfl rfl) (lvar 0) (by rfl))) lss_nil)
      (lss_cons (ls_set (i := 1) sc_plain_word.nd rfl (.inl rfl) EL.le_str)
      (lss_cons (ls_set (i := 2) sc_plain_word.nd rfl (.inl rfl) (lvar 0))
      (lss_cons (ls_while (passes_of rfl) (lt_cmp op_gt (fun _ => sn_cmp) (lvar 2) EL.le_int) (lss_cons (ls_set (i := 1) sc_plain_word.nd rfl (.inl rfl) (le_op op_addD (fun _ => sn_add) (le_cb (pe_callTy call_str_int (by rfl) p.T.str (by decide +kernel) (la_cons (le_op op_and (fun _ => sn_int0) (lvar 2) EL.le_int) la_nil)) (fun _ => sn_strc)) (lvar 1)))
          (lss_one (ls_set (i := 2) sc_plain_word.nd rfl (.inl rfl) (le_op op_shr (fun _ => sn_int) (lvar 2) EL.le_int)))))
      (lss_one (ls_ret (lvar 1))))))), fun ds Kk h => ?_⟩)
  obtain ⟨n, rfl, hn, h⟩ := h
  (try simp only [DL.iteB_true, DL.iteB_false, EL.zSeq, EL.zNext, EL.zRet, EL.zRetF, EL.zRetN, EL.zIf, EL.zAsg, EL.zAsgF, EL.zAsgC, EL.zDrop, EL.zRel, EL.zFor, EL.zBreak, EL.zCont, EL.zAsgT, EL.zPar, EL.zPar3, EL.zAug, EL.zCut, EL.zRaise, EL.zWhile, EL.zTrim, EL.trimmed, EL.zDPut, EL.zFld, EL.zFldInc, EL.xVar, EL.xC, EL.xOb, EL.xGts, EL.x2, EL.x1, EL.xCall, EL.xB, EL.xTru, EL.xAnd, EL.xOr, EL.xNot, EL.xIf, EL.yAnd, EL.yOr, EL.yNot, EL.xNil, EL.xCons, EL.xTup, EL.xLst, EL.xDnew, EL.xNew, EL.xCell, EL.xIt, EL.xRng1, EL.xRng2, EL.xRng3, EL.xLc, EL.xDc, EL.xAG, EL.xFnD, EL.xFnDX, EL.xFnDK, EL.xSl, EL.xNone, EL.xPart, EL.xListOf, EL.xM0, EL.xM1, EL.yYes, EL.xIx, EL.xApp, EL.xExt, EL.xPop, EL.xRev, EL.xLen, EL.xDGet, EL.xDIn, EL.xGet1, EL.xGet2, EL.xOrT, EL.xAndT, EL.xNotT2, EL.xFld, EL.xMeth, EL.xMake, EL.xPairs, EL.xDisp, EL.xChain, EL.xFn, EL.xFnK, EL.glN, EL.glT_t, EL.glNil_n, EL.glCons_c, DL.op2, DL.op1, DL.opC, DL.c1, DL.isiP, DL.typeO, DL.tyIs, DL.inG, DL.isND, EL.wipeL, DL.le_s0, DL.le_s1, DL.le_s2, DL.le_s3, DL.le_s4, DL.le_s5, DL.le_s6, DL.le_s7, DL.le_s8, DL.le_s9, DL.le_s10, EL.start0L, EL.rtD_dat, EL.up_dat, EL.up_ob, EL.ofDV_dat, EL.dvL_dat, EL.dvL_deck, EL.dvL_ob, EL.frz_dat, EL.frz_loc, DL.lend, DL.noOwn, DL.DV.isOwn, DL.pd_dat, DL.pd_own, DL.ocpd_lst, DL.ocpd_dk, EL.itemsL, EL.itemsOfL, EL.seqL, EL.lenL, EL.ixL, EL.lookC, EL.truL, EL.truC, EL.dgetL, EL.dgetC, EL.dputC, EL.isDL, EL.isDC, EL.view_dat, EL.view_loc, EL.view_deck, EL.view_gts, EL.view_ob, EL.viewC_c, EL.oc_lst, EL.oc_dk, EL.oc_dt, EL.oc_ins, EL.asData_nil, EL.asData_cons, EL.asData_map, EL.asData_snoc, EL.views_nil, EL.views_cons, Option.bind_some, Option.map_some, Option.map_none, List.map_map, List.map_cons, List.map_nil, List.append_nil, List.cons_append, List.nil_append, List.length_cons, List.length_nil, List.length_map, List.replicate_succ, List.replicate_zero, List.getElem?_cons_zero, List.getElem?_cons_succ, List.set_cons_zero, List.set_cons_succ, Nat.reduceSub, Nat.reduceAdd, Nat.sub_self, Nat.zero_add, Option.some.injEq, EL.LV.dat.injEq, EL.LV.loc.injEq, EL.LV.ob.injEq, EL.Cell.lst.injEq, EL.Cell.dk.injEq, EL.Cell.ins.injEq, DL.DV.dat.injEq, PyData.bool.injEq, PyData.int.injEq, PyData.str.injEq, PyData.tuple.injEq, PyData.list.injEq, DL.DV.ob.injEq, V.ty.injEq, DL.DV.own.injEq, DL.OC.lst.injEq, List.cons.injEq, exists_eq_left', exists_eq_left, exists_eq_right, exists_eq_right', exists_and_left, and_true, true_and, Bool.not_true, Bool.not_false, Bool.and_true, Bool.true_and, true_or, Bool.not_eq_true', Bool.false_eq_true, if_true, if_false, reduceIte, reduceCtorEq])
  refine ⟨_, rfl, ?_⟩
  rw [show wholeD (.int n) = true by simp [wholeD]]
  refine ⟨true, rfl, ?_⟩
  (try simp only [DL.iteB_true, DL.iteB_false, EL.zSeq, EL.zNext, EL.zRet, EL.zRetF, EL.zRetN, EL.zIf, EL.zAsg, EL.zAsgF, EL.zAsgC, EL.zDrop, EL.zRel, EL.zFor, EL.zBreak, EL.zCont, EL.zAsgT, EL.zPar, EL.zPar3, EL.zAug, EL.zCut, EL.zRaise, EL.zWhile, EL.zTrim, EL.trimmed, EL.zDPut, EL.zFld, EL.zFldInc, EL.xVar, EL.xC, EL.xOb, EL.xGts, EL.x2, EL.x1, EL.xCall, EL.xB, EL.xTru, EL.xAnd, EL.xOr, EL.xNot, EL.xIf, EL.yAnd, EL.yOr, EL.yNot, EL.xNil, EL.xCons, EL.xTup, EL.xLst, EL.xDnew, EL.xNew, EL.xCell, EL.xIt, EL.xRng1, EL.xRng2, EL.xRng3, EL.xLc, EL.xDc, EL.xAG, EL.xFnD, EL.xFnDX, EL.xFnDK, EL.xSl, EL.xNone, EL.xPart, EL.xListOf, EL.xM0, EL.xM1, EL.yYes, EL.xIx, EL.xApp, EL.xExt, EL.xPop, EL.xRev, EL.xLen, EL.xDGet, EL.xDIn, EL.xGet1, EL.xGet2, EL.xOrT, EL.xAndT, EL.xNotT2, EL.xFld, EL.xMeth, EL.xMake, EL.xPairs, EL.xDisp, EL.xChain, EL.xFn, EL.xFnK, EL.glN, EL.glT_t, EL.glNil_n, EL.glCons_c, DL.op2, DL.op1, DL.opC, DL.c1, DL.isiP, DL.typeO, DL.tyIs, DL.inG, DL.isND, EL.wipeL, DL.le_s0, DL.le_s1, DL.le_s2, DL.le_s3, DL.le_s4, DL.le_s5, DL.le_s6, DL.le_s7, DL.le_s8, DL.le_s9, DL.le_s10, EL.start0L, EL.rtD_dat, EL.up_dat, EL.up_ob, EL.ofDV_dat, EL.dvL_dat, EL.dvL_deck, EL.dvL_ob, EL.frz_dat, EL.frz_loc, DL.lend, DL.noOwn, DL.DV.isOwn, DL.pd_dat, DL.pd_own, DL.ocpd_lst, DL.ocpd_dk, EL.itemsL, EL.itemsOfL, EL.seqL, EL.lenL, EL.ixL, EL.lookC, EL.truL, EL.truC, EL.dgetL, EL.dgetC, EL.dputC, EL.isDL, EL.isDC, EL.view_dat, EL.view_loc, EL.view_deck, EL.view_gts, EL.view_ob, EL.viewC_c, EL.oc_lst, EL.oc_dk, EL.oc_dt, EL.oc_ins, EL.asData_nil, EL.asData_cons, EL.asData_map, EL.asData_snoc, EL.views_nil, EL.views_cons, Option.bind_some, Option.map_some, Option.map_none, List.map_map, List.map_cons, List.map_nil, List.append_nil, List.cons_append, List.nil_append, List.length_cons, List.length_nil, List.length_map, List.replicate_succ, List.replicate_zero, List.getElem?_cons_zero, List.getElem?_cons_succ, List.set_cons_zero, List.set_cons_succ, Nat.reduceSub, Nat.reduceAdd, Nat.sub_self, Nat.zero_add, Option.some.injEq, EL.LV.dat.injEq, EL.LV.loc.injEq, EL.LV.ob.injEq, EL.Cell.lst.injEq, EL.Cell.dk.injEq, EL.Cell.ins.injEq, DL.DV.dat.injEq, PyData.bool.injEq, PyData.int.injEq, PyData.str.injEq, PyData.tuple.injEq, PyData.list.injEq, DL.DV.ob.injEq, V.ty.injEq, DL.DV.own.injEq, DL.OC.lst.injEq, List.cons.injEq, exists_eq_left', exists_eq_left, exists_eq_right, exists_eq_right', exists_and_left, and_true, true_and, Bool.not_true, Bool.not_false, Bool.and_true, Bool.true_and, true_or, Bool.not_eq_true', Bool.false_eq_true, if_true, if_false, reduceIte, reduceCtorEq])
  refine ⟨_, whL_down (fun i ρ η => ∃ (l : Nat) (v : Str), ρ = [some (.dat (.int n)), some (.dat (.str v)), some (.dat (.int l))] ∧ η = [] ∧ l < 2 ^ i ∧ v.length + i ≤ 8 ∧ pw i l v = pw 8 n "") ?_ 8 8 _ _ (Nat.le_refl _) ⟨n, "", rfl, rfl, by omega, by decide, rfl⟩⟩
  rintro i ρ η N ⟨l, v, rfl, rfl, hl, hv, he⟩ hN
  (try simp only [DL.iteB_true, DL.iteB_false, EL.zSeq, EL.zNext, EL.zRet, EL.zRetF, EL.zRetN, EL.zIf, EL.zAsg, EL.zAsgF, EL.zAsgC, EL.zDrop, EL.zRel, EL.zFor, EL.zBreak, EL.zCont, EL.zAsgT, EL.zPar, EL.zPar3, EL.zAug, EL.zCut, EL.zRaise, EL.zWhile, EL.zTrim, EL.trimmed, EL.zDPut, EL.zFld, EL.zFldInc, EL.xVar, EL.xC, EL.xOb, EL.xGts, EL.x2, EL.x1, EL.xCall, EL.xB, EL.xTru, EL.xAnd, EL.xOr, EL.xNot, EL.xIf, EL.yAnd, EL.yOr, EL.yNot, EL.xNil, EL.xCons, EL.xTup, EL.xLst, EL.xDnew, EL.xNew, EL.xCell, EL.xIt, EL.xRng1, EL.xRng2, EL.xRng3, EL.xLc, EL.xDc, EL.xAG, EL.xFnD, EL.xFnDX, EL.xFnDK, EL.xSl, EL.xNone, EL.xPart, EL.xListOf, EL.xM0, EL.xM1, EL.yYes, EL.xIx, EL.xApp, EL.xExt, EL.xPop, EL.xRev, EL.xLen, EL.xDGet, EL.xDIn, EL.xGet1, EL.xGet2, EL.xOrT, EL.xAndT, EL.xNotT2, EL.xFld, EL.xMeth, EL.xMake, EL.xPairs, EL.xDisp, EL.xChain, EL.xFn, EL.xFnK, EL.glN, EL.glT_t, EL.glNil_n, EL.glCons_c, DL.op2, DL.op1, DL.opC, DL.c1, DL.isiP, DL.typeO, DL.tyIs, DL.inG, DL.isND, EL.wipeL, DL.le_s0, DL.le_s1, DL.le_s2, DL.le_s3, DL.le_s4, DL.le_s5, DL.le_s6, DL.le_s7, DL.le_s8, DL.le_s9, DL.le_s10, EL.start0L, EL.rtD_dat, EL.up_dat, EL.up_ob, EL.ofDV_dat, EL.dvL_dat, EL.dvL_deck, EL.dvL_ob, EL.frz_dat, EL.frz_loc, DL.lend, DL.noOwn, DL.DV.isOwn, DL.pd_dat, DL.pd_own, DL.ocpd_lst, DL.ocpd_dk, EL.itemsL, EL.itemsOfL, EL.seqL, EL.lenL, EL.ixL, EL.lookC, EL.truL, EL.truC, EL.dgetL, EL.dgetC, EL.dputC, EL.isDL, EL.isDC, EL.view_dat, EL.view_loc, EL.view_deck, EL.view_gts, EL.view_ob, EL.viewC_c, EL.oc_lst, EL.oc_dk, EL.oc_dt, EL.oc_ins, EL.asData_nil, EL.asData_cons, EL.asData_map, EL.asData_snoc, EL.views_nil, EL.views_cons, Option.bind_some, Option.map_some, Option.map_none, List.map_map, List.map_cons, List.map_nil, List.append_nil, List.cons_append, List.nil_append, List.length_cons, List.length_nil, List.length_map, List.replicate_succ, List.replicate_zero, List.getElem?_cons_zero, List.getElem?_cons_succ, List.set_cons_zero, List.set_cons_succ, Nat.reduceSub, Nat.reduceAdd, Nat.sub_self, Nat.zero_add, Option.some.injEq, EL.LV.dat.injEq, EL.LV.loc.injEq, EL.LV.ob.injEq, EL.Cell.lst.injEq, EL.Cell.dk.injEq, EL.Cell.ins.injEq, DL.DV.dat.injEq, PyData.bool.injEq, PyData.int.injEq, PyData.str.injEq, PyData.tuple.injEq, PyData.list.injEq, DL.DV.ob.injEq, V.ty.injEq, DL.DV.own.injEq, DL.OC.lst.injEq, List.cons.injEq, exists_eq_left', exists_eq_left, exists_eq_right, exists_eq_right', exists_and_left, and_true, true_and, Bool.not_true, Bool.not_false, Bool.and_true, Bool.true_and, true_or, Bool.not_eq_true', Bool.false_eq_true, if_true, if_false, reduceIte, reduceCtorEq])
  cases i with
  | zero =>
    have : l = 0 := by omega
    subst this
    refine ⟨false, rfl, ?_⟩
    rw [iteB_false, show v = pw 8 n "" from he]
    exact h
  | succ i =>
    refine ⟨decide (0 < (l : Int)), rfl, ?_⟩
    by_cases l0 : l = 0
    · subst l0
      rw [show pw (i + 1) 0 v = v from if_pos rfl] at he
      rw [he]
      exact h
    · rw [decide_eq_true (by omega), iteB_true]
      obtain ⟨d1, d2⟩ := dig_eq (l % 2) (by omega)
      rw [int0P_ii, band1]
      refine ⟨?_, ?_⟩
      · have : ((l % 2 : Nat) : Int).natAbs = 0 ∨ ((l % 2 : Nat) : Int).natAbs = 1 := by omega
        rcases this with e | e <;> rw [e] <;> decide
      · rw [d1]
        refine ⟨by rw [d2, sizeLine_eq]; omega, ?_⟩
        refine ⟨by show (0 : Int) ≤ 1; decide, hN i _ _ (by omega) ⟨l / 2, dig (l % 2) ++ v, ?_, rfl, by omega, ?_, ?_⟩⟩
        · rfl
        · rw [len_app, d2]
          omega
        · rw [← he]
          exact (if_neg l0).symm
theorem sgS : DL.signs str_TEXT_SIGNS = S.map fun c => .str ⟨#[c]⟩ := by
  unfold DL.signs
  rw [S_txt]
def qk1 : PyData → Key
  | .str z => .inr z
  | _ => .inl 0
def qv1 : PyData → PyData
  | .str z => .str (ofL (bits (z.cps.getD 0 0)))
  | _ => .none
theorem S_nd : ((S.map fun c => PyData.str ⟨#[c]⟩).map qk1).Nodup := by decide +kernel
theorem ok_sign_words (p : Top P w K mg base Tl fn) : FnOk P w K mg base CX0 4 (He.fAd K ("sign_words", none)) (fn "sign_words") P_sign_words (spD (WP K Tl) F_sw) := by
  refine okLD p.D_sign_words.F sc_sign_words (fun ds Kk KE h => by obtain ⟨rfl, h⟩ := h; rfl) (fun W S0 cdv A outer s E hW hcd hr => ⟨_, (lss_one (ls_ret (le_new (lf_dc (own := [("sign", 0)]) (g := gName 0) rfl sc_sign_words.nd (li_seq (le_gs (by rfl) p.mg_TEXT_SIGNS) hW.k) (blkOk_by (own := [("sign", 0)]) (N := N_sign_words) (sc := defScope s_sign_words) (by decide +kernel)) (fun _ _ _ _ _ => (pg_name (i := 0) sc_sign_words.nd rfl (.inl rfl))) (sl_name (i := 0) (by simp)) (fun _ _ _ _ _ => lts_nil) (fun _ _ _ _ _ => (lvar 0)) (fun _ _ _ _ _ => (le_m1 (pe_m1 F.slot_str_zfill F.type_str_zfill mt_zfill (le_callD (pe_call (ok_plain_word p) (hr.mono (by first | decide | omega)) (by rfl) p.D_plain_word.g p.D_plain_word.F.kp p.D_plain_word.b .nil passX0 (la_cons (le_cb (pe_callB call_ord (by rfl) p.T.ord (by decide +kernel) (la_cons (lvar 0) la_nil)) (fun _ => sn_ord)) la_nil)) hW) (le_gi (by rfl) p.mg_LETTERS_OF_SIGN)) (fun _ => sn_zfill))))))), fun ds Kk KE h => ?_⟩)
  obtain ⟨rfl, h⟩ := h
  (try simp only [DL.iteB_true, DL.iteB_false, EL.zSeq, EL.zNext, EL.zRet, EL.zRetF, EL.zRetN, EL.zIf, EL.zAsg, EL.zAsgF, EL.zAsgC, EL.zDrop, EL.zRel, EL.zFor, EL.zBreak, EL.zCont, EL.zAsgT, EL.zPar, EL.zPar3, EL.zAug, EL.zCut, EL.zRaise, EL.zWhile, EL.zTrim, EL.trimmed, EL.zDPut, EL.zFld, EL.zFldInc, EL.xVar, EL.xC, EL.xOb, EL.xGts, EL.x2, EL.x1, EL.xCall, EL.xB, EL.xTru, EL.xAnd, EL.xOr, EL.xNot, EL.xIf, EL.yAnd, EL.yOr, EL.yNot, EL.xNil, EL.xCons, EL.xTup, EL.xLst, EL.xDnew, EL.xNew, EL.xCell, EL.xIt, EL.xRng1, EL.xRng2, EL.xRng3, EL.xLc, EL.xDc, EL.xAG, EL.xFnD, EL.xFnDX, EL.xFnDK, EL.xSl, EL.xNone, EL.xPart, EL.xListOf, EL.xM0, EL.xM1, EL.yYes, EL.xIx, EL.xApp, EL.xExt, EL.xPop, EL.xRev, EL.xLen, EL.xDGet, EL.xDIn, EL.xGet1, EL.xGet2, EL.xOrT, EL.xAndT, EL.xNotT2, EL.xFld, EL.xMeth, EL.xMake, EL.xPairs, EL.xDisp, EL.xChain, EL.xFn, EL.xFnK, EL.glN, EL.glT_t, EL.glNil_n, EL.glCons_c, DL.op2, DL.op1, DL.opC, DL.c1, DL.isiP, DL.typeO, DL.tyIs, DL.inG, DL.isND, EL.wipeL, DL.le_s0, DL.le_s1, DL.le_s2, DL.le_s3, DL.le_s4, DL.le_s5, DL.le_s6, DL.le_s7, DL.le_s8, DL.le_s9, DL.le_s10, EL.start0L, EL.rtD_dat, EL.up_dat, EL.up_ob, EL.ofDV_dat, EL.dvL_dat, EL.dvL_deck, EL.dvL_ob, EL.frz_dat, EL.frz_loc, DL.lend, DL.noOwn, DL.DV.isOwn, DL.pd_dat, DL.pd_own, DL.ocpd_lst, DL.ocpd_dk, EL.itemsL, EL.itemsOfL, EL.seqL, EL.lenL, EL.ixL, EL.lookC, EL.truL, EL.truC, EL.dgetL, EL.dgetC, EL.dputC, EL.isDL, EL.isDC, EL.view_dat, EL.view_loc, EL.view_deck, EL.view_gts, EL.view_ob, EL.viewC_c, EL.oc_lst, EL.oc_dk, EL.oc_dt, EL.oc_ins, EL.asData_nil, EL.asData_cons, EL.asData_map, EL.asData_snoc, EL.views_nil, EL.views_cons, Option.bind_some, Option.map_some, Option.map_none, List.map_map, List.map_cons, List.map_nil, List.append_nil, List.cons_append, List.nil_append, List.length_cons, List.length_nil, List.length_map, List.replicate_succ, List.replicate_zero, List.getElem?_cons_zero, List.getElem?_cons_succ, List.set_cons_zero, List.set_cons_succ, Nat.reduceSub, Nat.reduceAdd, Nat.sub_self, Nat.zero_add, Option.some.injEq, EL.LV.dat.injEq, EL.LV.loc.injEq, EL.LV.ob.injEq, EL.Cell.lst.injEq, EL.Cell.dk.injEq, EL.Cell.ins.injEq, DL.DV.dat.injEq, PyData.bool.injEq, PyData.int.injEq, PyData.str.injEq, PyData.tuple.injEq, PyData.list.injEq, DL.DV.ob.injEq, V.ty.injEq, DL.DV.own.injEq, DL.OC.lst.injEq, List.cons.injEq, exists_eq_left', exists_eq_left, exists_eq_right, exists_eq_right', exists_and_left, and_true, true_and, Bool.not_true, Bool.not_false, Bool.and_true, Bool.true_and, true_or, Bool.not_eq_true', Bool.false_eq_true, if_true, if_false, reduceIte, reduceCtorEq])
  rw [sgS]
  refine dcl_fun' (qk := qk1) (q := qv1) trivial (fun d hd Q hQ => ?_) (by decide) ?_
  · obtain ⟨c, hc, rfl⟩ := List.mem_map.mp hd
    have h1 := S_lt c hc
    (try simp only [DL.iteB_true, DL.iteB_false, EL.zSeq, EL.zNext, EL.zRet, EL.zRetF, EL.zRetN, EL.zIf, EL.zAsg, EL.zAsgF, EL.zAsgC, EL.zDrop, EL.zRel, EL.zFor, EL.zBreak, EL.zCont, EL.zAsgT, EL.zPar, EL.zPar3, EL.zAug, EL.zCut, EL.zRaise, EL.zWhile, EL.zTrim, EL.trimmed, EL.zDPut, EL.zFld, EL.zFldInc, EL.xVar, EL.xC, EL.xOb, EL.xGts, EL.x2, EL.x1, EL.xCall, EL.xB, EL.xTru, EL.xAnd, EL.xOr, EL.xNot, EL.xIf, EL.yAnd, EL.yOr, EL.yNot, EL.xNil, EL.xCons, EL.xTup, EL.xLst, EL.xDnew, EL.xNew, EL.xCell, EL.xIt, EL.xRng1, EL.xRng2, EL.xRng3, EL.xLc, EL.xDc, EL.xAG, EL.xFnD, EL.xFnDX, EL.xFnDK, EL.xSl, EL.xNone, EL.xPart, EL.xListOf, EL.xM0, EL.xM1, EL.yYes, EL.xIx, EL.xApp, EL.xExt, EL.xPop, EL.xRev, EL.xLen, EL.xDGet, EL.xDIn, EL.xGet1, EL.xGet2, EL.xOrT, EL.xAndT, EL.xNotT2, EL.xFld, EL.xMeth, EL.xMake, EL.xPairs, EL.xDisp, EL.xChain, EL.xFn, EL.xFnK, EL.glN, EL.glT_t, EL.glNil_n, EL.glCons_c, DL.op2, DL.op1, DL.opC, DL.c1, DL.isiP, DL.typeO, DL.tyIs, DL.inG, DL.isND, EL.wipeL, DL.le_s0, DL.le_s1, DL.le_s2, DL.le_s3, DL.le_s4, DL.le_s5, DL.le_s6, DL.le_s7, DL.le_s8, DL.le_s9, DL.le_s10, EL.start0L, EL.rtD_dat, EL.up_dat, EL.up_ob, EL.ofDV_dat, EL.dvL_dat, EL.dvL_deck, EL.dvL_ob, EL.frz_dat, EL.frz_loc, DL.lend, DL.noOwn, DL.DV.isOwn, DL.pd_dat, DL.pd_own, DL.ocpd_lst, DL.ocpd_dk, EL.itemsL, EL.itemsOfL, EL.seqL, EL.lenL, EL.ixL, EL.lookC, EL.truL, EL.truC, EL.dgetL, EL.dgetC, EL.dputC, EL.isDL, EL.isDC, EL.view_dat, EL.view_loc, EL.view_deck, EL.view_gts, EL.view_ob, EL.viewC_c, EL.oc_lst, EL.oc_dk, EL.oc_dt, EL.oc_ins, EL.asData_nil, EL.asData_cons, EL.asData_map, EL.asData_snoc, EL.views_nil, EL.views_cons, Option.bind_some, Option.map_some, Option.map_none, List.map_map, List.map_cons, List.map_nil, List.append_nil, List.cons_append, List.nil_append, List.length_cons, List.length_nil, List.length_map, List.replicate_succ, List.replicate_zero, List.getElem?_cons_zero, List.getElem?_cons_succ, List.set_cons_zero, List.set_cons_succ, Nat.reduceSub, Nat.reduceAdd, Nat.sub_self, Nat.zero_add, Option.some.injEq, EL.LV.dat.injEq, EL.LV.loc.injEq, EL.LV.ob.injEq, EL.Cell.lst.injEq, EL.Cell.dk.injEq, EL.Cell.ins.injEq, DL.DV.dat.injEq, PyData.bool.injEq, PyData.int.injEq, PyData.str.injEq, PyData.tuple.injEq, PyData.list.injEq, DL.DV.ob.injEq, V.ty.injEq, DL.DV.own.injEq, DL.OC.lst.injEq, List.cons.injEq, exists_eq_left', exists_eq_left, exists_eq_right, exists_eq_right', exists_and_left, and_true, true_and, Bool.not_true, Bool.not_false, Bool.and_true, Bool.true_and, true_or, Bool.not_eq_true', Bool.false_eq_true, if_true, if_false, reduceIte, reduceCtorEq])
    refine ⟨rfl, c, rfl, h1, _, rfl, rfl, ?_⟩
    rw [pw_bits c h1]
    exact hQ
  · rw [foldl_put (by rw [List.map_nil, List.nil_append]; exact S_nd)]
    simp only [List.nil_append, List.map_map]
    refine ⟨_, congrArg (Option.map _) (asData_fun (fun c => PyData.str (ofL (bits c))) S), ?_⟩
    show Kk (.dict _)
    rw [List.zip_map', List.map_map]
    exact h
/-! ### texts and words -/
def enc (cs : List Nat) : List Nat := cs.flatMap bits
def knownB : PyData → Bool
  | .str z => z.cps.toList.all fun c => decide (c ∈ S)
  | _ => false
def F_wt : FnD := fun ds K KE => ∃ d, ds = [.dat d] ∧ (∀ z, d = .str z → z.length ≤ 1000) ∧ (knownB d = false → KE "BadText" (.int 0)) ∧ ∀ cs, d = .str (ofL cs) → (∀ c ∈ cs, c ∈ S) → K (.str (ofL (enc cs)))
theorem tabW_at : ∀ c ∈ S, lookP tabW (.inr ⟨#[c]⟩) = some (.str (ofL (bits c))) := fun c hc =>
  lookP_yes (f := fun c => .str ⟨#[c]⟩) (g := fun c => .str (ofL (bits c))) (k := fun c => .inr ⟨#[c]⟩) (fun _ => rfl) (fun b _ e => ofL1_inj (Sum.inr.inj e)) hc
theorem bits_len (n : Nat) : (bits n).length = 7 := rfl
theorem sum_bits (cs : List Nat) : ((cs.map bits).map (·.length)).sum = 7 * cs.length := by
  induction cs with
  | nil => rfl
  | cons c cs ih =>
    simp only [List.map_cons, List.sum_cons, List.length_cons, bits_len]
    rw [ih]
    omega
theorem ok_word_of_text (p : Top P w K mg base Tl fn) : FnOk P w K mg base (L2.CX P w) 6 (He.fAd K ("word_of_text", none)) (fn "word_of_text") P_word_of_text (spD (WP K Tl) F_wt) := by
  refine okLDX p.D_word_of_text.F sc_word_of_text (fun ds Kk KE h => by obtain ⟨d, rfl, hs, h1, h2⟩ := h; rfl) (fun W S0 cdv A outer s E KE hW hE hcd hr => ⟨_, (lss_cons (ls_if (PW.pt (lw_or (lt_not (lt_val (le_cb (pe_callB call_isi (by rfl) p.T.isinstance (by decide +kernel) (la_cons (lvar 0) (la_cons (le_ob (pe_bltn (v := .ty "str") (by rfl) p.T.str (by decide +kernel) rfl)) la_nil))) (fun _ => sn_isi kb_str)))) (lw_or1 (lt_not (lt_val (le_all (own := [("sign", 1)]) (g := gName 1) rfl sc_word_of_text.nd hr (by rfl) p.T.all p.TB_word_of_text hcd (hW.mem p.hT_word_of_text) (gnOk_by (own := [("sign", 1)]) (N := N_word_of_text) (sc := defScope s_word_of_text) (by decide +kernel)) (li_seq (lvar 0) hW.k) (fun _ _ _ _ _ _ => (pg_name (i := 1) sc_word_of_text.nd rfl (.inl rfl))) (sl_name (i := 1) (by simp)) (fun _ _ _ _ _ _ => (le_cmp op_in_sign (fun _ => sn_inS) (lvar 1) (le_gs (by rfl) p.mg_TEXT_SIGNS) (by rfl))))))))) (lss_one (ls_raiseE p.Er (by simp [ers]) (hr.mono (by first | decide | omega)) hW.k rfl hE rfl rfl (takes_of rfl rfl rfl rfl) EL.le_int (by rfl))) lss_nil)
      (lss_cons (ls_set (i := 2) sc_word_of_text.nd rfl (.inr rfl) (le_callD0 (pe_call0 (ok_sign_words p) (hr.mono (by first | decide | omega)) (by rfl) p.D_sign_words.g p.D_sign_words.F.kp p.D_sign_words.b .nil pass0) hW))
      (lss_one (ls_ret (le_m1 (pe_join EL.le_str (le_new (lf_lc (own := [("sign", 1)]) (g := gName 1) rfl sc_word_of_text.nd (li_seq (lvar 0) hW.k) (blkOk_by (own := [("sign", 1)]) (N := N_word_of_text) (sc := defScope s_word_of_text) (by decide +kernel)) (fun _ _ _ _ _ => (pg_name (i := 1) sc_word_of_text.nd rfl (.inl rfl))) (sl_name (i := 1) (by simp)) (fun _ _ _ _ _ => lts_nil) (fun _ _ _ _ _ => (le_dget (hu_of hr) (lvar 2) (lvar 1) (fun _ _ => rfl)))))) (fun _ => sn_join)))))), fun ds Kk h => ?_⟩)
  obtain ⟨d, rfl, hs, h1, h2⟩ := h
  (try simp only [DL.iteB_true, DL.iteB_false, EL.zSeq, EL.zNext, EL.zRet, EL.zRetF, EL.zRetN, EL.zIf, EL.zAsg, EL.zAsgF, EL.zAsgC, EL.zDrop, EL.zRel, EL.zFor, EL.zBreak, EL.zCont, EL.zAsgT, EL.zPar, EL.zPar3, EL.zAug, EL.zCut, EL.zRaise, EL.zWhile, EL.zTrim, EL.trimmed, EL.zDPut, EL.zFld, EL.zFldInc, EL.xVar, EL.xC, EL.xOb, EL.xGts, EL.x2, EL.x1, EL.xCall, EL.xB, EL.xTru, EL.xAnd, EL.xOr, EL.xNot, EL.xIf, EL.yAnd, EL.yOr, EL.yNot, EL.xNil, EL.xCons, EL.xTup, EL.xLst, EL.xDnew, EL.xNew, EL.xCell, EL.xIt, EL.xRng1, EL.xRng2, EL.xRng3, EL.xLc, EL.xDc, EL.xAG, EL.xFnD, EL.xFnDX, EL.xFnDK, EL.xSl, EL.xNone, EL.xPart, EL.xListOf, EL.xM0, EL.xM1, EL.yYes, EL.xIx, EL.xApp, EL.xExt, EL.xPop, EL.xRev, EL.xLen, EL.xDGet, EL.xDIn, EL.xGet1, EL.xGet2, EL.xOrT, EL.xAndT, EL.xNotT2, EL.xFld, EL.xMeth, EL.xMake, EL.xPairs, EL.xDisp, EL.xChain, EL.xFn, EL.xFnK, EL.glN, EL.glT_t, EL.glNil_n, EL.glCons_c, DL.op2, DL.op1, DL.opC, DL.c1, DL.isiP, DL.typeO, DL.tyIs, DL.inG, DL.isND, EL.wipeL, DL.le_s0, DL.le_s1, DL.le_s2, DL.le_s3, DL.le_s4, DL.le_s5, DL.le_s6, DL.le_s7, DL.le_s8, DL.le_s9, DL.le_s10, EL.start0L, EL.rtD_dat, EL.up_dat, EL.up_ob, EL.ofDV_dat, EL.dvL_dat, EL.dvL_deck, EL.dvL_ob, EL.frz_dat, EL.frz_loc, DL.lend, DL.noOwn, DL.DV.isOwn, DL.pd_dat, DL.pd_own, DL.ocpd_lst, DL.ocpd_dk, EL.itemsL, EL.itemsOfL, EL.seqL, EL.lenL, EL.ixL, EL.lookC, EL.truL, EL.truC, EL.dgetL, EL.dgetC, EL.dputC, EL.isDL, EL.isDC, EL.view_dat, EL.view_loc, EL.view_deck, EL.view_gts, EL.view_ob, EL.viewC_c, EL.oc_lst, EL.oc_dk, EL.oc_dt, EL.oc_ins, EL.asData_nil, EL.asData_cons, EL.asData_map, EL.asData_snoc, EL.views_nil, EL.views_cons, Option.bind_some, Option.map_some, Option.map_none, List.map_map, List.map_cons, List.map_nil, List.append_nil, List.cons_append, List.nil_append, List.length_cons, List.length_nil, List.length_map, List.replicate_succ, List.replicate_zero, List.getElem?_cons_zero, List.getElem?_cons_succ, List.set_cons_zero, List.set_cons_succ, Nat.reduceSub, Nat.reduceAdd, Nat.sub_self, Nat.zero_add, Option.some.injEq, EL.LV.dat.injEq, EL.LV.loc.injEq, EL.LV.ob.injEq, EL.Cell.lst.injEq, EL.Cell.dk.injEq, EL.Cell.ins.injEq, DL.DV.dat.injEq, PyData.bool.injEq, PyData.int.injEq, PyData.str.injEq, PyData.tuple.injEq, PyData.list.injEq, DL.DV.ob.injEq, V.ty.injEq, DL.DV.own.injEq, DL.OC.lst.injEq, List.cons.injEq, exists_eq_left', exists_eq_left, exists_eq_right, exists_eq_right', exists_and_left, and_true, true_and, Bool.not_true, Bool.not_false, Bool.and_true, Bool.true_and, true_or, Bool.not_eq_true', Bool.false_eq_true, if_true, if_false, reduceIte, reduceCtorEq])
  cases d with
  | str z =>
    simp only [isStrD, Bool.not_true, iteB_false]
    have hl := hs z rfl
    refine agl_map (g := fun c => .str ⟨#[c]⟩) (p := fun c => decide (c ∈ S)) (l := z.cps.toList) trivial (fun c hc Q hQ => ?_) ?_
    · (try simp only [DL.iteB_true, DL.iteB_false, EL.zSeq, EL.zNext, EL.zRet, EL.zRetF, EL.zRetN, EL.zIf, EL.zAsg, EL.zAsgF, EL.zAsgC, EL.zDrop, EL.zRel, EL.zFor, EL.zBreak, EL.zCont, EL.zAsgT, EL.zPar, EL.zPar3, EL.zAug, EL.zCut, EL.zRaise, EL.zWhile, EL.zTrim, EL.trimmed, EL.zDPut, EL.zFld, EL.zFldInc, EL.xVar, EL.xC, EL.xOb, EL.xGts, EL.x2, EL.x1, EL.xCall, EL.xB, EL.xTru, EL.xAnd, EL.xOr, EL.xNot, EL.xIf, EL.yAnd, EL.yOr, EL.yNot, EL.xNil, EL.xCons, EL.xTup, EL.xLst, EL.xDnew, EL.xNew, EL.xCell, EL.xIt, EL.xRng1, EL.xRng2, EL.xRng3, EL.xLc, EL.xDc, EL.xAG, EL.xFnD, EL.xFnDX, EL.xFnDK, EL.xSl, EL.xNone, EL.xPart, EL.xListOf, EL.xM0, EL.xM1, EL.yYes, EL.xIx, EL.xApp, EL.xExt, EL.xPop, EL.xRev, EL.xLen, EL.xDGet, EL.xDIn, EL.xGet1, EL.xGet2, EL.xOrT, EL.xAndT, EL.xNotT2, EL.xFld, EL.xMeth, EL.xMake, EL.xPairs, EL.xDisp, EL.xChain, EL.xFn, EL.xFnK, EL.glN, EL.glT_t, EL.glNil_n, EL.glCons_c, DL.op2, DL.op1, DL.opC, DL.c1, DL.isiP, DL.typeO, DL.tyIs, DL.inG, DL.isND, EL.wipeL, DL.le_s0, DL.le_s1, DL.le_s2, DL.le_s3, DL.le_s4, DL.le_s5, DL.le_s6, DL.le_s7, DL.le_s8, DL.le_s9, DL.le_s10, EL.start0L, EL.rtD_dat, EL.up_dat, EL.up_ob, EL.ofDV_dat, EL.dvL_dat, EL.dvL_deck, EL.dvL_ob, EL.frz_dat, EL.frz_loc, DL.lend, DL.noOwn, DL.DV.isOwn, DL.pd_dat, DL.pd_own, DL.ocpd_lst, DL.ocpd_dk, EL.itemsL, EL.itemsOfL, EL.seqL, EL.lenL, EL.ixL, EL.lookC, EL.truL, EL.truC, EL.dgetL, EL.dgetC, EL.dputC, EL.isDL, EL.isDC, EL.view_dat, EL.view_loc, EL.view_deck, EL.view_gts, EL.view_ob, EL.viewC_c, EL.oc_lst, EL.oc_dk, EL.oc_dt, EL.oc_ins, EL.asData_nil, EL.asData_cons, EL.asData_map, EL.asData_snoc, EL.views_nil, EL.views_cons, Option.bind_some, Option.map_some, Option.map_none, List.map_map, List.map_cons, List.map_nil, List.append_nil, List.cons_append, List.nil_append, List.length_cons, List.length_nil, List.length_map, List.replicate_succ, List.replicate_zero, List.getElem?_cons_zero, List.getElem?_cons_succ, List.set_cons_zero, List.set_cons_succ, Nat.reduceSub, Nat.reduceAdd, Nat.sub_self, Nat.zero_add, Option.some.injEq, EL.LV.dat.injEq, EL.LV.loc.injEq, EL.LV.ob.injEq, EL.Cell.lst.injEq, EL.Cell.dk.injEq, EL.Cell.ins.injEq, DL.DV.dat.injEq, PyData.bool.injEq, PyData.int.injEq, PyData.str.injEq, PyData.tuple.injEq, PyData.list.injEq, DL.DV.ob.injEq, V.ty.injEq, DL.DV.own.injEq, DL.OC.lst.injEq, List.cons.injEq, exists_eq_left', exists_eq_left, exists_eq_right, exists_eq_right', exists_and_left, and_true, true_and, Bool.not_true, Bool.not_false, Bool.and_true, Bool.true_and, true_or, Bool.not_eq_true', Bool.false_eq_true, if_true, if_false, reduceIte, reduceCtorEq])
      refine ⟨c, rfl, ?_⟩
      rw [S_txt]
      exact hQ
    · rw [if_pos rfl]
      cases hk : z.cps.toList.all fun c => decide (c ∈ S) with
      | false => exact h1 hk
      | true =>
        have hall : ∀ c ∈ z.cps.toList, c ∈ S := fun c hc => of_decide_eq_true (List.all_eq_true.mp hk c hc)
        rw [Bool.not_true, iteB_false]
        refine ⟨rfl, ?_⟩
        (try simp only [DL.iteB_true, DL.iteB_false, EL.zSeq, EL.zNext, EL.zRet, EL.zRetF, EL.zRetN, EL.zIf, EL.zAsg, EL.zAsgF, EL.zAsgC, EL.zDrop, EL.zRel, EL.zFor, EL.zBreak, EL.zCont, EL.zAsgT, EL.zPar, EL.zPar3, EL.zAug, EL.zCut, EL.zRaise, EL.zWhile, EL.zTrim, EL.trimmed, EL.zDPut, EL.zFld, EL.zFldInc, EL.xVar, EL.xC, EL.xOb, EL.xGts, EL.x2, EL.x1, EL.xCall, EL.xB, EL.xTru, EL.xAnd, EL.xOr, EL.xNot, EL.xIf, EL.yAnd, EL.yOr, EL.yNot, EL.xNil, EL.xCons, EL.xTup, EL.xLst, EL.xDnew, EL.xNew, EL.xCell, EL.xIt, EL.xRng1, EL.xRng2, EL.xRng3, EL.xLc, EL.xDc, EL.xAG, EL.xFnD, EL.xFnDX, EL.xFnDK, EL.xSl, EL.xNone, EL.xPart, EL.xListOf, EL.xM0, EL.xM1, EL.yYes, EL.xIx, EL.xApp, EL.xExt, EL.xPop, EL.xRev, EL.xLen, EL.xDGet, EL.xDIn, EL.xGet1, EL.xGet2, EL.xOrT, EL.xAndT, EL.xNotT2, EL.xFld, EL.xMeth, EL.xMake, EL.xPairs, EL.xDisp, EL.xChain, EL.xFn, EL.xFnK, EL.glN, EL.glT_t, EL.glNil_n, EL.glCons_c, DL.op2, DL.op1, DL.opC, DL.c1, DL.isiP, DL.typeO, DL.tyIs, DL.inG, DL.isND, EL.wipeL, DL.le_s0, DL.le_s1, DL.le_s2, DL.le_s3, DL.le_s4, DL.le_s5, DL.le_s6, DL.le_s7, DL.le_s8, DL.le_s9, DL.le_s10, EL.start0L, EL.rtD_dat, EL.up_dat, EL.up_ob, EL.ofDV_dat, EL.dvL_dat, EL.dvL_deck, EL.dvL_ob, EL.frz_dat, EL.frz_loc, DL.lend, DL.noOwn, DL.DV.isOwn, DL.pd_dat, DL.pd_own, DL.ocpd_lst, DL.ocpd_dk, EL.itemsL, EL.itemsOfL, EL.seqL, EL.lenL, EL.ixL, EL.lookC, EL.truL, EL.truC, EL.dgetL, EL.dgetC, EL.dputC, EL.isDL, EL.isDC, EL.view_dat, EL.view_loc, EL.view_deck, EL.view_gts, EL.view_ob, EL.viewC_c, EL.oc_lst, EL.oc_dk, EL.oc_dt, EL.oc_ins, EL.asData_nil, EL.asData_cons, EL.asData_map, EL.asData_snoc, EL.views_nil, EL.views_cons, Option.bind_some, Option.map_some, Option.map_none, List.map_map, List.map_cons, List.map_nil, List.append_nil, List.cons_append, List.nil_append, List.length_cons, List.length_nil, List.length_map, List.replicate_succ, List.replicate_zero, List.getElem?_cons_zero, List.getElem?_cons_succ, List.set_cons_zero, List.set_cons_succ, Nat.reduceSub, Nat.reduceAdd, Nat.sub_self, Nat.zero_add, Option.some.injEq, EL.LV.dat.injEq, EL.LV.loc.injEq, EL.LV.ob.injEq, EL.Cell.lst.injEq, EL.Cell.dk.injEq, EL.Cell.ins.injEq, DL.DV.dat.injEq, PyData.bool.injEq, PyData.int.injEq, PyData.str.injEq, PyData.tuple.injEq, PyData.list.injEq, DL.DV.ob.injEq, V.ty.injEq, DL.DV.own.injEq, DL.OC.lst.injEq, List.cons.injEq, exists_eq_left', exists_eq_left, exists_eq_right, exists_eq_right', exists_and_left, and_true, true_and, Bool.not_true, Bool.not_false, Bool.and_true, Bool.true_and, true_or, Bool.not_eq_true', Bool.false_eq_true, if_true, if_false, reduceIte, reduceCtorEq])
        refine lcl_map (g := fun c => .str ⟨#[c]⟩) (q := fun c => .str (ofL (bits c))) (l := z.cps.toList) trivial (fun c hc Q hQ => ?_) ?_ ?_
        · (try simp only [DL.iteB_true, DL.iteB_false, EL.zSeq, EL.zNext, EL.zRet, EL.zRetF, EL.zRetN, EL.zIf, EL.zAsg, EL.zAsgF, EL.zAsgC, EL.zDrop, EL.zRel, EL.zFor, EL.zBreak, EL.zCont, EL.zAsgT, EL.zPar, EL.zPar3, EL.zAug, EL.zCut, EL.zRaise, EL.zWhile, EL.zTrim, EL.trimmed, EL.zDPut, EL.zFld, EL.zFldInc, EL.xVar, EL.xC, EL.xOb, EL.xGts, EL.x2, EL.x1, EL.xCall, EL.xB, EL.xTru, EL.xAnd, EL.xOr, EL.xNot, EL.xIf, EL.yAnd, EL.yOr, EL.yNot, EL.xNil, EL.xCons, EL.xTup, EL.xLst, EL.xDnew, EL.xNew, EL.xCell, EL.xIt, EL.xRng1, EL.xRng2, EL.xRng3, EL.xLc, EL.xDc, EL.xAG, EL.xFnD, EL.xFnDX, EL.xFnDK, EL.xSl, EL.xNone, EL.xPart, EL.xListOf, EL.xM0, EL.xM1, EL.yYes, EL.xIx, EL.xApp, EL.xExt, EL.xPop, EL.xRev, EL.xLen, EL.xDGet, EL.xDIn, EL.xGet1, EL.xGet2, EL.xOrT, EL.xAndT, EL.xNotT2, EL.xFld, EL.xMeth, EL.xMake, EL.xPairs, EL.xDisp, EL.xChain, EL.xFn, EL.xFnK, EL.glN, EL.glT_t, EL.glNil_n, EL.glCons_c, DL.op2, DL.op1, DL.opC, DL.c1, DL.isiP, DL.typeO, DL.tyIs, DL.inG, DL.isND, EL.wipeL, DL.le_s0, DL.le_s1, DL.le_s2, DL.le_s3, DL.le_s4, DL.le_s5, DL.le_s6, DL.le_s7, DL.le_s8, DL.le_s9, DL.le_s10, EL.start0L, EL.rtD_dat, EL.up_dat, EL.up_ob, EL.ofDV_dat, EL.dvL_dat, EL.dvL_deck, EL.dvL_ob, EL.frz_dat, EL.frz_loc, DL.lend, DL.noOwn, DL.DV.isOwn, DL.pd_dat, DL.pd_own, DL.ocpd_lst, DL.ocpd_dk, EL.itemsL, EL.itemsOfL, EL.seqL, EL.lenL, EL.ixL, EL.lookC, EL.truL, EL.truC, EL.dgetL, EL.dgetC, EL.dputC, EL.isDL, EL.isDC, EL.view_dat, EL.view_loc, EL.view_deck, EL.view_gts, EL.view_ob, EL.viewC_c, EL.oc_lst, EL.oc_dk, EL.oc_dt, EL.oc_ins, EL.asData_nil, EL.asData_cons, EL.asData_map, EL.asData_snoc, EL.views_nil, EL.views_cons, Option.bind_some, Option.map_some, Option.map_none, List.map_map, List.map_cons, List.map_nil, List.append_nil, List.cons_append, List.nil_append, List.length_cons, List.length_nil, List.length_map, List.replicate_succ, List.replicate_zero, List.getElem?_cons_zero, List.getElem?_cons_succ, List.set_cons_zero, List.set_cons_succ, Nat.reduceSub, Nat.reduceAdd, Nat.sub_self, Nat.zero_add, Option.some.injEq, EL.LV.dat.injEq, EL.LV.loc.injEq, EL.LV.ob.injEq, EL.Cell.lst.injEq, EL.Cell.dk.injEq, EL.Cell.ins.injEq, DL.DV.dat.injEq, PyData.bool.injEq, PyData.int.injEq, PyData.str.injEq, PyData.tuple.injEq, PyData.list.injEq, DL.DV.ob.injEq, V.ty.injEq, DL.DV.own.injEq, DL.OC.lst.injEq, List.cons.injEq, exists_eq_left', exists_eq_left, exists_eq_right, exists_eq_right', exists_and_left, and_true, true_and, Bool.not_true, Bool.not_false, Bool.and_true, Bool.true_and, true_or, Bool.not_eq_true', Bool.false_eq_true, if_true, if_false, reduceIte, reduceCtorEq])
          refine ⟨.inr ⟨#[c]⟩, rfl, ?_⟩
          rw [tabW_at c (hall c hc)]
          exact ⟨_, rfl, hQ⟩
        · have : z.cps.toList.length = z.length := rfl
          rw [sizeLine_eq]
          omega
        · refine ⟨_, congrArg (Option.map _) (asData_fun (fun c => PyData.str (ofL (bits c))) z.cps.toList), ?_⟩
          have e : (OC.lst (z.cps.toList.map fun c => PyData.str (ofL (bits c)))).pd = .list ((z.cps.toList.map bits).map fun l => .str (ofL l)) := by
            rw [List.map_map]
            rfl
          rw [e]
          refine joinP_ofL ?_ ?_
          · rw [sum_bits]
            have : z.cps.toList.length = z.length := rfl
            omega
          · have := h2 z.cps.toList rfl hall
            rw [← List.flatMap_def]
            exact this
  | _ => simpa [isStrD, knownB] using h1
def dec (x : List Nat) : Nat := x.foldl (fun a c => 2 * a + (c - 48)) 0
def pieces (l : List Nat) : List (List Nat) := (List.range ((l.length + 6) / 7)).map fun i => (l.drop (7 * i)).take 7
def known : List (List Nat) := S.map bits
def tow (l : List Nat) : PyData := if ((pieces l).all fun x => decide (x ∈ known)) = true then .str (ofL ((pieces l).map dec)) else .none
def F_tw : FnD := fun ds K KE => ∃ d, ds = [.dat d] ∧ (∀ z, d = .str z → z.length ≤ 2000) ∧ (wordB d = false → KE "BadWord" d) ∧ ∀ l, d = .str (ofL l) → isW (ofL l) = true → K (tow l)
def tabS : List (PyData × PyData) := S.map fun c => (.str (ofL (bits c)), .str ⟨#[c]⟩)
def qk2 : PyData → Key
  | .str z => .inr (ofL (bits (z.cps.getD 0 0)))
  | _ => .inl 0
theorem S_nd2 : ((S.map fun c => PyData.str ⟨#[c]⟩).map qk2).Nodup := by decide +kernel
theorem dec_bits : ∀ c < 128, dec (bits c) = c := by decide +kernel
theorem bits_inj {a b : Nat} (ha : a < 128) (hb : b < 128) (h : bits a = bits b) : a = b := by
  rw [← dec_bits a ha, h, dec_bits b hb]
theorem tabS_at : ∀ c ∈ S, lookP tabS (.inr (ofL (bits c))) = some (.str ⟨#[c]⟩) := fun c hc =>
  lookP_yes (f := fun c => .str (ofL (bits c))) (g := fun c => .str ⟨#[c]⟩) (k := fun c => .inr (ofL (bits c))) (fun _ => rfl) (fun b hb e => bits_inj (S_lt b hb) (S_lt c hc) (ofL_inj (Sum.inr.inj e))) hc
theorem tabS_is (x : List Nat) : lookP tabS (.inr (ofL x)) = if x ∈ known then some (.str ⟨#[dec x]⟩) else none := by
  by_cases h : x ∈ known
  · rw [if_pos h]
    obtain ⟨c, hc, rfl⟩ := List.mem_map.mp h
    rw [tabS_at c hc, dec_bits c (S_lt c hc)]
  · rw [if_neg h]
    refine lookP_no fun c hc z => h ?_
    have z : (some (.inr (ofL (bits c))) : Option Key) = some (.inr (ofL x)) := z
    have := ofL_inj (Sum.inr.inj (Option.some.inj z))
    exact List.mem_map.mpr ⟨c, hc, this⟩
theorem ok_text_of_word (p : Top P w K mg base Tl fn) : FnOk P w K mg base (L2.CX P w) 6 (He.fAd K ("text_of_word", none)) (fn "text_of_word") P_text_of_word (spD (WP K Tl) F_tw) := by
  refine okLDX p.D_text_of_word.F sc_text_of_word (fun ds Kk KE h => by obtain ⟨d, rfl, hs, h1, h2⟩ := h; rfl) (fun W S0 cdv A outer s E KE hW hE hcd hr => ⟨_, (lss_cons (ls_if (lt_not (lt_val (le_callD (pe_call (ok_is_word p) (hr.mono (by first | decide | omega)) (by rfl) p.D_is_word.g p.D_is_word.F.kp p.D_is_word.b .nil pass0 (la_cons (lvar 0) la_nil)) hW))) (lss_one (ls_raiseE p.Er (by simp [ers]) (hr.mono (by first | decide | omega)) hW.k rfl hE rfl rfl (takes_of rfl rfl rfl rfl) (lvar 0) (by rfl))) lss_nil)
      (lss_cons (ls_set (i := 1) sc_text_of_word.nd rfl (.inr rfl) (le_callD0 (pe_call0 (ok_sign_words p) (hr.mono (by first | decide | omega)) (by rfl) p.D_sign_words.g p.D_sign_words.F.kp p.D_sign_words.b .nil pass0) hW))
      (lss_cons (ls_set (i := 2) sc_text_of_word.nd rfl (.inr rfl) (le_new (lf_dc (own := [("sign", 3)]) (g := gName 3) rfl sc_text_of_word.nd (li_seq (le_gs (by rfl) p.mg_TEXT_SIGNS) hW.k) (blkOk_by (own := [("sign", 3)]) (N := N_text_of_word) (sc := defScope s_text_of_word) (by decide +kernel)) (fun _ _ _ _ _ => (pg_name (i := 3) sc_text_of_word.nd rfl (.inl rfl))) (sl_name (i := 3) (by simp)) (fun _ _ _ _ _ => lts_nil) (fun _ _ _ _ _ => (le_dget (hu_of hr) (lvar 1) (lvar 3) (fun _ _ => rfl))) (fun _ _ _ _ _ => (lvar 3)))))
      (lss_cons (ls_setLc (i := 4) (own := [("at", 5)]) (g := gName 5) rfl sc_text_of_word.nd rfl rfl (sw_true rfl rfl rfl (by decide +kernel)) (li_range3 (by rfl) p.T.range (la_cons EL.le_int (la_cons (le_len (pe_callB call_len (by rfl) p.T.len (by decide +kernel) (pa_cons (lvar 0) pa_nil))) (la_cons (le_gi (by rfl) p.mg_LETTERS_OF_SIGN) la_nil)))) (blkOk_by (own := [("at", 5)]) (N := N_text_of_word) (sc := defScope s_text_of_word) (by decide +kernel)) (fun _ _ _ _ _ => (pg_name (i := 5) sc_text_of_word.nd rfl (.inl rfl))) (sl_name (i := 5) (by simp)) (fun _ _ _ _ _ => lts_nil) (fun _ _ _ _ _ => (le_slice (lvar 0) (lo_some (lvar 5)) (lo_some (le_op op_addD (fun _ => sn_add) (lvar 5) (le_gi (by rfl) p.mg_LETTERS_OF_SIGN))))))
      (lss_cons (ls_if (lt_not (lt_val (le_all (own := [("piece", 6)]) (g := gName 6) rfl sc_text_of_word.nd hr (by rfl) p.T.all p.TB_text_of_word hcd (hW.mem p.hT_text_of_word) (gnOk_by (own := [("piece", 6)]) (N := N_text_of_word) (sc := defScope s_text_of_word) (by decide +kernel)) (li_seq (lvar 4) hW.k) (fun _ _ _ _ _ _ => (pg_name (i := 6) sc_text_of_word.nd rfl (.inl rfl))) (sl_name (i := 6) (by simp)) (fun _ _ _ _ _ _ => (le_pc (le_din (hu_of (room_gen hr)) (lvar 6) (lvar 2)) (by rfl)))))) (lss_one (ls_ret le_non)) lss_nil)
      (lss_one (ls_ret (le_m1 (pe_join EL.le_str (le_new (lf_lc (own := [("piece", 6)]) (g := gName 6) rfl sc_text_of_word.nd (li_seq (lvar 4) hW.k) (blkOk_by (own := [("piece", 6)]) (N := N_text_of_word) (sc := defScope s_text_of_word) (by decide +kernel)) (fun _ _ _ _ _ => (pg_name (i := 6) sc_text_of_word.nd rfl (.inl rfl))) (sl_name (i := 6) (by simp)) (fun _ _ _ _ _ => lts_nil) (fun _ _ _ _ _ => (le_dget (hu_of hr) (lvar 2) (lvar 6) (fun _ _ => rfl)))))) (fun _ => sn_join))))))))), fun ds Kk h => ?_⟩)
  obtain ⟨d, rfl, hs, h1, h2⟩ := h
  (try simp only [DL.iteB_true, DL.iteB_false, EL.zSeq, EL.zNext, EL.zRet, EL.zRetF, EL.zRetN, EL.zIf, EL.zAsg, EL.zAsgF, EL.zAsgC, EL.zDrop, EL.zRel, EL.zFor, EL.zBreak, EL.zCont, EL.zAsgT, EL.zPar, EL.zPar3, EL.zAug, EL.zCut, EL.zRaise, EL.zWhile, EL.zTrim, EL.trimmed, EL.zDPut, EL.zFld, EL.zFldInc, EL.xVar, EL.xC, EL.xOb, EL.xGts, EL.x2, EL.x1, EL.xCall, EL.xB, EL.xTru, EL.xAnd, EL.xOr, EL.xNot, EL.xIf, EL.yAnd, EL.yOr, EL.yNot, EL.xNil, EL.xCons, EL.xTup, EL.xLst, EL.xDnew, EL.xNew, EL.xCell, EL.xIt, EL.xRng1, EL.xRng2, EL.xRng3, EL.xLc, EL.xDc, EL.xAG, EL.xFnD, EL.xFnDX, EL.xFnDK, EL.xSl, EL.xNone, EL.xPart, EL.xListOf, EL.xM0, EL.xM1, EL.yYes, EL.xIx, EL.xApp, EL.xExt, EL.xPop, EL.xRev, EL.xLen, EL.xDGet, EL.xDIn, EL.xGet1, EL.xGet2, EL.xOrT, EL.xAndT, EL.xNotT2, EL.xFld, EL.xMeth, EL.xMake, EL.xPairs, EL.xDisp, EL.xChain, EL.xFn, EL.xFnK, EL.glN, EL.glT_t, EL.glNil_n, EL.glCons_c, DL.op2, DL.op1, DL.opC, DL.c1, DL.isiP, DL.typeO, DL.tyIs, DL.inG, DL.isND, EL.wipeL, DL.le_s0, DL.le_s1, DL.le_s2, DL.le_s3, DL.le_s4, DL.le_s5, DL.le_s6, DL.le_s7, DL.le_s8, DL.le_s9, DL.le_s10, EL.start0L, EL.rtD_dat, EL.up_dat, EL.up_ob, EL.ofDV_dat, EL.dvL_dat, EL.dvL_deck, EL.dvL_ob, EL.frz_dat, EL.frz_loc, DL.lend, DL.noOwn, DL.DV.isOwn, DL.pd_dat, DL.pd_own, DL.ocpd_lst, DL.ocpd_dk, EL.itemsL, EL.itemsOfL, EL.seqL, EL.lenL, EL.ixL, EL.lookC, EL.truL, EL.truC, EL.dgetL, EL.dgetC, EL.dputC, EL.isDL, EL.isDC, EL.view_dat, EL.view_loc, EL.view_deck, EL.view_gts, EL.view_ob, EL.viewC_c, EL.oc_lst, EL.oc_dk, EL.oc_dt, EL.oc_ins, EL.asData_nil, EL.asData_cons, EL.asData_map, EL.asData_snoc, EL.views_nil, EL.views_cons, Option.bind_some, Option.map_some, Option.map_none, List.map_map, List.map_cons, List.map_nil, List.append_nil, List.cons_append, List.nil_append, List.length_cons, List.length_nil, List.length_map, List.replicate_succ, List.replicate_zero, List.getElem?_cons_zero, List.getElem?_cons_succ, List.set_cons_zero, List.set_cons_succ, Nat.reduceSub, Nat.reduceAdd, Nat.sub_self, Nat.zero_add, Option.some.injEq, EL.LV.dat.injEq, EL.LV.loc.injEq, EL.LV.ob.injEq, EL.Cell.lst.injEq, EL.Cell.dk.injEq, EL.Cell.ins.injEq, DL.DV.dat.injEq, PyData.bool.injEq, PyData.int.injEq, PyData.str.injEq, PyData.tuple.injEq, PyData.list.injEq, DL.DV.ob.injEq, V.ty.injEq, DL.DV.own.injEq, DL.OC.lst.injEq, List.cons.injEq, exists_eq_left', exists_eq_left, exists_eq_right, exists_eq_right', exists_and_left, and_true, true_and, Bool.not_true, Bool.not_false, Bool.and_true, Bool.true_and, true_or, Bool.not_eq_true', Bool.false_eq_true, if_true, if_false, reduceIte, reduceCtorEq])
  refine ⟨d, rfl, fun z hz => Nat.le_trans (hs z hz) (by rw [sizeLine_eq]; omega), ?_⟩
  refine ⟨_, rfl, ?_⟩
  cases hw : wordB d with
  | false => exact h1 hw
  | true =>
    obtain ⟨z, rfl⟩ : ∃ z, d = .str z := by
      cases d <;> simp [wordB] at hw
      exact ⟨_, rfl⟩
    have hl := hs z rfl
    have h3 := h2 z.cps.toList rfl hw
    generalize hz : z.cps.toList = l at h3
    obtain rfl : z = ofL l := by rw [← hz]; rfl
    have hl : l.length ≤ 2000 := hl
    rw [Bool.not_true, iteB_false]
    refine ⟨rfl, ?_⟩
    rw [sgS]
    refine dcl_fun' (qk := qk2) (q := id) trivial (fun d hd Q hQ => ?_) (by decide) ?_
    · obtain ⟨c, hc, rfl⟩ := List.mem_map.mp hd
      (try simp only [DL.iteB_true, DL.iteB_false, EL.zSeq, EL.zNext, EL.zRet, EL.zRetF, EL.zRetN, EL.zIf, EL.zAsg, EL.zAsgF, EL.zAsgC, EL.zDrop, EL.zRel, EL.zFor, EL.zBreak, EL.zCont, EL.zAsgT, EL.zPar, EL.zPar3, EL.zAug, EL.zCut, EL.zRaise, EL.zWhile, EL.zTrim, EL.trimmed, EL.zDPut, EL.zFld, EL.zFldInc, EL.xVar, EL.xC, EL.xOb, EL.xGts, EL.x2, EL.x1, EL.xCall, EL.xB, EL.xTru, EL.xAnd, EL.xOr, EL.xNot, EL.xIf, EL.yAnd, EL.yOr, EL.yNot, EL.xNil, EL.xCons, EL.xTup, EL.xLst, EL.xDnew, EL.xNew, EL.xCell, EL.xIt, EL.xRng1, EL.xRng2, EL.xRng3, EL.xLc, EL.xDc, EL.xAG, EL.xFnD, EL.xFnDX, EL.xFnDK, EL.xSl, EL.xNone, EL.xPart, EL.xListOf, EL.xM0, EL.xM1, EL.yYes, EL.xIx, EL.xApp, EL.xExt, EL.xPop, EL.xRev, EL.xLen, EL.xDGet, EL.xDIn, EL.xGet1, EL.xGet2, EL.xOrT, EL.xAndT, EL.xNotT2, EL.xFld, EL.xMeth, EL.xMake, EL.xPairs, EL.xDisp, EL.xChain, EL.xFn, EL.xFnK, EL.glN, EL.glT_t, EL.glNil_n, EL.glCons_c, DL.op2, DL.op1, DL.opC, DL.c1, DL.isiP, DL.typeO, DL.tyIs, DL.inG, DL.isND, EL.wipeL, DL.le_s0, DL.le_s1, DL.le_s2, DL.le_s3, DL.le_s4, DL.le_s5, DL.le_s6, DL.le_s7, DL.le_s8, DL.le_s9, DL.le_s10, EL.start0L, EL.rtD_dat, EL.up_dat, EL.up_ob, EL.ofDV_dat, EL.dvL_dat, EL.dvL_deck, EL.dvL_ob, EL.frz_dat, EL.frz_loc, DL.lend, DL.noOwn, DL.DV.isOwn, DL.pd_dat, DL.pd_own, DL.ocpd_lst, DL.ocpd_dk, EL.itemsL, EL.itemsOfL, EL.seqL, EL.lenL, EL.ixL, EL.lookC, EL.truL, EL.truC, EL.dgetL, EL.dgetC, EL.dputC, EL.isDL, EL.isDC, EL.view_dat, EL.view_loc, EL.view_deck, EL.view_gts, EL.view_ob, EL.viewC_c, EL.oc_lst, EL.oc_dk, EL.oc_dt, EL.oc_ins, EL.asData_nil, EL.asData_cons, EL.asData_map, EL.asData_snoc, EL.views_nil, EL.views_cons, Option.bind_some, Option.map_some, Option.map_none, List.map_map, List.map_cons, List.map_nil, List.append_nil, List.cons_append, List.nil_append, List.length_cons, List.length_nil, List.length_map, List.replicate_succ, List.replicate_zero, List.getElem?_cons_zero, List.getElem?_cons_succ, List.set_cons_zero, List.set_cons_succ, Nat.reduceSub, Nat.reduceAdd, Nat.sub_self, Nat.zero_add, Option.some.injEq, EL.LV.dat.injEq, EL.LV.loc.injEq, EL.LV.ob.injEq, EL.Cell.lst.injEq, EL.Cell.dk.injEq, EL.Cell.ins.injEq, DL.DV.dat.injEq, PyData.bool.injEq, PyData.int.injEq, PyData.str.injEq, PyData.tuple.injEq, PyData.list.injEq, DL.DV.ob.injEq, V.ty.injEq, DL.DV.own.injEq, DL.OC.lst.injEq, List.cons.injEq, exists_eq_left', exists_eq_left, exists_eq_right, exists_eq_right', exists_and_left, and_true, true_and, Bool.not_true, Bool.not_false, Bool.and_true, Bool.true_and, true_or, Bool.not_eq_true', Bool.false_eq_true, if_true, if_false, reduceIte, reduceCtorEq])
      refine ⟨.inr ⟨#[c]⟩, rfl, ?_⟩
      rw [tabW_at c hc]
      exact ⟨_, rfl, hQ⟩
    · rw [foldl_put (by rw [List.map_nil, List.nil_append]; exact S_nd2)]
      simp only [List.nil_append, List.map_map]
      refine ⟨_, congrArg (Option.map _) (asData_fun (fun c => PyData.str ⟨#[c]⟩) S), ?_⟩
      have e : (OC.dk ((S.map ((fun x => x.fst) ∘ (fun d => (qk2 d, LV.dat (id d))) ∘ fun c => PyData.str ⟨#[c]⟩)).zip (S.map fun c => PyData.str ⟨#[c]⟩))).pd = .dict tabS := by
        show PyData.dict _ = _
        rw [List.zip_map', List.map_map]
        rfl
      rw [e]
      have hn : l.length + 7 - 1 = l.length + 6 := rfl
      have e2 : rngC 0 7 ((l.length + 6) / 7) = (List.range ((l.length + 6) / 7)).map fun i => PyData.int ((7 * i : Nat) : Int) := rngC_eq 7 _
      refine ⟨by rw [sizeLine_eq, ofL_len]; omega, 0, _, 7, ⟨rfl, rfl, rfl⟩, (l.length + 6) / 7, rgC_of (n := l.length) (c := 7) (by decide) (by decide) (by omega), ?_⟩
      rw [e2]
      refine lcl_map (q := fun i => .str (ofL ((l.drop (7 * i)).take 7))) trivial (fun i hi Q hQ => ?_) ?_ ?_
      · (try simp only [DL.iteB_true, DL.iteB_false, EL.zSeq, EL.zNext, EL.zRet, EL.zRetF, EL.zRetN, EL.zIf, EL.zAsg, EL.zAsgF, EL.zAsgC, EL.zDrop, EL.zRel, EL.zFor, EL.zBreak, EL.zCont, EL.zAsgT, EL.zPar, EL.zPar3, EL.zAug, EL.zCut, EL.zRaise, EL.zWhile, EL.zTrim, EL.trimmed, EL.zDPut, EL.zFld, EL.zFldInc, EL.xVar, EL.xC, EL.xOb, EL.xGts, EL.x2, EL.x1, EL.xCall, EL.xB, EL.xTru, EL.xAnd, EL.xOr, EL.xNot, EL.xIf, EL.yAnd, EL.yOr, EL.yNot, EL.xNil, EL.xCons, EL.xTup, EL.xLst, EL.xDnew, EL.xNew, EL.xCell, EL.xIt, EL.xRng1, EL.xRng2, EL.xRng3, EL.xLc, EL.xDc, EL.xAG, EL.xFnD, EL.xFnDX, EL.xFnDK, EL.xSl, EL.xNone, EL.xPart, EL.xListOf, EL.xM0, EL.xM1, EL.yYes, EL.xIx, EL.xApp, EL.xExt, EL.xPop, EL.xRev, EL.xLen, EL.xDGet, EL.xDIn, EL.xGet1, EL.xGet2, EL.xOrT, EL.xAndT, EL.xNotT2, EL.xFld, EL.xMeth, EL.xMake, EL.xPairs, EL.xDisp, EL.xChain, EL.xFn, EL.xFnK, EL.glN, EL.glT_t, EL.glNil_n, EL.glCons_c, DL.op2, DL.op1, DL.opC, DL.c1, DL.isiP, DL.typeO, DL.tyIs, DL.inG, DL.isND, EL.wipeL, DL.le_s0, DL.le_s1, DL.le_s2, DL.le_s3, DL.le_s4, DL.le_s5, DL.le_s6, DL.le_s7, DL.le_s8, DL.le_s9, DL.le_s10, EL.start0L, EL.rtD_dat, EL.up_dat, EL.up_ob, EL.ofDV_dat, EL.dvL_dat, EL.dvL_deck, EL.dvL_ob, EL.frz_dat, EL.frz_loc, DL.lend, DL.noOwn, DL.DV.isOwn, DL.pd_dat, DL.pd_own, DL.ocpd_lst, DL.ocpd_dk, EL.itemsL, EL.itemsOfL, EL.seqL, EL.lenL, EL.ixL, EL.lookC, EL.truL, EL.truC, EL.dgetL, EL.dgetC, EL.dputC, EL.isDL, EL.isDC, EL.view_dat, EL.view_loc, EL.view_deck, EL.view_gts, EL.view_ob, EL.viewC_c, EL.oc_lst, EL.oc_dk, EL.oc_dt, EL.oc_ins, EL.asData_nil, EL.asData_cons, EL.asData_map, EL.asData_snoc, EL.views_nil, EL.views_cons, Option.bind_some, Option.map_some, Option.map_none, List.map_map, List.map_cons, List.map_nil, List.append_nil, List.cons_append, List.nil_append, List.length_cons, List.length_nil, List.length_map, List.replicate_succ, List.replicate_zero, List.getElem?_cons_zero, List.getElem?_cons_succ, List.set_cons_zero, List.set_cons_succ, Nat.reduceSub, Nat.reduceAdd, Nat.sub_self, Nat.zero_add, Option.some.injEq, EL.LV.dat.injEq, EL.LV.loc.injEq, EL.LV.ob.injEq, EL.Cell.lst.injEq, EL.Cell.dk.injEq, EL.Cell.ins.injEq, DL.DV.dat.injEq, PyData.bool.injEq, PyData.int.injEq, PyData.str.injEq, PyData.tuple.injEq, PyData.list.injEq, DL.DV.ob.injEq, V.ty.injEq, DL.DV.own.injEq, DL.OC.lst.injEq, List.cons.injEq, exists_eq_left', exists_eq_left, exists_eq_right, exists_eq_right', exists_and_left, and_true, true_and, Bool.not_true, Bool.not_false, Bool.and_true, Bool.true_and, true_or, Bool.not_eq_true', Bool.false_eq_true, if_true, if_false, reduceIte, reduceCtorEq])
        refine ⟨((7 * i + 7 : Nat) : Int), rfl, by rw [sizeLine_eq, ofL_len]; omega, ?_⟩
        rw [cut_nn, show 7 * i + 7 - 7 * i = 7 by omega]
        exact hQ
      · rw [List.length_range, sizeLine_eq]
        omega
      · refine ⟨_, congrArg (Option.map _) (asData_fun (fun i => PyData.str (ofL ((l.drop (7 * i)).take 7))) (List.range _)), ?_⟩
        have e3 : (OC.lst ((List.range ((l.length + 6) / 7)).map fun i => PyData.str (ofL ((l.drop (7 * i)).take 7)))).pd = .list ((pieces l).map fun x => .str (ofL x)) := by
          unfold pieces
          rw [List.map_map]
          rfl
        have hp : (pieces l).length ≤ 300 := by
          unfold pieces
          rw [List.length_map, List.length_range]
          omega
        rw [e3]
        refine agl_map (p := fun x => decide (x ∈ known)) trivial (fun x hx Q hQ => ?_) ?_
        · (try simp only [DL.iteB_true, DL.iteB_false, EL.zSeq, EL.zNext, EL.zRet, EL.zRetF, EL.zRetN, EL.zIf, EL.zAsg, EL.zAsgF, EL.zAsgC, EL.zDrop, EL.zRel, EL.zFor, EL.zBreak, EL.zCont, EL.zAsgT, EL.zPar, EL.zPar3, EL.zAug, EL.zCut, EL.zRaise, EL.zWhile, EL.zTrim, EL.trimmed, EL.zDPut, EL.zFld, EL.zFldInc, EL.xVar, EL.xC, EL.xOb, EL.xGts, EL.x2, EL.x1, EL.xCall, EL.xB, EL.xTru, EL.xAnd, EL.xOr, EL.xNot, EL.xIf, EL.yAnd, EL.yOr, EL.yNot, EL.xNil, EL.xCons, EL.xTup, EL.xLst, EL.xDnew, EL.xNew, EL.xCell, EL.xIt, EL.xRng1, EL.xRng2, EL.xRng3, EL.xLc, EL.xDc, EL.xAG, EL.xFnD, EL.xFnDX, EL.xFnDK, EL.xSl, EL.xNone, EL.xPart, EL.xListOf, EL.xM0, EL.xM1, EL.yYes, EL.xIx, EL.xApp, EL.xExt, EL.xPop, EL.xRev, EL.xLen, EL.xDGet, EL.xDIn, EL.xGet1, EL.xGet2, EL.xOrT, EL.xAndT, EL.xNotT2, EL.xFld, EL.xMeth, EL.xMake, EL.xPairs, EL.xDisp, EL.xChain, EL.xFn, EL.xFnK, EL.glN, EL.glT_t, EL.glNil_n, EL.glCons_c, DL.op2, DL.op1, DL.opC, DL.c1, DL.isiP, DL.typeO, DL.tyIs, DL.inG, DL.isND, EL.wipeL, DL.le_s0, DL.le_s1, DL.le_s2, DL.le_s3, DL.le_s4, DL.le_s5, DL.le_s6, DL.le_s7, DL.le_s8, DL.le_s9, DL.le_s10, EL.start0L, EL.rtD_dat, EL.up_dat, EL.up_ob, EL.ofDV_dat, EL.dvL_dat, EL.dvL_deck, EL.dvL_ob, EL.frz_dat, EL.frz_loc, DL.lend, DL.noOwn, DL.DV.isOwn, DL.pd_dat, DL.pd_own, DL.ocpd_lst, DL.ocpd_dk, EL.itemsL, EL.itemsOfL, EL.seqL, EL.lenL, EL.ixL, EL.lookC, EL.truL, EL.truC, EL.dgetL, EL.dgetC, EL.dputC, EL.isDL, EL.isDC, EL.view_dat, EL.view_loc, EL.view_deck, EL.view_gts, EL.view_ob, EL.viewC_c, EL.oc_lst, EL.oc_dk, EL.oc_dt, EL.oc_ins, EL.asData_nil, EL.asData_cons, EL.asData_map, EL.asData_snoc, EL.views_nil, EL.views_cons, Option.bind_some, Option.map_some, Option.map_none, List.map_map, List.map_cons, List.map_nil, List.append_nil, List.cons_append, List.nil_append, List.length_cons, List.length_nil, List.length_map, List.replicate_succ, List.replicate_zero, List.getElem?_cons_zero, List.getElem?_cons_succ, List.set_cons_zero, List.set_cons_succ, Nat.reduceSub, Nat.reduceAdd, Nat.sub_self, Nat.zero_add, Option.some.injEq, EL.LV.dat.injEq, EL.LV.loc.injEq, EL.LV.ob.injEq, EL.Cell.lst.injEq, EL.Cell.dk.injEq, EL.Cell.ins.injEq, DL.DV.dat.injEq, PyData.bool.injEq, PyData.int.injEq, PyData.str.injEq, PyData.tuple.injEq, PyData.list.injEq, DL.DV.ob.injEq, V.ty.injEq, DL.DV.own.injEq, DL.OC.lst.injEq, List.cons.injEq, exists_eq_left', exists_eq_left, exists_eq_right, exists_eq_right', exists_and_left, and_true, true_and, Bool.not_true, Bool.not_false, Bool.and_true, Bool.true_and, true_or, Bool.not_eq_true', Bool.false_eq_true, if_true, if_false, reduceIte, reduceCtorEq])
          refine ⟨.inr (ofL x), rfl, ?_⟩
          rw [tabS_is]
          by_cases h : x ∈ known
          · rw [if_pos h]
            rw [decide_eq_true h] at hQ
            exact hQ
          · rw [if_neg h]
            rw [decide_eq_false h] at hQ
            exact hQ
        · rw [if_pos rfl]
          unfold tow at h3
          cases hk : (pieces l).all fun x => decide (x ∈ known) with
          | false =>
            rw [hk] at h3
            exact h3
          | true =>
            rw [hk, if_pos rfl] at h3
            have hall : ∀ x ∈ pieces l, x ∈ known := fun c hc => of_decide_eq_true (List.all_eq_true.mp hk c hc)
            rw [Bool.not_true, iteB_false]
            refine lcl_map (q := fun x => .str ⟨#[dec x]⟩) trivial (fun x hx Q hQ => ?_) (by rw [sizeLine_eq]; omega) ?_
            · (try simp only [DL.iteB_true, DL.iteB_false, EL.zSeq, EL.zNext, EL.zRet, EL.zRetF, EL.zRetN, EL.zIf, EL.zAsg, EL.zAsgF, EL.zAsgC, EL.zDrop, EL.zRel, EL.zFor, EL.zBreak, EL.zCont, EL.zAsgT, EL.zPar, EL.zPar3, EL.zAug, EL.zCut, EL.zRaise, EL.zWhile, EL.zTrim, EL.trimmed, EL.zDPut, EL.zFld, EL.zFldInc, EL.xVar, EL.xC, EL.xOb, EL.xGts, EL.x2, EL.x1, EL.xCall, EL.xB, EL.xTru, EL.xAnd, EL.xOr, EL.xNot, EL.xIf, EL.yAnd, EL.yOr, EL.yNot, EL.xNil, EL.xCons, EL.xTup, EL.xLst, EL.xDnew, EL.xNew, EL.xCell, EL.xIt, EL.xRng1, EL.xRng2, EL.xRng3, EL.xLc, EL.xDc, EL.xAG, EL.xFnD, EL.xFnDX, EL.xFnDK, EL.xSl, EL.xNone, EL.xPart, EL.xListOf, EL.xM0, EL.xM1, EL.yYes, EL.xIx, EL.xApp, EL.xExt, EL.xPop, EL.xRev, EL.xLen, EL.xDGet, EL.xDIn, EL.xGet1, EL.xGet2, EL.xOrT, EL.xAndT, EL.xNotT2, EL.xFld, EL.xMeth, EL.xMake, EL.xPairs, EL.xDisp, EL.xChain, EL.xFn, EL.xFnK, EL.glN, EL.glT_t, EL.glNil_n, EL.glCons_c, DL.op2, DL.op1, DL.opC, DL.c1, DL.isiP, DL.typeO, DL.tyIs, DL.inG, DL.isND, EL.wipeL, DL.le_s0, DL.le_s1, DL.le_s2, DL.le_s3, DL.le_s4, DL.le_s5, DL.le_s6, DL.le_s7, DL.le_s8, DL.le_s9, DL.le_s10, EL.start0L, EL.rtD_dat, EL.up_dat, EL.up_ob, EL.ofDV_dat, EL.dvL_dat, EL.dvL_deck, EL.dvL_ob, EL.frz_dat, EL.frz_loc, DL.lend, DL.noOwn, DL.DV.isOwn, DL.pd_dat, DL.pd_own, DL.ocpd_lst, DL.ocpd_dk, EL.itemsL, EL.itemsOfL, EL.seqL, EL.lenL, EL.ixL, EL.lookC, EL.truL, EL.truC, EL.dgetL, EL.dgetC, EL.dputC, EL.isDL, EL.isDC, EL.view_dat, EL.view_loc, EL.view_deck, EL.view_gts, EL.view_ob, EL.viewC_c, EL.oc_lst, EL.oc_dk, EL.oc_dt, EL.oc_ins, EL.asData_nil, EL.asData_cons, EL.asData_map, EL.asData_snoc, EL.views_nil, EL.views_cons, Option.bind_some, Option.map_some, Option.map_none, List.map_map, List.map_cons, List.map_nil, List.append_nil, List.cons_append, List.nil_append, List.length_cons, List.length_nil, List.length_map, List.replicate_succ, List.replicate_zero, List.getElem?_cons_zero, List.getElem?_cons_succ, List.set_cons_zero, List.set_cons_succ, Nat.reduceSub, Nat.reduceAdd, Nat.sub_self, Nat.zero_add, Option.some.injEq, EL.LV.dat.injEq, EL.LV.loc.injEq, EL.LV.ob.injEq, EL.Cell.lst.injEq, EL.Cell.dk.injEq, EL.Cell.ins.injEq, DL.DV.dat.injEq, PyData.bool.injEq, PyData.int.injEq, PyData.str.injEq, PyData.tuple.injEq, PyData.list.injEq, DL.DV.ob.injEq, V.ty.injEq, DL.DV.own.injEq, DL.OC.lst.injEq, List.cons.injEq, exists_eq_left', exists_eq_left, exists_eq_right, exists_eq_right', exists_and_left, and_true, true_and, Bool.not_true, Bool.not_false, Bool.and_true, Bool.true_and, true_or, Bool.not_eq_true', Bool.false_eq_true, if_true, if_false, reduceIte, reduceCtorEq])
              refine ⟨.inr (ofL x), rfl, ?_⟩
              rw [tabS_is, if_pos (hall x hx)]
              exact ⟨_, rfl, hQ⟩
            · refine ⟨_, congrArg (Option.map _) (asData_fun (fun x => PyData.str ⟨#[dec x]⟩) (pieces l)), ?_⟩
              have e4 : (OC.lst ((pieces l).map fun x => PyData.str ⟨#[dec x]⟩)).pd = .list (((pieces l).map fun x => [dec x]).map fun l => .str (ofL l)) := by
                rw [List.map_map]
                rfl
              have e5 : ∀ ls : List (List Nat), (ls.map fun x => [dec x]).flatten = ls.map dec ∧ ((ls.map fun x => [dec x]).map (·.length)).sum = ls.length := by
                intro ls
                induction ls with
                | nil => exact ⟨rfl, rfl⟩
                | cons x r ih =>
                  refine ⟨by simp [ih.1], ?_⟩
                  rw [List.map_cons, List.map_cons, List.sum_cons, ih.2]
                  simp
                  omega
              rw [e4]
              refine joinP_ofL (by rw [(e5 _).2]; omega) ?_
              rw [(e5 _).1]
              exact h3
end
end PA


set_option Elab.async false
set_option linter.all false
set_option maxRecDepth 100000
set_option maxHeartbeats 4000000
/-! Texts as words: the law's own side. -/
namespace PB
open PySem PySem.Spec PyProof.Rows L2 KT KG KM KX KY KE0 KQ LK GxR DL KA DW EL QE QF TP GA PA
def F_bits : FnD := fun ds K _ => ∃ n : Nat, ds = [.dat (.int n)] ∧ n < 128 ∧ K (.str (ofL (bits n)))
def F_wo : FnD := fun ds K _ => ∃ cs : List Nat, ds = [.dat (.str (ofL cs))] ∧ cs.length ≤ 1000 ∧ (∀ c ∈ cs, c < 128) ∧ K (.str (ofL (enc cs)))
def lsg : List Nat := (("abcdefghijklmnopqrstuvwxyz" : Str) ++ "ABCDEFGHIJKLMNOPQRSTUVWXYZ" ++ "0123456789" ++ "\n" ++ " !\"#$&'()*+,-./:;<=>?\x40[\\]^_" ++ "{|}~" ++ "`").cps.toList
def F_ls : FnD := fun ds K _ => ds = [] ∧ ∀ cs : List Nat, (∀ c, c ∈ cs ↔ c ∈ S) → cs.length ≤ 100 → cs ≠ [] → K (.str (ofL cs))
def codes (l : List Nat) : PyData := if l.length % 7 = 0 then .list ((pieces l).map fun x => .int (dec x : Nat)) else .none
def F_codes : FnD := fun ds K _ => ∃ l : List Nat, ds = [.dat (.str (ofL l))] ∧ isW (ofL l) = true ∧ l.length ≤ 2000 ∧ K (codes l)
/-! ### numbers of seven signs -/
theorem bits_dec7 : ∀ a ∈ [48, 49], ∀ b ∈ [48, 49], ∀ c ∈ [48, 49], ∀ d ∈ [48, 49], ∀ e ∈ [48, 49], ∀ f ∈ [48, 49], ∀ g ∈ [48, 49], bits (dec [a, b, c, d, e, f, g]) = [a, b, c, d, e, f, g] ∧ dec [a, b, c, d, e, f, g] < 128 := by decide +kernel
theorem bits_dec {x : List Nat} (hl : x.length = 7) (h : ∀ c ∈ x, c ∈ [48, 49]) : bits (dec x) = x ∧ dec x < 128 := by
  match x, hl with
  | [a, b, c, d, e, f, g], _ =>
    simp only [List.forall_mem_cons] at h
    exact bits_dec7 a h.1 b h.2.1 c h.2.2.1 d h.2.2.2.1 e h.2.2.2.2.1 f h.2.2.2.2.2.1 g h.2.2.2.2.2.2.1
theorem isW_mem {l : List Nat} (h : isW (ofL l) = true) : ∀ c ∈ l, c ∈ [48, 49] := fun c hc => by
  have := List.all_eq_true.mp h c hc
  have := of_decide_eq_true this
  have e : ("01" : Str).cps.toList = [48, 49] := by decide
  rw [e] at this
  exact this
theorem isW_of {l : List Nat} (h : ∀ c ∈ l, c ∈ [48, 49]) : isW (ofL l) = true := by
  refine List.all_eq_true.mpr fun c hc => decide_eq_true ?_
  have e : ("01" : Str).cps.toList = [48, 49] := by decide
  rw [e]
  exact h c hc
theorem bits_mem (n : Nat) : ∀ c ∈ bits n, c ∈ [48, 49] := fun c hc => by
  obtain ⟨k, _, rfl⟩ := List.mem_map.mp hc
  have : n / k % 2 < 2 := Nat.mod_lt _ (by decide)
  simp only [List.mem_cons, List.not_mem_nil, or_false]
  omega
theorem enc_mem (cs : List Nat) : ∀ c ∈ enc cs, c ∈ [48, 49] := fun c hc => by
  obtain ⟨n, _, h⟩ := List.mem_flatMap.mp hc
  exact bits_mem n c h
theorem enc_len (cs : List Nat) : (enc cs).length = 7 * cs.length := by
  unfold enc
  rw [List.flatMap_def, List.length_flatten, sum_bits]
theorem flat_range {l : List Nat} : ∀ k, 7 * k ≤ l.length → ((List.range k).map fun i => (l.drop (7 * i)).take 7).flatten = l.take (7 * k)
  | 0, _ => by simp
  | k + 1, h => by
    rw [List.range_succ, List.map_append, List.flatten_append, flat_range k (by omega)]
    simp only [List.map_cons, List.map_nil, List.flatten_cons, List.flatten_nil, List.append_nil]
    rw [show 7 * (k + 1) = 7 * k + 7 by omega, List.take_add]
theorem pieces_flat {l : List Nat} (h : l.length % 7 = 0) : (pieces l).flatten = l := by
  unfold pieces
  rw [flat_range _ (by omega), List.take_of_length_le (by omega)]
theorem pieces_7 {l : List Nat} (h : l.length % 7 = 0) : ∀ x ∈ pieces l, x.length = 7 := fun x hx => by
  obtain ⟨i, hi, rfl⟩ := List.mem_map.mp hx
  have := List.mem_range.mp hi
  rw [List.length_take, List.length_drop]
  omega
theorem pieces_mem {l : List Nat} {x : List Nat} (hx : x ∈ pieces l) : ∀ c ∈ x, c ∈ l := fun c hc => by
  obtain ⟨i, hi, rfl⟩ := List.mem_map.mp hx
  exact List.mem_of_mem_drop (List.mem_of_mem_take hc)
theorem known_7 {x : List Nat} (h : x ∈ known) : x.length = 7 := by
  obtain ⟨c, _, rfl⟩ := List.mem_map.mp h
  rfl
/-- no text: the number of signs is off -/
theorem tow_short {l : List Nat} (h : l.length % 7 ≠ 0) : tow l = .none := by
  unfold tow
  rw [if_neg]
  intro z
  have hm : (l.drop (7 * (l.length / 7))).take 7 ∈ pieces l := List.mem_map.mpr ⟨l.length / 7, List.mem_range.mpr (by omega), rfl⟩
  have := known_7 (of_decide_eq_true (List.all_eq_true.mp z _ hm))
  rw [List.length_take, List.length_drop] at this
  omega
theorem known_iff {l : List Nat} (h : l.length % 7 = 0) (hw : isW (ofL l) = true) {x : List Nat} (hx : x ∈ pieces l) : x ∈ known ↔ dec x ∈ S := by
  have hb := bits_dec (pieces_7 h x hx) fun c hc => isW_mem hw c (pieces_mem hx c hc)
  constructor
  · intro hk
    obtain ⟨c, hc, rfl⟩ := List.mem_map.mp hk
    rw [dec_bits c (S_lt c hc)]
    exact hc
  · intro hs
    exact List.mem_map.mpr ⟨_, hs, hb.1⟩
theorem enc_dec {l : List Nat} (h : l.length % 7 = 0) (hw : isW (ofL l) = true) : enc ((pieces l).map dec) = l := by
  unfold enc
  rw [List.flatMap_map, List.flatMap_def]
  have e : (pieces l).map (fun a => bits (dec a)) = pieces l := by
    rw [List.map_congr_left (g := id) fun x hx => (bits_dec (pieces_7 h x hx) fun c hc => isW_mem hw c (pieces_mem hx c hc)).1, List.map_id]
  rw [e, pieces_flat h]
theorem pieces_enc (cs : List Nat) : pieces (enc cs) = cs.map bits := by
  have h : (enc cs).length % 7 = 0 := by rw [enc_len]; omega
  have hl : (pieces (enc cs)).length = cs.length := by
    unfold pieces
    rw [List.length_map, List.length_range, enc_len]
    omega
  have go : ∀ (i : Nat) (cs : List Nat), i < cs.length → ((enc cs).drop (7 * i)).take 7 = bits (cs.getD i 0) := by
    intro i
    induction i with
    | zero =>
      intro cs hi
      cases cs with
      | nil => simp at hi
      | cons c cs => rfl
    | succ i ih =>
      intro cs hi
      cases cs with
      | nil => simp at hi
      | cons c cs =>
        have e : enc (c :: cs) = bits c ++ enc cs := rfl
        rw [e, show 7 * (i + 1) = 7 + 7 * i by omega, ← List.drop_drop, List.drop_left' (bits_len c)]
        rw [ih cs (by simpa using hi)]
        rfl
  refine List.ext_getElem (by rw [hl, List.length_map]) fun i h1 h2 => ?_
  have e : (pieces (enc cs))[i] = ((enc cs).drop (7 * i)).take 7 := by simp [pieces]
  have hi : i < cs.length := by rw [hl] at h1; exact h1
  rw [e, List.getElem_map, go i cs hi, List.getD_eq_getElem?_getD, List.getElem?_eq_getElem hi]
  rfl
theorem tow_enc {cs : List Nat} (h : ∀ c ∈ cs, c ∈ S) : tow (enc cs) = .str (ofL cs) := by
  unfold tow
  rw [pieces_enc, if_pos]
  · rw [List.map_map, List.map_congr_left (f := dec ∘ bits) (g := id) fun c hc => dec_bits c (S_lt c (h c hc)), List.map_id]
  · rw [List.all_map]
    exact List.all_eq_true.mpr fun c hc => decide_eq_true (List.mem_map.mpr ⟨c, h c hc, rfl⟩)
/-! ### the law's functions -/
section
variable {P : Program} {w : World} {K : PySem.W.Frag} {mg : Str → Option Value} {base : Heap} {Tl : List Addr} {fn : Str → FuncData}
def bt (n : Nat) : Nat → Str
  | 0 => ""
  | i + 1 => dig (n / 2 ^ i % 2) ++ bt n i
theorem bt_7 : ∀ n < 128, bt n 7 = ofL (bits n) := by decide +kernel
theorem bt_len (n : Nat) : ∀ i, (bt n i).length = i
  | 0 => rfl
  | i + 1 => by
    show (dig _ ++ bt n i).length = _
    rw [len_app, bt_len n i, show (dig (n / 2 ^ i % 2)).length = 1 from rfl]
    omega
theorem rngD_0 (n : Nat) : rngD 0 n = (List.range n).map fun i => PyData.int ((i : Nat) : Int) := by
  unfold rngD
  congr 1
  funext i
  rw [Int.zero_add]
theorem rngD_at {n i : Nat} {d : PyData} (h : (rngD 0 n)[i]? = some d) : i < n ∧ d = .int (i : Int) := by
  rw [rngD_0, List.getElem?_map] at h
  cases e : (List.range n)[i]? with
  | none => rw [e] at h; cases h
  | some j =>
    rw [e] at h
    obtain ⟨h1, h2⟩ := List.getElem?_eq_some_iff.mp e
    rw [List.getElem_range] at h2
    rw [List.length_range] at h1
    subst h2
    exact ⟨h1, (Option.some.inj h).symm⟩
theorem ok__law_bits (p : Top P w K mg base Tl fn) : FnOk P w K mg base CX0 1 (He.fAd K ("_law_bits", none)) (fn "_law_bits") P__law_bits (spD (WP K Tl) F_bits) := by
  refine okLD p.D__law_bits.F sc__law_bits (fun ds Kk KE h => by obtain ⟨n, rfl, hn, h⟩ := h; rfl) (fun W S0 cdv A outer s E hW hcd hr => ⟨_, (lss_cons (ls_set (i := 1) sc__law_bits.nd rfl (.inl rfl) EL.le_str)
      (lss_cons (ls_for PassesOwn.never rfl (li_range1 (by rfl) p.T.range (la_cons EL.le_int la_nil)) (pg_name (i := 2) sc__law_bits.nd rfl (.inl rfl)) (sl_name (i := 2) trivial) (lss_one (ls_par (ps_par (i := 1) (j := 0) (by rfl) sc__law_bits.nd rfl rfl (by decide) rfl rfl (la_cons (le_op op_addD (fun _ => sn_add) (le_cb (pe_callTy call_str_int (by rfl) p.T.str (by decide +kernel) (la_cons (le_op op_and (fun _ => sn_int0) (lvar 0) EL.le_int) la_nil)) (fun _ => sn_strc)) (lvar 1)) (la_cons (le_op op_fdivW (fun _ => sn_int) (lvar 0) EL.le_int) la_nil)) (by rfl)))))
      (lss_one (ls_ret (lvar 1))))), fun ds Kk KE h => ?_⟩)
  obtain ⟨n, rfl, hn, h⟩ := h
  (try simp only [DL.iteB_true, DL.iteB_false, EL.zSeq, EL.zNext, EL.zRet, EL.zRetF, EL.zRetN, EL.zIf, EL.zAsg, EL.zAsgF, EL.zAsgC, EL.zDrop, EL.zRel, EL.zFor, EL.zBreak, EL.zCont, EL.zAsgT, EL.zPar, EL.zPar3, EL.zAug, EL.zCut, EL.zRaise, EL.zWhile, EL.zTrim, EL.trimmed, EL.zDPut, EL.zFld, EL.zFldInc, EL.xVar, EL.xC, EL.xOb, EL.xGts, EL.x2, EL.x1, EL.xCall, EL.xB, EL.xTru, EL.xAnd, EL.xOr, EL.xNot, EL.xIf, EL.yAnd, EL.yOr, EL.yNot, EL.xNil, EL.xCons, EL.xTup, EL.xLst, EL.xDnew, EL.xNew, EL.xCell, EL.xIt, EL.xRng1, EL.xRng2, EL.xRng3, EL.xLc, EL.xDc, EL.xAG, EL.xFnD, EL.xFnDX, EL.xFnDK, EL.xSl, EL.xNone, EL.xPart, EL.xListOf, EL.xM0, EL.xM1, EL.yYes, EL.xIx, EL.xApp, EL.xExt, EL.xPop, EL.xRev, EL.xLen, EL.xDGet, EL.xDIn, EL.xGet1, EL.xGet2, EL.xOrT, EL.xAndT, EL.xNotT2, EL.xFld, EL.xMeth, EL.xMake, EL.xPairs, EL.xDisp, EL.xChain, EL.xFn, EL.xFnK, EL.glN, EL.glT_t, EL.glNil_n, EL.glCons_c, DL.op2, DL.op1, DL.opC, DL.c1, DL.isiP, DL.typeO, DL.tyIs, DL.inG, DL.isND, EL.wipeL, DL.le_s0, DL.le_s1, DL.le_s2, DL.le_s3, DL.le_s4, DL.le_s5, DL.le_s6, DL.le_s7, DL.le_s8, DL.le_s9, DL.le_s10, EL.start0L, EL.rtD_dat, EL.up_dat, EL.up_ob, EL.ofDV_dat, EL.dvL_dat, EL.dvL_deck, EL.dvL_ob, EL.frz_dat, EL.frz_loc, DL.lend, DL.noOwn, DL.DV.isOwn, DL.pd_dat, DL.pd_own, DL.ocpd_lst, DL.ocpd_dk, EL.itemsL, EL.itemsOfL, EL.seqL, EL.lenL, EL.ixL, EL.lookC, EL.truL, EL.truC, EL.dgetL, EL.dgetC, EL.dputC, EL.isDL, EL.isDC, EL.view_dat, EL.view_loc, EL.view_deck, EL.view_gts, EL.view_ob, EL.viewC_c, EL.oc_lst, EL.oc_dk, EL.oc_dt, EL.oc_ins, EL.asData_nil, EL.asData_cons, EL.asData_map, EL.asData_snoc, EL.views_nil, EL.views_cons, Option.bind_some, Option.map_some, Option.map_none, List.map_map, List.map_cons, List.map_nil, List.append_nil, List.cons_append, List.nil_append, List.length_cons, List.length_nil, List.length_map, List.replicate_succ, List.replicate_zero, List.getElem?_cons_zero, List.getElem?_cons_succ, List.set_cons_zero, List.set_cons_succ, Nat.reduceSub, Nat.reduceAdd, Nat.sub_self, Nat.zero_add, Option.some.injEq, EL.LV.dat.injEq, EL.LV.loc.injEq, EL.LV.ob.injEq, EL.Cell.lst.injEq, EL.Cell.dk.injEq, EL.Cell.ins.injEq, DL.DV.dat.injEq, PyData.bool.injEq, PyData.int.injEq, PyData.str.injEq, PyData.tuple.injEq, PyData.list.injEq, DL.DV.ob.injEq, V.ty.injEq, DL.DV.own.injEq, DL.OC.lst.injEq, List.cons.injEq, exists_eq_left', exists_eq_left, exists_eq_right, exists_eq_right', exists_and_left, and_true, true_and, Bool.not_true, Bool.not_false, Bool.and_true, Bool.true_and, true_or, Bool.not_eq_true', Bool.false_eq_true, if_true, if_false, reduceIte, reduceCtorEq])
  refine ⟨by decide, by decide, ?_⟩
  refine forD_inv (fun i ρ η => ∃ x, ρ = [some (.dat (.int ((n / 2 ^ i : Nat) : Int))), some (.dat (.str (bt n i))), x] ∧ η = []) ?_ ⟨none, by rw [Nat.pow_zero, Nat.div_one]; rfl, rfl⟩ ?_
  · rintro i d ρ η N hi ⟨x, rfl, rfl⟩ hN
    obtain ⟨hi7, rfl⟩ := rngD_at hi
    have hi7 : i < 7 := hi7
    (try simp only [DL.iteB_true, DL.iteB_false, EL.zSeq, EL.zNext, EL.zRet, EL.zRetF, EL.zRetN, EL.zIf, EL.zAsg, EL.zAsgF, EL.zAsgC, EL.zDrop, EL.zRel, EL.zFor, EL.zBreak, EL.zCont, EL.zAsgT, EL.zPar, EL.zPar3, EL.zAug, EL.zCut, EL.zRaise, EL.zWhile, EL.zTrim, EL.trimmed, EL.zDPut, EL.zFld, EL.zFldInc, EL.xVar, EL.xC, EL.xOb, EL.xGts, EL.x2, EL.x1, EL.xCall, EL.xB, EL.xTru, EL.xAnd, EL.xOr, EL.xNot, EL.xIf, EL.yAnd, EL.yOr, EL.yNot, EL.xNil, EL.xCons, EL.xTup, EL.xLst, EL.xDnew, EL.xNew, EL.xCell, EL.xIt, EL.xRng1, EL.xRng2, EL.xRng3, EL.xLc, EL.xDc, EL.xAG, EL.xFnD, EL.xFnDX, EL.xFnDK, EL.xSl, EL.xNone, EL.xPart, EL.xListOf, EL.xM0, EL.xM1, EL.yYes, EL.xIx, EL.xApp, EL.xExt, EL.xPop, EL.xRev, EL.xLen, EL.xDGet, EL.xDIn, EL.xGet1, EL.xGet2, EL.xOrT, EL.xAndT, EL.xNotT2, EL.xFld, EL.xMeth, EL.xMake, EL.xPairs, EL.xDisp, EL.xChain, EL.xFn, EL.xFnK, EL.glN, EL.glT_t, EL.glNil_n, EL.glCons_c, DL.op2, DL.op1, DL.opC, DL.c1, DL.isiP, DL.typeO, DL.tyIs, DL.inG, DL.isND, EL.wipeL, DL.le_s0, DL.le_s1, DL.le_s2, DL.le_s3, DL.le_s4, DL.le_s5, DL.le_s6, DL.le_s7, DL.le_s8, DL.le_s9, DL.le_s10, EL.start0L, EL.rtD_dat, EL.up_dat, EL.up_ob, EL.ofDV_dat, EL.dvL_dat, EL.dvL_deck, EL.dvL_ob, EL.frz_dat, EL.frz_loc, DL.lend, DL.noOwn, DL.DV.isOwn, DL.pd_dat, DL.pd_own, DL.ocpd_lst, DL.ocpd_dk, EL.itemsL, EL.itemsOfL, EL.seqL, EL.lenL, EL.ixL, EL.lookC, EL.truL, EL.truC, EL.dgetL, EL.dgetC, EL.dputC, EL.isDL, EL.isDC, EL.view_dat, EL.view_loc, EL.view_deck, EL.view_gts, EL.view_ob, EL.viewC_c, EL.oc_lst, EL.oc_dk, EL.oc_dt, EL.oc_ins, EL.asData_nil, EL.asData_cons, EL.asData_map, EL.asData_snoc, EL.views_nil, EL.views_cons, Option.bind_some, Option.map_some, Option.map_none, List.map_map, List.map_cons, List.map_nil, List.append_nil, List.cons_append, List.nil_append, List.length_cons, List.length_nil, List.length_map, List.replicate_succ, List.replicate_zero, List.getElem?_cons_zero, List.getElem?_cons_succ, List.set_cons_zero, List.set_cons_succ, Nat.reduceSub, Nat.reduceAdd, Nat.sub_self, Nat.zero_add, Option.some.injEq, EL.LV.dat.injEq, EL.LV.loc.injEq, EL.LV.ob.injEq, EL.Cell.lst.injEq, EL.Cell.dk.injEq, EL.Cell.ins.injEq, DL.DV.dat.injEq, PyData.bool.injEq, PyData.int.injEq, PyData.str.injEq, PyData.tuple.injEq, PyData.list.injEq, DL.DV.ob.injEq, V.ty.injEq, DL.DV.own.injEq, DL.OC.lst.injEq, List.cons.injEq, exists_eq_left', exists_eq_left, exists_eq_right, exists_eq_right', exists_and_left, and_true, true_and, Bool.not_true, Bool.not_false, Bool.and_true, Bool.true_and, true_or, Bool.not_eq_true', Bool.false_eq_true, if_true, if_false, reduceIte, reduceCtorEq])
    obtain ⟨d1, d2⟩ := dig_eq (n / 2 ^ i % 2) (by omega)
    rw [int0P_ii, band1]
    refine ⟨?_, ?_⟩
    · have : ((n / 2 ^ i % 2 : Nat) : Int).natAbs = 0 ∨ ((n / 2 ^ i % 2 : Nat) : Int).natAbs = 1 := by omega
      rcases this with e | e <;> rw [e] <;> decide
    · rw [d1]
      refine ⟨by rw [d2, bt_len, sizeLine_eq]; omega, ?_⟩
      refine ⟨cdivW (by decide) (by decide), _, _, ⟨rfl, rfl⟩, hN _ _ ⟨some (.dat (.int (i : Int))), ?_, rfl⟩⟩
      show [some (LV.dat (PyData.int (((n / 2 ^ i : Nat) : Int) / 2))), _, _] = _
      rw [show ((n / 2 ^ i : Nat) : Int) / 2 = ((n / 2 ^ (i + 1) : Nat) : Int) by rw [Nat.pow_succ, ← Nat.div_div_eq_div_mul]; omega]
      rfl
  · rintro ρ η ⟨x, rfl, rfl⟩
    have e : (rngD 0 (Int.toNat 7)).length = 7 := by decide
    rw [e, bt_7 n hn]
    (try simp only [DL.iteB_true, DL.iteB_false, EL.zSeq, EL.zNext, EL.zRet, EL.zRetF, EL.zRetN, EL.zIf, EL.zAsg, EL.zAsgF, EL.zAsgC, EL.zDrop, EL.zRel, EL.zFor, EL.zBreak, EL.zCont, EL.zAsgT, EL.zPar, EL.zPar3, EL.zAug, EL.zCut, EL.zRaise, EL.zWhile, EL.zTrim, EL.trimmed, EL.zDPut, EL.zFld, EL.zFldInc, EL.xVar, EL.xC, EL.xOb, EL.xGts, EL.x2, EL.x1, EL.xCall, EL.xB, EL.xTru, EL.xAnd, EL.xOr, EL.xNot, EL.xIf, EL.yAnd, EL.yOr, EL.yNot, EL.xNil, EL.xCons, EL.xTup, EL.xLst, EL.xDnew, EL.xNew, EL.xCell, EL.xIt, EL.xRng1, EL.xRng2, EL.xRng3, EL.xLc, EL.xDc, EL.xAG, EL.xFnD, EL.xFnDX, EL.xFnDK, EL.xSl, EL.xNone, EL.xPart, EL.xListOf, EL.xM0, EL.xM1, EL.yYes, EL.xIx, EL.xApp, EL.xExt, EL.xPop, EL.xRev, EL.xLen, EL.xDGet, EL.xDIn, EL.xGet1, EL.xGet2, EL.xOrT, EL.xAndT, EL.xNotT2, EL.xFld, EL.xMeth, EL.xMake, EL.xPairs, EL.xDisp, EL.xChain, EL.xFn, EL.xFnK, EL.glN, EL.glT_t, EL.glNil_n, EL.glCons_c, DL.op2, DL.op1, DL.opC, DL.c1, DL.isiP, DL.typeO, DL.tyIs, DL.inG, DL.isND, EL.wipeL, DL.le_s0, DL.le_s1, DL.le_s2, DL.le_s3, DL.le_s4, DL.le_s5, DL.le_s6, DL.le_s7, DL.le_s8, DL.le_s9, DL.le_s10, EL.start0L, EL.rtD_dat, EL.up_dat, EL.up_ob, EL.ofDV_dat, EL.dvL_dat, EL.dvL_deck, EL.dvL_ob, EL.frz_dat, EL.frz_loc, DL.lend, DL.noOwn, DL.DV.isOwn, DL.pd_dat, DL.pd_own, DL.ocpd_lst, DL.ocpd_dk, EL.itemsL, EL.itemsOfL, EL.seqL, EL.lenL, EL.ixL, EL.lookC, EL.truL, EL.truC, EL.dgetL, EL.dgetC, EL.dputC, EL.isDL, EL.isDC, EL.view_dat, EL.view_loc, EL.view_deck, EL.view_gts, EL.view_ob, EL.viewC_c, EL.oc_lst, EL.oc_dk, EL.oc_dt, EL.oc_ins, EL.asData_nil, EL.asData_cons, EL.asData_map, EL.asData_snoc, EL.views_nil, EL.views_cons, Option.bind_some, Option.map_some, Option.map_none, List.map_map, List.map_cons, List.map_nil, List.append_nil, List.cons_append, List.nil_append, List.length_cons, List.length_nil, List.length_map, List.replicate_succ, List.replicate_zero, List.getElem?_cons_zero, List.getElem?_cons_succ, List.set_cons_zero, List.set_cons_succ, Nat.reduceSub, Nat.reduceAdd, Nat.sub_self, Nat.zero_add, Option.some.injEq, EL.LV.dat.injEq, EL.LV.loc.injEq, EL.LV.ob.injEq, EL.Cell.lst.injEq, EL.Cell.dk.injEq, EL.Cell.ins.injEq, DL.DV.dat.injEq, PyData.bool.injEq, PyData.int.injEq, PyData.str.injEq, PyData.tuple.injEq, PyData.list.injEq, DL.DV.ob.injEq, V.ty.injEq, DL.DV.own.injEq, DL.OC.lst.injEq, List.cons.injEq, exists_eq_left', exists_eq_left, exists_eq_right, exists_eq_right', exists_and_left, and_true, true_and, Bool.not_true, Bool.not_false, Bool.and_true, Bool.true_and, true_or, Bool.not_eq_true', Bool.false_eq_true, if_true, if_false, reduceIte, reduceCtorEq])
    exact h
theorem ok__law_word_of (p : Top P w K mg base Tl fn) : FnOk P w K mg base CX0 3 (He.fAd K ("_law_word_of", none)) (fn "_law_word_of") P__law_word_of (spD (WP K Tl) F_wo) := by
  refine okLD p.D__law_word_of.F sc__law_word_of (fun ds Kk KE h => by obtain ⟨cs, rfl, hl, hc, h⟩ := h; rfl) (fun W S0 cdv A outer s E hW hcd hr => ⟨_, (lss_one (ls_ret (le_m1 (pe_join EL.le_str (le_new (lf_lc (own := [("_law_sign", 1)]) (g := gName 1) rfl sc__law_word_of.nd (li_seq (lvar 0) hW.k) (blkOk_by (own := [("_law_sign", 1)]) (N := N__law_word_of) (sc := defScope s__law_word_of) (by decide +kernel)) (fun _ _ _ _ _ => (pg_name (i := 1) sc__law_word_of.nd rfl (.inl rfl))) (sl_name (i := 1) (by simp)) (fun _ _ _ _ _ => lts_nil) (fun _ _ _ _ _ => (le_callD (pe_call (ok__law_bits p) (hr.mono (by first | decide | omega)) (by rfl) p.D__law_bits.g p.D__law_bits.F.kp p.D__law_bits.b .nil pass0 (la_cons (le_cb (pe_callB call_ord (by rfl) p.T.ord (by decide +kernel) (la_cons (lvar 1) la_nil)) (fun _ => sn_ord)) la_nil)) hW))))) (fun _ => sn_join)))), fun ds Kk KE h => ?_⟩)
  obtain ⟨cs, rfl, hl, hc, h⟩ := h
  (try simp only [DL.iteB_true, DL.iteB_false, EL.zSeq, EL.zNext, EL.zRet, EL.zRetF, EL.zRetN, EL.zIf, EL.zAsg, EL.zAsgF, EL.zAsgC, EL.zDrop, EL.zRel, EL.zFor, EL.zBreak, EL.zCont, EL.zAsgT, EL.zPar, EL.zPar3, EL.zAug, EL.zCut, EL.zRaise, EL.zWhile, EL.zTrim, EL.trimmed, EL.zDPut, EL.zFld, EL.zFldInc, EL.xVar, EL.xC, EL.xOb, EL.xGts, EL.x2, EL.x1, EL.xCall, EL.xB, EL.xTru, EL.xAnd, EL.xOr, EL.xNot, EL.xIf, EL.yAnd, EL.yOr, EL.yNot, EL.xNil, EL.xCons, EL.xTup, EL.xLst, EL.xDnew, EL.xNew, EL.xCell, EL.xIt, EL.xRng1, EL.xRng2, EL.xRng3, EL.xLc, EL.xDc, EL.xAG, EL.xFnD, EL.xFnDX, EL.xFnDK, EL.xSl, EL.xNone, EL.xPart, EL.xListOf, EL.xM0, EL.xM1, EL.yYes, EL.xIx, EL.xApp, EL.xExt, EL.xPop, EL.xRev, EL.xLen, EL.xDGet, EL.xDIn, EL.xGet1, EL.xGet2, EL.xOrT, EL.xAndT, EL.xNotT2, EL.xFld, EL.xMeth, EL.xMake, EL.xPairs, EL.xDisp, EL.xChain, EL.xFn, EL.xFnK, EL.glN, EL.glT_t, EL.glNil_n, EL.glCons_c, DL.op2, DL.op1, DL.opC, DL.c1, DL.isiP, DL.typeO, DL.tyIs, DL.inG, DL.isND, EL.wipeL, DL.le_s0, DL.le_s1, DL.le_s2, DL.le_s3, DL.le_s4, DL.le_s5, DL.le_s6, DL.le_s7, DL.le_s8, DL.le_s9, DL.le_s10, EL.start0L, EL.rtD_dat, EL.up_dat, EL.up_ob, EL.ofDV_dat, EL.dvL_dat, EL.dvL_deck, EL.dvL_ob, EL.frz_dat, EL.frz_loc, DL.lend, DL.noOwn, DL.DV.isOwn, DL.pd_dat, DL.pd_own, DL.ocpd_lst, DL.ocpd_dk, EL.itemsL, EL.itemsOfL, EL.seqL, EL.lenL, EL.ixL, EL.lookC, EL.truL, EL.truC, EL.dgetL, EL.dgetC, EL.dputC, EL.isDL, EL.isDC, EL.view_dat, EL.view_loc, EL.view_deck, EL.view_gts, EL.view_ob, EL.viewC_c, EL.oc_lst, EL.oc_dk, EL.oc_dt, EL.oc_ins, EL.asData_nil, EL.asData_cons, EL.asData_map, EL.asData_snoc, EL.views_nil, EL.views_cons, Option.bind_some, Option.map_some, Option.map_none, List.map_map, List.map_cons, List.map_nil, List.append_nil, List.cons_append, List.nil_append, List.length_cons, List.length_nil, List.length_map, List.replicate_succ, List.replicate_zero, List.getElem?_cons_zero, List.getElem?_cons_succ, List.set_cons_zero, List.set_cons_succ, Nat.reduceSub, Nat.reduceAdd, Nat.sub_self, Nat.zero_add, Option.some.injEq, EL.LV.dat.injEq, EL.LV.loc.injEq, EL.LV.ob.injEq, EL.Cell.lst.injEq, EL.Cell.dk.injEq, EL.Cell.ins.injEq, DL.DV.dat.injEq, PyData.bool.injEq, PyData.int.injEq, PyData.str.injEq, PyData.tuple.injEq, PyData.list.injEq, DL.DV.ob.injEq, V.ty.injEq, DL.DV.own.injEq, DL.OC.lst.injEq, List.cons.injEq, exists_eq_left', exists_eq_left, exists_eq_right, exists_eq_right', exists_and_left, and_true, true_and, Bool.not_true, Bool.not_false, Bool.and_true, Bool.true_and, true_or, Bool.not_eq_true', Bool.false_eq_true, if_true, if_false, reduceIte, reduceCtorEq])
  rw [signs_ofL]
  refine lcl_map (q := fun c => .str (ofL (bits c))) trivial (fun c hx Q hQ => ?_) (by rw [sizeLine_eq]; omega) ?_
  · (try simp only [DL.iteB_true, DL.iteB_false, EL.zSeq, EL.zNext, EL.zRet, EL.zRetF, EL.zRetN, EL.zIf, EL.zAsg, EL.zAsgF, EL.zAsgC, EL.zDrop, EL.zRel, EL.zFor, EL.zBreak, EL.zCont, EL.zAsgT, EL.zPar, EL.zPar3, EL.zAug, EL.zCut, EL.zRaise, EL.zWhile, EL.zTrim, EL.trimmed, EL.zDPut, EL.zFld, EL.zFldInc, EL.xVar, EL.xC, EL.xOb, EL.xGts, EL.x2, EL.x1, EL.xCall, EL.xB, EL.xTru, EL.xAnd, EL.xOr, EL.xNot, EL.xIf, EL.yAnd, EL.yOr, EL.yNot, EL.xNil, EL.xCons, EL.xTup, EL.xLst, EL.xDnew, EL.xNew, EL.xCell, EL.xIt, EL.xRng1, EL.xRng2, EL.xRng3, EL.xLc, EL.xDc, EL.xAG, EL.xFnD, EL.xFnDX, EL.xFnDK, EL.xSl, EL.xNone, EL.xPart, EL.xListOf, EL.xM0, EL.xM1, EL.yYes, EL.xIx, EL.xApp, EL.xExt, EL.xPop, EL.xRev, EL.xLen, EL.xDGet, EL.xDIn, EL.xGet1, EL.xGet2, EL.xOrT, EL.xAndT, EL.xNotT2, EL.xFld, EL.xMeth, EL.xMake, EL.xPairs, EL.xDisp, EL.xChain, EL.xFn, EL.xFnK, EL.glN, EL.glT_t, EL.glNil_n, EL.glCons_c, DL.op2, DL.op1, DL.opC, DL.c1, DL.isiP, DL.typeO, DL.tyIs, DL.inG, DL.isND, EL.wipeL, DL.le_s0, DL.le_s1, DL.le_s2, DL.le_s3, DL.le_s4, DL.le_s5, DL.le_s6, DL.le_s7, DL.le_s8, DL.le_s9, DL.le_s10, EL.start0L, EL.rtD_dat, EL.up_dat, EL.up_ob, EL.ofDV_dat, EL.dvL_dat, EL.dvL_deck, EL.dvL_ob, EL.frz_dat, EL.frz_loc, DL.lend, DL.noOwn, DL.DV.isOwn, DL.pd_dat, DL.pd_own, DL.ocpd_lst, DL.ocpd_dk, EL.itemsL, EL.itemsOfL, EL.seqL, EL.lenL, EL.ixL, EL.lookC, EL.truL, EL.truC, EL.dgetL, EL.dgetC, EL.dputC, EL.isDL, EL.isDC, EL.view_dat, EL.view_loc, EL.view_deck, EL.view_gts, EL.view_ob, EL.viewC_c, EL.oc_lst, EL.oc_dk, EL.oc_dt, EL.oc_ins, EL.asData_nil, EL.asData_cons, EL.asData_map, EL.asData_snoc, EL.views_nil, EL.views_cons, Option.bind_some, Option.map_some, Option.map_none, List.map_map, List.map_cons, List.map_nil, List.append_nil, List.cons_append, List.nil_append, List.length_cons, List.length_nil, List.length_map, List.replicate_succ, List.replicate_zero, List.getElem?_cons_zero, List.getElem?_cons_succ, List.set_cons_zero, List.set_cons_succ, Nat.reduceSub, Nat.reduceAdd, Nat.sub_self, Nat.zero_add, Option.some.injEq, EL.LV.dat.injEq, EL.LV.loc.injEq, EL.LV.ob.injEq, EL.Cell.lst.injEq, EL.Cell.dk.injEq, EL.Cell.ins.injEq, DL.DV.dat.injEq, PyData.bool.injEq, PyData.int.injEq, PyData.str.injEq, PyData.tuple.injEq, PyData.list.injEq, DL.DV.ob.injEq, V.ty.injEq, DL.DV.own.injEq, DL.OC.lst.injEq, List.cons.injEq, exists_eq_left', exists_eq_left, exists_eq_right, exists_eq_right', exists_and_left, and_true, true_and, Bool.not_true, Bool.not_false, Bool.and_true, Bool.true_and, true_or, Bool.not_eq_true', Bool.false_eq_true, if_true, if_false, reduceIte, reduceCtorEq])
    exact ⟨rfl, c, rfl, hc c hx, hQ⟩
  · refine ⟨_, congrArg (Option.map _) (asData_fun (fun c => PyData.str (ofL (bits c))) cs), ?_⟩
    have e : (OC.lst (cs.map fun c => PyData.str (ofL (bits c)))).pd = .list ((cs.map bits).map fun l => .str (ofL l)) := by
      rw [List.map_map]
      rfl
    rw [e]
    refine joinP_ofL (by rw [sum_bits]; omega) ?_
    rw [← List.flatMap_def]
    exact h
theorem lsg_all : lsg.all (fun c => decide (c ∈ S)) = true ∧ S.all (fun c => decide (c ∈ lsg)) = true ∧ lsg.length ≤ 100 ∧ lsg ≠ [] := by decide +kernel
theorem ok__law_signs (p : Top P w K mg base Tl fn) : FnOk P w K mg base CX0 1 (He.fAd K ("_law_signs", none)) (fn "_law_signs") P__law_signs (spD (WP K Tl) F_ls) := by
  refine okLD p.D__law_signs.F sc__law_signs (fun ds Kk KE h => by obtain ⟨rfl, h⟩ := h; rfl) (fun W S0 cdv A outer s E hW hcd hr => ⟨_, (lss_one (ls_ret (le_op op_addD (fun _ => sn_add) (le_op op_addD (fun _ => sn_add) (le_op op_addD (fun _ => sn_add) (le_op op_addD (fun _ => sn_add) (le_op op_addD (fun _ => sn_add) (le_op op_addD (fun _ => sn_add) EL.le_str EL.le_str) EL.le_str) EL.le_str) EL.le_str) EL.le_str) EL.le_str))), fun ds Kk KE h => ?_⟩)
  obtain ⟨rfl, h⟩ := h
  (try simp only [DL.iteB_true, DL.iteB_false, EL.zSeq, EL.zNext, EL.zRet, EL.zRetF, EL.zRetN, EL.zIf, EL.zAsg, EL.zAsgF, EL.zAsgC, EL.zDrop, EL.zRel, EL.zFor, EL.zBreak, EL.zCont, EL.zAsgT, EL.zPar, EL.zPar3, EL.zAug, EL.zCut, EL.zRaise, EL.zWhile, EL.zTrim, EL.trimmed, EL.zDPut, EL.zFld, EL.zFldInc, EL.xVar, EL.xC, EL.xOb, EL.xGts, EL.x2, EL.x1, EL.xCall, EL.xB, EL.xTru, EL.xAnd, EL.xOr, EL.xNot, EL.xIf, EL.yAnd, EL.yOr, EL.yNot, EL.xNil, EL.xCons, EL.xTup, EL.xLst, EL.xDnew, EL.xNew, EL.xCell, EL.xIt, EL.xRng1, EL.xRng2, EL.xRng3, EL.xLc, EL.xDc, EL.xAG, EL.xFnD, EL.xFnDX, EL.xFnDK, EL.xSl, EL.xNone, EL.xPart, EL.xListOf, EL.xM0, EL.xM1, EL.yYes, EL.xIx, EL.xApp, EL.xExt, EL.xPop, EL.xRev, EL.xLen, EL.xDGet, EL.xDIn, EL.xGet1, EL.xGet2, EL.xOrT, EL.xAndT, EL.xNotT2, EL.xFld, EL.xMeth, EL.xMake, EL.xPairs, EL.xDisp, EL.xChain, EL.xFn, EL.xFnK, EL.glN, EL.glT_t, EL.glNil_n, EL.glCons_c, DL.op2, DL.op1, DL.opC, DL.c1, DL.isiP, DL.typeO, DL.tyIs, DL.inG, DL.isND, EL.wipeL, DL.le_s0, DL.le_s1, DL.le_s2, DL.le_s3, DL.le_s4, DL.le_s5, DL.le_s6, DL.le_s7, DL.le_s8, DL.le_s9, DL.le_s10, EL.start0L, EL.rtD_dat, EL.up_dat, EL.up_ob, EL.ofDV_dat, EL.dvL_dat, EL.dvL_deck, EL.dvL_ob, EL.frz_dat, EL.frz_loc, DL.lend, DL.noOwn, DL.DV.isOwn, DL.pd_dat, DL.pd_own, DL.ocpd_lst, DL.ocpd_dk, EL.itemsL, EL.itemsOfL, EL.seqL, EL.lenL, EL.ixL, EL.lookC, EL.truL, EL.truC, EL.dgetL, EL.dgetC, EL.dputC, EL.isDL, EL.isDC, EL.view_dat, EL.view_loc, EL.view_deck, EL.view_gts, EL.view_ob, EL.viewC_c, EL.oc_lst, EL.oc_dk, EL.oc_dt, EL.oc_ins, EL.asData_nil, EL.asData_cons, EL.asData_map, EL.asData_snoc, EL.views_nil, EL.views_cons, Option.bind_some, Option.map_some, Option.map_none, List.map_map, List.map_cons, List.map_nil, List.append_nil, List.cons_append, List.nil_append, List.length_cons, List.length_nil, List.length_map, List.replicate_succ, List.replicate_zero, List.getElem?_cons_zero, List.getElem?_cons_succ, List.set_cons_zero, List.set_cons_succ, Nat.reduceSub, Nat.reduceAdd, Nat.sub_self, Nat.zero_add, Option.some.injEq, EL.LV.dat.injEq, EL.LV.loc.injEq, EL.LV.ob.injEq, EL.Cell.lst.injEq, EL.Cell.dk.injEq, EL.Cell.ins.injEq, DL.DV.dat.injEq, PyData.bool.injEq, PyData.int.injEq, PyData.str.injEq, PyData.tuple.injEq, PyData.list.injEq, DL.DV.ob.injEq, V.ty.injEq, DL.DV.own.injEq, DL.OC.lst.injEq, List.cons.injEq, exists_eq_left', exists_eq_left, exists_eq_right, exists_eq_right', exists_and_left, and_true, true_and, Bool.not_true, Bool.not_false, Bool.and_true, Bool.true_and, true_or, Bool.not_eq_true', Bool.false_eq_true, if_true, if_false, reduceIte, reduceCtorEq])
  have := h lsg (fun c => ⟨fun x => of_decide_eq_true (List.all_eq_true.mp lsg_all.1 c x), fun x => of_decide_eq_true (List.all_eq_true.mp lsg_all.2.1 c x)⟩) lsg_all.2.2.1 lsg_all.2.2.2
  refine ⟨by decide +kernel, by decide +kernel, by decide +kernel, by decide +kernel, by decide +kernel, by decide +kernel, ?_⟩
  exact this
theorem dec_take {x : List Nat} {j c : Nat} (h : x[j]? = some c) : dec (x.take (j + 1)) = 2 * dec (x.take j) + (c - 48) := by
  unfold dec
  rw [List.take_succ, h]
  simp
theorem dec_lt' : ∀ (x : List Nat) (a : Nat), (∀ c ∈ x, c ∈ [48, 49]) → x.foldl (fun a c => 2 * a + (c - 48)) a < (a + 1) * 2 ^ x.length
  | [], a, _ => by simp
  | c :: x, a, h => by
    have h1 := dec_lt' x (2 * a + (c - 48)) fun d hd => h d (List.mem_cons_of_mem _ hd)
    have h2 := h c List.mem_cons_self
    simp only [List.mem_cons, List.not_mem_nil, or_false] at h2
    rw [List.foldl_cons, List.length_cons, Nat.pow_succ]
    have h3 : (2 * a + (c - 48) + 1) * 2 ^ x.length ≤ (2 * (a + 1)) * 2 ^ x.length := Nat.mul_le_mul_right _ (by omega)
    have h4 : (2 * (a + 1)) * 2 ^ x.length = (a + 1) * (2 ^ x.length * 2) := by
      rw [Nat.mul_comm 2 (a + 1), Nat.mul_assoc, Nat.mul_comm 2]
    omega
theorem dec_lt {x : List Nat} (h : ∀ c ∈ x, c ∈ [48, 49]) (hl : x.length ≤ 7) : dec x < 128 := by
  have := dec_lt' x 0 h
  have h2 : 2 ^ x.length ≤ 2 ^ 7 := Nat.pow_le_pow_right (by decide) hl
  unfold dec
  omega
theorem digit_int : ∀ c ∈ [48, 49], PySem.intText? ⟨#[c]⟩ = some ((c - 48 : Nat) : Int) := by decide +kernel
theorem ok__law_codes (p : Top P w K mg base Tl fn) : FnOk P w K mg base CX0 2 (He.fAd K ("_law_codes", none)) (fn "_law_codes") P__law_codes (spD (WP K Tl) F_codes) := by
  refine okLD p.D__law_codes.F sc__law_codes (fun ds Kk KE h => by obtain ⟨l, rfl, hw, hl, h⟩ := h; rfl) (fun W S0 cdv A outer s E hW hcd hr => ⟨_, (lss_cons (ls_if (lt_cmp (op_neX hr W.vol) (fun _ => sn_ne) (le_op op_mod (fun _ => sn_int) (le_cb (pe_callTy call_intD (by rfl) p.T.int (by decide +kernel) (la_cons (le_len (pe_callB call_len (by rfl) p.T.len (by decide +kernel) (pa_cons (lvar 0) pa_nil))) la_nil)) (fun _ => sn_intc)) EL.le_int) EL.le_int) (lss_one (ls_ret le_non)) lss_nil)
      (lss_cons (ls_set (i := 1) sc__law_codes.nd rfl (.inl rfl) (le_cell (lf_lst la_nil)))
      (lss_cons (ls_for PassesOwn.never rfl (li_range1 (by rfl) p.T.range (la_cons (le_op op_fdivW (fun _ => sn_int) (le_len (pe_callB call_len (by rfl) p.T.len (by decide +kernel) (pa_cons (lvar 0) pa_nil))) EL.le_int) la_nil)) (pg_name (i := 2) sc__law_codes.nd rfl (.inl rfl)) (sl_name (i := 2) trivial) (lss_cons (ls_set (i := 3) sc__law_codes.nd rfl (.inl rfl) EL.le_int)
          (lss_cons (ls_for PassesOwn.never rfl (li_seq (le_slice (lvar 0) (lo_some (le_op op_mulW (fun _ => sn_int) EL.le_int (lvar 2))) (lo_some (le_op op_addD (fun _ => sn_add) (le_op op_mulW (fun _ => sn_int) EL.le_int (lvar 2)) EL.le_int))) hW.k) (pg_name (i := 4) sc__law_codes.nd rfl (.inl rfl)) (sl_name (i := 4) trivial) (lss_one (ls_set (i := 3) sc__law_codes.nd rfl (.inl rfl) (le_op op_addD (fun _ => sn_add) (le_op op_mulW (fun _ => sn_int) EL.le_int (lvar 3)) (le_cb (pe_callTy call_intD (by rfl) p.T.int (by decide +kernel) (la_cons (lvar 4) la_nil)) (fun _ => sn_intc))))))
          (lss_one (ls_expr (le_append (pe_bm PySem.F.plainAttrs_list PySem.F.slot_list_append PySem.F.type_list_append mt_append (lvar 1) (pa_cons (lvar 3) pa_nil))))))))
      (lss_one (ls_retF (lvar 1)))))), fun ds Kk KE h => ?_⟩)
  obtain ⟨l, rfl, hw, hl, h⟩ := h
  (try simp only [DL.iteB_true, DL.iteB_false, EL.zSeq, EL.zNext, EL.zRet, EL.zRetF, EL.zRetN, EL.zIf, EL.zAsg, EL.zAsgF, EL.zAsgC, EL.zDrop, EL.zRel, EL.zFor, EL.zBreak, EL.zCont, EL.zAsgT, EL.zPar, EL.zPar3, EL.zAug, EL.zCut, EL.zRaise, EL.zWhile, EL.zTrim, EL.trimmed, EL.zDPut, EL.zFld, EL.zFldInc, EL.xVar, EL.xC, EL.xOb, EL.xGts, EL.x2, EL.x1, EL.xCall, EL.xB, EL.xTru, EL.xAnd, EL.xOr, EL.xNot, EL.xIf, EL.yAnd, EL.yOr, EL.yNot, EL.xNil, EL.xCons, EL.xTup, EL.xLst, EL.xDnew, EL.xNew, EL.xCell, EL.xIt, EL.xRng1, EL.xRng2, EL.xRng3, EL.xLc, EL.xDc, EL.xAG, EL.xFnD, EL.xFnDX, EL.xFnDK, EL.xSl, EL.xNone, EL.xPart, EL.xListOf, EL.xM0, EL.xM1, EL.yYes, EL.xIx, EL.xApp, EL.xExt, EL.xPop, EL.xRev, EL.xLen, EL.xDGet, EL.xDIn, EL.xGet1, EL.xGet2, EL.xOrT, EL.xAndT, EL.xNotT2, EL.xFld, EL.xMeth, EL.xMake, EL.xPairs, EL.xDisp, EL.xChain, EL.xFn, EL.xFnK, EL.glN, EL.glT_t, EL.glNil_n, EL.glCons_c, DL.op2, DL.op1, DL.opC, DL.c1, DL.isiP, DL.typeO, DL.tyIs, DL.inG, DL.isND, EL.wipeL, DL.le_s0, DL.le_s1, DL.le_s2, DL.le_s3, DL.le_s4, DL.le_s5, DL.le_s6, DL.le_s7, DL.le_s8, DL.le_s9, DL.le_s10, EL.start0L, EL.rtD_dat, EL.up_dat, EL.up_ob, EL.ofDV_dat, EL.dvL_dat, EL.dvL_deck, EL.dvL_ob, EL.frz_dat, EL.frz_loc, DL.lend, DL.noOwn, DL.DV.isOwn, DL.pd_dat, DL.pd_own, DL.ocpd_lst, DL.ocpd_dk, EL.itemsL, EL.itemsOfL, EL.seqL, EL.lenL, EL.ixL, EL.lookC, EL.truL, EL.truC, EL.dgetL, EL.dgetC, EL.dputC, EL.isDL, EL.isDC, EL.view_dat, EL.view_loc, EL.view_deck, EL.view_gts, EL.view_ob, EL.viewC_c, EL.oc_lst, EL.oc_dk, EL.oc_dt, EL.oc_ins, EL.asData_nil, EL.asData_cons, EL.asData_map, EL.asData_snoc, EL.views_nil, EL.views_cons, Option.bind_some, Option.map_some, Option.map_none, List.map_map, List.map_cons, List.map_nil, List.append_nil, List.cons_append, List.nil_append, List.length_cons, List.length_nil, List.length_map, List.replicate_succ, List.replicate_zero, List.getElem?_cons_zero, List.getElem?_cons_succ, List.set_cons_zero, List.set_cons_succ, Nat.reduceSub, Nat.reduceAdd, Nat.sub_self, Nat.zero_add, Option.some.injEq, EL.LV.dat.injEq, EL.LV.loc.injEq, EL.LV.ob.injEq, EL.Cell.lst.injEq, EL.Cell.dk.injEq, EL.Cell.ins.injEq, DL.DV.dat.injEq, PyData.bool.injEq, PyData.int.injEq, PyData.str.injEq, PyData.tuple.injEq, PyData.list.injEq, DL.DV.ob.injEq, V.ty.injEq, DL.DV.own.injEq, DL.OC.lst.injEq, List.cons.injEq, exists_eq_left', exists_eq_left, exists_eq_right, exists_eq_right', exists_and_left, and_true, true_and, Bool.not_true, Bool.not_false, Bool.and_true, Bool.true_and, true_or, Bool.not_eq_true', Bool.false_eq_true, if_true, if_false, reduceIte, reduceCtorEq])
  have hsz : (ofL l).length ≤ sizeLine := by rw [ofL_len, sizeLine_eq]; omega
  refine ⟨hsz, ?_⟩
  rw [ofL_len]
  rw [intcP_i, intP_ii]
  refine ⟨by decide, eqOk_int _ _, _, rfl, ?_⟩
  rw [if_pos rfl, eqv_ii]
  unfold codes at h
  by_cases h7 : l.length % 7 = 0
  · rw [if_pos h7] at h
    rw [show ((l.length : Int) % 7 == 0) = true from beq_iff_eq.mpr (by omega), Bool.not_true, iteB_false]
    refine ⟨hsz, cdivW (by decide) (by decide), _, rfl, by omega, by omega, ?_⟩
    rw [show ((l.length : Int) / 7).toNat = l.length / 7 by omega]
    have hlen : (pieces l).length = l.length / 7 := by
      unfold pieces
      rw [List.length_map, List.length_range]
      omega
    refine forD_inv (fun i ρ η => ∃ x2 x3 x4, ρ = [some (.dat (.str (ofL l))), some (.loc 0), x2, x3, x4] ∧ η = [some (.lst (((pieces l).take i).map fun x => .dat (.int (dec x : Nat))))]) ?_ ⟨none, none, none, rfl, rfl⟩ ?_
    · rintro i d ρ η N hi ⟨x2, x3, x4, rfl, rfl⟩ hN
      obtain ⟨hi, rfl⟩ := rngD_at hi
      have hp : (pieces l)[i]? = some ((l.drop (7 * i)).take 7) := by
        unfold pieces
        rw [List.getElem?_map, List.getElem?_range (by omega)]
        rfl
      have hm : (l.drop (7 * i)).take 7 ∈ pieces l := List.mem_of_getElem? hp
      have ht : (pieces l).take (i + 1) = (pieces l).take i ++ [(l.drop (7 * i)).take 7] := by
        rw [List.take_succ, hp]
        rfl
      have hx := pieces_mem hm
      generalize hg : (l.drop (7 * i)).take 7 = x at hp hm ht hx
      have hxl : x.length ≤ 7 := by rw [← hg, List.length_take]; omega
      (try simp only [DL.iteB_true, DL.iteB_false, EL.zSeq, EL.zNext, EL.zRet, EL.zRetF, EL.zRetN, EL.zIf, EL.zAsg, EL.zAsgF, EL.zAsgC, EL.zDrop, EL.zRel, EL.zFor, EL.zBreak, EL.zCont, EL.zAsgT, EL.zPar, EL.zPar3, EL.zAug, EL.zCut, EL.zRaise, EL.zWhile, EL.zTrim, EL.trimmed, EL.zDPut, EL.zFld, EL.zFldInc, EL.xVar, EL.xC, EL.xOb, EL.xGts, EL.x2, EL.x1, EL.xCall, EL.xB, EL.xTru, EL.xAnd, EL.xOr, EL.xNot, EL.xIf, EL.yAnd, EL.yOr, EL.yNot, EL.xNil, EL.xCons, EL.xTup, EL.xLst, EL.xDnew, EL.xNew, EL.xCell, EL.xIt, EL.xRng1, EL.xRng2, EL.xRng3, EL.xLc, EL.xDc, EL.xAG, EL.xFnD, EL.xFnDX, EL.xFnDK, EL.xSl, EL.xNone, EL.xPart, EL.xListOf, EL.xM0, EL.xM1, EL.yYes, EL.xIx, EL.xApp, EL.xExt, EL.xPop, EL.xRev, EL.xLen, EL.xDGet, EL.xDIn, EL.xGet1, EL.xGet2, EL.xOrT, EL.xAndT, EL.xNotT2, EL.xFld, EL.xMeth, EL.xMake, EL.xPairs, EL.xDisp, EL.xChain, EL.xFn, EL.xFnK, EL.glN, EL.glT_t, EL.glNil_n, EL.glCons_c, DL.op2, DL.op1, DL.opC, DL.c1, DL.isiP, DL.typeO, DL.tyIs, DL.inG, DL.isND, EL.wipeL, DL.le_s0, DL.le_s1, DL.le_s2, DL.le_s3, DL.le_s4, DL.le_s5, DL.le_s6, DL.le_s7, DL.le_s8, DL.le_s9, DL.le_s10, EL.start0L, EL.rtD_dat, EL.up_dat, EL.up_ob, EL.ofDV_dat, EL.dvL_dat, EL.dvL_deck, EL.dvL_ob, EL.frz_dat, EL.frz_loc, DL.lend, DL.noOwn, DL.DV.isOwn, DL.pd_dat, DL.pd_own, DL.ocpd_lst, DL.ocpd_dk, EL.itemsL, EL.itemsOfL, EL.seqL, EL.lenL, EL.ixL, EL.lookC, EL.truL, EL.truC, EL.dgetL, EL.dgetC, EL.dputC, EL.isDL, EL.isDC, EL.view_dat, EL.view_loc, EL.view_deck, EL.view_gts, EL.view_ob, EL.viewC_c, EL.oc_lst, EL.oc_dk, EL.oc_dt, EL.oc_ins, EL.asData_nil, EL.asData_cons, EL.asData_map, EL.asData_snoc, EL.views_nil, EL.views_cons, Option.bind_some, Option.map_some, Option.map_none, List.map_map, List.map_cons, List.map_nil, List.append_nil, List.cons_append, List.nil_append, List.length_cons, List.length_nil, List.length_map, List.replicate_succ, List.replicate_zero, List.getElem?_cons_zero, List.getElem?_cons_succ, List.set_cons_zero, List.set_cons_succ, Nat.reduceSub, Nat.reduceAdd, Nat.sub_self, Nat.zero_add, Option.some.injEq, EL.LV.dat.injEq, EL.LV.loc.injEq, EL.LV.ob.injEq, EL.Cell.lst.injEq, EL.Cell.dk.injEq, EL.Cell.ins.injEq, DL.DV.dat.injEq, PyData.bool.injEq, PyData.int.injEq, PyData.str.injEq, PyData.tuple.injEq, PyData.list.injEq, DL.DV.ob.injEq, V.ty.injEq, DL.DV.own.injEq, DL.OC.lst.injEq, List.cons.injEq, exists_eq_left', exists_eq_left, exists_eq_right, exists_eq_right', exists_and_left, and_true, true_and, Bool.not_true, Bool.not_false, Bool.and_true, Bool.true_and, true_or, Bool.not_eq_true', Bool.false_eq_true, if_true, if_false, reduceIte, reduceCtorEq])
      refine ⟨cmulW (by decide) (by omega), ((7 * i : Nat) : Int), rfl, cmulW (by decide) (by omega), ((7 * i + 7 : Nat) : Int), rfl, hsz, ?_⟩
      rw [cut_nn, show 7 * i + 7 - 7 * i = 7 by omega, hg]
      (try simp only [DL.iteB_true, DL.iteB_false, EL.zSeq, EL.zNext, EL.zRet, EL.zRetF, EL.zRetN, EL.zIf, EL.zAsg, EL.zAsgF, EL.zAsgC, EL.zDrop, EL.zRel, EL.zFor, EL.zBreak, EL.zCont, EL.zAsgT, EL.zPar, EL.zPar3, EL.zAug, EL.zCut, EL.zRaise, EL.zWhile, EL.zTrim, EL.trimmed, EL.zDPut, EL.zFld, EL.zFldInc, EL.xVar, EL.xC, EL.xOb, EL.xGts, EL.x2, EL.x1, EL.xCall, EL.xB, EL.xTru, EL.xAnd, EL.xOr, EL.xNot, EL.xIf, EL.yAnd, EL.yOr, EL.yNot, EL.xNil, EL.xCons, EL.xTup, EL.xLst, EL.xDnew, EL.xNew, EL.xCell, EL.xIt, EL.xRng1, EL.xRng2, EL.xRng3, EL.xLc, EL.xDc, EL.xAG, EL.xFnD, EL.xFnDX, EL.xFnDK, EL.xSl, EL.xNone, EL.xPart, EL.xListOf, EL.xM0, EL.xM1, EL.yYes, EL.xIx, EL.xApp, EL.xExt, EL.xPop, EL.xRev, EL.xLen, EL.xDGet, EL.xDIn, EL.xGet1, EL.xGet2, EL.xOrT, EL.xAndT, EL.xNotT2, EL.xFld, EL.xMeth, EL.xMake, EL.xPairs, EL.xDisp, EL.xChain, EL.xFn, EL.xFnK, EL.glN, EL.glT_t, EL.glNil_n, EL.glCons_c, DL.op2, DL.op1, DL.opC, DL.c1, DL.isiP, DL.typeO, DL.tyIs, DL.inG, DL.isND, EL.wipeL, DL.le_s0, DL.le_s1, DL.le_s2, DL.le_s3, DL.le_s4, DL.le_s5, DL.le_s6, DL.le_s7, DL.le_s8, DL.le_s9, DL.le_s10, EL.start0L, EL.rtD_dat, EL.up_dat, EL.up_ob, EL.ofDV_dat, EL.dvL_dat, EL.dvL_deck, EL.dvL_ob, EL.frz_dat, EL.frz_loc, DL.lend, DL.noOwn, DL.DV.isOwn, DL.pd_dat, DL.pd_own, DL.ocpd_lst, DL.ocpd_dk, EL.itemsL, EL.itemsOfL, EL.seqL, EL.lenL, EL.ixL, EL.lookC, EL.truL, EL.truC, EL.dgetL, EL.dgetC, EL.dputC, EL.isDL, EL.isDC, EL.view_dat, EL.view_loc, EL.view_deck, EL.view_gts, EL.view_ob, EL.viewC_c, EL.oc_lst, EL.oc_dk, EL.oc_dt, EL.oc_ins, EL.asData_nil, EL.asData_cons, EL.asData_map, EL.asData_snoc, EL.views_nil, EL.views_cons, Option.bind_some, Option.map_some, Option.map_none, List.map_map, List.map_cons, List.map_nil, List.append_nil, List.cons_append, List.nil_append, List.length_cons, List.length_nil, List.length_map, List.replicate_succ, List.replicate_zero, List.getElem?_cons_zero, List.getElem?_cons_succ, List.set_cons_zero, List.set_cons_succ, Nat.reduceSub, Nat.reduceAdd, Nat.sub_self, Nat.zero_add, Option.some.injEq, EL.LV.dat.injEq, EL.LV.loc.injEq, EL.LV.ob.injEq, EL.Cell.lst.injEq, EL.Cell.dk.injEq, EL.Cell.ins.injEq, DL.DV.dat.injEq, PyData.bool.injEq, PyData.int.injEq, PyData.str.injEq, PyData.tuple.injEq, PyData.list.injEq, DL.DV.ob.injEq, V.ty.injEq, DL.DV.own.injEq, DL.OC.lst.injEq, List.cons.injEq, exists_eq_left', exists_eq_left, exists_eq_right, exists_eq_right', exists_and_left, and_true, true_and, Bool.not_true, Bool.not_false, Bool.and_true, Bool.true_and, true_or, Bool.not_eq_true', Bool.false_eq_true, if_true, if_false, reduceIte, reduceCtorEq])
      rw [signs_ofL]
      refine forD_inv (fun j ρ η => ∃ x5, ρ = [some (.dat (.str (ofL l))), some (.loc 0), some (.dat (.int (i : Int))), some (.dat (.int (dec (x.take j) : Nat))), x5] ∧ η = [some (.lst (((pieces l).take i).map fun x => .dat (.int (dec x : Nat))))]) ?_ ⟨_, rfl, rfl⟩ ?_
      · rintro j d ρ η N2 hj ⟨x5, rfl, rfl⟩ hN2
        rw [List.getElem?_map] at hj
        cases hc : x[j]? with
        | none => rw [hc] at hj; cases hj
        | some c =>
          rw [hc] at hj
          cases hj
          have h49 := isW_mem hw c (hx c (List.mem_of_getElem? hc))
          have hd : dec (x.take j) < 128 := dec_lt (fun c hc => isW_mem hw c (hx c (List.mem_of_mem_take hc))) (by rw [List.length_take]; omega)
          have hd2 := dec_take hc
          (try simp only [DL.iteB_true, DL.iteB_false, EL.zSeq, EL.zNext, EL.zRet, EL.zRetF, EL.zRetN, EL.zIf, EL.zAsg, EL.zAsgF, EL.zAsgC, EL.zDrop, EL.zRel, EL.zFor, EL.zBreak, EL.zCont, EL.zAsgT, EL.zPar, EL.zPar3, EL.zAug, EL.zCut, EL.zRaise, EL.zWhile, EL.zTrim, EL.trimmed, EL.zDPut, EL.zFld, EL.zFldInc, EL.xVar, EL.xC, EL.xOb, EL.xGts, EL.x2, EL.x1, EL.xCall, EL.xB, EL.xTru, EL.xAnd, EL.xOr, EL.xNot, EL.xIf, EL.yAnd, EL.yOr, EL.yNot, EL.xNil, EL.xCons, EL.xTup, EL.xLst, EL.xDnew, EL.xNew, EL.xCell, EL.xIt, EL.xRng1, EL.xRng2, EL.xRng3, EL.xLc, EL.xDc, EL.xAG, EL.xFnD, EL.xFnDX, EL.xFnDK, EL.xSl, EL.xNone, EL.xPart, EL.xListOf, EL.xM0, EL.xM1, EL.yYes, EL.xIx, EL.xApp, EL.xExt, EL.xPop, EL.xRev, EL.xLen, EL.xDGet, EL.xDIn, EL.xGet1, EL.xGet2, EL.xOrT, EL.xAndT, EL.xNotT2, EL.xFld, EL.xMeth, EL.xMake, EL.xPairs, EL.xDisp, EL.xChain, EL.xFn, EL.xFnK, EL.glN, EL.glT_t, EL.glNil_n, EL.glCons_c, DL.op2, DL.op1, DL.opC, DL.c1, DL.isiP, DL.typeO, DL.tyIs, DL.inG, DL.isND, EL.wipeL, DL.le_s0, DL.le_s1, DL.le_s2, DL.le_s3, DL.le_s4, DL.le_s5, DL.le_s6, DL.le_s7, DL.le_s8, DL.le_s9, DL.le_s10, EL.start0L, EL.rtD_dat, EL.up_dat, EL.up_ob, EL.ofDV_dat, EL.dvL_dat, EL.dvL_deck, EL.dvL_ob, EL.frz_dat, EL.frz_loc, DL.lend, DL.noOwn, DL.DV.isOwn, DL.pd_dat, DL.pd_own, DL.ocpd_lst, DL.ocpd_dk, EL.itemsL, EL.itemsOfL, EL.seqL, EL.lenL, EL.ixL, EL.lookC, EL.truL, EL.truC, EL.dgetL, EL.dgetC, EL.dputC, EL.isDL, EL.isDC, EL.view_dat, EL.view_loc, EL.view_deck, EL.view_gts, EL.view_ob, EL.viewC_c, EL.oc_lst, EL.oc_dk, EL.oc_dt, EL.oc_ins, EL.asData_nil, EL.asData_cons, EL.asData_map, EL.asData_snoc, EL.views_nil, EL.views_cons, Option.bind_some, Option.map_some, Option.map_none, List.map_map, List.map_cons, List.map_nil, List.append_nil, List.cons_append, List.nil_append, List.length_cons, List.length_nil, List.length_map, List.replicate_succ, List.replicate_zero, List.getElem?_cons_zero, List.getElem?_cons_succ, List.set_cons_zero, List.set_cons_succ, Nat.reduceSub, Nat.reduceAdd, Nat.sub_self, Nat.zero_add, Option.some.injEq, EL.LV.dat.injEq, EL.LV.loc.injEq, EL.LV.ob.injEq, EL.Cell.lst.injEq, EL.Cell.dk.injEq, EL.Cell.ins.injEq, DL.DV.dat.injEq, PyData.bool.injEq, PyData.int.injEq, PyData.str.injEq, PyData.tuple.injEq, PyData.list.injEq, DL.DV.ob.injEq, V.ty.injEq, DL.DV.own.injEq, DL.OC.lst.injEq, List.cons.injEq, exists_eq_left', exists_eq_left, exists_eq_right, exists_eq_right', exists_and_left, and_true, true_and, Bool.not_true, Bool.not_false, Bool.and_true, Bool.true_and, true_or, Bool.not_eq_true', Bool.false_eq_true, if_true, if_false, reduceIte, reduceCtorEq])
          rw [intP_ii]
          refine ⟨cmulW (by decide) (by omega), ?_⟩
          rw [intcP_s]
          refine ⟨by show (1 : Nat) ≤ 640; decide, _, digit_int c h49, ?_⟩
          rw [addP_ii]
          refine hN2 _ _ ⟨some (.dat (.str ⟨#[c]⟩)), ?_, rfl⟩
          rw [show (2 : Int) * ((dec (x.take j) : Nat) : Int) + ((c - 48 : Nat) : Int) = ((dec (x.take (j + 1)) : Nat) : Int) by rw [hd2]; omega]
      · rintro ρ η ⟨x5, rfl, rfl⟩
        (try simp only [DL.iteB_true, DL.iteB_false, EL.zSeq, EL.zNext, EL.zRet, EL.zRetF, EL.zRetN, EL.zIf, EL.zAsg, EL.zAsgF, EL.zAsgC, EL.zDrop, EL.zRel, EL.zFor, EL.zBreak, EL.zCont, EL.zAsgT, EL.zPar, EL.zPar3, EL.zAug, EL.zCut, EL.zRaise, EL.zWhile, EL.zTrim, EL.trimmed, EL.zDPut, EL.zFld, EL.zFldInc, EL.xVar, EL.xC, EL.xOb, EL.xGts, EL.x2, EL.x1, EL.xCall, EL.xB, EL.xTru, EL.xAnd, EL.xOr, EL.xNot, EL.xIf, EL.yAnd, EL.yOr, EL.yNot, EL.xNil, EL.xCons, EL.xTup, EL.xLst, EL.xDnew, EL.xNew, EL.xCell, EL.xIt, EL.xRng1, EL.xRng2, EL.xRng3, EL.xLc, EL.xDc, EL.xAG, EL.xFnD, EL.xFnDX, EL.xFnDK, EL.xSl, EL.xNone, EL.xPart, EL.xListOf, EL.xM0, EL.xM1, EL.yYes, EL.xIx, EL.xApp, EL.xExt, EL.xPop, EL.xRev, EL.xLen, EL.xDGet, EL.xDIn, EL.xGet1, EL.xGet2, EL.xOrT, EL.xAndT, EL.xNotT2, EL.xFld, EL.xMeth, EL.xMake, EL.xPairs, EL.xDisp, EL.xChain, EL.xFn, EL.xFnK, EL.glN, EL.glT_t, EL.glNil_n, EL.glCons_c, DL.op2, DL.op1, DL.opC, DL.c1, DL.isiP, DL.typeO, DL.tyIs, DL.inG, DL.isND, EL.wipeL, DL.le_s0, DL.le_s1, DL.le_s2, DL.le_s3, DL.le_s4, DL.le_s5, DL.le_s6, DL.le_s7, DL.le_s8, DL.le_s9, DL.le_s10, EL.start0L, EL.rtD_dat, EL.up_dat, EL.up_ob, EL.ofDV_dat, EL.dvL_dat, EL.dvL_deck, EL.dvL_ob, EL.frz_dat, EL.frz_loc, DL.lend, DL.noOwn, DL.DV.isOwn, DL.pd_dat, DL.pd_own, DL.ocpd_lst, DL.ocpd_dk, EL.itemsL, EL.itemsOfL, EL.seqL, EL.lenL, EL.ixL, EL.lookC, EL.truL, EL.truC, EL.dgetL, EL.dgetC, EL.dputC, EL.isDL, EL.isDC, EL.view_dat, EL.view_loc, EL.view_deck, EL.view_gts, EL.view_ob, EL.viewC_c, EL.oc_lst, EL.oc_dk, EL.oc_dt, EL.oc_ins, EL.asData_nil, EL.asData_cons, EL.asData_map, EL.asData_snoc, EL.views_nil, EL.views_cons, Option.bind_some, Option.map_some, Option.map_none, List.map_map, List.map_cons, List.map_nil, List.append_nil, List.cons_append, List.nil_append, List.length_cons, List.length_nil, List.length_map, List.replicate_succ, List.replicate_zero, List.getElem?_cons_zero, List.getElem?_cons_succ, List.set_cons_zero, List.set_cons_succ, Nat.reduceSub, Nat.reduceAdd, Nat.sub_self, Nat.zero_add, Option.some.injEq, EL.LV.dat.injEq, EL.LV.loc.injEq, EL.LV.ob.injEq, EL.Cell.lst.injEq, EL.Cell.dk.injEq, EL.Cell.ins.injEq, DL.DV.dat.injEq, PyData.bool.injEq, PyData.int.injEq, PyData.str.injEq, PyData.tuple.injEq, PyData.list.injEq, DL.DV.ob.injEq, V.ty.injEq, DL.DV.own.injEq, DL.OC.lst.injEq, List.cons.injEq, exists_eq_left', exists_eq_left, exists_eq_right, exists_eq_right', exists_and_left, and_true, true_and, Bool.not_true, Bool.not_false, Bool.and_true, Bool.true_and, true_or, Bool.not_eq_true', Bool.false_eq_true, if_true, if_false, reduceIte, reduceCtorEq])
        refine ⟨by rw [List.length_take, hlen, sizeLine_eq]; omega, hN _ _ ⟨_, _, _, rfl, ?_⟩⟩
        rw [ht, List.map_append, List.take_of_length_le (Nat.le_refl _)]
        rfl
    · rintro ρ η ⟨x2, x3, x4, rfl, rfl⟩
      have e : (rngD 0 (l.length / 7)).length = l.length / 7 := by rw [rngD_0, List.length_map, List.length_range]
      rw [e, List.take_of_length_le (by omega)]
      (try simp only [DL.iteB_true, DL.iteB_false, EL.zSeq, EL.zNext, EL.zRet, EL.zRetF, EL.zRetN, EL.zIf, EL.zAsg, EL.zAsgF, EL.zAsgC, EL.zDrop, EL.zRel, EL.zFor, EL.zBreak, EL.zCont, EL.zAsgT, EL.zPar, EL.zPar3, EL.zAug, EL.zCut, EL.zRaise, EL.zWhile, EL.zTrim, EL.trimmed, EL.zDPut, EL.zFld, EL.zFldInc, EL.xVar, EL.xC, EL.xOb, EL.xGts, EL.x2, EL.x1, EL.xCall, EL.xB, EL.xTru, EL.xAnd, EL.xOr, EL.xNot, EL.xIf, EL.yAnd, EL.yOr, EL.yNot, EL.xNil, EL.xCons, EL.xTup, EL.xLst, EL.xDnew, EL.xNew, EL.xCell, EL.xIt, EL.xRng1, EL.xRng2, EL.xRng3, EL.xLc, EL.xDc, EL.xAG, EL.xFnD, EL.xFnDX, EL.xFnDK, EL.xSl, EL.xNone, EL.xPart, EL.xListOf, EL.xM0, EL.xM1, EL.yYes, EL.xIx, EL.xApp, EL.xExt, EL.xPop, EL.xRev, EL.xLen, EL.xDGet, EL.xDIn, EL.xGet1, EL.xGet2, EL.xOrT, EL.xAndT, EL.xNotT2, EL.xFld, EL.xMeth, EL.xMake, EL.xPairs, EL.xDisp, EL.xChain, EL.xFn, EL.xFnK, EL.glN, EL.glT_t, EL.glNil_n, EL.glCons_c, DL.op2, DL.op1, DL.opC, DL.c1, DL.isiP, DL.typeO, DL.tyIs, DL.inG, DL.isND, EL.wipeL, DL.le_s0, DL.le_s1, DL.le_s2, DL.le_s3, DL.le_s4, DL.le_s5, DL.le_s6, DL.le_s7, DL.le_s8, DL.le_s9, DL.le_s10, EL.start0L, EL.rtD_dat, EL.up_dat, EL.up_ob, EL.ofDV_dat, EL.dvL_dat, EL.dvL_deck, EL.dvL_ob, EL.frz_dat, EL.frz_loc, DL.lend, DL.noOwn, DL.DV.isOwn, DL.pd_dat, DL.pd_own, DL.ocpd_lst, DL.ocpd_dk, EL.itemsL, EL.itemsOfL, EL.seqL, EL.lenL, EL.ixL, EL.lookC, EL.truL, EL.truC, EL.dgetL, EL.dgetC, EL.dputC, EL.isDL, EL.isDC, EL.view_dat, EL.view_loc, EL.view_deck, EL.view_gts, EL.view_ob, EL.viewC_c, EL.oc_lst, EL.oc_dk, EL.oc_dt, EL.oc_ins, EL.asData_nil, EL.asData_cons, EL.asData_map, EL.asData_snoc, EL.views_nil, EL.views_cons, Option.bind_some, Option.map_some, Option.map_none, List.map_map, List.map_cons, List.map_nil, List.append_nil, List.cons_append, List.nil_append, List.length_cons, List.length_nil, List.length_map, List.replicate_succ, List.replicate_zero, List.getElem?_cons_zero, List.getElem?_cons_succ, List.set_cons_zero, List.set_cons_succ, Nat.reduceSub, Nat.reduceAdd, Nat.sub_self, Nat.zero_add, Option.some.injEq, EL.LV.dat.injEq, EL.LV.loc.injEq, EL.LV.ob.injEq, EL.Cell.lst.injEq, EL.Cell.dk.injEq, EL.Cell.ins.injEq, DL.DV.dat.injEq, PyData.bool.injEq, PyData.int.injEq, PyData.str.injEq, PyData.tuple.injEq, PyData.list.injEq, DL.DV.ob.injEq, V.ty.injEq, DL.DV.own.injEq, DL.OC.lst.injEq, List.cons.injEq, exists_eq_left', exists_eq_left, exists_eq_right, exists_eq_right', exists_and_left, and_true, true_and, Bool.not_true, Bool.not_false, Bool.and_true, Bool.true_and, true_or, Bool.not_eq_true', Bool.false_eq_true, if_true, if_false, reduceIte, reduceCtorEq])
      rw [asData_fun]
      exact ⟨_, rfl, fun _ => h⟩
  · rw [if_neg h7] at h
    rw [show ((l.length : Int) % 7 == 0) = false from beq_eq_false_iff_ne.mpr (by omega), Bool.not_false, iteB_true]
    exact h
theorem hQ_to {Q : LEnv → Bool → LH → Prop} {b c : Bool} {ρ : LEnv} {η : LH} (e : b = c) (h : Q ρ b η) : Q ρ c η := e ▸ h
theorem say_word {l : List Nat} (hw : isW (ofL l) = true) (hl : l.length ≤ 2000) : Say (.str (ofL l)) := say_str (fun c hc => by
  have := isW_mem hw c hc
  simp only [List.mem_cons, List.not_mem_nil, or_false] at this
  omega) (by rw [ofL_len]; omega)
def F_told : FnD := fun ds K _ => ∃ l : List Nat, ds = [.dat (.str (ofL l))] ∧ isW (ofL l) = true ∧ l.length ≤ 2000 ∧ K (.bool true)
theorem ok__law_is_told (p : Top P w K mg base Tl fn) : FnG P w K mg base 8 (He.fAd K ("_law_is_told", none)) (fn "_law_is_told") P__law_is_told (spD (WP K Tl) F_told) := by
  refine okLG p.D__law_is_told.F sc__law_is_told (fun ds Kk KE h => by obtain ⟨l, rfl, hw, hl, h⟩ := h; rfl) (fun W S0 cdv A outer s E hW hcd hA hr => ⟨_, (lss_cons (ls_asg (le_tup (la_cons (le_callD (pe_call (ok__law_codes p) (hr.mono (by first | decide | omega)) (by rfl) p.D__law_codes.g p.D__law_codes.F.kp p.D__law_codes.b .nil pass0 (la_cons (lvar 0) la_nil)) hW) (la_cons (le_new (lf_lc (own := [("_law_sign", 3)]) (g := gName 3) rfl sc__law_is_told.nd (li_seq (le_callD0 (pe_call0 (ok__law_signs p) (hr.mono (by first | decide | omega)) (by rfl) p.D__law_signs.g p.D__law_signs.F.kp p.D__law_signs.b .nil pass0) hW) hW.k) (blkOk_by (own := [("_law_sign", 3)]) (N := N__law_is_told) (sc := defScope s__law_is_told) (by decide +kernel)) (fun _ _ _ _ _ => (pg_name (i := 3) sc__law_is_told.nd rfl (.inl rfl))) (sl_name (i := 3) (by simp)) (fun _ _ _ _ _ => lts_nil) (fun _ _ _ _ _ => (le_cb (pe_callB call_ord (by rfl) p.T.ord (by decide +kernel) (la_cons (lvar 3) la_nil)) (fun _ => sn_ord))))) la_nil))) (pg_tup rfl (pgs_cons (pg_name (i := 1) sc__law_is_told.nd rfl (.inl rfl)) (pgs_cons (pg_name (i := 2) sc__law_is_told.nd rfl (.inr rfl)) pgs_nil))) (sl_tup (n := 2) (sls_cons (sl_name (i := 1) trivial) (sls_cons (sl_name (i := 2) trivial) sls_nil))))
      (lss_cons (ls_set (i := 4) sc__law_is_told.nd rfl (.inl rfl) (EL.le_if (lt_cmp op_notN (fun _ => sn_notN) (lvar 1) le_non) (le_new (lf_lc (own := [("_law_code", 5)]) (g := gName 5) rfl sc__law_is_told.nd (li_seq (lvar 1) hW.k) (blkOk_by (own := [("_law_code", 5)]) (N := N__law_is_told) (sc := defScope s__law_is_told) (by decide +kernel)) (fun _ _ _ _ _ => (pg_name (i := 5) sc__law_is_told.nd rfl (.inl rfl))) (sl_name (i := 5) (by simp)) (fun _ _ _ _ _ => (pts_one (lt_cmp op_notIn_seq (fun _ => sn_notIn) (lvar 5) (lvar 2) (by rfl)))) (fun _ _ _ _ _ => (lvar 5)))) (le_new (lf_lst la_nil))))
      (lss_cons (ls_if (lt_cmp (op_neX hr W.vol) (fun _ => sn_ne) (le_new (lf_lc (own := [("_law_code", 5)]) (g := gName 5) rfl sc__law_is_told.nd (li_seq (lvar 4) hW.k) (blkOk_by (own := [("_law_code", 5)]) (N := N__law_is_told) (sc := defScope s__law_is_told) (by decide +kernel)) (fun _ _ _ _ _ => (pg_name (i := 5) sc__law_is_told.nd rfl (.inl rfl))) (sl_name (i := 5) (by simp)) (fun _ _ _ _ _ => (pts_one (lt_chain op_le op_le (fun _ => sn_cmp) (fun _ => sn_cmp) EL.le_int (lvar 5) EL.le_int))) (fun _ _ _ _ _ => (lvar 5)))) (le_new (lf_lst la_nil))) (lss_one (ls_ret le_bl)) lss_nil)
      (lss_cons (ls_set (i := 6) sc__law_is_told.nd rfl (.inl rfl) (le_callD (pe_call (ok_text_of_word p) (hr.mono (by first | decide | omega)) (by rfl) p.D_text_of_word.g p.D_text_of_word.F.kp p.D_text_of_word.b .nil passX0 (la_cons (lvar 0) la_nil)) hW))
      (lss_cons (ls_if (PW.pt (lw_or (lt_cmp op_isN (fun _ => sn_isN) (lvar 1) le_non) (lw_or1 (lt_cmp (op_neX hr W.vol) (fun _ => sn_ne) (lvar 4) (le_new (lf_lst la_nil)))))) (lss_one (ls_ret (le_cmp op_isN (fun _ => sn_isN) (lvar 6) le_non))) lss_nil)
      (lss_cons (ls_if (PW.pt (lw_or (lt_not (lt_val (le_cb (pe_callB call_isi (by rfl) p.T.isinstance (by decide +kernel) (la_cons (lvar 6) (la_cons (le_ob (pe_bltn (v := .ty "str") (by rfl) p.T.str (by decide +kernel) rfl)) la_nil))) (fun _ => sn_isi kb_str)))) (lw_or1 (lt_cmp (op_neX hr W.vol) (fun _ => sn_ne) (le_new (lf_lc (own := [("_law_sign", 3)]) (g := gName 3) rfl sc__law_is_told.nd (li_seq (lvar 6) hW.k) (blkOk_by (own := [("_law_sign", 3)]) (N := N__law_is_told) (sc := defScope s__law_is_told) (by decide +kernel)) (fun _ _ _ _ _ => (pg_name (i := 3) sc__law_is_told.nd rfl (.inl rfl))) (sl_name (i := 3) (by simp)) (fun _ _ _ _ _ => lts_nil) (fun _ _ _ _ _ => (le_cb (pe_callB call_ord (by rfl) p.T.ord (by decide +kernel) (la_cons (lvar 3) la_nil)) (fun _ => sn_ord))))) (lvar 1))))) (lss_one (ls_ret le_bl)) lss_nil)
      (lss_one (ls_ret (le_callD (pe_callG (GA.ok__law_same p) hA (hr.mono (by first | decide | omega)) (by rfl) p.D__law_same.g p.D__law_same.F.kp p.D__law_same.b (la_cons (le_callD (pe_call (ok_word_of_text p) (hr.mono (by first | decide | omega)) (by rfl) p.D_word_of_text.g p.D_word_of_text.F.kp p.D_word_of_text.b .nil passX0 (la_cons (lvar 6) la_nil)) hW) (la_cons (lvar 0) la_nil))) hW))))))))), fun ds Kk KE h => ?_⟩)
  obtain ⟨l, rfl, hw, hl, h⟩ := h
  (try simp only [DL.iteB_true, DL.iteB_false, EL.zSeq, EL.zNext, EL.zRet, EL.zRetF, EL.zRetN, EL.zIf, EL.zAsg, EL.zAsgF, EL.zAsgC, EL.zDrop, EL.zRel, EL.zFor, EL.zBreak, EL.zCont, EL.zAsgT, EL.zPar, EL.zPar3, EL.zAug, EL.zCut, EL.zRaise, EL.zWhile, EL.zTrim, EL.trimmed, EL.zDPut, EL.zFld, EL.zFldInc, EL.xVar, EL.xC, EL.xOb, EL.xGts, EL.x2, EL.x1, EL.xCall, EL.xB, EL.xTru, EL.xAnd, EL.xOr, EL.xNot, EL.xIf, EL.yAnd, EL.yOr, EL.yNot, EL.xNil, EL.xCons, EL.xTup, EL.xLst, EL.xDnew, EL.xNew, EL.xCell, EL.xIt, EL.xRng1, EL.xRng2, EL.xRng3, EL.xLc, EL.xDc, EL.xAG, EL.xFnD, EL.xFnDX, EL.xFnDK, EL.xSl, EL.xNone, EL.xPart, EL.xListOf, EL.xM0, EL.xM1, EL.yYes, EL.xIx, EL.xApp, EL.xExt, EL.xPop, EL.xRev, EL.xLen, EL.xDGet, EL.xDIn, EL.xGet1, EL.xGet2, EL.xOrT, EL.xAndT, EL.xNotT2, EL.xFld, EL.xMeth, EL.xMake, EL.xPairs, EL.xDisp, EL.xChain, EL.xFn, EL.xFnK, EL.glN, EL.glT_t, EL.glNil_n, EL.glCons_c, DL.op2, DL.op1, DL.opC, DL.c1, DL.isiP, DL.typeO, DL.tyIs, DL.inG, DL.isND, EL.wipeL, DL.le_s0, DL.le_s1, DL.le_s2, DL.le_s3, DL.le_s4, DL.le_s5, DL.le_s6, DL.le_s7, DL.le_s8, DL.le_s9, DL.le_s10, EL.start0L, EL.rtD_dat, EL.up_dat, EL.up_ob, EL.ofDV_dat, EL.dvL_dat, EL.dvL_deck, EL.dvL_ob, EL.frz_dat, EL.frz_loc, DL.lend, DL.noOwn, DL.DV.isOwn, DL.pd_dat, DL.pd_own, DL.ocpd_lst, DL.ocpd_dk, EL.itemsL, EL.itemsOfL, EL.seqL, EL.lenL, EL.ixL, EL.lookC, EL.truL, EL.truC, EL.dgetL, EL.dgetC, EL.dputC, EL.isDL, EL.isDC, EL.view_dat, EL.view_loc, EL.view_deck, EL.view_gts, EL.view_ob, EL.viewC_c, EL.oc_lst, EL.oc_dk, EL.oc_dt, EL.oc_ins, EL.asData_nil, EL.asData_cons, EL.asData_map, EL.asData_snoc, EL.views_nil, EL.views_cons, Option.bind_some, Option.map_some, Option.map_none, List.map_map, List.map_cons, List.map_nil, List.append_nil, List.cons_append, List.nil_append, List.length_cons, List.length_nil, List.length_map, List.replicate_succ, List.replicate_zero, List.getElem?_cons_zero, List.getElem?_cons_succ, List.set_cons_zero, List.set_cons_succ, Nat.reduceSub, Nat.reduceAdd, Nat.sub_self, Nat.zero_add, Option.some.injEq, EL.LV.dat.injEq, EL.LV.loc.injEq, EL.LV.ob.injEq, EL.Cell.lst.injEq, EL.Cell.dk.injEq, EL.Cell.ins.injEq, DL.DV.dat.injEq, PyData.bool.injEq, PyData.int.injEq, PyData.str.injEq, PyData.tuple.injEq, PyData.list.injEq, DL.DV.ob.injEq, V.ty.injEq, DL.DV.own.injEq, DL.OC.lst.injEq, List.cons.injEq, exists_eq_left', exists_eq_left, exists_eq_right, exists_eq_right', exists_and_left, and_true, true_and, Bool.not_true, Bool.not_false, Bool.and_true, Bool.true_and, true_or, Bool.not_eq_true', Bool.false_eq_true, if_true, if_false, reduceIte, reduceCtorEq])
  have hsz : (ofL l).length ≤ sizeLine := by rw [ofL_len, sizeLine_eq]; omega
  refine ⟨l, rfl, hw, hl, rfl, fun cs hcs hc1 hc0 => ?_⟩
  rw [show codes l = codes l from rfl]
  (try simp only [DL.iteB_true, DL.iteB_false, EL.zSeq, EL.zNext, EL.zRet, EL.zRetF, EL.zRetN, EL.zIf, EL.zAsg, EL.zAsgF, EL.zAsgC, EL.zDrop, EL.zRel, EL.zFor, EL.zBreak, EL.zCont, EL.zAsgT, EL.zPar, EL.zPar3, EL.zAug, EL.zCut, EL.zRaise, EL.zWhile, EL.zTrim, EL.trimmed, EL.zDPut, EL.zFld, EL.zFldInc, EL.xVar, EL.xC, EL.xOb, EL.xGts, EL.x2, EL.x1, EL.xCall, EL.xB, EL.xTru, EL.xAnd, EL.xOr, EL.xNot, EL.xIf, EL.yAnd, EL.yOr, EL.yNot, EL.xNil, EL.xCons, EL.xTup, EL.xLst, EL.xDnew, EL.xNew, EL.xCell, EL.xIt, EL.xRng1, EL.xRng2, EL.xRng3, EL.xLc, EL.xDc, EL.xAG, EL.xFnD, EL.xFnDX, EL.xFnDK, EL.xSl, EL.xNone, EL.xPart, EL.xListOf, EL.xM0, EL.xM1, EL.yYes, EL.xIx, EL.xApp, EL.xExt, EL.xPop, EL.xRev, EL.xLen, EL.xDGet, EL.xDIn, EL.xGet1, EL.xGet2, EL.xOrT, EL.xAndT, EL.xNotT2, EL.xFld, EL.xMeth, EL.xMake, EL.xPairs, EL.xDisp, EL.xChain, EL.xFn, EL.xFnK, EL.glN, EL.glT_t, EL.glNil_n, EL.glCons_c, DL.op2, DL.op1, DL.opC, DL.c1, DL.isiP, DL.typeO, DL.tyIs, DL.inG, DL.isND, EL.wipeL, DL.le_s0, DL.le_s1, DL.le_s2, DL.le_s3, DL.le_s4, DL.le_s5, DL.le_s6, DL.le_s7, DL.le_s8, DL.le_s9, DL.le_s10, EL.start0L, EL.rtD_dat, EL.up_dat, EL.up_ob, EL.ofDV_dat, EL.dvL_dat, EL.dvL_deck, EL.dvL_ob, EL.frz_dat, EL.frz_loc, DL.lend, DL.noOwn, DL.DV.isOwn, DL.pd_dat, DL.pd_own, DL.ocpd_lst, DL.ocpd_dk, EL.itemsL, EL.itemsOfL, EL.seqL, EL.lenL, EL.ixL, EL.lookC, EL.truL, EL.truC, EL.dgetL, EL.dgetC, EL.dputC, EL.isDL, EL.isDC, EL.view_dat, EL.view_loc, EL.view_deck, EL.view_gts, EL.view_ob, EL.viewC_c, EL.oc_lst, EL.oc_dk, EL.oc_dt, EL.oc_ins, EL.asData_nil, EL.asData_cons, EL.asData_map, EL.asData_snoc, EL.views_nil, EL.views_cons, Option.bind_some, Option.map_some, Option.map_none, List.map_map, List.map_cons, List.map_nil, List.append_nil, List.cons_append, List.nil_append, List.length_cons, List.length_nil, List.length_map, List.replicate_succ, List.replicate_zero, List.getElem?_cons_zero, List.getElem?_cons_succ, List.set_cons_zero, List.set_cons_succ, Nat.reduceSub, Nat.reduceAdd, Nat.sub_self, Nat.zero_add, Option.some.injEq, EL.LV.dat.injEq, EL.LV.loc.injEq, EL.LV.ob.injEq, EL.Cell.lst.injEq, EL.Cell.dk.injEq, EL.Cell.ins.injEq, DL.DV.dat.injEq, PyData.bool.injEq, PyData.int.injEq, PyData.str.injEq, PyData.tuple.injEq, PyData.list.injEq, DL.DV.ob.injEq, V.ty.injEq, DL.DV.own.injEq, DL.OC.lst.injEq, List.cons.injEq, exists_eq_left', exists_eq_left, exists_eq_right, exists_eq_right', exists_and_left, and_true, true_and, Bool.not_true, Bool.not_false, Bool.and_true, Bool.true_and, true_or, Bool.not_eq_true', Bool.false_eq_true, if_true, if_false, reduceIte, reduceCtorEq])
  rw [signs_ofL]
  refine lcl_map (q := fun c => .int ((c : Nat) : Int)) trivial (fun c hx Q hQ => ?_) (by rw [sizeLine_eq]; omega) ?_
  · (try simp only [DL.iteB_true, DL.iteB_false, EL.zSeq, EL.zNext, EL.zRet, EL.zRetF, EL.zRetN, EL.zIf, EL.zAsg, EL.zAsgF, EL.zAsgC, EL.zDrop, EL.zRel, EL.zFor, EL.zBreak, EL.zCont, EL.zAsgT, EL.zPar, EL.zPar3, EL.zAug, EL.zCut, EL.zRaise, EL.zWhile, EL.zTrim, EL.trimmed, EL.zDPut, EL.zFld, EL.zFldInc, EL.xVar, EL.xC, EL.xOb, EL.xGts, EL.x2, EL.x1, EL.xCall, EL.xB, EL.xTru, EL.xAnd, EL.xOr, EL.xNot, EL.xIf, EL.yAnd, EL.yOr, EL.yNot, EL.xNil, EL.xCons, EL.xTup, EL.xLst, EL.xDnew, EL.xNew, EL.xCell, EL.xIt, EL.xRng1, EL.xRng2, EL.xRng3, EL.xLc, EL.xDc, EL.xAG, EL.xFnD, EL.xFnDX, EL.xFnDK, EL.xSl, EL.xNone, EL.xPart, EL.xListOf, EL.xM0, EL.xM1, EL.yYes, EL.xIx, EL.xApp, EL.xExt, EL.xPop, EL.xRev, EL.xLen, EL.xDGet, EL.xDIn, EL.xGet1, EL.xGet2, EL.xOrT, EL.xAndT, EL.xNotT2, EL.xFld, EL.xMeth, EL.xMake, EL.xPairs, EL.xDisp, EL.xChain, EL.xFn, EL.xFnK, EL.glN, EL.glT_t, EL.glNil_n, EL.glCons_c, DL.op2, DL.op1, DL.opC, DL.c1, DL.isiP, DL.typeO, DL.tyIs, DL.inG, DL.isND, EL.wipeL, DL.le_s0, DL.le_s1, DL.le_s2, DL.le_s3, DL.le_s4, DL.le_s5, DL.le_s6, DL.le_s7, DL.le_s8, DL.le_s9, DL.le_s10, EL.start0L, EL.rtD_dat, EL.up_dat, EL.up_ob, EL.ofDV_dat, EL.dvL_dat, EL.dvL_deck, EL.dvL_ob, EL.frz_dat, EL.frz_loc, DL.lend, DL.noOwn, DL.DV.isOwn, DL.pd_dat, DL.pd_own, DL.ocpd_lst, DL.ocpd_dk, EL.itemsL, EL.itemsOfL, EL.seqL, EL.lenL, EL.ixL, EL.lookC, EL.truL, EL.truC, EL.dgetL, EL.dgetC, EL.dputC, EL.isDL, EL.isDC, EL.view_dat, EL.view_loc, EL.view_deck, EL.view_gts, EL.view_ob, EL.viewC_c, EL.oc_lst, EL.oc_dk, EL.oc_dt, EL.oc_ins, EL.asData_nil, EL.asData_cons, EL.asData_map, EL.asData_snoc, EL.views_nil, EL.views_cons, Option.bind_some, Option.map_some, Option.map_none, List.map_map, List.map_cons, List.map_nil, List.append_nil, List.cons_append, List.nil_append, List.length_cons, List.length_nil, List.length_map, List.replicate_succ, List.replicate_zero, List.getElem?_cons_zero, List.getElem?_cons_succ, List.set_cons_zero, List.set_cons_succ, Nat.reduceSub, Nat.reduceAdd, Nat.sub_self, Nat.zero_add, Option.some.injEq, EL.LV.dat.injEq, EL.LV.loc.injEq, EL.LV.ob.injEq, EL.Cell.lst.injEq, EL.Cell.dk.injEq, EL.Cell.ins.injEq, DL.DV.dat.injEq, PyData.bool.injEq, PyData.int.injEq, PyData.str.injEq, PyData.tuple.injEq, PyData.list.injEq, DL.DV.ob.injEq, V.ty.injEq, DL.DV.own.injEq, DL.OC.lst.injEq, List.cons.injEq, exists_eq_left', exists_eq_left, exists_eq_right, exists_eq_right', exists_and_left, and_true, true_and, Bool.not_true, Bool.not_false, Bool.and_true, Bool.true_and, true_or, Bool.not_eq_true', Bool.false_eq_true, if_true, if_false, reduceIte, reduceCtorEq])
    exact ⟨rfl, hQ⟩
  · refine ⟨_, congrArg (Option.map _) (asData_fun (fun c => PyData.int ((c : Nat) : Int)) cs), ?_⟩
    have hwd : wordB (.str (ofL l)) = true := hw
    by_cases h7 : l.length % 7 = 0
    · have ec : codes l = .list ((pieces l).map fun x => .int (dec x : Nat)) := if_pos h7
      rw [ec]
      (try simp only [DL.iteB_true, DL.iteB_false, EL.zSeq, EL.zNext, EL.zRet, EL.zRetF, EL.zRetN, EL.zIf, EL.zAsg, EL.zAsgF, EL.zAsgC, EL.zDrop, EL.zRel, EL.zFor, EL.zBreak, EL.zCont, EL.zAsgT, EL.zPar, EL.zPar3, EL.zAug, EL.zCut, EL.zRaise, EL.zWhile, EL.zTrim, EL.trimmed, EL.zDPut, EL.zFld, EL.zFldInc, EL.xVar, EL.xC, EL.xOb, EL.xGts, EL.x2, EL.x1, EL.xCall, EL.xB, EL.xTru, EL.xAnd, EL.xOr, EL.xNot, EL.xIf, EL.yAnd, EL.yOr, EL.yNot, EL.xNil, EL.xCons, EL.xTup, EL.xLst, EL.xDnew, EL.xNew, EL.xCell, EL.xIt, EL.xRng1, EL.xRng2, EL.xRng3, EL.xLc, EL.xDc, EL.xAG, EL.xFnD, EL.xFnDX, EL.xFnDK, EL.xSl, EL.xNone, EL.xPart, EL.xListOf, EL.xM0, EL.xM1, EL.yYes, EL.xIx, EL.xApp, EL.xExt, EL.xPop, EL.xRev, EL.xLen, EL.xDGet, EL.xDIn, EL.xGet1, EL.xGet2, EL.xOrT, EL.xAndT, EL.xNotT2, EL.xFld, EL.xMeth, EL.xMake, EL.xPairs, EL.xDisp, EL.xChain, EL.xFn, EL.xFnK, EL.glN, EL.glT_t, EL.glNil_n, EL.glCons_c, DL.op2, DL.op1, DL.opC, DL.c1, DL.isiP, DL.typeO, DL.tyIs, DL.inG, DL.isND, EL.wipeL, DL.le_s0, DL.le_s1, DL.le_s2, DL.le_s3, DL.le_s4, DL.le_s5, DL.le_s6, DL.le_s7, DL.le_s8, DL.le_s9, DL.le_s10, EL.start0L, EL.rtD_dat, EL.up_dat, EL.up_ob, EL.ofDV_dat, EL.dvL_dat, EL.dvL_deck, EL.dvL_ob, EL.frz_dat, EL.frz_loc, DL.lend, DL.noOwn, DL.DV.isOwn, DL.pd_dat, DL.pd_own, DL.ocpd_lst, DL.ocpd_dk, EL.itemsL, EL.itemsOfL, EL.seqL, EL.lenL, EL.ixL, EL.lookC, EL.truL, EL.truC, EL.dgetL, EL.dgetC, EL.dputC, EL.isDL, EL.isDC, EL.view_dat, EL.view_loc, EL.view_deck, EL.view_gts, EL.view_ob, EL.viewC_c, EL.oc_lst, EL.oc_dk, EL.oc_dt, EL.oc_ins, EL.asData_nil, EL.asData_cons, EL.asData_map, EL.asData_snoc, EL.views_nil, EL.views_cons, Option.bind_some, Option.map_some, Option.map_none, List.map_map, List.map_cons, List.map_nil, List.append_nil, List.cons_append, List.nil_append, List.length_cons, List.length_nil, List.length_map, List.replicate_succ, List.replicate_zero, List.getElem?_cons_zero, List.getElem?_cons_succ, List.set_cons_zero, List.set_cons_succ, Nat.reduceSub, Nat.reduceAdd, Nat.sub_self, Nat.zero_add, Option.some.injEq, EL.LV.dat.injEq, EL.LV.loc.injEq, EL.LV.ob.injEq, EL.Cell.lst.injEq, EL.Cell.dk.injEq, EL.Cell.ins.injEq, DL.DV.dat.injEq, PyData.bool.injEq, PyData.int.injEq, PyData.str.injEq, PyData.tuple.injEq, PyData.list.injEq, DL.DV.ob.injEq, V.ty.injEq, DL.DV.own.injEq, DL.OC.lst.injEq, List.cons.injEq, exists_eq_left', exists_eq_left, exists_eq_right, exists_eq_right', exists_and_left, and_true, true_and, Bool.not_true, Bool.not_false, Bool.and_true, Bool.true_and, true_or, Bool.not_eq_true', Bool.false_eq_true, if_true, if_false, reduceIte, reduceCtorEq])
      rw [← List.map_map]
      have hp : (pieces l).length ≤ 300 := by
        unfold pieces
        rw [List.length_map, List.length_range]
        omega
      have hS : ∀ i : Nat, (cs.any fun a => ((a : Nat) : Int) == ((i : Nat) : Int)) = decide (i ∈ S) := fun i => by
        rw [Bool.eq_iff_iff, List.any_eq_true, decide_eq_true_iff]
        constructor
        · rintro ⟨a, ha, e⟩
          have : a = i := by
            have := beq_iff_eq.mp e
            omega
          rw [← this]
          exact (hcs a).mp ha
        · intro hi
          exact ⟨i, (hcs i).mpr hi, beq_self_eq_true _⟩
      refine lcl_mapf (p := fun x => !decide (dec x ∈ S)) (q := fun x => .int (dec x : Nat)) trivial (fun x hx Q hQ => ?_) (by rw [sizeLine_eq]; omega) ?_
      · (try simp only [DL.iteB_true, DL.iteB_false, EL.zSeq, EL.zNext, EL.zRet, EL.zRetF, EL.zRetN, EL.zIf, EL.zAsg, EL.zAsgF, EL.zAsgC, EL.zDrop, EL.zRel, EL.zFor, EL.zBreak, EL.zCont, EL.zAsgT, EL.zPar, EL.zPar3, EL.zAug, EL.zCut, EL.zRaise, EL.zWhile, EL.zTrim, EL.trimmed, EL.zDPut, EL.zFld, EL.zFldInc, EL.xVar, EL.xC, EL.xOb, EL.xGts, EL.x2, EL.x1, EL.xCall, EL.xB, EL.xTru, EL.xAnd, EL.xOr, EL.xNot, EL.xIf, EL.yAnd, EL.yOr, EL.yNot, EL.xNil, EL.xCons, EL.xTup, EL.xLst, EL.xDnew, EL.xNew, EL.xCell, EL.xIt, EL.xRng1, EL.xRng2, EL.xRng3, EL.xLc, EL.xDc, EL.xAG, EL.xFnD, EL.xFnDX, EL.xFnDK, EL.xSl, EL.xNone, EL.xPart, EL.xListOf, EL.xM0, EL.xM1, EL.yYes, EL.xIx, EL.xApp, EL.xExt, EL.xPop, EL.xRev, EL.xLen, EL.xDGet, EL.xDIn, EL.xGet1, EL.xGet2, EL.xOrT, EL.xAndT, EL.xNotT2, EL.xFld, EL.xMeth, EL.xMake, EL.xPairs, EL.xDisp, EL.xChain, EL.xFn, EL.xFnK, EL.glN, EL.glT_t, EL.glNil_n, EL.glCons_c, DL.op2, DL.op1, DL.opC, DL.c1, DL.isiP, DL.typeO, DL.tyIs, DL.inG, DL.isND, EL.wipeL, DL.le_s0, DL.le_s1, DL.le_s2, DL.le_s3, DL.le_s4, DL.le_s5, DL.le_s6, DL.le_s7, DL.le_s8, DL.le_s9, DL.le_s10, EL.start0L, EL.rtD_dat, EL.up_dat, EL.up_ob, EL.ofDV_dat, EL.dvL_dat, EL.dvL_deck, EL.dvL_ob, EL.frz_dat, EL.frz_loc, DL.lend, DL.noOwn, DL.DV.isOwn, DL.pd_dat, DL.pd_own, DL.ocpd_lst, DL.ocpd_dk, EL.itemsL, EL.itemsOfL, EL.seqL, EL.lenL, EL.ixL, EL.lookC, EL.truL, EL.truC, EL.dgetL, EL.dgetC, EL.dputC, EL.isDL, EL.isDC, EL.view_dat, EL.view_loc, EL.view_deck, EL.view_gts, EL.view_ob, EL.viewC_c, EL.oc_lst, EL.oc_dk, EL.oc_dt, EL.oc_ins, EL.asData_nil, EL.asData_cons, EL.asData_map, EL.asData_snoc, EL.views_nil, EL.views_cons, Option.bind_some, Option.map_some, Option.map_none, List.map_map, List.map_cons, List.map_nil, List.append_nil, List.cons_append, List.nil_append, List.length_cons, List.length_nil, List.length_map, List.replicate_succ, List.replicate_zero, List.getElem?_cons_zero, List.getElem?_cons_succ, List.set_cons_zero, List.set_cons_succ, Nat.reduceSub, Nat.reduceAdd, Nat.sub_self, Nat.zero_add, Option.some.injEq, EL.LV.dat.injEq, EL.LV.loc.injEq, EL.LV.ob.injEq, EL.Cell.lst.injEq, EL.Cell.dk.injEq, EL.Cell.ins.injEq, DL.DV.dat.injEq, PyData.bool.injEq, PyData.int.injEq, PyData.str.injEq, PyData.tuple.injEq, PyData.list.injEq, DL.DV.ob.injEq, V.ty.injEq, DL.DV.own.injEq, DL.OC.lst.injEq, List.cons.injEq, exists_eq_left', exists_eq_left, exists_eq_right, exists_eq_right', exists_and_left, and_true, true_and, Bool.not_true, Bool.not_false, Bool.and_true, Bool.true_and, true_or, Bool.not_eq_true', Bool.false_eq_true, if_true, if_false, reduceIte, reduceCtorEq])
        refine ints_nin _ _ _ ⟨_, rfl, ?_⟩
        rw [hS]
        refine hQ _ fun Q2 h1 h2 => ?_
        (try simp only [DL.iteB_true, DL.iteB_false, EL.zSeq, EL.zNext, EL.zRet, EL.zRetF, EL.zRetN, EL.zIf, EL.zAsg, EL.zAsgF, EL.zAsgC, EL.zDrop, EL.zRel, EL.zFor, EL.zBreak, EL.zCont, EL.zAsgT, EL.zPar, EL.zPar3, EL.zAug, EL.zCut, EL.zRaise, EL.zWhile, EL.zTrim, EL.trimmed, EL.zDPut, EL.zFld, EL.zFldInc, EL.xVar, EL.xC, EL.xOb, EL.xGts, EL.x2, EL.x1, EL.xCall, EL.xB, EL.xTru, EL.xAnd, EL.xOr, EL.xNot, EL.xIf, EL.yAnd, EL.yOr, EL.yNot, EL.xNil, EL.xCons, EL.xTup, EL.xLst, EL.xDnew, EL.xNew, EL.xCell, EL.xIt, EL.xRng1, EL.xRng2, EL.xRng3, EL.xLc, EL.xDc, EL.xAG, EL.xFnD, EL.xFnDX, EL.xFnDK, EL.xSl, EL.xNone, EL.xPart, EL.xListOf, EL.xM0, EL.xM1, EL.yYes, EL.xIx, EL.xApp, EL.xExt, EL.xPop, EL.xRev, EL.xLen, EL.xDGet, EL.xDIn, EL.xGet1, EL.xGet2, EL.xOrT, EL.xAndT, EL.xNotT2, EL.xFld, EL.xMeth, EL.xMake, EL.xPairs, EL.xDisp, EL.xChain, EL.xFn, EL.xFnK, EL.glN, EL.glT_t, EL.glNil_n, EL.glCons_c, DL.op2, DL.op1, DL.opC, DL.c1, DL.isiP, DL.typeO, DL.tyIs, DL.inG, DL.isND, EL.wipeL, DL.le_s0, DL.le_s1, DL.le_s2, DL.le_s3, DL.le_s4, DL.le_s5, DL.le_s6, DL.le_s7, DL.le_s8, DL.le_s9, DL.le_s10, EL.start0L, EL.rtD_dat, EL.up_dat, EL.up_ob, EL.ofDV_dat, EL.dvL_dat, EL.dvL_deck, EL.dvL_ob, EL.frz_dat, EL.frz_loc, DL.lend, DL.noOwn, DL.DV.isOwn, DL.pd_dat, DL.pd_own, DL.ocpd_lst, DL.ocpd_dk, EL.itemsL, EL.itemsOfL, EL.seqL, EL.lenL, EL.ixL, EL.lookC, EL.truL, EL.truC, EL.dgetL, EL.dgetC, EL.dputC, EL.isDL, EL.isDC, EL.view_dat, EL.view_loc, EL.view_deck, EL.view_gts, EL.view_ob, EL.viewC_c, EL.oc_lst, EL.oc_dk, EL.oc_dt, EL.oc_ins, EL.asData_nil, EL.asData_cons, EL.asData_map, EL.asData_snoc, EL.views_nil, EL.views_cons, Option.bind_some, Option.map_some, Option.map_none, List.map_map, List.map_cons, List.map_nil, List.append_nil, List.cons_append, List.nil_append, List.length_cons, List.length_nil, List.length_map, List.replicate_succ, List.replicate_zero, List.getElem?_cons_zero, List.getElem?_cons_succ, List.set_cons_zero, List.set_cons_succ, Nat.reduceSub, Nat.reduceAdd, Nat.sub_self, Nat.zero_add, Option.some.injEq, EL.LV.dat.injEq, EL.LV.loc.injEq, EL.LV.ob.injEq, EL.Cell.lst.injEq, EL.Cell.dk.injEq, EL.Cell.ins.injEq, DL.DV.dat.injEq, PyData.bool.injEq, PyData.int.injEq, PyData.str.injEq, PyData.tuple.injEq, PyData.list.injEq, DL.DV.ob.injEq, V.ty.injEq, DL.DV.own.injEq, DL.OC.lst.injEq, List.cons.injEq, exists_eq_left', exists_eq_left, exists_eq_right, exists_eq_right', exists_and_left, and_true, true_and, Bool.not_true, Bool.not_false, Bool.and_true, Bool.true_and, true_or, Bool.not_eq_true', Bool.false_eq_true, if_true, if_false, reduceIte, reduceCtorEq])
        exact h2
      · generalize hO : (pieces l).filter (fun x => !decide (dec x ∈ S)) = O
        have hOl : O.length ≤ 300 := by
          rw [← hO]
          exact Nat.le_trans (List.length_filter_le _ _) hp
        refine ⟨_, congrArg (Option.map _) (asData_fun (fun x => PyData.int (dec x : Nat)) O), ?_⟩
        show lcLL _ _ _ _ _ (List.map LV.dat (O.map fun x => PyData.int (dec x : Nat))) _ _ _
        refine lcl_mapf (p := fun x => decide (32 ≤ dec x) && decide (dec x ≤ 126)) (q := fun x => .int (dec x : Nat)) trivial (fun x hx Q hQ => ?_) (by rw [sizeLine_eq]; omega) ?_
        · (try simp only [DL.iteB_true, DL.iteB_false, EL.zSeq, EL.zNext, EL.zRet, EL.zRetF, EL.zRetN, EL.zIf, EL.zAsg, EL.zAsgF, EL.zAsgC, EL.zDrop, EL.zRel, EL.zFor, EL.zBreak, EL.zCont, EL.zAsgT, EL.zPar, EL.zPar3, EL.zAug, EL.zCut, EL.zRaise, EL.zWhile, EL.zTrim, EL.trimmed, EL.zDPut, EL.zFld, EL.zFldInc, EL.xVar, EL.xC, EL.xOb, EL.xGts, EL.x2, EL.x1, EL.xCall, EL.xB, EL.xTru, EL.xAnd, EL.xOr, EL.xNot, EL.xIf, EL.yAnd, EL.yOr, EL.yNot, EL.xNil, EL.xCons, EL.xTup, EL.xLst, EL.xDnew, EL.xNew, EL.xCell, EL.xIt, EL.xRng1, EL.xRng2, EL.xRng3, EL.xLc, EL.xDc, EL.xAG, EL.xFnD, EL.xFnDX, EL.xFnDK, EL.xSl, EL.xNone, EL.xPart, EL.xListOf, EL.xM0, EL.xM1, EL.yYes, EL.xIx, EL.xApp, EL.xExt, EL.xPop, EL.xRev, EL.xLen, EL.xDGet, EL.xDIn, EL.xGet1, EL.xGet2, EL.xOrT, EL.xAndT, EL.xNotT2, EL.xFld, EL.xMeth, EL.xMake, EL.xPairs, EL.xDisp, EL.xChain, EL.xFn, EL.xFnK, EL.glN, EL.glT_t, EL.glNil_n, EL.glCons_c, DL.op2, DL.op1, DL.opC, DL.c1, DL.isiP, DL.typeO, DL.tyIs, DL.inG, DL.isND, EL.wipeL, DL.le_s0, DL.le_s1, DL.le_s2, DL.le_s3, DL.le_s4, DL.le_s5, DL.le_s6, DL.le_s7, DL.le_s8, DL.le_s9, DL.le_s10, EL.start0L, EL.rtD_dat, EL.up_dat, EL.up_ob, EL.ofDV_dat, EL.dvL_dat, EL.dvL_deck, EL.dvL_ob, EL.frz_dat, EL.frz_loc, DL.lend, DL.noOwn, DL.DV.isOwn, DL.pd_dat, DL.pd_own, DL.ocpd_lst, DL.ocpd_dk, EL.itemsL, EL.itemsOfL, EL.seqL, EL.lenL, EL.ixL, EL.lookC, EL.truL, EL.truC, EL.dgetL, EL.dgetC, EL.dputC, EL.isDL, EL.isDC, EL.view_dat, EL.view_loc, EL.view_deck, EL.view_gts, EL.view_ob, EL.viewC_c, EL.oc_lst, EL.oc_dk, EL.oc_dt, EL.oc_ins, EL.asData_nil, EL.asData_cons, EL.asData_map, EL.asData_snoc, EL.views_nil, EL.views_cons, Option.bind_some, Option.map_some, Option.map_none, List.map_map, List.map_cons, List.map_nil, List.append_nil, List.cons_append, List.nil_append, List.length_cons, List.length_nil, List.length_map, List.replicate_succ, List.replicate_zero, List.getElem?_cons_zero, List.getElem?_cons_succ, List.set_cons_zero, List.set_cons_succ, Nat.reduceSub, Nat.reduceAdd, Nat.sub_self, Nat.zero_add, Option.some.injEq, EL.LV.dat.injEq, EL.LV.loc.injEq, EL.LV.ob.injEq, EL.Cell.lst.injEq, EL.Cell.dk.injEq, EL.Cell.ins.injEq, DL.DV.dat.injEq, PyData.bool.injEq, PyData.int.injEq, PyData.str.injEq, PyData.tuple.injEq, PyData.list.injEq, DL.DV.ob.injEq, V.ty.injEq, DL.DV.own.injEq, DL.OC.lst.injEq, List.cons.injEq, exists_eq_left', exists_eq_left, exists_eq_right, exists_eq_right', exists_and_left, and_true, true_and, Bool.not_true, Bool.not_false, Bool.and_true, Bool.true_and, true_or, Bool.not_eq_true', Bool.false_eq_true, if_true, if_false, reduceIte, reduceCtorEq])
          refine ⟨decide (32 ≤ dec x), congrArg PyData.bool (decide_eq_decide.mpr (by omega)), ?_⟩
          cases h32 : decide (32 ≤ dec x) with
          | true =>
            rw [iteB_true]
            refine ⟨decide (dec x ≤ 126), congrArg PyData.bool (decide_eq_decide.mpr (by omega)), ?_⟩
            exact hQ_to (Q := Q) (by rw [h32, Bool.true_and]) (hQ _ fun Q2 _ h2 => by (try simp only [DL.iteB_true, DL.iteB_false, EL.zSeq, EL.zNext, EL.zRet, EL.zRetF, EL.zRetN, EL.zIf, EL.zAsg, EL.zAsgF, EL.zAsgC, EL.zDrop, EL.zRel, EL.zFor, EL.zBreak, EL.zCont, EL.zAsgT, EL.zPar, EL.zPar3, EL.zAug, EL.zCut, EL.zRaise, EL.zWhile, EL.zTrim, EL.trimmed, EL.zDPut, EL.zFld, EL.zFldInc, EL.xVar, EL.xC, EL.xOb, EL.xGts, EL.x2, EL.x1, EL.xCall, EL.xB, EL.xTru, EL.xAnd, EL.xOr, EL.xNot, EL.xIf, EL.yAnd, EL.yOr, EL.yNot, EL.xNil, EL.xCons, EL.xTup, EL.xLst, EL.xDnew, EL.xNew, EL.xCell, EL.xIt, EL.xRng1, EL.xRng2, EL.xRng3, EL.xLc, EL.xDc, EL.xAG, EL.xFnD, EL.xFnDX, EL.xFnDK, EL.xSl, EL.xNone, EL.xPart, EL.xListOf, EL.xM0, EL.xM1, EL.yYes, EL.xIx, EL.xApp, EL.xExt, EL.xPop, EL.xRev, EL.xLen, EL.xDGet, EL.xDIn, EL.xGet1, EL.xGet2, EL.xOrT, EL.xAndT, EL.xNotT2, EL.xFld, EL.xMeth, EL.xMake, EL.xPairs, EL.xDisp, EL.xChain, EL.xFn, EL.xFnK, EL.glN, EL.glT_t, EL.glNil_n, EL.glCons_c, DL.op2, DL.op1, DL.opC, DL.c1, DL.isiP, DL.typeO, DL.tyIs, DL.inG, DL.isND, EL.wipeL, DL.le_s0, DL.le_s1, DL.le_s2, DL.le_s3, DL.le_s4, DL.le_s5, DL.le_s6, DL.le_s7, DL.le_s8, DL.le_s9, DL.le_s10, EL.start0L, EL.rtD_dat, EL.up_dat, EL.up_ob, EL.ofDV_dat, EL.dvL_dat, EL.dvL_deck, EL.dvL_ob, EL.frz_dat, EL.frz_loc, DL.lend, DL.noOwn, DL.DV.isOwn, DL.pd_dat, DL.pd_own, DL.ocpd_lst, DL.ocpd_dk, EL.itemsL, EL.itemsOfL, EL.seqL, EL.lenL, EL.ixL, EL.lookC, EL.truL, EL.truC, EL.dgetL, EL.dgetC, EL.dputC, EL.isDL, EL.isDC, EL.view_dat, EL.view_loc, EL.view_deck, EL.view_gts, EL.view_ob, EL.viewC_c, EL.oc_lst, EL.oc_dk, EL.oc_dt, EL.oc_ins, EL.asData_nil, EL.asData_cons, EL.asData_map, EL.asData_snoc, EL.views_nil, EL.views_cons, Option.bind_some, Option.map_some, Option.map_none, List.map_map, List.map_cons, List.map_nil, List.append_nil, List.cons_append, List.nil_append, List.length_cons, List.length_nil, List.length_map, List.replicate_succ, List.replicate_zero, List.getElem?_cons_zero, List.getElem?_cons_succ, List.set_cons_zero, List.set_cons_succ, Nat.reduceSub, Nat.reduceAdd, Nat.sub_self, Nat.zero_add, Option.some.injEq, EL.LV.dat.injEq, EL.LV.loc.injEq, EL.LV.ob.injEq, EL.Cell.lst.injEq, EL.Cell.dk.injEq, EL.Cell.ins.injEq, DL.DV.dat.injEq, PyData.bool.injEq, PyData.int.injEq, PyData.str.injEq, PyData.tuple.injEq, PyData.list.injEq, DL.DV.ob.injEq, V.ty.injEq, DL.DV.own.injEq, DL.OC.lst.injEq, List.cons.injEq, exists_eq_left', exists_eq_left, exists_eq_right, exists_eq_right', exists_and_left, and_true, true_and, Bool.not_true, Bool.not_false, Bool.and_true, Bool.true_and, true_or, Bool.not_eq_true', Bool.false_eq_true, if_true, if_false, reduceIte, reduceCtorEq]); exact h2)
          | false =>
            rw [iteB_false]
            exact hQ_to (Q := Q) (by rw [h32, Bool.false_and]) (hQ _ fun Q2 _ h2 => by (try simp only [DL.iteB_true, DL.iteB_false, EL.zSeq, EL.zNext, EL.zRet, EL.zRetF, EL.zRetN, EL.zIf, EL.zAsg, EL.zAsgF, EL.zAsgC, EL.zDrop, EL.zRel, EL.zFor, EL.zBreak, EL.zCont, EL.zAsgT, EL.zPar, EL.zPar3, EL.zAug, EL.zCut, EL.zRaise, EL.zWhile, EL.zTrim, EL.trimmed, EL.zDPut, EL.zFld, EL.zFldInc, EL.xVar, EL.xC, EL.xOb, EL.xGts, EL.x2, EL.x1, EL.xCall, EL.xB, EL.xTru, EL.xAnd, EL.xOr, EL.xNot, EL.xIf, EL.yAnd, EL.yOr, EL.yNot, EL.xNil, EL.xCons, EL.xTup, EL.xLst, EL.xDnew, EL.xNew, EL.xCell, EL.xIt, EL.xRng1, EL.xRng2, EL.xRng3, EL.xLc, EL.xDc, EL.xAG, EL.xFnD, EL.xFnDX, EL.xFnDK, EL.xSl, EL.xNone, EL.xPart, EL.xListOf, EL.xM0, EL.xM1, EL.yYes, EL.xIx, EL.xApp, EL.xExt, EL.xPop, EL.xRev, EL.xLen, EL.xDGet, EL.xDIn, EL.xGet1, EL.xGet2, EL.xOrT, EL.xAndT, EL.xNotT2, EL.xFld, EL.xMeth, EL.xMake, EL.xPairs, EL.xDisp, EL.xChain, EL.xFn, EL.xFnK, EL.glN, EL.glT_t, EL.glNil_n, EL.glCons_c, DL.op2, DL.op1, DL.opC, DL.c1, DL.isiP, DL.typeO, DL.tyIs, DL.inG, DL.isND, EL.wipeL, DL.le_s0, DL.le_s1, DL.le_s2, DL.le_s3, DL.le_s4, DL.le_s5, DL.le_s6, DL.le_s7, DL.le_s8, DL.le_s9, DL.le_s10, EL.start0L, EL.rtD_dat, EL.up_dat, EL.up_ob, EL.ofDV_dat, EL.dvL_dat, EL.dvL_deck, EL.dvL_ob, EL.frz_dat, EL.frz_loc, DL.lend, DL.noOwn, DL.DV.isOwn, DL.pd_dat, DL.pd_own, DL.ocpd_lst, DL.ocpd_dk, EL.itemsL, EL.itemsOfL, EL.seqL, EL.lenL, EL.ixL, EL.lookC, EL.truL, EL.truC, EL.dgetL, EL.dgetC, EL.dputC, EL.isDL, EL.isDC, EL.view_dat, EL.view_loc, EL.view_deck, EL.view_gts, EL.view_ob, EL.viewC_c, EL.oc_lst, EL.oc_dk, EL.oc_dt, EL.oc_ins, EL.asData_nil, EL.asData_cons, EL.asData_map, EL.asData_snoc, EL.views_nil, EL.views_cons, Option.bind_some, Option.map_some, Option.map_none, List.map_map, List.map_cons, List.map_nil, List.append_nil, List.cons_append, List.nil_append, List.length_cons, List.length_nil, List.length_map, List.replicate_succ, List.replicate_zero, List.getElem?_cons_zero, List.getElem?_cons_succ, List.set_cons_zero, List.set_cons_succ, Nat.reduceSub, Nat.reduceAdd, Nat.sub_self, Nat.zero_add, Option.some.injEq, EL.LV.dat.injEq, EL.LV.loc.injEq, EL.LV.ob.injEq, EL.Cell.lst.injEq, EL.Cell.dk.injEq, EL.Cell.ins.injEq, DL.DV.dat.injEq, PyData.bool.injEq, PyData.int.injEq, PyData.str.injEq, PyData.tuple.injEq, PyData.list.injEq, DL.DV.ob.injEq, V.ty.injEq, DL.DV.own.injEq, DL.OC.lst.injEq, List.cons.injEq, exists_eq_left', exists_eq_left, exists_eq_right, exists_eq_right', exists_and_left, and_true, true_and, Bool.not_true, Bool.not_false, Bool.and_true, Bool.true_and, true_or, Bool.not_eq_true', Bool.false_eq_true, if_true, if_false, reduceIte, reduceCtorEq]); exact h2)
        · generalize hO2 : O.filter (fun x => decide (32 ≤ dec x) && decide (dec x ≤ 126)) = O2
          refine ⟨_, congrArg (Option.map _) (asData_fun (fun x => PyData.int (dec x : Nat)) O2), ?_⟩
          refine ints_ne_nil ⟨_, rfl, ?_⟩
          cases hE : (O2.map fun x => PyData.int ((dec x : Nat) : Int)).isEmpty with
          | false => exact h
          | true =>
            rw [Bool.not_true, iteB_false]
            refine ⟨_, rfl, (fun z hz => by cases hz; exact hl), (fun z => by rw [hwd] at z; cases z), fun l2 e2 _ => ?_⟩
            cases ofL_inj (PyData.str.inj e2)
            refine ints_ne_nil ⟨_, rfl, ?_⟩
            cases hE1 : (O.map fun x => PyData.int ((dec x : Nat) : Int)).isEmpty with
            | false =>
              rw [Bool.not_false, iteB_true]
              have : tow l = .none := by
                unfold tow
                rw [if_neg]
                intro z
                have hO0 : O = [] := by
                  rw [← hO, List.filter_eq_nil_iff]
                  intro x hx
                  have := of_decide_eq_true (List.all_eq_true.mp z x hx)
                  simp [(known_iff h7 hw hx).mp this]
                rw [hO0] at hE1
                cases hE1
              rw [this]
              exact h
            | true =>
              rw [Bool.not_true, iteB_false]
              have hall : ∀ x ∈ pieces l, dec x ∈ S := fun x hx => by
                have hO0 : O = [] := by
                  cases O with
                  | nil => rfl
                  | cons a r => cases hE1
                rw [← hO, List.filter_eq_nil_iff] at hO0
                have := hO0 x hx
                simpa using this
              have e5 : tow l = .str (ofL ((pieces l).map dec)) := if_pos (List.all_eq_true.mpr fun x hx => decide_eq_true ((known_iff h7 hw hx).mpr (hall x hx)))
              rw [e5]
              (try simp only [DL.iteB_true, DL.iteB_false, EL.zSeq, EL.zNext, EL.zRet, EL.zRetF, EL.zRetN, EL.zIf, EL.zAsg, EL.zAsgF, EL.zAsgC, EL.zDrop, EL.zRel, EL.zFor, EL.zBreak, EL.zCont, EL.zAsgT, EL.zPar, EL.zPar3, EL.zAug, EL.zCut, EL.zRaise, EL.zWhile, EL.zTrim, EL.trimmed, EL.zDPut, EL.zFld, EL.zFldInc, EL.xVar, EL.xC, EL.xOb, EL.xGts, EL.x2, EL.x1, EL.xCall, EL.xB, EL.xTru, EL.xAnd, EL.xOr, EL.xNot, EL.xIf, EL.yAnd, EL.yOr, EL.yNot, EL.xNil, EL.xCons, EL.xTup, EL.xLst, EL.xDnew, EL.xNew, EL.xCell, EL.xIt, EL.xRng1, EL.xRng2, EL.xRng3, EL.xLc, EL.xDc, EL.xAG, EL.xFnD, EL.xFnDX, EL.xFnDK, EL.xSl, EL.xNone, EL.xPart, EL.xListOf, EL.xM0, EL.xM1, EL.yYes, EL.xIx, EL.xApp, EL.xExt, EL.xPop, EL.xRev, EL.xLen, EL.xDGet, EL.xDIn, EL.xGet1, EL.xGet2, EL.xOrT, EL.xAndT, EL.xNotT2, EL.xFld, EL.xMeth, EL.xMake, EL.xPairs, EL.xDisp, EL.xChain, EL.xFn, EL.xFnK, EL.glN, EL.glT_t, EL.glNil_n, EL.glCons_c, DL.op2, DL.op1, DL.opC, DL.c1, DL.isiP, DL.typeO, DL.tyIs, DL.inG, DL.isND, EL.wipeL, DL.le_s0, DL.le_s1, DL.le_s2, DL.le_s3, DL.le_s4, DL.le_s5, DL.le_s6, DL.le_s7, DL.le_s8, DL.le_s9, DL.le_s10, EL.start0L, EL.rtD_dat, EL.up_dat, EL.up_ob, EL.ofDV_dat, EL.dvL_dat, EL.dvL_deck, EL.dvL_ob, EL.frz_dat, EL.frz_loc, DL.lend, DL.noOwn, DL.DV.isOwn, DL.pd_dat, DL.pd_own, DL.ocpd_lst, DL.ocpd_dk, EL.itemsL, EL.itemsOfL, EL.seqL, EL.lenL, EL.ixL, EL.lookC, EL.truL, EL.truC, EL.dgetL, EL.dgetC, EL.dputC, EL.isDL, EL.isDC, EL.view_dat, EL.view_loc, EL.view_deck, EL.view_gts, EL.view_ob, EL.viewC_c, EL.oc_lst, EL.oc_dk, EL.oc_dt, EL.oc_ins, EL.asData_nil, EL.asData_cons, EL.asData_map, EL.asData_snoc, EL.views_nil, EL.views_cons, Option.bind_some, Option.map_some, Option.map_none, List.map_map, List.map_cons, List.map_nil, List.append_nil, List.cons_append, List.nil_append, List.length_cons, List.length_nil, List.length_map, List.replicate_succ, List.replicate_zero, List.getElem?_cons_zero, List.getElem?_cons_succ, List.set_cons_zero, List.set_cons_succ, Nat.reduceSub, Nat.reduceAdd, Nat.sub_self, Nat.zero_add, Option.some.injEq, EL.LV.dat.injEq, EL.LV.loc.injEq, EL.LV.ob.injEq, EL.Cell.lst.injEq, EL.Cell.dk.injEq, EL.Cell.ins.injEq, DL.DV.dat.injEq, PyData.bool.injEq, PyData.int.injEq, PyData.str.injEq, PyData.tuple.injEq, PyData.list.injEq, DL.DV.ob.injEq, V.ty.injEq, DL.DV.own.injEq, DL.OC.lst.injEq, List.cons.injEq, exists_eq_left', exists_eq_left, exists_eq_right, exists_eq_right', exists_and_left, and_true, true_and, Bool.not_true, Bool.not_false, Bool.and_true, Bool.true_and, true_or, Bool.not_eq_true', Bool.false_eq_true, if_true, if_false, reduceIte, reduceCtorEq])
              rw [show isStrD (.str (ofL ((pieces l).map dec))) = true from rfl, Bool.not_true, iteB_false, signs_ofL, List.map_map]
              rw [← List.map_map]
              have hpl : ((pieces l).map dec).length ≤ 300 := by
                rw [List.length_map]
                exact hp
              have hkn : ∀ c ∈ (pieces l).map dec, c ∈ S := fun c hc => by
                obtain ⟨x, hx, rfl⟩ := List.mem_map.mp hc
                exact hall x hx
              refine lcl_map (q := fun c => .int ((c : Nat) : Int)) trivial (fun c hx Q hQ => ?_) (by rw [sizeLine_eq]; omega) ?_
              · (try simp only [DL.iteB_true, DL.iteB_false, EL.zSeq, EL.zNext, EL.zRet, EL.zRetF, EL.zRetN, EL.zIf, EL.zAsg, EL.zAsgF, EL.zAsgC, EL.zDrop, EL.zRel, EL.zFor, EL.zBreak, EL.zCont, EL.zAsgT, EL.zPar, EL.zPar3, EL.zAug, EL.zCut, EL.zRaise, EL.zWhile, EL.zTrim, EL.trimmed, EL.zDPut, EL.zFld, EL.zFldInc, EL.xVar, EL.xC, EL.xOb, EL.xGts, EL.x2, EL.x1, EL.xCall, EL.xB, EL.xTru, EL.xAnd, EL.xOr, EL.xNot, EL.xIf, EL.yAnd, EL.yOr, EL.yNot, EL.xNil, EL.xCons, EL.xTup, EL.xLst, EL.xDnew, EL.xNew, EL.xCell, EL.xIt, EL.xRng1, EL.xRng2, EL.xRng3, EL.xLc, EL.xDc, EL.xAG, EL.xFnD, EL.xFnDX, EL.xFnDK, EL.xSl, EL.xNone, EL.xPart, EL.xListOf, EL.xM0, EL.xM1, EL.yYes, EL.xIx, EL.xApp, EL.xExt, EL.xPop, EL.xRev, EL.xLen, EL.xDGet, EL.xDIn, EL.xGet1, EL.xGet2, EL.xOrT, EL.xAndT, EL.xNotT2, EL.xFld, EL.xMeth, EL.xMake, EL.xPairs, EL.xDisp, EL.xChain, EL.xFn, EL.xFnK, EL.glN, EL.glT_t, EL.glNil_n, EL.glCons_c, DL.op2, DL.op1, DL.opC, DL.c1, DL.isiP, DL.typeO, DL.tyIs, DL.inG, DL.isND, EL.wipeL, DL.le_s0, DL.le_s1, DL.le_s2, DL.le_s3, DL.le_s4, DL.le_s5, DL.le_s6, DL.le_s7, DL.le_s8, DL.le_s9, DL.le_s10, EL.start0L, EL.rtD_dat, EL.up_dat, EL.up_ob, EL.ofDV_dat, EL.dvL_dat, EL.dvL_deck, EL.dvL_ob, EL.frz_dat, EL.frz_loc, DL.lend, DL.noOwn, DL.DV.isOwn, DL.pd_dat, DL.pd_own, DL.ocpd_lst, DL.ocpd_dk, EL.itemsL, EL.itemsOfL, EL.seqL, EL.lenL, EL.ixL, EL.lookC, EL.truL, EL.truC, EL.dgetL, EL.dgetC, EL.dputC, EL.isDL, EL.isDC, EL.view_dat, EL.view_loc, EL.view_deck, EL.view_gts, EL.view_ob, EL.viewC_c, EL.oc_lst, EL.oc_dk, EL.oc_dt, EL.oc_ins, EL.asData_nil, EL.asData_cons, EL.asData_map, EL.asData_snoc, EL.views_nil, EL.views_cons, Option.bind_some, Option.map_some, Option.map_none, List.map_map, List.map_cons, List.map_nil, List.append_nil, List.cons_append, List.nil_append, List.length_cons, List.length_nil, List.length_map, List.replicate_succ, List.replicate_zero, List.getElem?_cons_zero, List.getElem?_cons_succ, List.set_cons_zero, List.set_cons_succ, Nat.reduceSub, Nat.reduceAdd, Nat.sub_self, Nat.zero_add, Option.some.injEq, EL.LV.dat.injEq, EL.LV.loc.injEq, EL.LV.ob.injEq, EL.Cell.lst.injEq, EL.Cell.dk.injEq, EL.Cell.ins.injEq, DL.DV.dat.injEq, PyData.bool.injEq, PyData.int.injEq, PyData.str.injEq, PyData.tuple.injEq, PyData.list.injEq, DL.DV.ob.injEq, V.ty.injEq, DL.DV.own.injEq, DL.OC.lst.injEq, List.cons.injEq, exists_eq_left', exists_eq_left, exists_eq_right, exists_eq_right', exists_and_left, and_true, true_and, Bool.not_true, Bool.not_false, Bool.and_true, Bool.true_and, true_or, Bool.not_eq_true', Bool.false_eq_true, if_true, if_false, reduceIte, reduceCtorEq])
                exact ⟨rfl, hQ⟩
              · refine ⟨_, congrArg (Option.map _) (asData_fun (fun c => PyData.int ((c : Nat) : Int)) ((pieces l).map dec)), ?_⟩
                show eqP true (.list (((pieces l).map dec).map fun c => PyData.int ((c : Nat) : Int))) _ _
                rw [List.map_map]
                refine ints_eq (fun x => ((dec x : Nat) : Int)) (pieces l) true _ ⟨_, rfl, ?_⟩
                rw [Bool.not_true, iteB_false]
                refine ⟨_, rfl, (fun z hz => by cases hz; rw [ofL_len]; omega), (fun z => ?_), fun cs2 e3 _ => ?_⟩
                · have : knownB (.str (ofL ((pieces l).map dec))) = true := List.all_eq_true.mpr fun c hc => decide_eq_true (hkn c hc)
                  rw [this] at z
                  cases z
                · cases ofL_inj (PyData.str.inj e3)
                  rw [enc_dec h7 hw]
                  have hs := say_word hw hl
                  refine ⟨_, _, rfl, hs, hs, ?_⟩
                  rw [beq_self_eq_true]
                  exact h
    · have ec : codes l = .none := if_neg h7
      rw [ec]
      (try simp only [DL.iteB_true, DL.iteB_false, EL.zSeq, EL.zNext, EL.zRet, EL.zRetF, EL.zRetN, EL.zIf, EL.zAsg, EL.zAsgF, EL.zAsgC, EL.zDrop, EL.zRel, EL.zFor, EL.zBreak, EL.zCont, EL.zAsgT, EL.zPar, EL.zPar3, EL.zAug, EL.zCut, EL.zRaise, EL.zWhile, EL.zTrim, EL.trimmed, EL.zDPut, EL.zFld, EL.zFldInc, EL.xVar, EL.xC, EL.xOb, EL.xGts, EL.x2, EL.x1, EL.xCall, EL.xB, EL.xTru, EL.xAnd, EL.xOr, EL.xNot, EL.xIf, EL.yAnd, EL.yOr, EL.yNot, EL.xNil, EL.xCons, EL.xTup, EL.xLst, EL.xDnew, EL.xNew, EL.xCell, EL.xIt, EL.xRng1, EL.xRng2, EL.xRng3, EL.xLc, EL.xDc, EL.xAG, EL.xFnD, EL.xFnDX, EL.xFnDK, EL.xSl, EL.xNone, EL.xPart, EL.xListOf, EL.xM0, EL.xM1, EL.yYes, EL.xIx, EL.xApp, EL.xExt, EL.xPop, EL.xRev, EL.xLen, EL.xDGet, EL.xDIn, EL.xGet1, EL.xGet2, EL.xOrT, EL.xAndT, EL.xNotT2, EL.xFld, EL.xMeth, EL.xMake, EL.xPairs, EL.xDisp, EL.xChain, EL.xFn, EL.xFnK, EL.glN, EL.glT_t, EL.glNil_n, EL.glCons_c, DL.op2, DL.op1, DL.opC, DL.c1, DL.isiP, DL.typeO, DL.tyIs, DL.inG, DL.isND, EL.wipeL, DL.le_s0, DL.le_s1, DL.le_s2, DL.le_s3, DL.le_s4, DL.le_s5, DL.le_s6, DL.le_s7, DL.le_s8, DL.le_s9, DL.le_s10, EL.start0L, EL.rtD_dat, EL.up_dat, EL.up_ob, EL.ofDV_dat, EL.dvL_dat, EL.dvL_deck, EL.dvL_ob, EL.frz_dat, EL.frz_loc, DL.lend, DL.noOwn, DL.DV.isOwn, DL.pd_dat, DL.pd_own, DL.ocpd_lst, DL.ocpd_dk, EL.itemsL, EL.itemsOfL, EL.seqL, EL.lenL, EL.ixL, EL.lookC, EL.truL, EL.truC, EL.dgetL, EL.dgetC, EL.dputC, EL.isDL, EL.isDC, EL.view_dat, EL.view_loc, EL.view_deck, EL.view_gts, EL.view_ob, EL.viewC_c, EL.oc_lst, EL.oc_dk, EL.oc_dt, EL.oc_ins, EL.asData_nil, EL.asData_cons, EL.asData_map, EL.asData_snoc, EL.views_nil, EL.views_cons, Option.bind_some, Option.map_some, Option.map_none, List.map_map, List.map_cons, List.map_nil, List.append_nil, List.cons_append, List.nil_append, List.length_cons, List.length_nil, List.length_map, List.replicate_succ, List.replicate_zero, List.getElem?_cons_zero, List.getElem?_cons_succ, List.set_cons_zero, List.set_cons_succ, Nat.reduceSub, Nat.reduceAdd, Nat.sub_self, Nat.zero_add, Option.some.injEq, EL.LV.dat.injEq, EL.LV.loc.injEq, EL.LV.ob.injEq, EL.Cell.lst.injEq, EL.Cell.dk.injEq, EL.Cell.ins.injEq, DL.DV.dat.injEq, PyData.bool.injEq, PyData.int.injEq, PyData.str.injEq, PyData.tuple.injEq, PyData.list.injEq, DL.DV.ob.injEq, V.ty.injEq, DL.DV.own.injEq, DL.OC.lst.injEq, List.cons.injEq, exists_eq_left', exists_eq_left, exists_eq_right, exists_eq_right', exists_and_left, and_true, true_and, Bool.not_true, Bool.not_false, Bool.and_true, Bool.true_and, true_or, Bool.not_eq_true', Bool.false_eq_true, if_true, if_false, reduceIte, reduceCtorEq])
      refine ⟨trivial, ?_⟩
      refine ⟨_, rfl, ?_⟩
      refine ints_ne_nil ⟨_, rfl, ?_⟩
      refine ⟨_, rfl, (fun z hz => by cases hz; exact hl), (fun z => by rw [hwd] at z; cases z), fun l2 e2 _ => ?_⟩
      cases ofL_inj (PyData.str.inj e2)
      rw [tow_short h7]
      exact h
end
end PB


set_option Elab.async false
set_option linter.all false
set_option maxRecDepth 100000
set_option maxHeartbeats 1000000
/-! A law's start with more than the deck told. -/
namespace EL
open PySem PySem.Spec PyProof.Rows L2 KT KG KX KY KE0 KQ LK GxR DL KA DW QX QY QZ QB QE QF QT LB LamX
theorem takesN {X : Cx} {W : WX} {n : Nat} (tk : Takes X W) (hn : X.N.length = n) : Takes X (fun cls d σ H => σ.length = n → W cls d σ H) :=
  fun u s' ⟨a, B, sI, pins, σ, H, cls, d, e, I, gr, up, sky, na, os, ag, wish⟩ => tk u s' ⟨a, B, sI, pins, σ, H, cls, d, e, I, gr, up, sky, na, os, ag, wish (I.len.trans hn)⟩
section
variable {K : PySem.W.Frag} {Tl : List Addr} {W : Wc} {d L : Addr} {H1 : Hp}
def stt0 (d L : Addr) (H : Hp) : Stt := { M := fun b => b = d ∨ b = L, ms := [], H := H, η := [] }
theorem stt0_cl (ok : W.ok H1) (hv : ∀ a, W.vol a ↔ a = d ∨ a = L) (dk : DK d L H1) : Cl W (stt0 d L H1) (stt0 d L H1) := by
  have here : ∀ b, b = d ∨ b = L → H1 b ≠ none := fun b hb => by
    obtain ⟨o, e, _⟩ := dk_here dk hb
    rw [e]
    exact fun z => by cases z
  exact ⟨ok, fun a z => (hv a).mp z, fun a m => here a m, rfl, (fun i j a ci cj e => by cases e), (fun i c e => by cases e), .refl⟩
/-- a call of a def of the data layer behind the deck's making, its arguments data -/
theorem spD_at {F : FnD} {vs : List V} {ds : List PyData} {Kk : PyData → Prop} {Q : VK} {E : XK} (hW : WP K Tl W) (ok : W.ok H1) (hv : ∀ a, W.vol a ↔ a = d ∨ a = L) (dk : DK d L H1) (hvs : RelLs W (stt0 d L H1) vs (ds.map .dat)) (f : F (ds.map DV.dat) Kk noKE)
    (hQ : ∀ x, Kk x → ∀ v H', Stp W H1 H' → Dx (fun b => b = d ∨ b = L) H' v x → Q v H') : spD (WP K Tl) F vs H1 Q E := by
  have k := stt0_cl ok hv dk
  have vw : ∀ ds : List PyData, views (stt0 d L H1).η (ds.map .dat) = some (ds.map DV.dat) := fun ds => by
    induction ds with
    | nil => rfl
    | cons x r ih =>
      rw [List.map_cons, views_cons, view_dat, Option.bind_some, ih]
      rfl
  have no : ∀ ds : List PyData, noOwn (ds.map DV.dat) = true := fun ds => by
    induction ds with
    | nil => rfl
    | cons x r ih => exact ih
  refine ⟨(stt0 d L H1).wd W, _, _, _, hW, rfl, k.gh, views_rel k hvs (vw ds), no ds, f, fun x hk v H' s2 r2 => hQ x hk v H' s2 r2, fun _ _ z => z.elim⟩
/-- .. and two locals told: the deck and a datum -/
theorem law_start2 {σ : L2.St} {n i j : Nat} {g : LS} {D : Ends} {c : Wc → Prop} {v : V} {x : PyData} (hc : c W) (ok : W.ok H1) (hv : ∀ a, W.vol a ↔ a = d ∨ a = L) (dk : DK d L H1) (hσ : σ.length = n) (hd : W.deck (.ref d)) (hi : σ[i]? = some (some (.ref d))) (hj : σ[j]? = some (some v)) (hx : Dx (fun b => b = d ∨ b = L) H1 v x)
    (h : g { nx := fun _ _ => False, rt := rtD fun x => x = .bool true, n := 0 } (((List.replicate n none).set i (some .deck)).set j (some (.dat x))) []) (hQ : ∀ H', D.rt (.bl true) H') : tAnyW c g D σ H1 := by
  have k : Cl W (stt0 d L H1) (stt0 d L H1) := stt0_cl ok hv dk
  refine ⟨W, stt0 d L H1, hc, [], stt0 d L H1, _, _, rfl, ⟨k, .refl, k, ⟨by simp [hσ], fun m lv e => ?_⟩, fun p hp => by cases hp⟩, h, ⟨fun _ h => h.elim, fun _ h => h.elim, fun _ h => h.elim, fun {S2 lv v} k2 x2 r2 h2 => ?_, rfl⟩⟩
  · rcases setAt e with ⟨rfl, q, _⟩ | ⟨_, e⟩
    · cases q
      exact ⟨_, hj, hx⟩
    rcases setAt e with ⟨rfl, q, _⟩ | ⟨_, q⟩
    · cases q
      exact ⟨_, hi, hd⟩
    · rw [List.getElem?_replicate] at q
      split at q <;> cases q
  · obtain ⟨x, rfl, rfl⟩ := h2
    cases (show Dx S2.M S2.H v (.bool true) from r2)
    exact hQ _
end
end EL


set_option Elab.async false
set_option linter.all false
set_option maxRecDepth 100000
set_option maxHeartbeats 4000000
/-! Texts as words: the law. -/
namespace PC
open PySem PySem.Spec PyProof.Rows L2 KT KG KM KX KY KZ KE0 KQ LK GxR DL KA DW EL QE QF TP GA PA PB LB LamX QY QZ QB QT
section
variable {P : Program} {w : World} {K : PySem.W.Frag} {mg : Str → Option Value} {base : Heap} {Tl : List Addr} {fn : Str → FuncData} {X : Cx} {W : Wc} {S0 : Stt}
abbrev lawX (P : Program) (w : World) (K : PySem.W.Frag) (mg : Str → Option Value) (base : Heap) (cdv : Value) (A : Around) (outer : List Env) (s : Shared) (H : Hp) (E : XK) : Cx := (cxOf CX0 P w K mg base N_law "law" (defScope s_law) (He.fAd K ("law", none)) cdv A outer s H E).nox
def gives {q : Str} {cdw : Value} {A : Around} {outer : List Env} {sh : Shared} {H : Hp} {E : XK} (p : Top P w K mg base Tl fn) (hW : WP K Tl W) (hL : LamWE (He.cT K ("law", none)).2 q W) (hA0 : (lawX P w K mg base cdw A outer sh H E).A.guards = some []) (hu0 : (lawX P w K mg base cdw A outer sh H E).A.units + 300 < cLine) : { gT : Addr → LamR → LS // ∀ cdv, GivesTo (lawX P w K mg base cdw A outer sh H E) N__law_tried "_law_tried" (defScope s__law_tried) (He.fAd K ("_law_tried", none)) cdv (defBody s__law_tried) "_law_call" q (TTl W N__law_tried.length gT) } :=
  ⟨_, fun cdv => gives_l fun f c' s S1 tl lam hl hc k1 act => by
    have hA1 : (lawX P w K mg base cdw A outer sh H E).A.guards = some [] := hA0
    have hu1 : (lawX P w K mg base cdw A outer sh H E).A.units + 3 + 200 < cLine := by omega
    exact (lss_cons (ls_try (hl := [("QuickError", 1, _)]) p.Er nq hW.k (by simp [ers]) rfl rfl sc__law_tried.nd L2.takes0 (fun S1' x1 k1' Wi pn xe KS tk ps hS => by exact (lss_one (ls_set (i := 2) sc__law_tried.nd rfl (.inl rfl) (le_lam hL (act (fun cls d σ H => σ.length = N__law_tried.length → Wi cls d σ H) pn xe (fun cls d H => ∀ σ : L2.St, σ.length = N__law_tried.length → Wi cls d σ H) _ _ (takesN tk rfl) (fun cls d σ' H' e l => e σ' l)) (fun _ _ _ h => h) hl hS hc k1 x1 k1')))) (hds_cons (i := 1) rfl (by rfl) ⟨by rfl, by decide, .inl p.g_QuickError⟩ (fun a pn => by exact (lss_cons (ls_if (lt_val (le_isErr' p.Er nq (by simp [ers]) (lvar 1) p.g_BadText p.T.isinstance (by rfl) (by rfl) (by rfl) (by rfl) (by rfl) hW.k (by rfl) (by rfl) (by decide) (by rfl) (by rfl) (by rfl))) (lss_one (ls_ret (le_tup (la_cons EL.le_str (la_cons EL.le_str (la_cons (le_isErr' p.Er nq (by simp [ers]) (lvar 1) p.g_BadWord p.T.isinstance (by rfl) (by rfl) (by rfl) (by rfl) (by rfl) hW.k (by rfl) (by rfl) (by decide) (by rfl) (by rfl) (by rfl)) (la_cons (le_cb (pe_callB (call_reprU (by exact hu1) (by exact hA1) p.hm W.vol) (by rfl) p.T.repr (by decide +kernel) (la_cons (le_errF' p.Er (lvar 1) (by rfl) (by rfl) (by rfl) (by rfl) (by rfl) hW.k (by rfl)) la_nil)) (fun _ => sn_repr)) la_nil))))))) lss_nil)
          (lss_one (ls_ret (EL.le_if (lt_val (le_isErr' p.Er nq (by simp [ers]) (lvar 1) p.g_BadWord p.T.isinstance (by rfl) (by rfl) (by rfl) (by rfl) (by rfl) hW.k (by rfl) (by rfl) (by decide) (by rfl) (by rfl) (by rfl))) (le_tup (la_cons EL.le_str (la_cons EL.le_str (la_cons (le_cb (pe_callB (call_reprU (by exact hu1) (by exact hA1) p.hm W.vol) (by rfl) p.T.repr (by decide +kernel) (la_cons (le_errF' p.Er (lvar 1) (by rfl) (by rfl) (by rfl) (by rfl) (by rfl) hW.k (by rfl)) la_nil)) (fun _ => sn_repr)) la_nil)))) (le_tup (la_cons EL.le_str la_nil))))))) hds_nil))
      (lss_one (ls_ret (le_tup (la_cons EL.le_str (la_cons (lvar 2) la_nil))))))⟩
end
end PC


set_option Elab.async false
set_option linter.all false
set_option maxRecDepth 100000
set_option maxHeartbeats 8000000
/-! Texts as words: the law. -/
namespace OL
open PySem PySem.Spec PyProof.Rows L2 KT KG KM KX KY KZ KE0 KQ LK GxR DL KA DW EL QE QF TP GA PA PB PC LB LamX QY QZ QB QT
section
variable {P : Program} {w : World} {K : PySem.W.Frag} {mg : Str → Option Value} {base : Heap} {Tl : List Addr} {fn : Str → FuncData}
theorem iteB_same {c : Bool} {A : Prop} (h : A) : iteB c A A := by cases c <;> exact h
theorem picks {as es : List PyData} (h : All2 (fun _ e => ∃ c ∈ S, e = .str ⟨#[c]⟩) as es) : ∃ ts : List Nat, es = ts.map (fun c => .str ⟨#[c]⟩) ∧ (∀ c ∈ ts, c ∈ S) ∧ ts.length = as.length := by
  induction h with
  | nil => exact ⟨[], rfl, (fun c hc => by cases hc), rfl⟩
  | cons hr _ ih =>
    obtain ⟨c, hc, rfl⟩ := hr
    obtain ⟨ts, rfl, h1, h2⟩ := ih
    exact ⟨c :: ts, rfl, List.forall_mem_cons.mpr ⟨hc, h1⟩, by simp [h2]⟩
theorem join_signs {ts : List Nat} {K : PyData → Prop} (hl : ts.length ≤ 16777216) (k : K (.str (ofL ts))) : joinP "" (.list (ts.map fun c => .str ⟨#[c]⟩)) K := by
  rw [show ts.map (fun c => PyData.str ⟨#[c]⟩) = (ts.map fun c => [c]).map (fun l => .str (ofL l)) by rw [List.map_map]; rfl]
  have e : ∀ ts : List Nat, (ts.map fun c => [c]).flatten = ts ∧ ((ts.map fun c => [c]).map (·.length)).sum = ts.length := fun ts => by
    induction ts with
    | nil => exact ⟨rfl, rfl⟩
    | cons c r ih =>
      refine ⟨by simp [ih.1], ?_⟩
      rw [List.map_cons, List.map_cons, List.sum_cons, ih.2]
      simp
      omega
  refine joinP_ofL (by rw [(e ts).2]; exact hl) ?_
  rw [(e ts).1]
  exact k
theorem wt_use {ts : List Nat} {K : PyData → Prop} {KE : Str → PyData → Prop} (hts : ∀ c ∈ ts, c ∈ S) (hl : ts.length ≤ 1000) (k : K (.str (ofL (enc ts)))) : F_wt [.dat (.str (ofL ts))] K KE := by
  refine ⟨_, rfl, (fun z hz => by cases hz; exact hl), (fun z => ?_), fun cs2 e _ => ?_⟩
  · have : knownB (.str (ofL ts)) = true := List.all_eq_true.mpr fun c hc => decide_eq_true (hts c hc)
    rw [this] at z
    cases z
  · cases ofL_inj (PyData.str.inj e)
    exact k
theorem tw_use {l : List Nat} {K : PyData → Prop} {KE : Str → PyData → Prop} (hw : isW (ofL l) = true) (hl : l.length ≤ 2000) (k : K (tow l)) : F_tw [.dat (.str (ofL l))] K KE := by
  refine ⟨_, rfl, (fun z hz => by cases hz; exact hl), (fun z => ?_), fun cs2 e _ => ?_⟩
  · have : wordB (.str (ofL l)) = true := hw
    rw [this] at z
    cases z
  · cases ofL_inj (PyData.str.inj e)
    exact k
theorem same_use {a : PyData} {K : PyData → Prop} {KE : Str → PyData → Prop} (h : Say a) (k : K (.bool true)) : F_same [.dat a, .dat a] K KE := ⟨_, _, rfl, h, h, by rw [beq_self_eq_true]; exact k⟩
theorem say_text {ts : List Nat} (hts : ∀ c ∈ ts, c ∈ S) (hl : ts.length ≤ 2000) : Say (.str (ofL ts)) := say_str (fun c hc => by
  have := S_lt c (hts c hc)
  omega) (by rw [ofL_len]; omega)
theorem picks7 {as es : List PyData} (h : All2 (fun _ e => ∃ c, c < 128 ∧ e = .str (ofL (bits c))) as es) : ∃ ts : List Nat, es = ts.map (fun c => .str (ofL (bits c))) ∧ (∀ c ∈ ts, c < 128) ∧ ts.length = as.length := by
  induction h with
  | nil => exact ⟨[], rfl, (fun c hc => by cases hc), rfl⟩
  | cons hr _ ih =>
    obtain ⟨c, hc, rfl⟩ := hr
    obtain ⟨ts, rfl, h1, h2⟩ := ih
    exact ⟨c :: ts, rfl, List.forall_mem_cons.mpr ⟨hc, h1⟩, by simp [h2]⟩
theorem join_bits {ts : List Nat} {K : PyData → Prop} (hl : ts.length ≤ 1000) (k : K (.str (ofL (enc ts)))) : joinP "" (.list (ts.map fun c => .str (ofL (bits c)))) K := by
  rw [show ts.map (fun c => PyData.str (ofL (bits c))) = (ts.map bits).map (fun l => .str (ofL l)) by rw [List.map_map]; rfl]
  refine joinP_ofL (by rw [sum_bits]; omega) ?_
  rw [← List.flatMap_def]
  exact k
theorem say_tow {l : List Nat} (hl : l.length ≤ 2000) : Say (tow l) := by
  unfold tow
  split
  · rename_i h
    refine say_text (fun c hc => ?_) (by
      unfold pieces
      rw [List.length_map, List.length_map, List.length_range]
      omega)
    obtain ⟨x, hx, rfl⟩ := List.mem_map.mp hc
    have := of_decide_eq_true (List.all_eq_true.mp h x hx)
    obtain ⟨c, hcS, rfl⟩ := List.mem_map.mp this
    rw [dec_bits c (S_lt c hcS)]
    exact hcS
  · exact ⟨rfl, by simp [PyData.depth], by decide +kernel⟩
theorem isErr_at {ers : List Str} {i : Nat} {x c : Str} {d : PyData} {ρ : LEnv} {η : LH} {K : LV → LH → Prop} (h : ρ[i]? = some (some (.err c d))) (hc : c ∈ ers) (k : K (.dat (.bool (isKind c x))) η) : xIsErr ers (xVar i) x ρ η K := ⟨_, h, c, d, rfl, hc, k⟩
theorem errF_at {ers : List Str} {i : Nat} {n c : Str} {d : PyData} {ρ : LEnv} {η : LH} {K : LV → LH → Prop} (h : ρ[i]? = some (some (.err c d))) (hc : c ∈ ers) (hn : fld c = n) (k : K (.dat d) η) : xErrF ers (xVar i) n ρ η K := ⟨_, h, c, d, rfl, hc, hn, k⟩
theorem kTT : isKind "BadText" "BadText" = true := by decide +kernel
theorem kTW : isKind "BadText" "BadWord" = false := by decide +kernel
theorem kWT : isKind "BadWord" "BadText" = false := by decide +kernel
theorem kWW : isKind "BadWord" "BadWord" = true := by decide +kernel
theorem eq_self {d : PyData} {K : PyData → Prop} (h1 : d.canLay0 = true) (h2 : d.depth ≤ 64) (k : K (.bool false)) : eqP true d d K := by
  refine ⟨by simp [eqOk, SeqAt.shaped, h1, h2], ?_⟩
  rw [SeqAt.eqv_refl d h1]
  exact k
theorem lay3 (d : PyData) : PyData.canLay0 (.tuple [.str "raised", .str "word", .str d.shown]) = true := by
  show (PyData.strOk "raised" && (PyData.strOk "word" && (PyData.strOk d.shown && true))) = true
  rw [SO.shown_strOk, show PyData.strOk "raised" = true by decide +kernel, show PyData.strOk "word" = true by decide +kernel]
  rfl
theorem ok_law (p : Top P w K mg base Tl fn) (nt : (He.cT K ("law", none)).2 ∉ Tl) (TLaw : GxR.TabB base mg (He.cT K ("law", none)).1 (He.cT K ("law", none)).2) : FnG P w K mg base 230 (He.fAd K ("law", none)) (fn "law") P_law (spLaw K Tl (He.cT K ("law", none)).2) := by
  have G__law_deck : FnOk P w K mg base CX0 1 (He.fAd K ("_law_deck", none)) (fn "_law_deck") KA.P__law_deck (spDeck K) := KA.ok_deck p.D__law_deck p.TD
  refine okGC (fun_of p.D_law.F) sc_law (fun vs H Q E h => by obtain ⟨a, ns, rfl, _⟩ := h; rfl) (fun cdv A outer s H vs Q E hcd hA0 hr h => ?_)
  obtain ⟨a, ns, rfl, hS, hT, hE, hQ⟩ := h
  have hA : (lawX P w K mg base cdv A outer s H E).A.guards = some [] := hA0
  have hu : (lawX P w K mg base cdv A outer s H E).A.units + 300 < cLine := by
    have := hr.un
    show (A.deeper _).units + 300 < cLine
    omega
  have TL_ : LamX.TabB base mg (He.cT K ("law", none)).1 (He.cT K ("law", none)).2 := ⟨TLaw.code, TLaw.bm, TLaw.gP⟩
  refine ⟨_, pss_cons (ps_asg (pe_tup (pa_cons (pe_call G__law_deck (hr.mono (by decide)) (by rfl) p.D__law_deck.g p.D__law_deck.F.kp p.D__law_deck.b .nil pass0 (pa_cons (pv 0) pa_nil)) (pa_cons (pe_call0 (ok__law_signs p) (hr.mono (by decide)) (by rfl) p.D__law_signs.g p.D__law_signs.F.kp p.D__law_signs.b .nil pass0) pa_nil))) (pg_tup rfl (pgs_cons (pg_name (i := 1) sc_law.nd rfl (.inr rfl)) (pgs_cons (pg_name (i := 2) sc_law.nd rfl (.inr rfl)) pgs_nil)))) (pss_any (c := fun W => WP K Tl W ∧ LamWE (He.cT K ("law", none)).2 ("law.<locals>." ++ "<lambda>") W) fun W S0 ⟨hW, hL⟩ => by
    exact (lss_cons (ls_for PassesOwn.never rfl (li_range1 (by rfl) p.T.range (la_cons EL.le_int la_nil)) (pg_name (i := 3) sc_law.nd rfl (.inl rfl)) (sl_name (i := 3) trivial) (lss_cons (ls_set (i := 4) sc_law.nd rfl (.inl rfl) (le_op op_addD (fun _ => sn_add) (le_callD (pe_call (GA.ok__law_pick p) (hr.mono (by first | decide | omega)) (by rfl) p.D__law_pick.g p.D__law_pick.F.kp p.D__law_pick.b .nil pass0 (la_cons (lvar 1) (la_cons (le_new (lf_lst (la_cons EL.le_int (la_cons EL.le_int (la_cons EL.le_int (la_cons EL.le_int (la_cons EL.le_int (la_cons EL.le_int (la_cons EL.le_int la_nil))))))))) la_nil))) hW) (le_callD (pe_call (GA.ok__law_draw p) (hr.mono (by first | decide | omega)) (by rfl) p.D__law_draw.g p.D__law_draw.F.kp p.D__law_draw.b .nil pass0 (la_cons (lvar 1) (la_cons EL.le_int la_nil))) hW)))
          (lss_cons (ls_set (i := 5) sc_law.nd rfl (.inl rfl) (le_m1 (pe_join EL.le_str (le_new (lf_lc (own := [("_law_place", 12)]) (g := gName 12) rfl sc_law.nd (li_range1 (by rfl) p.T.range (la_cons (lvar 4) la_nil)) (blkOk_by (own := [("_law_place", 12)]) (N := N_law) (sc := defScope s_law) (by decide +kernel)) (fun _ _ _ _ _ => (pg_name (i := 12) sc_law.nd rfl (.inl rfl))) (sl_name (i := 12) (by simp)) (fun _ _ _ _ _ => lts_nil) (fun _ _ _ _ _ => (le_callD (pe_call (GA.ok__law_pick p) (hr.mono (by first | decide | omega)) (by rfl) p.D__law_pick.g p.D__law_pick.F.kp p.D__law_pick.b .nil pass0 (la_cons (lvar 1) (la_cons (lvar 2) la_nil))) hW))))) (fun _ => sn_join)))
          (lss_cons (ls_set (i := 6) sc_law.nd rfl (.inl rfl) (le_callD (pe_call (ok__law_word_of p) (hr.mono (by first | decide | omega)) (by rfl) p.D__law_word_of.g p.D__law_word_of.F.kp p.D__law_word_of.b .nil pass0 (la_cons (lvar 5) la_nil)) hW))
          (lss_cons (ls_set (i := 7) sc_law.nd rfl (.inl rfl) (EL.le_if (lt_cmp op_lt (fun _ => sn_cmp) (lvar 3) EL.le_int) (le_callD (pe_call (ok_word_of_text p) (hr.mono (by first | decide | omega)) (by rfl) p.D_word_of_text.g p.D_word_of_text.F.kp p.D_word_of_text.b .nil passX0 (la_cons (lvar 5) la_nil)) hW) (le_callDK (pe_callK0 (g := (fun l => l)) (ok_word_of_text p) (hr.mono (by first | decide | omega)) (by rfl) p.D_word_of_text.g p.D_word_of_text.F.kp p.kb_word_of_text_0 passX0 (lk_cons (lvar 5) lk_nil)) (fun r => r) hW)))
          (lss_cons (ls_if (PW.pt (lw_or (lt_not (lt_val (le_callD (pe_callG (GA.ok__law_same p) hA (hr.mono (by first | decide | omega)) (by rfl) p.D__law_same.g p.D__law_same.F.kp p.D__law_same.b (la_cons (lvar 7) (la_cons (lvar 6) la_nil))) hW))) (lw_or1 (lt_not (lt_val (le_callD (pe_callG (GA.ok__law_same p) hA (hr.mono (by first | decide | omega)) (by rfl) p.D__law_same.g p.D__law_same.F.kp p.D__law_same.b (la_cons (le_callD (pe_call (ok_text_of_word p) (hr.mono (by first | decide | omega)) (by rfl) p.D_text_of_word.g p.D_text_of_word.F.kp p.D_text_of_word.b .nil passX0 (la_cons (lvar 6) la_nil)) hW) (la_cons (lvar 5) la_nil))) hW)))))) (lss_one (ls_ret le_bl)) lss_nil)
          (lss_cons (ls_par (ps_par (i := 10) (j := 11) (by rfl) sc_law.nd rfl rfl (by decide) rfl rfl (la_cons (le_callD (pe_call (GA.ok__law_draw p) (hr.mono (by first | decide | omega)) (by rfl) p.D__law_draw.g p.D__law_draw.F.kp p.D__law_draw.b .nil pass0 (la_cons (lvar 1) (la_cons (le_op op_addD (fun _ => sn_add) (le_len (pe_callB call_len (by rfl) p.T.len (by decide +kernel) (pa_cons (lvar 5) pa_nil))) EL.le_int) la_nil))) hW) (la_cons (le_callD (pe_call (ok__law_bits p) (hr.mono (by first | decide | omega)) (by rfl) p.D__law_bits.g p.D__law_bits.F.kp p.D__law_bits.b .nil pass0 (la_cons (le_callD (pe_call (GA.ok__law_draw p) (hr.mono (by first | decide | omega)) (by rfl) p.D__law_draw.g p.D__law_draw.F.kp p.D__law_draw.b .nil pass0 (la_cons (lvar 1) (la_cons EL.le_int la_nil))) hW) la_nil)) hW) la_nil)) (by rfl)))
          (lss_cons (ls_set (i := 8) sc_law.nd rfl (.inl rfl) (le_op op_addD (fun _ => sn_add) (le_op op_addD (fun _ => sn_add) (le_slice (lvar 6) lo_none (lo_some (le_op op_mulW (fun _ => sn_int) EL.le_int (lvar 10)))) (lvar 11)) (le_slice (lvar 6) (lo_some (le_op op_addD (fun _ => sn_add) (le_op op_mulW (fun _ => sn_int) EL.le_int (lvar 10)) EL.le_int)) lo_none)))
          (lss_cons (ls_par (ps_par (i := 12) (j := 13) (by rfl) sc_law.nd rfl rfl (by decide) rfl rfl (la_cons (le_callD (pe_call (GA.ok__law_draw p) (hr.mono (by first | decide | omega)) (by rfl) p.D__law_draw.g p.D__law_draw.F.kp p.D__law_draw.b .nil pass0 (la_cons (lvar 1) (la_cons (le_op op_addD (fun _ => sn_add) (le_len (pe_callB call_len (by rfl) p.T.len (by decide +kernel) (pa_cons (lvar 6) pa_nil))) EL.le_int) la_nil))) hW) (la_cons (le_callD (pe_call (GA.ok__law_draw p) (hr.mono (by first | decide | omega)) (by rfl) p.D__law_draw.g p.D__law_draw.F.kp p.D__law_draw.b .nil pass0 (la_cons (lvar 1) (la_cons EL.le_int la_nil))) hW) la_nil)) (by rfl)))
          (lss_one (ls_for PassesOwn.never rfl (li_seq (le_tup (la_cons (lvar 8) (la_cons (le_op op_addD (fun _ => sn_add) (le_slice (lvar 6) lo_none (lo_some (lvar 12))) (le_slice (lvar 6) (lo_some (le_op op_addD (fun _ => sn_add) (lvar 12) (lvar 13))) lo_none)) (la_cons (le_op op_addD (fun _ => sn_add) (le_op op_addD (fun _ => sn_add) (le_slice (lvar 6) lo_none (lo_some (lvar 12))) (le_slice EL.le_str lo_none (lo_some (lvar 13)))) (le_slice (lvar 6) (lo_some (lvar 12)) (lo_some (le_op op_addD (fun _ => sn_add) (lvar 12) EL.le_int)))) la_nil)))) hW.k) (pg_name (i := 9) sc_law.nd rfl (.inr rfl)) (sl_name (i := 9) trivial) (lss_one (ls_if (PW.pt (lw_and (lt_cmp op_le (fun _ => sn_cmp) (le_len (pe_callB call_len (by rfl) p.T.len (by decide +kernel) (pa_cons (lvar 9) pa_nil))) EL.le_int) (lw_and1 (lt_not (lt_val (le_callD (pe_callG (ok__law_is_told p) hA (hr.mono (by first | decide | omega)) (by rfl) p.D__law_is_told.g p.D__law_is_told.F.kp p.D__law_is_told.b (la_cons (lvar 9) la_nil)) hW)))))) (lss_one (ls_ret le_bl)) lss_nil)))))))))))))
      (lss_cons (ls_set (i := 14) sc_law.nd rfl (.inr rfl) (le_op op_addD (fun _ => sn_add) (le_new (lf_lc (own := [("_law_sign", 15)]) (g := gName 15) rfl sc_law.nd (li_seq (lvar 2) hW.k) (blkOk_by (own := [("_law_sign", 15)]) (N := N_law) (sc := defScope s_law) (by decide +kernel)) (fun _ _ _ _ _ => (pg_name (i := 15) sc_law.nd rfl (.inl rfl))) (sl_name (i := 15) (by simp)) (fun _ _ _ _ _ => lts_nil) (fun _ _ _ _ _ => (le_cb (pe_callB call_ord (by rfl) p.T.ord (by decide +kernel) (la_cons (lvar 15) la_nil)) (fun _ => sn_ord))))) (le_op op_rep (fun _ => sn_mulL) (le_new (lf_lst (la_cons EL.le_int (la_cons EL.le_int (la_cons EL.le_int (la_cons EL.le_int la_nil)))))) EL.le_int)))
      (lss_cons (ls_set (i := 16) sc_law.nd rfl (.inl rfl) (le_m1 (pe_join EL.le_str (le_new (lf_lc (own := [("_law_place", 12)]) (g := gName 12) rfl sc_law.nd (li_range1 (by rfl) p.T.range (la_cons (le_callD (pe_call (GA.ok__law_pick p) (hr.mono (by first | decide | omega)) (by rfl) p.D__law_pick.g p.D__law_pick.F.kp p.D__law_pick.b .nil pass0 (la_cons (lvar 1) (la_cons (le_new (lf_lst (la_cons EL.le_int (la_cons EL.le_int (la_cons EL.le_int (la_cons EL.le_int la_nil)))))) la_nil))) hW) la_nil)) (blkOk_by (own := [("_law_place", 12)]) (N := N_law) (sc := defScope s_law) (by decide +kernel)) (fun _ _ _ _ _ => (pg_name (i := 12) sc_law.nd rfl (.inl rfl))) (sl_name (i := 12) (by simp)) (fun _ _ _ _ _ => lts_nil) (fun _ _ _ _ _ => (le_callD (pe_call (ok__law_bits p) (hr.mono (by first | decide | omega)) (by rfl) p.D__law_bits.g p.D__law_bits.F.kp p.D__law_bits.b .nil pass0 (la_cons (le_callD (pe_call (GA.ok__law_pick p) (hr.mono (by first | decide | omega)) (by rfl) p.D__law_pick.g p.D__law_pick.F.kp p.D__law_pick.b .nil pass0 (la_cons (lvar 1) (la_cons (lvar 14) la_nil))) hW) la_nil)) hW))))) (fun _ => sn_join)))
      (lss_cons (ls_if (PW.pt (lw_or (lt_not (lt_val (le_callD (pe_callG (ok__law_is_told p) hA (hr.mono (by first | decide | omega)) (by rfl) p.D__law_is_told.g p.D__law_is_told.F.kp p.D__law_is_told.b (la_cons (lvar 16) la_nil)) hW))) (lw_or1 (lt_not (lt_val (le_callD (pe_callG (GA.ok__law_same p) hA (hr.mono (by first | decide | omega)) (by rfl) p.D__law_same.g p.D__law_same.F.kp p.D__law_same.b (la_cons (le_callDK (pe_callK0 (g := (fun l => l)) (ok_text_of_word p) (hr.mono (by first | decide | omega)) (by rfl) p.D_text_of_word.g p.D_text_of_word.F.kp p.kb_text_of_word_0 passX0 (lk_cons (lvar 16) lk_nil)) (fun r => r) hW) (la_cons (le_callD (pe_call (ok_text_of_word p) (hr.mono (by first | decide | omega)) (by rfl) p.D_text_of_word.g p.D_text_of_word.F.kp p.D_text_of_word.b .nil passX0 (la_cons (lvar 16) la_nil)) hW) la_nil))) hW)))))) (lss_one (ls_ret le_bl)) lss_nil)
      (lss_cons (ls_for PassesOwn.never rfl (li_range1 (by rfl) p.T.range (la_cons EL.le_int la_nil)) (pg_name (i := 3) sc_law.nd rfl (.inl rfl)) (sl_name (i := 3) trivial) (lss_cons (ls_set (i := 9) sc_law.nd rfl (.inr rfl) (le_callD (pe_call (GA.ok__law_pick p) (hr.mono (by first | decide | omega)) (by rfl) p.D__law_pick.g p.D__law_pick.F.kp p.D__law_pick.b .nil pass0 (la_cons (lvar 1) (la_cons (le_new (lf_lst (la_cons le_non (la_cons EL.le_int (la_cons (le_un un_neg (fun _ => sn_neg) EL.le_int) (la_cons le_bl (la_cons le_bl (la_cons (le_tup la_nil) (la_cons (le_tup (la_cons EL.le_str la_nil)) (la_cons (le_new (lf_lst (la_cons EL.le_str la_nil))) (la_cons (le_new lf_dnew) (la_cons (le_new (lf_disp (trs := [(_, _)]) (pps_cons EL.le_str EL.le_int pps_nil) (by rfl) (by rfl) (fun z => by cases z) (by decide))) (la_cons (le_op op_pow (fun _ => sn_int) EL.le_int EL.le_int) (la_cons (le_tup (la_cons EL.le_str (la_cons EL.le_str la_nil))) (la_cons (le_new (lf_lst la_nil)) (la_cons EL.le_int la_nil)))))))))))))))) la_nil))) hW))
          (lss_cons (ls_if (lt_cmp (op_neX hr W.vol) (fun _ => sn_ne) (le_tried (k := 40) hL (gives p hW hL hA hu).2 (by rfl) p.D__law_tried sc__law_tried rfl (.inl rfl) rfl TL_ hcd (hr.mono (by first | decide | omega)) (show LamX.LamS (defScope s_law) _ from LamX.lamS_by (by decide +kernel)) rfl (fun _ _ _ _ _ => rfl) (fun A9 outer9 s9 H9 E9 f9 c9 S9 KE9 hE hr9 => (le_callDX (pe_call (ok_word_of_text p) (hr9.mono (by first | decide | omega)) (by rfl) p.D_word_of_text.g p.D_word_of_text.F.kp p.D_word_of_text.b .nil (passes_call (takes_of rfl rfl rfl rfl) (fun _ _ _ _ h => h)) (la_cons (lvar 9) la_nil)) hW hE))) (le_tup (la_cons EL.le_str (la_cons EL.le_str (la_cons le_bl (la_cons EL.le_str la_nil)))))) (lss_one (ls_ret le_bl)) lss_nil)
          (lss_cons (ls_set (i := 9) sc_law.nd rfl (.inr rfl) (le_callD (pe_call (GA.ok__law_pick p) (hr.mono (by first | decide | omega)) (by rfl) p.D__law_pick.g p.D__law_pick.F.kp p.D__law_pick.b .nil pass0 (la_cons (lvar 1) (la_cons (le_new (lf_lst (la_cons (lvar 9) (la_cons EL.le_str (la_cons EL.le_str (la_cons EL.le_str (la_cons EL.le_str (la_cons EL.le_str (la_cons EL.le_str (la_cons EL.le_str (la_cons EL.le_str (la_cons EL.le_str (la_cons EL.le_str la_nil))))))))))))) la_nil))) hW))
          (lss_one (ls_if (lt_cmp (op_neX hr W.vol) (fun _ => sn_ne) (le_tried (k := 40) hL (gives p hW hL hA hu).2 (by rfl) p.D__law_tried sc__law_tried rfl (.inl rfl) rfl TL_ hcd (hr.mono (by first | decide | omega)) (show LamX.LamS (defScope s_law) _ from LamX.lamS_by (by decide +kernel)) rfl (fun _ _ _ _ _ => rfl) (fun A9 outer9 s9 H9 E9 f9 c9 S9 KE9 hE hr9 => (le_callDX (pe_call (ok_text_of_word p) (hr9.mono (by first | decide | omega)) (by rfl) p.D_text_of_word.g p.D_text_of_word.F.kp p.D_text_of_word.b .nil (passes_call (takes_of rfl rfl rfl rfl) (fun _ _ _ _ h => h)) (la_cons (lvar 9) la_nil)) hW hE))) (le_tup (la_cons EL.le_str (la_cons EL.le_str (la_cons (le_cb (pe_callB (call_reprX hr hA p.hm W.vol) (by rfl) p.T.repr (by decide +kernel) (la_cons (lvar 9) la_nil)) (fun _ => sn_repr)) la_nil))))) (lss_one (ls_ret le_bl)) lss_nil))))))
      (lss_one (ls_ret le_bl)))))))), ?_⟩
  refine ⟨_, rfl, a, ns, rfl, hS, fun d L H1 kept nd nL dk => ?_⟩
  have tab : LamX.TabS H1 (He.cT K ("law", none)).2 ("law.<locals>." ++ "<lambda>") := LamX.TabS.nil (kept _ _ hE)
  have ts1 : Ts Tl H1 := fun b hb => by
    obtain ⟨ps, e, tr⟩ := hT b hb
    exact ⟨ps, kept _ _ e, tr⟩
  refine spD_at (W := lamDeck K Tl d L (He.cT K ("law", none)).2 ("law.<locals>." ++ "<lambda>") nt) (d := d) (L := L) (ds := []) (Kk := fun x => ∃ cs, x = .str (ofL cs) ∧ (∀ c, c ∈ cs ↔ c ∈ S) ∧ cs.length ≤ 100 ∧ cs ≠ []) (lamDeck_ok nt) ⟨⟨dk, tab⟩, ts1⟩ (fun _ => Iff.rfl) dk trivial ⟨rfl, fun cs h1 h2 h3 => ⟨cs, rfl, h1, h2, h3⟩⟩ fun x hx v H2 stp dx => ?_
  obtain ⟨cs, rfl, hcs, hc1, hc0⟩ := hx
  have ok2 := stp.ok ⟨⟨dk, tab⟩, ts1⟩
  cases (show v = _ from by cases dx; rfl : v = .str (ofL cs))
  refine ⟨by show 2 ≤ sizeLine; decide, fun pt np => ⟨pt, _, rfl, SqT.of upd_same, rfl, ?_⟩⟩
  have ok3 := (Stp.new (W := lamDeck K Tl d L (He.cT K ("law", none)).2 ("law.<locals>." ++ "<lambda>") nt) (o := .tup [.ref d, .str (ofL cs)]) np).ok ok2
  refine ⟨_, _, rfl, _, _, rfl, rfl, ?_⟩
  show tAnyW _ _ _ _ _
  refine law_start2 (W := lamDeck K Tl d L (He.cT K ("law", none)).2 ("law.<locals>." ++ "<lambda>") nt) (n := N_law.length) (i := 1) (j := 2) (x := .str (ofL cs)) (And.intro (lamDeck_ok nt) (lamDeck_lam nt)) ok3 (fun _ => Iff.rfl) ok3.1.1 (by rfl) rfl (by rfl) (by rfl) (Dx.str _) ?_ hQ
  rw [show (((List.replicate N_law.length none).set 1 (some LV.deck)).set 2 (some (.dat (.str (ofL cs))))) = [none, some .deck, some (.dat (.str (ofL cs))), none, none, none, none, none, none, none, none, none, none, none, none, none, none] from rfl]
  have sgc : ∀ c ∈ cs, c ∈ S := fun c hc => (hcs c).mp hc
  (try simp only [DL.iteB_true, DL.iteB_false, EL.zSeq, EL.zNext, EL.zRet, EL.zRetF, EL.zRetN, EL.zIf, EL.zAsg, EL.zAsgF, EL.zAsgC, EL.zDrop, EL.zRel, EL.zFor, EL.zBreak, EL.zCont, EL.zAsgT, EL.zPar, EL.zPar3, EL.zAug, EL.zCut, EL.zRaise, EL.zWhile, EL.zTrim, EL.trimmed, EL.zDPut, EL.zFld, EL.zFldInc, EL.xVar, EL.xC, EL.xOb, EL.xGts, EL.x2, EL.x1, EL.xCall, EL.xB, EL.xTru, EL.xAnd, EL.xOr, EL.xNot, EL.xIf, EL.yAnd, EL.yOr, EL.yNot, EL.xNil, EL.xCons, EL.xTup, EL.xLst, EL.xDnew, EL.xNew, EL.xCell, EL.xIt, EL.xRng1, EL.xRng2, EL.xRng3, EL.xLc, EL.xDc, EL.xAG, EL.xFnD, EL.xFnDX, EL.xFnDK, EL.xSl, EL.xNone, EL.xPart, EL.xListOf, EL.xM0, EL.xM1, EL.yYes, EL.xIx, EL.xApp, EL.xExt, EL.xPop, EL.xRev, EL.xLen, EL.xDGet, EL.xDIn, EL.xGet1, EL.xGet2, EL.xOrT, EL.xAndT, EL.xNotT2, EL.xFld, EL.xMeth, EL.xMake, EL.xPairs, EL.xDisp, EL.xChain, EL.xFn, EL.xFnK, EL.glN, EL.glT_t, EL.glNil_n, EL.glCons_c, DL.op2, DL.op1, DL.opC, DL.c1, DL.isiP, DL.typeO, DL.tyIs, DL.inG, DL.isND, EL.wipeL, DL.le_s0, DL.le_s1, DL.le_s2, DL.le_s3, DL.le_s4, DL.le_s5, DL.le_s6, DL.le_s7, DL.le_s8, DL.le_s9, DL.le_s10, EL.start0L, EL.rtD_dat, EL.up_dat, EL.up_ob, EL.ofDV_dat, EL.dvL_dat, EL.dvL_deck, EL.dvL_ob, EL.frz_dat, EL.frz_loc, DL.lend, DL.noOwn, DL.DV.isOwn, DL.pd_dat, DL.pd_own, DL.ocpd_lst, DL.ocpd_dk, EL.itemsL, EL.itemsOfL, EL.seqL, EL.lenL, EL.ixL, EL.lookC, EL.truL, EL.truC, EL.dgetL, EL.dgetC, EL.dputC, EL.isDL, EL.isDC, EL.view_dat, EL.view_loc, EL.view_deck, EL.view_gts, EL.view_ob, EL.viewC_c, EL.oc_lst, EL.oc_dk, EL.oc_dt, EL.oc_ins, EL.asData_nil, EL.asData_cons, EL.asData_map, EL.asData_snoc, EL.views_nil, EL.views_cons, Option.bind_some, Option.map_some, Option.map_none, List.map_map, List.map_cons, List.map_nil, List.append_nil, List.cons_append, List.nil_append, List.length_cons, List.length_nil, List.length_map, List.replicate_succ, List.replicate_zero, List.getElem?_cons_zero, List.getElem?_cons_succ, List.set_cons_zero, List.set_cons_succ, Nat.reduceSub, Nat.reduceAdd, Nat.sub_self, Nat.zero_add, Option.some.injEq, EL.LV.dat.injEq, EL.LV.loc.injEq, EL.LV.ob.injEq, EL.Cell.lst.injEq, EL.Cell.dk.injEq, EL.Cell.ins.injEq, DL.DV.dat.injEq, PyData.bool.injEq, PyData.int.injEq, PyData.str.injEq, PyData.tuple.injEq, PyData.list.injEq, DL.DV.ob.injEq, V.ty.injEq, DL.DV.own.injEq, DL.OC.lst.injEq, List.cons.injEq, exists_eq_left', exists_eq_left, exists_eq_right, exists_eq_right', exists_and_left, and_true, true_and, Bool.not_true, Bool.not_false, Bool.and_true, Bool.true_and, true_or, Bool.not_eq_true', Bool.false_eq_true, if_true, if_false, reduceIte, reduceCtorEq])
  refine ⟨by decide, by decide, ?_⟩
  refine forD_inv (fun i ρ η => ∃ x3 x4 x5 x6 x7 x8 x9 x10 x11 x12 x13 x14 x15 x16, ρ = [none, some .deck, some (.dat (.str (ofL cs))), x3, x4, x5, x6, x7, x8, x9, x10, x11, x12, x13, x14, x15, x16] ∧ η = []) ?_ ⟨_, _, _, _, _, _, _, _, _, _, _, _, _, _, rfl, rfl⟩ ?_
  · rintro i dt ρ η N hi ⟨x3, x4, x5, x6, x7, x8, x9, x10, x11, x12, x13, x14, x15, x16, rfl, rfl⟩ hN
    obtain ⟨hi, rfl⟩ := rngD_at hi
    have hN : ∀ {x3 x4 x5 x6 x7 x8 x9 x10 x11 x12 x13 x14 x15 x16}, N [none, some .deck, some (.dat (.str (ofL cs))), x3, x4, x5, x6, x7, x8, x9, x10, x11, x12, x13, x14, x15, x16] [] := hN _ _ ⟨_, _, _, _, _, _, _, _, _, _, _, _, _, _, rfl, rfl⟩
    (try simp only [DL.iteB_true, DL.iteB_false, EL.zSeq, EL.zNext, EL.zRet, EL.zRetF, EL.zRetN, EL.zIf, EL.zAsg, EL.zAsgF, EL.zAsgC, EL.zDrop, EL.zRel, EL.zFor, EL.zBreak, EL.zCont, EL.zAsgT, EL.zPar, EL.zPar3, EL.zAug, EL.zCut, EL.zRaise, EL.zWhile, EL.zTrim, EL.trimmed, EL.zDPut, EL.zFld, EL.zFldInc, EL.xVar, EL.xC, EL.xOb, EL.xGts, EL.x2, EL.x1, EL.xCall, EL.xB, EL.xTru, EL.xAnd, EL.xOr, EL.xNot, EL.xIf, EL.yAnd, EL.yOr, EL.yNot, EL.xNil, EL.xCons, EL.xTup, EL.xLst, EL.xDnew, EL.xNew, EL.xCell, EL.xIt, EL.xRng1, EL.xRng2, EL.xRng3, EL.xLc, EL.xDc, EL.xAG, EL.xFnD, EL.xFnDX, EL.xFnDK, EL.xSl, EL.xNone, EL.xPart, EL.xListOf, EL.xM0, EL.xM1, EL.yYes, EL.xIx, EL.xApp, EL.xExt, EL.xPop, EL.xRev, EL.xLen, EL.xDGet, EL.xDIn, EL.xGet1, EL.xGet2, EL.xOrT, EL.xAndT, EL.xNotT2, EL.xFld, EL.xMeth, EL.xMake, EL.xPairs, EL.xDisp, EL.xChain, EL.xFn, EL.xFnK, EL.glN, EL.glT_t, EL.glNil_n, EL.glCons_c, DL.op2, DL.op1, DL.opC, DL.c1, DL.isiP, DL.typeO, DL.tyIs, DL.inG, DL.isND, EL.wipeL, DL.le_s0, DL.le_s1, DL.le_s2, DL.le_s3, DL.le_s4, DL.le_s5, DL.le_s6, DL.le_s7, DL.le_s8, DL.le_s9, DL.le_s10, EL.start0L, EL.rtD_dat, EL.up_dat, EL.up_ob, EL.ofDV_dat, EL.dvL_dat, EL.dvL_deck, EL.dvL_ob, EL.frz_dat, EL.frz_loc, DL.lend, DL.noOwn, DL.DV.isOwn, DL.pd_dat, DL.pd_own, DL.ocpd_lst, DL.ocpd_dk, EL.itemsL, EL.itemsOfL, EL.seqL, EL.lenL, EL.ixL, EL.lookC, EL.truL, EL.truC, EL.dgetL, EL.dgetC, EL.dputC, EL.isDL, EL.isDC, EL.view_dat, EL.view_loc, EL.view_deck, EL.view_gts, EL.view_ob, EL.viewC_c, EL.oc_lst, EL.oc_dk, EL.oc_dt, EL.oc_ins, EL.asData_nil, EL.asData_cons, EL.asData_map, EL.asData_snoc, EL.views_nil, EL.views_cons, Option.bind_some, Option.map_some, Option.map_none, List.map_map, List.map_cons, List.map_nil, List.append_nil, List.cons_append, List.nil_append, List.length_cons, List.length_nil, List.length_map, List.replicate_succ, List.replicate_zero, List.getElem?_cons_zero, List.getElem?_cons_succ, List.set_cons_zero, List.set_cons_succ, Nat.reduceSub, Nat.reduceAdd, Nat.sub_self, Nat.zero_add, Option.some.injEq, EL.LV.dat.injEq, EL.LV.loc.injEq, EL.LV.ob.injEq, EL.Cell.lst.injEq, EL.Cell.dk.injEq, EL.Cell.ins.injEq, DL.DV.dat.injEq, PyData.bool.injEq, PyData.int.injEq, PyData.str.injEq, PyData.tuple.injEq, PyData.list.injEq, DL.DV.ob.injEq, V.ty.injEq, DL.DV.own.injEq, DL.OC.lst.injEq, List.cons.injEq, exists_eq_left', exists_eq_left, exists_eq_right, exists_eq_right', exists_and_left, and_true, true_and, Bool.not_true, Bool.not_false, Bool.and_true, Bool.true_and, true_or, Bool.not_eq_true', Bool.false_eq_true, if_true, if_false, reduceIte, reduceCtorEq])
    refine ⟨_, _, rfl, rfl, by decide, by decide, fun e he => ?_⟩
    obtain ⟨k, rfl, hk⟩ : ∃ k : Nat, e = .int (k : Int) ∧ k ≤ 199 := by
      simp only [List.mem_cons, List.not_mem_nil, or_false] at he
      rcases he with rfl | rfl | rfl | rfl | rfl | rfl | rfl
      · exact ⟨7, rfl, by decide⟩
      · exact ⟨1, rfl, by decide⟩
      · exact ⟨20, rfl, by decide⟩
      · exact ⟨0, rfl, by decide⟩
      · exact ⟨3, rfl, by decide⟩
      · exact ⟨60, rfl, by decide⟩
      · exact ⟨199, rfl, by decide⟩
    refine ⟨_, rfl, by decide, by decide, fun r r0 r1 => ?_⟩
    obtain ⟨r, rfl⟩ := Int.eq_ofNat_of_zero_le r0
    show addP (.int (k : Int)) (.int (r : Int)) _
    refine ⟨_, rfl, by omega, by omega, ?_⟩
    rw [show (((k : Int) + (r : Int)).toNat) = k + r by omega]
    refine lcl_any (R := fun _ e => ∃ c ∈ S, e = .str ⟨#[c]⟩) trivial (fun dd hd Q hQ => ?_) (by rw [rngD_0, List.length_map, List.length_range, sizeLine_eq]; omega) fun es hes => ?_
    · (try simp only [DL.iteB_true, DL.iteB_false, EL.zSeq, EL.zNext, EL.zRet, EL.zRetF, EL.zRetN, EL.zIf, EL.zAsg, EL.zAsgF, EL.zAsgC, EL.zDrop, EL.zRel, EL.zFor, EL.zBreak, EL.zCont, EL.zAsgT, EL.zPar, EL.zPar3, EL.zAug, EL.zCut, EL.zRaise, EL.zWhile, EL.zTrim, EL.trimmed, EL.zDPut, EL.zFld, EL.zFldInc, EL.xVar, EL.xC, EL.xOb, EL.xGts, EL.x2, EL.x1, EL.xCall, EL.xB, EL.xTru, EL.xAnd, EL.xOr, EL.xNot, EL.xIf, EL.yAnd, EL.yOr, EL.yNot, EL.xNil, EL.xCons, EL.xTup, EL.xLst, EL.xDnew, EL.xNew, EL.xCell, EL.xIt, EL.xRng1, EL.xRng2, EL.xRng3, EL.xLc, EL.xDc, EL.xAG, EL.xFnD, EL.xFnDX, EL.xFnDK, EL.xSl, EL.xNone, EL.xPart, EL.xListOf, EL.xM0, EL.xM1, EL.yYes, EL.xIx, EL.xApp, EL.xExt, EL.xPop, EL.xRev, EL.xLen, EL.xDGet, EL.xDIn, EL.xGet1, EL.xGet2, EL.xOrT, EL.xAndT, EL.xNotT2, EL.xFld, EL.xMeth, EL.xMake, EL.xPairs, EL.xDisp, EL.xChain, EL.xFn, EL.xFnK, EL.glN, EL.glT_t, EL.glNil_n, EL.glCons_c, DL.op2, DL.op1, DL.opC, DL.c1, DL.isiP, DL.typeO, DL.tyIs, DL.inG, DL.isND, EL.wipeL, DL.le_s0, DL.le_s1, DL.le_s2, DL.le_s3, DL.le_s4, DL.le_s5, DL.le_s6, DL.le_s7, DL.le_s8, DL.le_s9, DL.le_s10, EL.start0L, EL.rtD_dat, EL.up_dat, EL.up_ob, EL.ofDV_dat, EL.dvL_dat, EL.dvL_deck, EL.dvL_ob, EL.frz_dat, EL.frz_loc, DL.lend, DL.noOwn, DL.DV.isOwn, DL.pd_dat, DL.pd_own, DL.ocpd_lst, DL.ocpd_dk, EL.itemsL, EL.itemsOfL, EL.seqL, EL.lenL, EL.ixL, EL.lookC, EL.truL, EL.truC, EL.dgetL, EL.dgetC, EL.dputC, EL.isDL, EL.isDC, EL.view_dat, EL.view_loc, EL.view_deck, EL.view_gts, EL.view_ob, EL.viewC_c, EL.oc_lst, EL.oc_dk, EL.oc_dt, EL.oc_ins, EL.asData_nil, EL.asData_cons, EL.asData_map, EL.asData_snoc, EL.views_nil, EL.views_cons, Option.bind_some, Option.map_some, Option.map_none, List.map_map, List.map_cons, List.map_nil, List.append_nil, List.cons_append, List.nil_append, List.length_cons, List.length_nil, List.length_map, List.replicate_succ, List.replicate_zero, List.getElem?_cons_zero, List.getElem?_cons_succ, List.set_cons_zero, List.set_cons_succ, Nat.reduceSub, Nat.reduceAdd, Nat.sub_self, Nat.zero_add, Option.some.injEq, EL.LV.dat.injEq, EL.LV.loc.injEq, EL.LV.ob.injEq, EL.Cell.lst.injEq, EL.Cell.dk.injEq, EL.Cell.ins.injEq, DL.DV.dat.injEq, PyData.bool.injEq, PyData.int.injEq, PyData.str.injEq, PyData.tuple.injEq, PyData.list.injEq, DL.DV.ob.injEq, V.ty.injEq, DL.DV.own.injEq, DL.OC.lst.injEq, List.cons.injEq, exists_eq_left', exists_eq_left, exists_eq_right, exists_eq_right', exists_and_left, and_true, true_and, Bool.not_true, Bool.not_false, Bool.and_true, Bool.true_and, true_or, Bool.not_eq_true', Bool.false_eq_true, if_true, if_false, reduceIte, reduceCtorEq])
      refine ⟨_, _, rfl, rfl, ?_, ?_, fun e he => ?_⟩
      · rw [signs_ofL, List.length_map]
        exact List.length_pos_iff.mpr hc0
      · rw [signs_ofL, List.length_map]
        omega
      · obtain ⟨c, hc, rfl⟩ := List.mem_map.mp he
        exact hQ _ ⟨c, sgc c hc, rfl⟩
    obtain ⟨ts, rfl, hts, htl⟩ := picks hes
    rw [rngD_0, List.length_map, List.length_range] at htl
    refine ⟨_, congrArg (Option.map _) (asData_map _), ?_⟩
    refine join_signs (by omega) ?_
    refine ⟨ts, rfl, by omega, fun c hc => S_lt c (hts c hc), ?_⟩
    refine ⟨_, rfl, iteB_same ?_⟩
    refine wt_use hts (by omega) ?_
    have hw : isW (ofL (enc ts)) = true := isW_of (enc_mem ts)
    have hwl : (enc ts).length ≤ 1400 := by rw [enc_len]; omega
    refine same_use (say_word hw (by omega)) ⟨_, rfl, ?_⟩
    rw [Bool.not_true, iteB_false]
    refine tw_use hw (by omega) ?_
    rw [tow_enc hts]
    refine same_use (say_text hts (by omega)) ⟨_, rfl, ?_⟩
    rw [Bool.not_true, iteB_false]
    refine ⟨by rw [ofL_len, sizeLine_eq]; omega, ?_⟩
    refine ⟨_, rfl, by omega, by rw [ofL_len]; omega, fun at_ a0 a1 => ?_⟩
    obtain ⟨at_, rfl⟩ := Int.eq_ofNat_of_zero_le a0
    refine ⟨_, rfl, by omega, by omega, fun cd c0 c1 => ?_⟩
    obtain ⟨cd, rfl⟩ := Int.eq_ofNat_of_zero_le c0
    refine ⟨cd, rfl, by omega, ?_⟩
    generalize hwd : enc ts = wd at hw hwl
    have hsz : (ofL wd).length ≤ sizeLine := by rw [ofL_len, sizeLine_eq]; omega
    have hat : at_ ≤ ts.length := by
      have : (ofL ts).length = ts.length := rfl
      omega
    refine ⟨_, _, ⟨rfl, rfl⟩, _, rfl, _, rfl, cmulW (by decide) (by omega), ((7 * at_ : Nat) : Int), rfl, hsz, _, rfl, _, rfl, ?_, _, rfl, _, rfl, cmulW (by decide) (by omega), ((7 * at_ + 7 : Nat) : Int), rfl, hsz, ?_, ?_⟩
    · rw [cut_0n, ofL_len, ofL_len, List.length_take, bits_len, sizeLine_eq]
      omega
    · rw [cut_0n, cut_n0, ofL_app, ofL_len, ofL_len, List.length_append, List.length_take, List.length_drop, bits_len, sizeLine_eq]
      omega
    rw [cut_0n, cut_n0, ofL_app, ofL_app]
    refine ⟨hsz, _, rfl, by omega, by rw [ofL_len]; omega, fun pl p0 p1 => ?_⟩
    obtain ⟨pl, rfl⟩ := Int.eq_ofNat_of_zero_le p0
    refine ⟨_, rfl, by omega, by omega, fun m m0 m1 => ?_⟩
    obtain ⟨m, rfl⟩ := Int.eq_ofNat_of_zero_le m0
    refine ⟨_, _, ⟨rfl, rfl⟩, ?_⟩
    (try simp only [DL.iteB_true, DL.iteB_false, EL.zSeq, EL.zNext, EL.zRet, EL.zRetF, EL.zRetN, EL.zIf, EL.zAsg, EL.zAsgF, EL.zAsgC, EL.zDrop, EL.zRel, EL.zFor, EL.zBreak, EL.zCont, EL.zAsgT, EL.zPar, EL.zPar3, EL.zAug, EL.zCut, EL.zRaise, EL.zWhile, EL.zTrim, EL.trimmed, EL.zDPut, EL.zFld, EL.zFldInc, EL.xVar, EL.xC, EL.xOb, EL.xGts, EL.x2, EL.x1, EL.xCall, EL.xB, EL.xTru, EL.xAnd, EL.xOr, EL.xNot, EL.xIf, EL.yAnd, EL.yOr, EL.yNot, EL.xNil, EL.xCons, EL.xTup, EL.xLst, EL.xDnew, EL.xNew, EL.xCell, EL.xIt, EL.xRng1, EL.xRng2, EL.xRng3, EL.xLc, EL.xDc, EL.xAG, EL.xFnD, EL.xFnDX, EL.xFnDK, EL.xSl, EL.xNone, EL.xPart, EL.xListOf, EL.xM0, EL.xM1, EL.yYes, EL.xIx, EL.xApp, EL.xExt, EL.xPop, EL.xRev, EL.xLen, EL.xDGet, EL.xDIn, EL.xGet1, EL.xGet2, EL.xOrT, EL.xAndT, EL.xNotT2, EL.xFld, EL.xMeth, EL.xMake, EL.xPairs, EL.xDisp, EL.xChain, EL.xFn, EL.xFnK, EL.glN, EL.glT_t, EL.glNil_n, EL.glCons_c, DL.op2, DL.op1, DL.opC, DL.c1, DL.isiP, DL.typeO, DL.tyIs, DL.inG, DL.isND, EL.wipeL, DL.le_s0, DL.le_s1, DL.le_s2, DL.le_s3, DL.le_s4, DL.le_s5, DL.le_s6, DL.le_s7, DL.le_s8, DL.le_s9, DL.le_s10, EL.start0L, EL.rtD_dat, EL.up_dat, EL.up_ob, EL.ofDV_dat, EL.dvL_dat, EL.dvL_deck, EL.dvL_ob, EL.frz_dat, EL.frz_loc, DL.lend, DL.noOwn, DL.DV.isOwn, DL.pd_dat, DL.pd_own, DL.ocpd_lst, DL.ocpd_dk, EL.itemsL, EL.itemsOfL, EL.seqL, EL.lenL, EL.ixL, EL.lookC, EL.truL, EL.truC, EL.dgetL, EL.dgetC, EL.dputC, EL.isDL, EL.isDC, EL.view_dat, EL.view_loc, EL.view_deck, EL.view_gts, EL.view_ob, EL.viewC_c, EL.oc_lst, EL.oc_dk, EL.oc_dt, EL.oc_ins, EL.asData_nil, EL.asData_cons, EL.asData_map, EL.asData_snoc, EL.views_nil, EL.views_cons, Option.bind_some, Option.map_some, Option.map_none, List.map_map, List.map_cons, List.map_nil, List.append_nil, List.cons_append, List.nil_append, List.length_cons, List.length_nil, List.length_map, List.replicate_succ, List.replicate_zero, List.getElem?_cons_zero, List.getElem?_cons_succ, List.set_cons_zero, List.set_cons_succ, Nat.reduceSub, Nat.reduceAdd, Nat.sub_self, Nat.zero_add, Option.some.injEq, EL.LV.dat.injEq, EL.LV.loc.injEq, EL.LV.ob.injEq, EL.Cell.lst.injEq, EL.Cell.dk.injEq, EL.Cell.ins.injEq, DL.DV.dat.injEq, PyData.bool.injEq, PyData.int.injEq, PyData.str.injEq, PyData.tuple.injEq, PyData.list.injEq, DL.DV.ob.injEq, V.ty.injEq, DL.DV.own.injEq, DL.OC.lst.injEq, List.cons.injEq, exists_eq_left', exists_eq_left, exists_eq_right, exists_eq_right', exists_and_left, and_true, true_and, Bool.not_true, Bool.not_false, Bool.and_true, Bool.true_and, true_or, Bool.not_eq_true', Bool.false_eq_true, if_true, if_false, reduceIte, reduceCtorEq])
    have ec : Str.ofString "0101101" = ofL [48, 49, 48, 49, 49, 48, 49] := by decide +kernel
    refine ⟨hsz, ((pl + m : Nat) : Int), rfl, hsz, ?_, hsz, by decide, ?_, ((pl + 100 : Nat) : Int), rfl, hsz, ?_, ?_⟩
    · rw [cut_0n, cut_n0, ofL_len, ofL_len, List.length_take, List.length_drop, sizeLine_eq]
      omega
    · rw [ec, cut_0n, cut_0n, ofL_len, ofL_len, List.length_take, List.length_take, sizeLine_eq]
      omega
    · rw [ec, cut_0n, cut_0n, cut_nn, ofL_app, ofL_len, ofL_len, List.length_append, List.length_take, List.length_take, List.length_take, sizeLine_eq]
      simp only [List.length_cons, List.length_nil]
      omega
    rw [ec, cut_0n, cut_0n, cut_n0, cut_nn, ofL_app, ofL_app, ofL_app]
    have hwm : ∀ c ∈ wd, c ∈ [48, 49] := isW_mem hw
    have hcm : ∀ c ∈ [48, 49, 48, 49, 49, 48, 49], c ∈ [48, 49] := by decide
    have iok : ∀ d ∈ [PyData.str (ofL (List.take (7 * at_) wd ++ bits cd ++ List.drop (7 * at_ + 7) wd)), .str (ofL (List.take pl wd ++ List.drop (pl + m) wd)), .str (ofL (List.take pl wd ++ List.take m [48, 49, 48, 49, 49, 48, 49] ++ List.take (pl + 100 - pl) (List.drop pl wd)))], ∃ x : List Nat, d = .str (ofL x) ∧ (∀ c ∈ x, c ∈ [48, 49]) ∧ x.length ≤ 6000 := fun d hd => by
      simp only [List.mem_cons, List.not_mem_nil, or_false] at hd
      rcases hd with rfl | rfl | rfl
      · refine ⟨_, rfl, fun c hc => ?_, ?_⟩
        · rcases List.mem_append.mp hc with hc | hc
          · rcases List.mem_append.mp hc with hc | hc
            · exact hwm c (List.mem_of_mem_take hc)
            · exact bits_mem cd c hc
          · exact hwm c (List.mem_of_mem_drop hc)
        · rw [List.length_append, List.length_append, List.length_take, List.length_drop, bits_len]
          omega
      · refine ⟨_, rfl, fun c hc => ?_, ?_⟩
        · rcases List.mem_append.mp hc with hc | hc
          · exact hwm c (List.mem_of_mem_take hc)
          · exact hwm c (List.mem_of_mem_drop hc)
        · rw [List.length_append, List.length_take, List.length_drop]
          omega
      · refine ⟨_, rfl, fun c hc => ?_, ?_⟩
        · rcases List.mem_append.mp hc with hc | hc
          · rcases List.mem_append.mp hc with hc | hc
            · exact hwm c (List.mem_of_mem_take hc)
            · exact hcm c (List.mem_of_mem_take hc)
          · exact hwm c (List.mem_of_mem_drop (List.mem_of_mem_take hc))
        · rw [List.length_append, List.length_append, List.length_take, List.length_take, List.length_take]
          simp only [List.length_cons, List.length_nil]
          omega
    refine forD_inv (items := [PyData.str (ofL (List.take (7 * at_) wd ++ bits cd ++ List.drop (7 * at_ + 7) wd)), .str (ofL (List.take pl wd ++ List.drop (pl + m) wd)), .str (ofL (List.take pl wd ++ List.take m [48, 49, 48, 49, 49, 48, 49] ++ List.take (pl + 100 - pl) (List.drop pl wd)))]) (fun i ρ η => ∃ x3 x4 x5 x6 x7 x8 x9 x10 x11 x12 x13 x14 x15 x16, ρ = [none, some .deck, some (.dat (.str (ofL cs))), x3, x4, x5, x6, x7, x8, x9, x10, x11, x12, x13, x14, x15, x16] ∧ η = []) ?_ ⟨_, _, _, _, _, _, _, _, _, _, _, _, _, _, rfl, rfl⟩ ?_
    · rintro i d ρ η N2 hi2 ⟨x3, x4, x5, x6, x7, x8, x9, x10, x11, x12, x13, x14, x15, x16, rfl, rfl⟩ hN2
      have hN2 : ∀ {x3 x4 x5 x6 x7 x8 x9 x10 x11 x12 x13 x14 x15 x16}, N2 [none, some .deck, some (.dat (.str (ofL cs))), x3, x4, x5, x6, x7, x8, x9, x10, x11, x12, x13, x14, x15, x16] [] := hN2 _ _ ⟨_, _, _, _, _, _, _, _, _, _, _, _, _, _, rfl, rfl⟩
      obtain ⟨x, rfl, hx, hxl⟩ := iok d (List.mem_of_getElem? hi2)
      (try simp only [DL.iteB_true, DL.iteB_false, EL.zSeq, EL.zNext, EL.zRet, EL.zRetF, EL.zRetN, EL.zIf, EL.zAsg, EL.zAsgF, EL.zAsgC, EL.zDrop, EL.zRel, EL.zFor, EL.zBreak, EL.zCont, EL.zAsgT, EL.zPar, EL.zPar3, EL.zAug, EL.zCut, EL.zRaise, EL.zWhile, EL.zTrim, EL.trimmed, EL.zDPut, EL.zFld, EL.zFldInc, EL.xVar, EL.xC, EL.xOb, EL.xGts, EL.x2, EL.x1, EL.xCall, EL.xB, EL.xTru, EL.xAnd, EL.xOr, EL.xNot, EL.xIf, EL.yAnd, EL.yOr, EL.yNot, EL.xNil, EL.xCons, EL.xTup, EL.xLst, EL.xDnew, EL.xNew, EL.xCell, EL.xIt, EL.xRng1, EL.xRng2, EL.xRng3, EL.xLc, EL.xDc, EL.xAG, EL.xFnD, EL.xFnDX, EL.xFnDK, EL.xSl, EL.xNone, EL.xPart, EL.xListOf, EL.xM0, EL.xM1, EL.yYes, EL.xIx, EL.xApp, EL.xExt, EL.xPop, EL.xRev, EL.xLen, EL.xDGet, EL.xDIn, EL.xGet1, EL.xGet2, EL.xOrT, EL.xAndT, EL.xNotT2, EL.xFld, EL.xMeth, EL.xMake, EL.xPairs, EL.xDisp, EL.xChain, EL.xFn, EL.xFnK, EL.glN, EL.glT_t, EL.glNil_n, EL.glCons_c, DL.op2, DL.op1, DL.opC, DL.c1, DL.isiP, DL.typeO, DL.tyIs, DL.inG, DL.isND, EL.wipeL, DL.le_s0, DL.le_s1, DL.le_s2, DL.le_s3, DL.le_s4, DL.le_s5, DL.le_s6, DL.le_s7, DL.le_s8, DL.le_s9, DL.le_s10, EL.start0L, EL.rtD_dat, EL.up_dat, EL.up_ob, EL.ofDV_dat, EL.dvL_dat, EL.dvL_deck, EL.dvL_ob, EL.frz_dat, EL.frz_loc, DL.lend, DL.noOwn, DL.DV.isOwn, DL.pd_dat, DL.pd_own, DL.ocpd_lst, DL.ocpd_dk, EL.itemsL, EL.itemsOfL, EL.seqL, EL.lenL, EL.ixL, EL.lookC, EL.truL, EL.truC, EL.dgetL, EL.dgetC, EL.dputC, EL.isDL, EL.isDC, EL.view_dat, EL.view_loc, EL.view_deck, EL.view_gts, EL.view_ob, EL.viewC_c, EL.oc_lst, EL.oc_dk, EL.oc_dt, EL.oc_ins, EL.asData_nil, EL.asData_cons, EL.asData_map, EL.asData_snoc, EL.views_nil, EL.views_cons, Option.bind_some, Option.map_some, Option.map_none, List.map_map, List.map_cons, List.map_nil, List.append_nil, List.cons_append, List.nil_append, List.length_cons, List.length_nil, List.length_map, List.replicate_succ, List.replicate_zero, List.getElem?_cons_zero, List.getElem?_cons_succ, List.set_cons_zero, List.set_cons_succ, Nat.reduceSub, Nat.reduceAdd, Nat.sub_self, Nat.zero_add, Option.some.injEq, EL.LV.dat.injEq, EL.LV.loc.injEq, EL.LV.ob.injEq, EL.Cell.lst.injEq, EL.Cell.dk.injEq, EL.Cell.ins.injEq, DL.DV.dat.injEq, PyData.bool.injEq, PyData.int.injEq, PyData.str.injEq, PyData.tuple.injEq, PyData.list.injEq, DL.DV.ob.injEq, V.ty.injEq, DL.DV.own.injEq, DL.OC.lst.injEq, List.cons.injEq, exists_eq_left', exists_eq_left, exists_eq_right, exists_eq_right', exists_and_left, and_true, true_and, Bool.not_true, Bool.not_false, Bool.and_true, Bool.true_and, true_or, Bool.not_eq_true', Bool.false_eq_true, if_true, if_false, reduceIte, reduceCtorEq])
      refine ⟨by rw [ofL_len, sizeLine_eq]; omega, _, rfl, ?_⟩
      rw [ofL_len]
      by_cases h14 : ((x.length : Nat) : Int) ≤ 1400
      · rw [decide_eq_true h14, iteB_true]
        refine ⟨x, rfl, isW_of hx, by omega, _, rfl, ?_⟩
        rw [Bool.not_true, iteB_false]
        exact hN2
      · rw [decide_eq_false h14, iteB_false]
        exact hN2
    · rintro ρ η ⟨x3, x4, x5, x6, x7, x8, x9, x10, x11, x12, x13, x14, x15, x16, rfl, rfl⟩
      exact hN
  · rintro ρ η ⟨x3, x4, x5, x6, x7, x8, x9, x10, x11, x12, x13, x14, x15, x16, rfl, rfl⟩
    (try simp only [DL.iteB_true, DL.iteB_false, EL.zSeq, EL.zNext, EL.zRet, EL.zRetF, EL.zRetN, EL.zIf, EL.zAsg, EL.zAsgF, EL.zAsgC, EL.zDrop, EL.zRel, EL.zFor, EL.zBreak, EL.zCont, EL.zAsgT, EL.zPar, EL.zPar3, EL.zAug, EL.zCut, EL.zRaise, EL.zWhile, EL.zTrim, EL.trimmed, EL.zDPut, EL.zFld, EL.zFldInc, EL.xVar, EL.xC, EL.xOb, EL.xGts, EL.x2, EL.x1, EL.xCall, EL.xB, EL.xTru, EL.xAnd, EL.xOr, EL.xNot, EL.xIf, EL.yAnd, EL.yOr, EL.yNot, EL.xNil, EL.xCons, EL.xTup, EL.xLst, EL.xDnew, EL.xNew, EL.xCell, EL.xIt, EL.xRng1, EL.xRng2, EL.xRng3, EL.xLc, EL.xDc, EL.xAG, EL.xFnD, EL.xFnDX, EL.xFnDK, EL.xSl, EL.xNone, EL.xPart, EL.xListOf, EL.xM0, EL.xM1, EL.yYes, EL.xIx, EL.xApp, EL.xExt, EL.xPop, EL.xRev, EL.xLen, EL.xDGet, EL.xDIn, EL.xGet1, EL.xGet2, EL.xOrT, EL.xAndT, EL.xNotT2, EL.xFld, EL.xMeth, EL.xMake, EL.xPairs, EL.xDisp, EL.xChain, EL.xFn, EL.xFnK, EL.glN, EL.glT_t, EL.glNil_n, EL.glCons_c, DL.op2, DL.op1, DL.opC, DL.c1, DL.isiP, DL.typeO, DL.tyIs, DL.inG, DL.isND, EL.wipeL, DL.le_s0, DL.le_s1, DL.le_s2, DL.le_s3, DL.le_s4, DL.le_s5, DL.le_s6, DL.le_s7, DL.le_s8, DL.le_s9, DL.le_s10, EL.start0L, EL.rtD_dat, EL.up_dat, EL.up_ob, EL.ofDV_dat, EL.dvL_dat, EL.dvL_deck, EL.dvL_ob, EL.frz_dat, EL.frz_loc, DL.lend, DL.noOwn, DL.DV.isOwn, DL.pd_dat, DL.pd_own, DL.ocpd_lst, DL.ocpd_dk, EL.itemsL, EL.itemsOfL, EL.seqL, EL.lenL, EL.ixL, EL.lookC, EL.truL, EL.truC, EL.dgetL, EL.dgetC, EL.dputC, EL.isDL, EL.isDC, EL.view_dat, EL.view_loc, EL.view_deck, EL.view_gts, EL.view_ob, EL.viewC_c, EL.oc_lst, EL.oc_dk, EL.oc_dt, EL.oc_ins, EL.asData_nil, EL.asData_cons, EL.asData_map, EL.asData_snoc, EL.views_nil, EL.views_cons, Option.bind_some, Option.map_some, Option.map_none, List.map_map, List.map_cons, List.map_nil, List.append_nil, List.cons_append, List.nil_append, List.length_cons, List.length_nil, List.length_map, List.replicate_succ, List.replicate_zero, List.getElem?_cons_zero, List.getElem?_cons_succ, List.set_cons_zero, List.set_cons_succ, Nat.reduceSub, Nat.reduceAdd, Nat.sub_self, Nat.zero_add, Option.some.injEq, EL.LV.dat.injEq, EL.LV.loc.injEq, EL.LV.ob.injEq, EL.Cell.lst.injEq, EL.Cell.dk.injEq, EL.Cell.ins.injEq, DL.DV.dat.injEq, PyData.bool.injEq, PyData.int.injEq, PyData.str.injEq, PyData.tuple.injEq, PyData.list.injEq, DL.DV.ob.injEq, V.ty.injEq, DL.DV.own.injEq, DL.OC.lst.injEq, List.cons.injEq, exists_eq_left', exists_eq_left, exists_eq_right, exists_eq_right', exists_and_left, and_true, true_and, Bool.not_true, Bool.not_false, Bool.and_true, Bool.true_and, true_or, Bool.not_eq_true', Bool.false_eq_true, if_true, if_false, reduceIte, reduceCtorEq])
    rw [signs_ofL]
    refine lcl_map (q := fun c => .int ((c : Nat) : Int)) trivial (fun c hc Q hQ => by (try simp only [DL.iteB_true, DL.iteB_false, EL.zSeq, EL.zNext, EL.zRet, EL.zRetF, EL.zRetN, EL.zIf, EL.zAsg, EL.zAsgF, EL.zAsgC, EL.zDrop, EL.zRel, EL.zFor, EL.zBreak, EL.zCont, EL.zAsgT, EL.zPar, EL.zPar3, EL.zAug, EL.zCut, EL.zRaise, EL.zWhile, EL.zTrim, EL.trimmed, EL.zDPut, EL.zFld, EL.zFldInc, EL.xVar, EL.xC, EL.xOb, EL.xGts, EL.x2, EL.x1, EL.xCall, EL.xB, EL.xTru, EL.xAnd, EL.xOr, EL.xNot, EL.xIf, EL.yAnd, EL.yOr, EL.yNot, EL.xNil, EL.xCons, EL.xTup, EL.xLst, EL.xDnew, EL.xNew, EL.xCell, EL.xIt, EL.xRng1, EL.xRng2, EL.xRng3, EL.xLc, EL.xDc, EL.xAG, EL.xFnD, EL.xFnDX, EL.xFnDK, EL.xSl, EL.xNone, EL.xPart, EL.xListOf, EL.xM0, EL.xM1, EL.yYes, EL.xIx, EL.xApp, EL.xExt, EL.xPop, EL.xRev, EL.xLen, EL.xDGet, EL.xDIn, EL.xGet1, EL.xGet2, EL.xOrT, EL.xAndT, EL.xNotT2, EL.xFld, EL.xMeth, EL.xMake, EL.xPairs, EL.xDisp, EL.xChain, EL.xFn, EL.xFnK, EL.glN, EL.glT_t, EL.glNil_n, EL.glCons_c, DL.op2, DL.op1, DL.opC, DL.c1, DL.isiP, DL.typeO, DL.tyIs, DL.inG, DL.isND, EL.wipeL, DL.le_s0, DL.le_s1, DL.le_s2, DL.le_s3, DL.le_s4, DL.le_s5, DL.le_s6, DL.le_s7, DL.le_s8, DL.le_s9, DL.le_s10, EL.start0L, EL.rtD_dat, EL.up_dat, EL.up_ob, EL.ofDV_dat, EL.dvL_dat, EL.dvL_deck, EL.dvL_ob, EL.frz_dat, EL.frz_loc, DL.lend, DL.noOwn, DL.DV.isOwn, DL.pd_dat, DL.pd_own, DL.ocpd_lst, DL.ocpd_dk, EL.itemsL, EL.itemsOfL, EL.seqL, EL.lenL, EL.ixL, EL.lookC, EL.truL, EL.truC, EL.dgetL, EL.dgetC, EL.dputC, EL.isDL, EL.isDC, EL.view_dat, EL.view_loc, EL.view_deck, EL.view_gts, EL.view_ob, EL.viewC_c, EL.oc_lst, EL.oc_dk, EL.oc_dt, EL.oc_ins, EL.asData_nil, EL.asData_cons, EL.asData_map, EL.asData_snoc, EL.views_nil, EL.views_cons, Option.bind_some, Option.map_some, Option.map_none, List.map_map, List.map_cons, List.map_nil, List.append_nil, List.cons_append, List.nil_append, List.length_cons, List.length_nil, List.length_map, List.replicate_succ, List.replicate_zero, List.getElem?_cons_zero, List.getElem?_cons_succ, List.set_cons_zero, List.set_cons_succ, Nat.reduceSub, Nat.reduceAdd, Nat.sub_self, Nat.zero_add, Option.some.injEq, EL.LV.dat.injEq, EL.LV.loc.injEq, EL.LV.ob.injEq, EL.Cell.lst.injEq, EL.Cell.dk.injEq, EL.Cell.ins.injEq, DL.DV.dat.injEq, PyData.bool.injEq, PyData.int.injEq, PyData.str.injEq, PyData.tuple.injEq, PyData.list.injEq, DL.DV.ob.injEq, V.ty.injEq, DL.DV.own.injEq, DL.OC.lst.injEq, List.cons.injEq, exists_eq_left', exists_eq_left, exists_eq_right, exists_eq_right', exists_and_left, and_true, true_and, Bool.not_true, Bool.not_false, Bool.and_true, Bool.true_and, true_or, Bool.not_eq_true', Bool.false_eq_true, if_true, if_false, reduceIte, reduceCtorEq]); exact ⟨rfl, hQ⟩) (by rw [sizeLine_eq]; omega) ?_
    refine ⟨_, congrArg (Option.map _) (asData_fun (fun c => PyData.int ((c : Nat) : Int)) cs), ?_⟩
    show mulLP _ _ fun r => addP (.list (cs.map fun c => PyData.int ((c : Nat) : Int))) r _
    have hfl : (List.replicate (Int.toNat 9) [PyData.int 0, .int 9, .int 31, .int 127]).flatten.length = 36 := by decide
    refine ⟨by decide, by decide, by decide, by rw [List.length_map, hfl, sizeLine_eq]; omega, ?_⟩
    have hL0 : ∀ e ∈ (cs.map fun c => PyData.int ((c : Nat) : Int)) ++ (List.replicate (Int.toNat 9) [PyData.int 0, .int 9, .int 31, .int 127]).flatten, ∃ c : Nat, e = .int (c : Int) ∧ c < 128 := fun e he => by
      rcases List.mem_append.mp he with he | he
      · obtain ⟨c, hc, rfl⟩ := List.mem_map.mp he
        exact ⟨c, rfl, S_lt c (sgc c hc)⟩
      · obtain ⟨l, hl, he⟩ := List.mem_flatten.mp he
        obtain rfl := List.eq_of_mem_replicate hl
        simp only [List.mem_cons, List.not_mem_nil, or_false] at he
        rcases he with rfl | rfl | rfl | rfl
        · exact ⟨0, rfl, by decide⟩
        · exact ⟨9, rfl, by decide⟩
        · exact ⟨31, rfl, by decide⟩
        · exact ⟨127, rfl, by decide⟩
    have hL1 : ((cs.map fun c => PyData.int ((c : Nat) : Int)) ++ (List.replicate (Int.toNat 9) [PyData.int 0, .int 9, .int 31, .int 127]).flatten).length = cs.length + 36 := by rw [List.length_append, List.length_map, hfl]
    generalize (cs.map fun c => PyData.int ((c : Nat) : Int)) ++ (List.replicate (Int.toNat 9) [PyData.int 0, .int 9, .int 31, .int 127]).flatten = L0 at hL0 hL1
    refine ⟨_, _, rfl, rfl, by decide, by decide, fun e he => ?_⟩
    obtain ⟨k, rfl, hk⟩ : ∃ k : Nat, e = .int (k : Int) ∧ k ≤ 9 := by
      simp only [List.mem_cons, List.not_mem_nil, or_false] at he
      rcases he with rfl | rfl | rfl | rfl
      · exact ⟨2, rfl, by decide⟩
      · exact ⟨1, rfl, by decide⟩
      · exact ⟨4, rfl, by decide⟩
      · exact ⟨9, rfl, by decide⟩
    refine ⟨_, rfl, by omega, by omega, ?_⟩
    refine lcl_any (R := fun _ e => ∃ c, c < 128 ∧ e = .str (ofL (bits c))) trivial (fun dd hd Q hQ => ?_) (by rw [rngD_0, List.length_map, List.length_range, sizeLine_eq]; omega) fun es hes => ?_
    · (try simp only [DL.iteB_true, DL.iteB_false, EL.zSeq, EL.zNext, EL.zRet, EL.zRetF, EL.zRetN, EL.zIf, EL.zAsg, EL.zAsgF, EL.zAsgC, EL.zDrop, EL.zRel, EL.zFor, EL.zBreak, EL.zCont, EL.zAsgT, EL.zPar, EL.zPar3, EL.zAug, EL.zCut, EL.zRaise, EL.zWhile, EL.zTrim, EL.trimmed, EL.zDPut, EL.zFld, EL.zFldInc, EL.xVar, EL.xC, EL.xOb, EL.xGts, EL.x2, EL.x1, EL.xCall, EL.xB, EL.xTru, EL.xAnd, EL.xOr, EL.xNot, EL.xIf, EL.yAnd, EL.yOr, EL.yNot, EL.xNil, EL.xCons, EL.xTup, EL.xLst, EL.xDnew, EL.xNew, EL.xCell, EL.xIt, EL.xRng1, EL.xRng2, EL.xRng3, EL.xLc, EL.xDc, EL.xAG, EL.xFnD, EL.xFnDX, EL.xFnDK, EL.xSl, EL.xNone, EL.xPart, EL.xListOf, EL.xM0, EL.xM1, EL.yYes, EL.xIx, EL.xApp, EL.xExt, EL.xPop, EL.xRev, EL.xLen, EL.xDGet, EL.xDIn, EL.xGet1, EL.xGet2, EL.xOrT, EL.xAndT, EL.xNotT2, EL.xFld, EL.xMeth, EL.xMake, EL.xPairs, EL.xDisp, EL.xChain, EL.xFn, EL.xFnK, EL.glN, EL.glT_t, EL.glNil_n, EL.glCons_c, DL.op2, DL.op1, DL.opC, DL.c1, DL.isiP, DL.typeO, DL.tyIs, DL.inG, DL.isND, EL.wipeL, DL.le_s0, DL.le_s1, DL.le_s2, DL.le_s3, DL.le_s4, DL.le_s5, DL.le_s6, DL.le_s7, DL.le_s8, DL.le_s9, DL.le_s10, EL.start0L, EL.rtD_dat, EL.up_dat, EL.up_ob, EL.ofDV_dat, EL.dvL_dat, EL.dvL_deck, EL.dvL_ob, EL.frz_dat, EL.frz_loc, DL.lend, DL.noOwn, DL.DV.isOwn, DL.pd_dat, DL.pd_own, DL.ocpd_lst, DL.ocpd_dk, EL.itemsL, EL.itemsOfL, EL.seqL, EL.lenL, EL.ixL, EL.lookC, EL.truL, EL.truC, EL.dgetL, EL.dgetC, EL.dputC, EL.isDL, EL.isDC, EL.view_dat, EL.view_loc, EL.view_deck, EL.view_gts, EL.view_ob, EL.viewC_c, EL.oc_lst, EL.oc_dk, EL.oc_dt, EL.oc_ins, EL.asData_nil, EL.asData_cons, EL.asData_map, EL.asData_snoc, EL.views_nil, EL.views_cons, Option.bind_some, Option.map_some, Option.map_none, List.map_map, List.map_cons, List.map_nil, List.append_nil, List.cons_append, List.nil_append, List.length_cons, List.length_nil, List.length_map, List.replicate_succ, List.replicate_zero, List.getElem?_cons_zero, List.getElem?_cons_succ, List.set_cons_zero, List.set_cons_succ, Nat.reduceSub, Nat.reduceAdd, Nat.sub_self, Nat.zero_add, Option.some.injEq, EL.LV.dat.injEq, EL.LV.loc.injEq, EL.LV.ob.injEq, EL.Cell.lst.injEq, EL.Cell.dk.injEq, EL.Cell.ins.injEq, DL.DV.dat.injEq, PyData.bool.injEq, PyData.int.injEq, PyData.str.injEq, PyData.tuple.injEq, PyData.list.injEq, DL.DV.ob.injEq, V.ty.injEq, DL.DV.own.injEq, DL.OC.lst.injEq, List.cons.injEq, exists_eq_left', exists_eq_left, exists_eq_right, exists_eq_right', exists_and_left, and_true, true_and, Bool.not_true, Bool.not_false, Bool.and_true, Bool.true_and, true_or, Bool.not_eq_true', Bool.false_eq_true, if_true, if_false, reduceIte, reduceCtorEq])
      refine ⟨_, _, rfl, rfl, by omega, by omega, fun e he => ?_⟩
      obtain ⟨c, rfl, hc⟩ := hL0 e he
      exact ⟨c, rfl, hc, hQ _ ⟨c, hc, rfl⟩⟩
    obtain ⟨ks, rfl, hks, hkl⟩ := picks7 hes
    rw [rngD_0, List.length_map, List.length_range] at hkl
    have hkl : ks.length ≤ 9 := by omega
    refine ⟨_, congrArg (Option.map _) (asData_map _), ?_⟩
    refine join_bits (by omega) ?_
    have hw : isW (ofL (enc ks)) = true := isW_of (enc_mem ks)
    have hwl : (enc ks).length ≤ 1400 := by rw [enc_len]; omega
    generalize enc ks = wd at hw hwl
    refine ⟨wd, rfl, hw, by omega, _, rfl, ?_⟩
    rw [Bool.not_true, iteB_false]
    refine tw_use hw (by omega) (tw_use hw (by omega) (same_use (say_tow (by omega)) ⟨_, rfl, ?_⟩))
    rw [Bool.not_true, iteB_false]
    refine ⟨by decide, by decide, ?_⟩
    refine forD_inv (fun i ρ η => ∃ x3 x4 x5 x6 x7 x8 x9 x10 x11 x12 x13 x14 x15 x16, ρ = [none, some .deck, some (.dat (.str (ofL cs))), x3, x4, x5, x6, x7, x8, x9, x10, x11, x12, x13, x14, x15, x16] ∧ η = []) ?_ ⟨_, _, _, _, _, _, _, _, _, _, _, _, _, _, rfl, rfl⟩ ?_
    · rintro i dt ρ η N hi ⟨x3, x4, x5, x6, x7, x8, x9, x10, x11, x12, x13, x14, x15, x16, rfl, rfl⟩ hN
      have hN : ∀ {x3 x4 x5 x6 x7 x8 x9 x10 x11 x12 x13 x14 x15 x16}, N [none, some .deck, some (.dat (.str (ofL cs))), x3, x4, x5, x6, x7, x8, x9, x10, x11, x12, x13, x14, x15, x16] [] := hN _ _ ⟨_, _, _, _, _, _, _, _, _, _, _, _, _, _, rfl, rfl⟩
      (try simp only [DL.iteB_true, DL.iteB_false, EL.zSeq, EL.zNext, EL.zRet, EL.zRetF, EL.zRetN, EL.zIf, EL.zAsg, EL.zAsgF, EL.zAsgC, EL.zDrop, EL.zRel, EL.zFor, EL.zBreak, EL.zCont, EL.zAsgT, EL.zPar, EL.zPar3, EL.zAug, EL.zCut, EL.zRaise, EL.zWhile, EL.zTrim, EL.trimmed, EL.zDPut, EL.zFld, EL.zFldInc, EL.xVar, EL.xC, EL.xOb, EL.xGts, EL.x2, EL.x1, EL.xCall, EL.xB, EL.xTru, EL.xAnd, EL.xOr, EL.xNot, EL.xIf, EL.yAnd, EL.yOr, EL.yNot, EL.xNil, EL.xCons, EL.xTup, EL.xLst, EL.xDnew, EL.xNew, EL.xCell, EL.xIt, EL.xRng1, EL.xRng2, EL.xRng3, EL.xLc, EL.xDc, EL.xAG, EL.xFnD, EL.xFnDX, EL.xFnDK, EL.xSl, EL.xNone, EL.xPart, EL.xListOf, EL.xM0, EL.xM1, EL.yYes, EL.xIx, EL.xApp, EL.xExt, EL.xPop, EL.xRev, EL.xLen, EL.xDGet, EL.xDIn, EL.xGet1, EL.xGet2, EL.xOrT, EL.xAndT, EL.xNotT2, EL.xFld, EL.xMeth, EL.xMake, EL.xPairs, EL.xDisp, EL.xChain, EL.xFn, EL.xFnK, EL.glN, EL.glT_t, EL.glNil_n, EL.glCons_c, DL.op2, DL.op1, DL.opC, DL.c1, DL.isiP, DL.typeO, DL.tyIs, DL.inG, DL.isND, EL.wipeL, DL.le_s0, DL.le_s1, DL.le_s2, DL.le_s3, DL.le_s4, DL.le_s5, DL.le_s6, DL.le_s7, DL.le_s8, DL.le_s9, DL.le_s10, EL.start0L, EL.rtD_dat, EL.up_dat, EL.up_ob, EL.ofDV_dat, EL.dvL_dat, EL.dvL_deck, EL.dvL_ob, EL.frz_dat, EL.frz_loc, DL.lend, DL.noOwn, DL.DV.isOwn, DL.pd_dat, DL.pd_own, DL.ocpd_lst, DL.ocpd_dk, EL.itemsL, EL.itemsOfL, EL.seqL, EL.lenL, EL.ixL, EL.lookC, EL.truL, EL.truC, EL.dgetL, EL.dgetC, EL.dputC, EL.isDL, EL.isDC, EL.view_dat, EL.view_loc, EL.view_deck, EL.view_gts, EL.view_ob, EL.viewC_c, EL.oc_lst, EL.oc_dk, EL.oc_dt, EL.oc_ins, EL.asData_nil, EL.asData_cons, EL.asData_map, EL.asData_snoc, EL.views_nil, EL.views_cons, Option.bind_some, Option.map_some, Option.map_none, List.map_map, List.map_cons, List.map_nil, List.append_nil, List.cons_append, List.nil_append, List.length_cons, List.length_nil, List.length_map, List.replicate_succ, List.replicate_zero, List.getElem?_cons_zero, List.getElem?_cons_succ, List.set_cons_zero, List.set_cons_succ, Nat.reduceSub, Nat.reduceAdd, Nat.sub_self, Nat.zero_add, Option.some.injEq, EL.LV.dat.injEq, EL.LV.loc.injEq, EL.LV.ob.injEq, EL.Cell.lst.injEq, EL.Cell.dk.injEq, EL.Cell.ins.injEq, DL.DV.dat.injEq, PyData.bool.injEq, PyData.int.injEq, PyData.str.injEq, PyData.tuple.injEq, PyData.list.injEq, DL.DV.ob.injEq, V.ty.injEq, DL.DV.own.injEq, DL.OC.lst.injEq, List.cons.injEq, exists_eq_left', exists_eq_left, exists_eq_right, exists_eq_right', exists_and_left, and_true, true_and, Bool.not_true, Bool.not_false, Bool.and_true, Bool.true_and, true_or, Bool.not_eq_true', Bool.false_eq_true, if_true, if_false, reduceIte, reduceCtorEq])
      refine ⟨[(.inr "a", .dat (.int 1))], rfl, by decide, by simp, _, rfl, ⟨by decide, by decide, by decide⟩, by decide, ?_⟩
      refine ⟨_, _, rfl, rfl, by decide, by decide, fun e he => ?_⟩
      obtain ⟨hns, hse⟩ : (∀ z, e ≠ .str z) ∧ Say e := by
        simp only [List.mem_cons, List.not_mem_nil, or_false] at he
        rcases he with rfl | rfl | rfl | rfl | rfl | rfl | rfl | rfl | rfl | rfl | rfl | rfl | rfl | rfl <;> exact ⟨(fun z h => by cases h), (by decide +kernel), (by decide +kernel), (by decide +kernel)⟩
      intro fa
      simp only [zTry, xLam, endE, hdlL, xIsErr, xErrF, xTried, xFnDX]
      (try simp only [DL.iteB_true, DL.iteB_false, EL.zSeq, EL.zNext, EL.zRet, EL.zRetF, EL.zRetN, EL.zIf, EL.zAsg, EL.zAsgF, EL.zAsgC, EL.zDrop, EL.zRel, EL.zFor, EL.zBreak, EL.zCont, EL.zAsgT, EL.zPar, EL.zPar3, EL.zAug, EL.zCut, EL.zRaise, EL.zWhile, EL.zTrim, EL.trimmed, EL.zDPut, EL.zFld, EL.zFldInc, EL.xVar, EL.xC, EL.xOb, EL.xGts, EL.x2, EL.x1, EL.xCall, EL.xB, EL.xTru, EL.xAnd, EL.xOr, EL.xNot, EL.xIf, EL.yAnd, EL.yOr, EL.yNot, EL.xNil, EL.xCons, EL.xTup, EL.xLst, EL.xDnew, EL.xNew, EL.xCell, EL.xIt, EL.xRng1, EL.xRng2, EL.xRng3, EL.xLc, EL.xDc, EL.xAG, EL.xFnD, EL.xFnDX, EL.xFnDK, EL.xSl, EL.xNone, EL.xPart, EL.xListOf, EL.xM0, EL.xM1, EL.yYes, EL.xIx, EL.xApp, EL.xExt, EL.xPop, EL.xRev, EL.xLen, EL.xDGet, EL.xDIn, EL.xGet1, EL.xGet2, EL.xOrT, EL.xAndT, EL.xNotT2, EL.xFld, EL.xMeth, EL.xMake, EL.xPairs, EL.xDisp, EL.xChain, EL.xFn, EL.xFnK, EL.glN, EL.glT_t, EL.glNil_n, EL.glCons_c, DL.op2, DL.op1, DL.opC, DL.c1, DL.isiP, DL.typeO, DL.tyIs, DL.inG, DL.isND, EL.wipeL, DL.le_s0, DL.le_s1, DL.le_s2, DL.le_s3, DL.le_s4, DL.le_s5, DL.le_s6, DL.le_s7, DL.le_s8, DL.le_s9, DL.le_s10, EL.start0L, EL.rtD_dat, EL.up_dat, EL.up_ob, EL.ofDV_dat, EL.dvL_dat, EL.dvL_deck, EL.dvL_ob, EL.frz_dat, EL.frz_loc, DL.lend, DL.noOwn, DL.DV.isOwn, DL.pd_dat, DL.pd_own, DL.ocpd_lst, DL.ocpd_dk, EL.itemsL, EL.itemsOfL, EL.seqL, EL.lenL, EL.ixL, EL.lookC, EL.truL, EL.truC, EL.dgetL, EL.dgetC, EL.dputC, EL.isDL, EL.isDC, EL.view_dat, EL.view_loc, EL.view_deck, EL.view_gts, EL.view_ob, EL.viewC_c, EL.oc_lst, EL.oc_dk, EL.oc_dt, EL.oc_ins, EL.asData_nil, EL.asData_cons, EL.asData_map, EL.asData_snoc, EL.views_nil, EL.views_cons, Option.bind_some, Option.map_some, Option.map_none, List.map_map, List.map_cons, List.map_nil, List.append_nil, List.cons_append, List.nil_append, List.length_cons, List.length_nil, List.length_map, List.replicate_succ, List.replicate_zero, List.getElem?_cons_zero, List.getElem?_cons_succ, List.set_cons_zero, List.set_cons_succ, Nat.reduceSub, Nat.reduceAdd, Nat.sub_self, Nat.zero_add, Option.some.injEq, EL.LV.dat.injEq, EL.LV.loc.injEq, EL.LV.ob.injEq, EL.Cell.lst.injEq, EL.Cell.dk.injEq, EL.Cell.ins.injEq, DL.DV.dat.injEq, PyData.bool.injEq, PyData.int.injEq, PyData.str.injEq, PyData.tuple.injEq, PyData.list.injEq, DL.DV.ob.injEq, V.ty.injEq, DL.DV.own.injEq, DL.OC.lst.injEq, List.cons.injEq, exists_eq_left', exists_eq_left, exists_eq_right, exists_eq_right', exists_and_left, and_true, true_and, Bool.not_true, Bool.not_false, Bool.and_true, Bool.true_and, true_or, Bool.not_eq_true', Bool.false_eq_true, if_true, if_false, reduceIte, reduceCtorEq])
      refine ⟨rfl, e, rfl, (fun z hz => absurd hz (hns z)), (fun _ => ?_), (fun cs2 h _ => absurd h (hns _))⟩
      refine ⟨by decide +kernel, ?_⟩
      rw [show isKind "BadText" "QuickError" = true by decide +kernel, iteB_true]
      simp only [endE]
      (try simp only [DL.iteB_true, DL.iteB_false, EL.zSeq, EL.zNext, EL.zRet, EL.zRetF, EL.zRetN, EL.zIf, EL.zAsg, EL.zAsgF, EL.zAsgC, EL.zDrop, EL.zRel, EL.zFor, EL.zBreak, EL.zCont, EL.zAsgT, EL.zPar, EL.zPar3, EL.zAug, EL.zCut, EL.zRaise, EL.zWhile, EL.zTrim, EL.trimmed, EL.zDPut, EL.zFld, EL.zFldInc, EL.xVar, EL.xC, EL.xOb, EL.xGts, EL.x2, EL.x1, EL.xCall, EL.xB, EL.xTru, EL.xAnd, EL.xOr, EL.xNot, EL.xIf, EL.yAnd, EL.yOr, EL.yNot, EL.xNil, EL.xCons, EL.xTup, EL.xLst, EL.xDnew, EL.xNew, EL.xCell, EL.xIt, EL.xRng1, EL.xRng2, EL.xRng3, EL.xLc, EL.xDc, EL.xAG, EL.xFnD, EL.xFnDX, EL.xFnDK, EL.xSl, EL.xNone, EL.xPart, EL.xListOf, EL.xM0, EL.xM1, EL.yYes, EL.xIx, EL.xApp, EL.xExt, EL.xPop, EL.xRev, EL.xLen, EL.xDGet, EL.xDIn, EL.xGet1, EL.xGet2, EL.xOrT, EL.xAndT, EL.xNotT2, EL.xFld, EL.xMeth, EL.xMake, EL.xPairs, EL.xDisp, EL.xChain, EL.xFn, EL.xFnK, EL.glN, EL.glT_t, EL.glNil_n, EL.glCons_c, DL.op2, DL.op1, DL.opC, DL.c1, DL.isiP, DL.typeO, DL.tyIs, DL.inG, DL.isND, EL.wipeL, DL.le_s0, DL.le_s1, DL.le_s2, DL.le_s3, DL.le_s4, DL.le_s5, DL.le_s6, DL.le_s7, DL.le_s8, DL.le_s9, DL.le_s10, EL.start0L, EL.rtD_dat, EL.up_dat, EL.up_ob, EL.ofDV_dat, EL.dvL_dat, EL.dvL_deck, EL.dvL_ob, EL.frz_dat, EL.frz_loc, DL.lend, DL.noOwn, DL.DV.isOwn, DL.pd_dat, DL.pd_own, DL.ocpd_lst, DL.ocpd_dk, EL.itemsL, EL.itemsOfL, EL.seqL, EL.lenL, EL.ixL, EL.lookC, EL.truL, EL.truC, EL.dgetL, EL.dgetC, EL.dputC, EL.isDL, EL.isDC, EL.view_dat, EL.view_loc, EL.view_deck, EL.view_gts, EL.view_ob, EL.viewC_c, EL.oc_lst, EL.oc_dk, EL.oc_dt, EL.oc_ins, EL.asData_nil, EL.asData_cons, EL.asData_map, EL.asData_snoc, EL.views_nil, EL.views_cons, Option.bind_some, Option.map_some, Option.map_none, List.map_map, List.map_cons, List.map_nil, List.append_nil, List.cons_append, List.nil_append, List.length_cons, List.length_nil, List.length_map, List.replicate_succ, List.replicate_zero, List.getElem?_cons_zero, List.getElem?_cons_succ, List.set_cons_zero, List.set_cons_succ, Nat.reduceSub, Nat.reduceAdd, Nat.sub_self, Nat.zero_add, Option.some.injEq, EL.LV.dat.injEq, EL.LV.loc.injEq, EL.LV.ob.injEq, EL.Cell.lst.injEq, EL.Cell.dk.injEq, EL.Cell.ins.injEq, DL.DV.dat.injEq, PyData.bool.injEq, PyData.int.injEq, PyData.str.injEq, PyData.tuple.injEq, PyData.list.injEq, DL.DV.ob.injEq, V.ty.injEq, DL.DV.own.injEq, DL.OC.lst.injEq, List.cons.injEq, exists_eq_left', exists_eq_left, exists_eq_right, exists_eq_right', exists_and_left, and_true, true_and, Bool.not_true, Bool.not_false, Bool.and_true, Bool.true_and, true_or, Bool.not_eq_true', Bool.false_eq_true, if_true, if_false, reduceIte, reduceCtorEq])
      refine isErr_at rfl (by decide +kernel) ⟨true, congrArg (fun b => LV.dat (.bool b)) kTT, ?_⟩
      rw [iteB_true]
      refine isErr_at rfl (by decide +kernel) (errF_at rfl (by decide +kernel) (by decide +kernel) ?_)
      rw [kTW]
      (try simp only [DL.iteB_true, DL.iteB_false, EL.zSeq, EL.zNext, EL.zRet, EL.zRetF, EL.zRetN, EL.zIf, EL.zAsg, EL.zAsgF, EL.zAsgC, EL.zDrop, EL.zRel, EL.zFor, EL.zBreak, EL.zCont, EL.zAsgT, EL.zPar, EL.zPar3, EL.zAug, EL.zCut, EL.zRaise, EL.zWhile, EL.zTrim, EL.trimmed, EL.zDPut, EL.zFld, EL.zFldInc, EL.xVar, EL.xC, EL.xOb, EL.xGts, EL.x2, EL.x1, EL.xCall, EL.xB, EL.xTru, EL.xAnd, EL.xOr, EL.xNot, EL.xIf, EL.yAnd, EL.yOr, EL.yNot, EL.xNil, EL.xCons, EL.xTup, EL.xLst, EL.xDnew, EL.xNew, EL.xCell, EL.xIt, EL.xRng1, EL.xRng2, EL.xRng3, EL.xLc, EL.xDc, EL.xAG, EL.xFnD, EL.xFnDX, EL.xFnDK, EL.xSl, EL.xNone, EL.xPart, EL.xListOf, EL.xM0, EL.xM1, EL.yYes, EL.xIx, EL.xApp, EL.xExt, EL.xPop, EL.xRev, EL.xLen, EL.xDGet, EL.xDIn, EL.xGet1, EL.xGet2, EL.xOrT, EL.xAndT, EL.xNotT2, EL.xFld, EL.xMeth, EL.xMake, EL.xPairs, EL.xDisp, EL.xChain, EL.xFn, EL.xFnK, EL.glN, EL.glT_t, EL.glNil_n, EL.glCons_c, DL.op2, DL.op1, DL.opC, DL.c1, DL.isiP, DL.typeO, DL.tyIs, DL.inG, DL.isND, EL.wipeL, DL.le_s0, DL.le_s1, DL.le_s2, DL.le_s3, DL.le_s4, DL.le_s5, DL.le_s6, DL.le_s7, DL.le_s8, DL.le_s9, DL.le_s10, EL.start0L, EL.rtD_dat, EL.up_dat, EL.up_ob, EL.ofDV_dat, EL.dvL_dat, EL.dvL_deck, EL.dvL_ob, EL.frz_dat, EL.frz_loc, DL.lend, DL.noOwn, DL.DV.isOwn, DL.pd_dat, DL.pd_own, DL.ocpd_lst, DL.ocpd_dk, EL.itemsL, EL.itemsOfL, EL.seqL, EL.lenL, EL.ixL, EL.lookC, EL.truL, EL.truC, EL.dgetL, EL.dgetC, EL.dputC, EL.isDL, EL.isDC, EL.view_dat, EL.view_loc, EL.view_deck, EL.view_gts, EL.view_ob, EL.viewC_c, EL.oc_lst, EL.oc_dk, EL.oc_dt, EL.oc_ins, EL.asData_nil, EL.asData_cons, EL.asData_map, EL.asData_snoc, EL.views_nil, EL.views_cons, Option.bind_some, Option.map_some, Option.map_none, List.map_map, List.map_cons, List.map_nil, List.append_nil, List.cons_append, List.nil_append, List.length_cons, List.length_nil, List.length_map, List.replicate_succ, List.replicate_zero, List.getElem?_cons_zero, List.getElem?_cons_succ, List.set_cons_zero, List.set_cons_succ, Nat.reduceSub, Nat.reduceAdd, Nat.sub_self, Nat.zero_add, Option.some.injEq, EL.LV.dat.injEq, EL.LV.loc.injEq, EL.LV.ob.injEq, EL.Cell.lst.injEq, EL.Cell.dk.injEq, EL.Cell.ins.injEq, DL.DV.dat.injEq, PyData.bool.injEq, PyData.int.injEq, PyData.str.injEq, PyData.tuple.injEq, PyData.list.injEq, DL.DV.ob.injEq, V.ty.injEq, DL.DV.own.injEq, DL.OC.lst.injEq, List.cons.injEq, exists_eq_left', exists_eq_left, exists_eq_right, exists_eq_right', exists_and_left, and_true, true_and, Bool.not_true, Bool.not_false, Bool.and_true, Bool.true_and, true_or, Bool.not_eq_true', Bool.false_eq_true, if_true, if_false, reduceIte, reduceCtorEq])
      refine ⟨⟨by decide +kernel, by decide +kernel, by decide +kernel⟩, ?_⟩
      rw [show PyData.shown (.int 0) = "0" by decide +kernel]
      refine eq_self (by simp [PyData.canLay0, PyData.canLayAll0, PyData.strOk] <;> decide +kernel) (by simp [PyData.depth, PyData.depthAll]) ⟨_, rfl, ?_⟩
      rw [iteB_false]
      refine ⟨by decide, _, _, rfl, rfl, by simp, by simp, fun e2 he2 => ?_⟩
      obtain ⟨hnw, hsh, hs2⟩ : wordB e2 = false ∧ (∀ z, e2 = .str z → z.length ≤ 2000) ∧ Say e2 := by
        simp only [List.mem_cons, List.not_mem_nil, or_false] at he2
        rcases he2 with rfl | he2
        · refine ⟨?_, fun z hz => absurd hz (hns z), hse⟩
          cases e2 with
          | str z => exact absurd rfl (hns z)
          | _ => rfl
        · rcases he2 with rfl | rfl | rfl | rfl | rfl | rfl | rfl | rfl | rfl | rfl <;> exact ⟨(by decide +kernel), (fun z h => by cases h; decide +kernel), (by decide +kernel), (by decide +kernel), (by decide +kernel)⟩
      intro fa
      simp only [zTry]
      (try simp only [DL.iteB_true, DL.iteB_false, EL.zSeq, EL.zNext, EL.zRet, EL.zRetF, EL.zRetN, EL.zIf, EL.zAsg, EL.zAsgF, EL.zAsgC, EL.zDrop, EL.zRel, EL.zFor, EL.zBreak, EL.zCont, EL.zAsgT, EL.zPar, EL.zPar3, EL.zAug, EL.zCut, EL.zRaise, EL.zWhile, EL.zTrim, EL.trimmed, EL.zDPut, EL.zFld, EL.zFldInc, EL.xVar, EL.xC, EL.xOb, EL.xGts, EL.x2, EL.x1, EL.xCall, EL.xB, EL.xTru, EL.xAnd, EL.xOr, EL.xNot, EL.xIf, EL.yAnd, EL.yOr, EL.yNot, EL.xNil, EL.xCons, EL.xTup, EL.xLst, EL.xDnew, EL.xNew, EL.xCell, EL.xIt, EL.xRng1, EL.xRng2, EL.xRng3, EL.xLc, EL.xDc, EL.xAG, EL.xFnD, EL.xFnDX, EL.xFnDK, EL.xSl, EL.xNone, EL.xPart, EL.xListOf, EL.xM0, EL.xM1, EL.yYes, EL.xIx, EL.xApp, EL.xExt, EL.xPop, EL.xRev, EL.xLen, EL.xDGet, EL.xDIn, EL.xGet1, EL.xGet2, EL.xOrT, EL.xAndT, EL.xNotT2, EL.xFld, EL.xMeth, EL.xMake, EL.xPairs, EL.xDisp, EL.xChain, EL.xFn, EL.xFnK, EL.glN, EL.glT_t, EL.glNil_n, EL.glCons_c, DL.op2, DL.op1, DL.opC, DL.c1, DL.isiP, DL.typeO, DL.tyIs, DL.inG, DL.isND, EL.wipeL, DL.le_s0, DL.le_s1, DL.le_s2, DL.le_s3, DL.le_s4, DL.le_s5, DL.le_s6, DL.le_s7, DL.le_s8, DL.le_s9, DL.le_s10, EL.start0L, EL.rtD_dat, EL.up_dat, EL.up_ob, EL.ofDV_dat, EL.dvL_dat, EL.dvL_deck, EL.dvL_ob, EL.frz_dat, EL.frz_loc, DL.lend, DL.noOwn, DL.DV.isOwn, DL.pd_dat, DL.pd_own, DL.ocpd_lst, DL.ocpd_dk, EL.itemsL, EL.itemsOfL, EL.seqL, EL.lenL, EL.ixL, EL.lookC, EL.truL, EL.truC, EL.dgetL, EL.dgetC, EL.dputC, EL.isDL, EL.isDC, EL.view_dat, EL.view_loc, EL.view_deck, EL.view_gts, EL.view_ob, EL.viewC_c, EL.oc_lst, EL.oc_dk, EL.oc_dt, EL.oc_ins, EL.asData_nil, EL.asData_cons, EL.asData_map, EL.asData_snoc, EL.views_nil, EL.views_cons, Option.bind_some, Option.map_some, Option.map_none, List.map_map, List.map_cons, List.map_nil, List.append_nil, List.cons_append, List.nil_append, List.length_cons, List.length_nil, List.length_map, List.replicate_succ, List.replicate_zero, List.getElem?_cons_zero, List.getElem?_cons_succ, List.set_cons_zero, List.set_cons_succ, Nat.reduceSub, Nat.reduceAdd, Nat.sub_self, Nat.zero_add, Option.some.injEq, EL.LV.dat.injEq, EL.LV.loc.injEq, EL.LV.ob.injEq, EL.Cell.lst.injEq, EL.Cell.dk.injEq, EL.Cell.ins.injEq, DL.DV.dat.injEq, PyData.bool.injEq, PyData.int.injEq, PyData.str.injEq, PyData.tuple.injEq, PyData.list.injEq, DL.DV.ob.injEq, V.ty.injEq, DL.DV.own.injEq, DL.OC.lst.injEq, List.cons.injEq, exists_eq_left', exists_eq_left, exists_eq_right, exists_eq_right', exists_and_left, and_true, true_and, Bool.not_true, Bool.not_false, Bool.and_true, Bool.true_and, true_or, Bool.not_eq_true', Bool.false_eq_true, if_true, if_false, reduceIte, reduceCtorEq])
      refine ⟨rfl, e2, rfl, hsh, (fun _ => ?_), (fun l2 h hw2 => absurd hnw (by rw [h]; show ¬ isW (ofL l2) = false; rw [hw2]; decide))⟩
      refine ⟨by decide +kernel, ?_⟩
      rw [show isKind "BadWord" "QuickError" = true by decide +kernel, iteB_true]
      simp only [endE]
      (try simp only [DL.iteB_true, DL.iteB_false, EL.zSeq, EL.zNext, EL.zRet, EL.zRetF, EL.zRetN, EL.zIf, EL.zAsg, EL.zAsgF, EL.zAsgC, EL.zDrop, EL.zRel, EL.zFor, EL.zBreak, EL.zCont, EL.zAsgT, EL.zPar, EL.zPar3, EL.zAug, EL.zCut, EL.zRaise, EL.zWhile, EL.zTrim, EL.trimmed, EL.zDPut, EL.zFld, EL.zFldInc, EL.xVar, EL.xC, EL.xOb, EL.xGts, EL.x2, EL.x1, EL.xCall, EL.xB, EL.xTru, EL.xAnd, EL.xOr, EL.xNot, EL.xIf, EL.yAnd, EL.yOr, EL.yNot, EL.xNil, EL.xCons, EL.xTup, EL.xLst, EL.xDnew, EL.xNew, EL.xCell, EL.xIt, EL.xRng1, EL.xRng2, EL.xRng3, EL.xLc, EL.xDc, EL.xAG, EL.xFnD, EL.xFnDX, EL.xFnDK, EL.xSl, EL.xNone, EL.xPart, EL.xListOf, EL.xM0, EL.xM1, EL.yYes, EL.xIx, EL.xApp, EL.xExt, EL.xPop, EL.xRev, EL.xLen, EL.xDGet, EL.xDIn, EL.xGet1, EL.xGet2, EL.xOrT, EL.xAndT, EL.xNotT2, EL.xFld, EL.xMeth, EL.xMake, EL.xPairs, EL.xDisp, EL.xChain, EL.xFn, EL.xFnK, EL.glN, EL.glT_t, EL.glNil_n, EL.glCons_c, DL.op2, DL.op1, DL.opC, DL.c1, DL.isiP, DL.typeO, DL.tyIs, DL.inG, DL.isND, EL.wipeL, DL.le_s0, DL.le_s1, DL.le_s2, DL.le_s3, DL.le_s4, DL.le_s5, DL.le_s6, DL.le_s7, DL.le_s8, DL.le_s9, DL.le_s10, EL.start0L, EL.rtD_dat, EL.up_dat, EL.up_ob, EL.ofDV_dat, EL.dvL_dat, EL.dvL_deck, EL.dvL_ob, EL.frz_dat, EL.frz_loc, DL.lend, DL.noOwn, DL.DV.isOwn, DL.pd_dat, DL.pd_own, DL.ocpd_lst, DL.ocpd_dk, EL.itemsL, EL.itemsOfL, EL.seqL, EL.lenL, EL.ixL, EL.lookC, EL.truL, EL.truC, EL.dgetL, EL.dgetC, EL.dputC, EL.isDL, EL.isDC, EL.view_dat, EL.view_loc, EL.view_deck, EL.view_gts, EL.view_ob, EL.viewC_c, EL.oc_lst, EL.oc_dk, EL.oc_dt, EL.oc_ins, EL.asData_nil, EL.asData_cons, EL.asData_map, EL.asData_snoc, EL.views_nil, EL.views_cons, Option.bind_some, Option.map_some, Option.map_none, List.map_map, List.map_cons, List.map_nil, List.append_nil, List.cons_append, List.nil_append, List.length_cons, List.length_nil, List.length_map, List.replicate_succ, List.replicate_zero, List.getElem?_cons_zero, List.getElem?_cons_succ, List.set_cons_zero, List.set_cons_succ, Nat.reduceSub, Nat.reduceAdd, Nat.sub_self, Nat.zero_add, Option.some.injEq, EL.LV.dat.injEq, EL.LV.loc.injEq, EL.LV.ob.injEq, EL.Cell.lst.injEq, EL.Cell.dk.injEq, EL.Cell.ins.injEq, DL.DV.dat.injEq, PyData.bool.injEq, PyData.int.injEq, PyData.str.injEq, PyData.tuple.injEq, PyData.list.injEq, DL.DV.ob.injEq, V.ty.injEq, DL.DV.own.injEq, DL.OC.lst.injEq, List.cons.injEq, exists_eq_left', exists_eq_left, exists_eq_right, exists_eq_right', exists_and_left, and_true, true_and, Bool.not_true, Bool.not_false, Bool.and_true, Bool.true_and, true_or, Bool.not_eq_true', Bool.false_eq_true, if_true, if_false, reduceIte, reduceCtorEq])
      refine isErr_at rfl (by decide +kernel) ⟨false, congrArg (fun b => LV.dat (.bool b)) kWT, ?_⟩
      rw [iteB_false]
      refine isErr_at rfl (by decide +kernel) ⟨true, congrArg (fun b => LV.dat (.bool b)) kWW, ?_⟩
      rw [iteB_true]
      refine errF_at rfl (by decide +kernel) (by decide +kernel) ?_
      (try simp only [DL.iteB_true, DL.iteB_false, EL.zSeq, EL.zNext, EL.zRet, EL.zRetF, EL.zRetN, EL.zIf, EL.zAsg, EL.zAsgF, EL.zAsgC, EL.zDrop, EL.zRel, EL.zFor, EL.zBreak, EL.zCont, EL.zAsgT, EL.zPar, EL.zPar3, EL.zAug, EL.zCut, EL.zRaise, EL.zWhile, EL.zTrim, EL.trimmed, EL.zDPut, EL.zFld, EL.zFldInc, EL.xVar, EL.xC, EL.xOb, EL.xGts, EL.x2, EL.x1, EL.xCall, EL.xB, EL.xTru, EL.xAnd, EL.xOr, EL.xNot, EL.xIf, EL.yAnd, EL.yOr, EL.yNot, EL.xNil, EL.xCons, EL.xTup, EL.xLst, EL.xDnew, EL.xNew, EL.xCell, EL.xIt, EL.xRng1, EL.xRng2, EL.xRng3, EL.xLc, EL.xDc, EL.xAG, EL.xFnD, EL.xFnDX, EL.xFnDK, EL.xSl, EL.xNone, EL.xPart, EL.xListOf, EL.xM0, EL.xM1, EL.yYes, EL.xIx, EL.xApp, EL.xExt, EL.xPop, EL.xRev, EL.xLen, EL.xDGet, EL.xDIn, EL.xGet1, EL.xGet2, EL.xOrT, EL.xAndT, EL.xNotT2, EL.xFld, EL.xMeth, EL.xMake, EL.xPairs, EL.xDisp, EL.xChain, EL.xFn, EL.xFnK, EL.glN, EL.glT_t, EL.glNil_n, EL.glCons_c, DL.op2, DL.op1, DL.opC, DL.c1, DL.isiP, DL.typeO, DL.tyIs, DL.inG, DL.isND, EL.wipeL, DL.le_s0, DL.le_s1, DL.le_s2, DL.le_s3, DL.le_s4, DL.le_s5, DL.le_s6, DL.le_s7, DL.le_s8, DL.le_s9, DL.le_s10, EL.start0L, EL.rtD_dat, EL.up_dat, EL.up_ob, EL.ofDV_dat, EL.dvL_dat, EL.dvL_deck, EL.dvL_ob, EL.frz_dat, EL.frz_loc, DL.lend, DL.noOwn, DL.DV.isOwn, DL.pd_dat, DL.pd_own, DL.ocpd_lst, DL.ocpd_dk, EL.itemsL, EL.itemsOfL, EL.seqL, EL.lenL, EL.ixL, EL.lookC, EL.truL, EL.truC, EL.dgetL, EL.dgetC, EL.dputC, EL.isDL, EL.isDC, EL.view_dat, EL.view_loc, EL.view_deck, EL.view_gts, EL.view_ob, EL.viewC_c, EL.oc_lst, EL.oc_dk, EL.oc_dt, EL.oc_ins, EL.asData_nil, EL.asData_cons, EL.asData_map, EL.asData_snoc, EL.views_nil, EL.views_cons, Option.bind_some, Option.map_some, Option.map_none, List.map_map, List.map_cons, List.map_nil, List.append_nil, List.cons_append, List.nil_append, List.length_cons, List.length_nil, List.length_map, List.replicate_succ, List.replicate_zero, List.getElem?_cons_zero, List.getElem?_cons_succ, List.set_cons_zero, List.set_cons_succ, Nat.reduceSub, Nat.reduceAdd, Nat.sub_self, Nat.zero_add, Option.some.injEq, EL.LV.dat.injEq, EL.LV.loc.injEq, EL.LV.ob.injEq, EL.Cell.lst.injEq, EL.Cell.dk.injEq, EL.Cell.ins.injEq, DL.DV.dat.injEq, PyData.bool.injEq, PyData.int.injEq, PyData.str.injEq, PyData.tuple.injEq, PyData.list.injEq, DL.DV.ob.injEq, V.ty.injEq, DL.DV.own.injEq, DL.OC.lst.injEq, List.cons.injEq, exists_eq_left', exists_eq_left, exists_eq_right, exists_eq_right', exists_and_left, and_true, true_and, Bool.not_true, Bool.not_false, Bool.and_true, Bool.true_and, true_or, Bool.not_eq_true', Bool.false_eq_true, if_true, if_false, reduceIte, reduceCtorEq])
      refine ⟨hs2, hs2, ?_⟩
      refine eq_self (lay3 e2) (by simp [PyData.depth, PyData.depthAll]) ⟨_, rfl, ?_⟩
      rw [iteB_false]
      exact hN
    · rintro ρ η ⟨x3, x4, x5, x6, x7, x8, x9, x10, x11, x12, x13, x14, x15, x16, rfl, rfl⟩
      (try simp only [DL.iteB_true, DL.iteB_false, EL.zSeq, EL.zNext, EL.zRet, EL.zRetF, EL.zRetN, EL.zIf, EL.zAsg, EL.zAsgF, EL.zAsgC, EL.zDrop, EL.zRel, EL.zFor, EL.zBreak, EL.zCont, EL.zAsgT, EL.zPar, EL.zPar3, EL.zAug, EL.zCut, EL.zRaise, EL.zWhile, EL.zTrim, EL.trimmed, EL.zDPut, EL.zFld, EL.zFldInc, EL.xVar, EL.xC, EL.xOb, EL.xGts, EL.x2, EL.x1, EL.xCall, EL.xB, EL.xTru, EL.xAnd, EL.xOr, EL.xNot, EL.xIf, EL.yAnd, EL.yOr, EL.yNot, EL.xNil, EL.xCons, EL.xTup, EL.xLst, EL.xDnew, EL.xNew, EL.xCell, EL.xIt, EL.xRng1, EL.xRng2, EL.xRng3, EL.xLc, EL.xDc, EL.xAG, EL.xFnD, EL.xFnDX, EL.xFnDK, EL.xSl, EL.xNone, EL.xPart, EL.xListOf, EL.xM0, EL.xM1, EL.yYes, EL.xIx, EL.xApp, EL.xExt, EL.xPop, EL.xRev, EL.xLen, EL.xDGet, EL.xDIn, EL.xGet1, EL.xGet2, EL.xOrT, EL.xAndT, EL.xNotT2, EL.xFld, EL.xMeth, EL.xMake, EL.xPairs, EL.xDisp, EL.xChain, EL.xFn, EL.xFnK, EL.glN, EL.glT_t, EL.glNil_n, EL.glCons_c, DL.op2, DL.op1, DL.opC, DL.c1, DL.isiP, DL.typeO, DL.tyIs, DL.inG, DL.isND, EL.wipeL, DL.le_s0, DL.le_s1, DL.le_s2, DL.le_s3, DL.le_s4, DL.le_s5, DL.le_s6, DL.le_s7, DL.le_s8, DL.le_s9, DL.le_s10, EL.start0L, EL.rtD_dat, EL.up_dat, EL.up_ob, EL.ofDV_dat, EL.dvL_dat, EL.dvL_deck, EL.dvL_ob, EL.frz_dat, EL.frz_loc, DL.lend, DL.noOwn, DL.DV.isOwn, DL.pd_dat, DL.pd_own, DL.ocpd_lst, DL.ocpd_dk, EL.itemsL, EL.itemsOfL, EL.seqL, EL.lenL, EL.ixL, EL.lookC, EL.truL, EL.truC, EL.dgetL, EL.dgetC, EL.dputC, EL.isDL, EL.isDC, EL.view_dat, EL.view_loc, EL.view_deck, EL.view_gts, EL.view_ob, EL.viewC_c, EL.oc_lst, EL.oc_dk, EL.oc_dt, EL.oc_ins, EL.asData_nil, EL.asData_cons, EL.asData_map, EL.asData_snoc, EL.views_nil, EL.views_cons, Option.bind_some, Option.map_some, Option.map_none, List.map_map, List.map_cons, List.map_nil, List.append_nil, List.cons_append, List.nil_append, List.length_cons, List.length_nil, List.length_map, List.replicate_succ, List.replicate_zero, List.getElem?_cons_zero, List.getElem?_cons_succ, List.set_cons_zero, List.set_cons_succ, Nat.reduceSub, Nat.reduceAdd, Nat.sub_self, Nat.zero_add, Option.some.injEq, EL.LV.dat.injEq, EL.LV.loc.injEq, EL.LV.ob.injEq, EL.Cell.lst.injEq, EL.Cell.dk.injEq, EL.Cell.ins.injEq, DL.DV.dat.injEq, PyData.bool.injEq, PyData.int.injEq, PyData.str.injEq, PyData.tuple.injEq, PyData.list.injEq, DL.DV.ob.injEq, V.ty.injEq, DL.DV.own.injEq, DL.OC.lst.injEq, List.cons.injEq, exists_eq_left', exists_eq_left, exists_eq_right, exists_eq_right', exists_and_left, and_true, true_and, Bool.not_true, Bool.not_false, Bool.and_true, Bool.true_and, true_or, Bool.not_eq_true', Bool.false_eq_true, if_true, if_false, reduceIte, reduceCtorEq])
end
end OL


set_option Elab.async false
set_option linter.all false
set_option maxRecDepth 100000
set_option maxHeartbeats 0
/-! The end of a row whose ok_law stands in OL. -/
namespace PZ
open PySem PySem.Spec PyProof.Rows L2 KT KG KX KY KE0 KQ LK GxR DL KA DW EL QE QF QB QX QY QZ TP
def exB (K : PySem.W.Frag) : Bool := (ersB K ers && (decide ((He.cT K ("law", none)).2 ≠ (He.cT K ("word_of_text", none)).2) && (decide ((He.cT K ("law", none)).2 ≠ (He.cT K ("text_of_word", none)).2) && true)))
def hdFa : List He.Fa := [.glo "is_whole", .glo "is_word", .glo "plain_word", .glo "word_of_text", .glo "text_of_word", .glo "sign_words", .glo "_law_deck", .glo "_law_draw", .glo "_law_pick", .glo "_law_same", .glo "_law_bits", .glo "_law_word_of", .glo "_law_signs", .glo "_law_codes", .glo "_law_tried", .glo "_law_is_told", .glo "law", .free "Exception", .free "all", .free "int", .free "isinstance", .free "len", .free "list", .free "max", .free "ord", .free "range", .free "repr", .free "str", .free "tuple", .free "type", .str "TEXT_SIGNS" "\n !\"#$&'()*+,-./0123456789:;<=>?\x40ABCDEFGHIJKLMNOPQRSTUVWXYZ[\\]^_`abcdefghijklmnopqrstuvwxyz{|}~", .int "LETTERS_OF_SIGN" 7, .glo "QuickError", .glo "BadWord", .glo "BadText", .glo "BadNumber"]
def dd_is_whole : He.DefD := ⟨("is_whole", none), "is_whole", "is_whole", defArgs s_is_whole, defBody s_is_whole, defScope s_is_whole, [], []⟩
def dd_is_word : He.DefD := ⟨("is_word", none), "is_word", "is_word", defArgs s_is_word, defBody s_is_word, defScope s_is_word, [], []⟩
def dd_plain_word : He.DefD := ⟨("plain_word", none), "plain_word", "plain_word", defArgs s_plain_word, defBody s_plain_word, defScope s_plain_word, [], []⟩
def dd_word_of_text : He.DefD := ⟨("word_of_text", none), "word_of_text", "word_of_text", defArgs s_word_of_text, defBody s_word_of_text, defScope s_word_of_text, [], []⟩
def dd_text_of_word : He.DefD := ⟨("text_of_word", none), "text_of_word", "text_of_word", defArgs s_text_of_word, defBody s_text_of_word, defScope s_text_of_word, [], []⟩
def dd_sign_words : He.DefD := ⟨("sign_words", none), "sign_words", "sign_words", defArgs s_sign_words, defBody s_sign_words, defScope s_sign_words, [], []⟩
def dd__law_deck : He.DefD := ⟨("_law_deck", none), "_law_deck", "_law_deck", defArgs s__law_deck, defBody s__law_deck, defScope s__law_deck, [], []⟩
def dd__law_draw : He.DefD := ⟨("_law_draw", none), "_law_draw", "_law_draw", defArgs s__law_draw, defBody s__law_draw, defScope s__law_draw, [], []⟩
def dd__law_pick : He.DefD := ⟨("_law_pick", none), "_law_pick", "_law_pick", defArgs s__law_pick, defBody s__law_pick, defScope s__law_pick, [], []⟩
def dd__law_same : He.DefD := ⟨("_law_same", none), "_law_same", "_law_same", defArgs s__law_same, defBody s__law_same, defScope s__law_same, [], []⟩
def dd__law_bits : He.DefD := ⟨("_law_bits", none), "_law_bits", "_law_bits", defArgs s__law_bits, defBody s__law_bits, defScope s__law_bits, [], []⟩
def dd__law_word_of : He.DefD := ⟨("_law_word_of", none), "_law_word_of", "_law_word_of", defArgs s__law_word_of, defBody s__law_word_of, defScope s__law_word_of, [], []⟩
def dd__law_signs : He.DefD := ⟨("_law_signs", none), "_law_signs", "_law_signs", defArgs s__law_signs, defBody s__law_signs, defScope s__law_signs, [], []⟩
def dd__law_codes : He.DefD := ⟨("_law_codes", none), "_law_codes", "_law_codes", defArgs s__law_codes, defBody s__law_codes, defScope s__law_codes, [], []⟩
def dd__law_tried : He.DefD := ⟨("_law_tried", none), "_law_tried", "_law_tried", defArgs s__law_tried, defBody s__law_tried, defScope s__law_tried, [], []⟩
def dd__law_is_told : He.DefD := ⟨("_law_is_told", none), "_law_is_told", "_law_is_told", defArgs s__law_is_told, defBody s__law_is_told, defScope s__law_is_told, [], []⟩
def dd_law : He.DefD := ⟨("law", none), "law", "law", defArgs s_law, defBody s_law, defScope s_law, [], []⟩
def dd_BadWord___init__ : He.DefD := ⟨("BadWord", some "__init__"), "__init__", "BadWord.__init__", defArgs m_BadWord___init__, defBody m_BadWord___init__, defScope m_BadWord___init__, [], []⟩
def dd_BadText___init__ : He.DefD := ⟨("BadText", some "__init__"), "__init__", "BadText.__init__", defArgs m_BadText___init__, defBody m_BadText___init__, defScope m_BadText___init__, [], []⟩
def dd_BadNumber___init__ : He.DefD := ⟨("BadNumber", some "__init__"), "__init__", "BadNumber.__init__", defArgs m_BadNumber___init__, defBody m_BadNumber___init__, defScope m_BadNumber___init__, [], []⟩
def hdFn : List He.DefD := [dd_is_whole, dd_is_word, dd_plain_word, dd_word_of_text, dd_text_of_word, dd_sign_words, dd__law_deck, dd__law_draw, dd__law_pick, dd__law_same, dd__law_bits, dd__law_word_of, dd__law_signs, dd__law_codes, dd__law_tried, dd__law_is_told, dd_law, dd_BadWord___init__, dd_BadText___init__, dd_BadNumber___init__]
def hdTf : List He.Defn := [("word_of_text", none), ("text_of_word", none), ("law", none)]
def hdEx (K : PySem.W.Frag) : Bool := PZ.exB K 
def hdLoose : List Str := [("QuickError" : Str), ("BadWord" : Str), ("BadText" : Str), ("BadNumber" : Str), ("is_whole" : Str), ("is_word" : Str), ("plain_word" : Str), ("TEXT_SIGNS" : Str), ("LETTERS_OF_SIGN" : Str), ("word_of_text" : Str), ("text_of_word" : Str), ("sign_words" : Str), ("_law_deck" : Str), ("_law_draw" : Str), ("_law_pick" : Str), ("_law_same" : Str), ("_law_bits" : Str), ("_law_word_of" : Str), ("_law_signs" : Str), ("_law_codes" : Str), ("_law_tried" : Str), ("_law_is_told" : Str)]
abbrev hdR : PySem.W.OpenRow := PySem.W.OpenLaw.row PySem.Challenge.rw_quicktongue_k95_texts_as_words
abbrev hdK : PySem.W.Hook := He.hookX 5 hdFa hdFn [] hdTf hdEx
def hdOb (s : PySem.W.SharedT) : He.AlX := He.obsX 5 hdFa hdFn [] hdTf hdEx (HandSHeadRun.getT s)
theorem hdOb_eq (s : PySem.W.SharedT) : hdOb s = hdK.obs s.abs := He.obsX_eq (HandSHeadRun.getT_eq s)
theorem hdRun (w : World) : HandSHeadRun.RunEq hdR (PySem.W.view hdR.prog [28]) hdK hdOb 8000 hdLoose w := by
  intro os
  kernel_rfl
abbrev P__law_pick : List Str := ["_law_deck_here", "_law_some"]
theorem df_is_whole {K : PySem.W.Frag} {h : Heap} {mg : Str → Option Value} (X : K.In h) (G : h.Ns mainGlobals mg) (c : He.SaysD hdFa hdFn K) : ∃ fd, Df K mg "is_whole" s_is_whole P_is_whole fd := by
  obtain ⟨fd, F⟩ := c.def_ 0 (d := dd_is_whole) rfl
  exact ⟨fd, F, He.glo_ok X G (c.fact 0 (f := .glo "is_whole") rfl), F.bindsN fun _ _ _ _ _ _ us hl => match us, hl with | [_], _ => rfl⟩
theorem df_is_word {K : PySem.W.Frag} {h : Heap} {mg : Str → Option Value} (X : K.In h) (G : h.Ns mainGlobals mg) (c : He.SaysD hdFa hdFn K) : ∃ fd, Df K mg "is_word" s_is_word P_is_word fd := by
  obtain ⟨fd, F⟩ := c.def_ 1 (d := dd_is_word) rfl
  exact ⟨fd, F, He.glo_ok X G (c.fact 1 (f := .glo "is_word") rfl), F.bindsN fun _ _ _ _ _ _ us hl => match us, hl with | [_], _ => rfl⟩
theorem df_plain_word {K : PySem.W.Frag} {h : Heap} {mg : Str → Option Value} (X : K.In h) (G : h.Ns mainGlobals mg) (c : He.SaysD hdFa hdFn K) : ∃ fd, Df K mg "plain_word" s_plain_word P_plain_word fd := by
  obtain ⟨fd, F⟩ := c.def_ 2 (d := dd_plain_word) rfl
  exact ⟨fd, F, He.glo_ok X G (c.fact 2 (f := .glo "plain_word") rfl), F.bindsN fun _ _ _ _ _ _ us hl => match us, hl with | [_], _ => rfl⟩
theorem df_word_of_text {K : PySem.W.Frag} {h : Heap} {mg : Str → Option Value} (X : K.In h) (G : h.Ns mainGlobals mg) (c : He.SaysD hdFa hdFn K) : ∃ fd, Df K mg "word_of_text" s_word_of_text P_word_of_text fd := by
  obtain ⟨fd, F⟩ := c.def_ 3 (d := dd_word_of_text) rfl
  exact ⟨fd, F, He.glo_ok X G (c.fact 3 (f := .glo "word_of_text") rfl), F.bindsN fun _ _ _ _ _ _ us hl => match us, hl with | [_], _ => rfl⟩
theorem df_text_of_word {K : PySem.W.Frag} {h : Heap} {mg : Str → Option Value} (X : K.In h) (G : h.Ns mainGlobals mg) (c : He.SaysD hdFa hdFn K) : ∃ fd, Df K mg "text_of_word" s_text_of_word P_text_of_word fd := by
  obtain ⟨fd, F⟩ := c.def_ 4 (d := dd_text_of_word) rfl
  exact ⟨fd, F, He.glo_ok X G (c.fact 4 (f := .glo "text_of_word") rfl), F.bindsN fun _ _ _ _ _ _ us hl => match us, hl with | [_], _ => rfl⟩
theorem df_sign_words {K : PySem.W.Frag} {h : Heap} {mg : Str → Option Value} (X : K.In h) (G : h.Ns mainGlobals mg) (c : He.SaysD hdFa hdFn K) : ∃ fd, Df K mg "sign_words" s_sign_words P_sign_words fd := by
  obtain ⟨fd, F⟩ := c.def_ 5 (d := dd_sign_words) rfl
  exact ⟨fd, F, He.glo_ok X G (c.fact 5 (f := .glo "sign_words") rfl), F.bindsN fun _ _ _ _ _ _ us hl => match us, hl with | [], _ => rfl⟩
theorem df__law_deck {K : PySem.W.Frag} {h : Heap} {mg : Str → Option Value} (X : K.In h) (G : h.Ns mainGlobals mg) (c : He.SaysD hdFa hdFn K) : ∃ fd, Df K mg "_law_deck" s__law_deck P__law_deck fd := by
  obtain ⟨fd, F⟩ := c.def_ 6 (d := dd__law_deck) rfl
  exact ⟨fd, F, He.glo_ok X G (c.fact 6 (f := .glo "_law_deck") rfl), F.bindsN fun _ _ _ _ _ _ us hl => match us, hl with | [_], _ => rfl⟩
theorem df__law_draw {K : PySem.W.Frag} {h : Heap} {mg : Str → Option Value} (X : K.In h) (G : h.Ns mainGlobals mg) (c : He.SaysD hdFa hdFn K) : ∃ fd, Df K mg "_law_draw" s__law_draw P__law_draw fd := by
  obtain ⟨fd, F⟩ := c.def_ 7 (d := dd__law_draw) rfl
  exact ⟨fd, F, He.glo_ok X G (c.fact 7 (f := .glo "_law_draw") rfl), F.bindsN fun _ _ _ _ _ _ us hl => match us, hl with | [_, _], _ => rfl⟩
theorem df__law_pick {K : PySem.W.Frag} {h : Heap} {mg : Str → Option Value} (X : K.In h) (G : h.Ns mainGlobals mg) (c : He.SaysD hdFa hdFn K) : ∃ fd, Df K mg "_law_pick" s__law_pick P__law_pick fd := by
  obtain ⟨fd, F⟩ := c.def_ 8 (d := dd__law_pick) rfl
  exact ⟨fd, F, He.glo_ok X G (c.fact 8 (f := .glo "_law_pick") rfl), F.bindsN fun _ _ _ _ _ _ us hl => match us, hl with | [_, _], _ => rfl⟩
theorem df__law_same {K : PySem.W.Frag} {h : Heap} {mg : Str → Option Value} (X : K.In h) (G : h.Ns mainGlobals mg) (c : He.SaysD hdFa hdFn K) : ∃ fd, Df K mg "_law_same" s__law_same P__law_same fd := by
  obtain ⟨fd, F⟩ := c.def_ 9 (d := dd__law_same) rfl
  exact ⟨fd, F, He.glo_ok X G (c.fact 9 (f := .glo "_law_same") rfl), F.bindsN fun _ _ _ _ _ _ us hl => match us, hl with | [_, _], _ => rfl⟩
theorem df__law_bits {K : PySem.W.Frag} {h : Heap} {mg : Str → Option Value} (X : K.In h) (G : h.Ns mainGlobals mg) (c : He.SaysD hdFa hdFn K) : ∃ fd, Df K mg "_law_bits" s__law_bits P__law_bits fd := by
  obtain ⟨fd, F⟩ := c.def_ 10 (d := dd__law_bits) rfl
  exact ⟨fd, F, He.glo_ok X G (c.fact 10 (f := .glo "_law_bits") rfl), F.bindsN fun _ _ _ _ _ _ us hl => match us, hl with | [_], _ => rfl⟩
theorem df__law_word_of {K : PySem.W.Frag} {h : Heap} {mg : Str → Option Value} (X : K.In h) (G : h.Ns mainGlobals mg) (c : He.SaysD hdFa hdFn K) : ∃ fd, Df K mg "_law_word_of" s__law_word_of P__law_word_of fd := by
  obtain ⟨fd, F⟩ := c.def_ 11 (d := dd__law_word_of) rfl
  exact ⟨fd, F, He.glo_ok X G (c.fact 11 (f := .glo "_law_word_of") rfl), F.bindsN fun _ _ _ _ _ _ us hl => match us, hl with | [_], _ => rfl⟩
theorem df__law_signs {K : PySem.W.Frag} {h : Heap} {mg : Str → Option Value} (X : K.In h) (G : h.Ns mainGlobals mg) (c : He.SaysD hdFa hdFn K) : ∃ fd, Df K mg "_law_signs" s__law_signs P__law_signs fd := by
  obtain ⟨fd, F⟩ := c.def_ 12 (d := dd__law_signs) rfl
  exact ⟨fd, F, He.glo_ok X G (c.fact 12 (f := .glo "_law_signs") rfl), F.bindsN fun _ _ _ _ _ _ us hl => match us, hl with | [], _ => rfl⟩
theorem df__law_codes {K : PySem.W.Frag} {h : Heap} {mg : Str → Option Value} (X : K.In h) (G : h.Ns mainGlobals mg) (c : He.SaysD hdFa hdFn K) : ∃ fd, Df K mg "_law_codes" s__law_codes P__law_codes fd := by
  obtain ⟨fd, F⟩ := c.def_ 13 (d := dd__law_codes) rfl
  exact ⟨fd, F, He.glo_ok X G (c.fact 13 (f := .glo "_law_codes") rfl), F.bindsN fun _ _ _ _ _ _ us hl => match us, hl with | [_], _ => rfl⟩
theorem df__law_tried {K : PySem.W.Frag} {h : Heap} {mg : Str → Option Value} (X : K.In h) (G : h.Ns mainGlobals mg) (c : He.SaysD hdFa hdFn K) : ∃ fd, Df K mg "_law_tried" s__law_tried P__law_tried fd := by
  obtain ⟨fd, F⟩ := c.def_ 14 (d := dd__law_tried) rfl
  exact ⟨fd, F, He.glo_ok X G (c.fact 14 (f := .glo "_law_tried") rfl), F.bindsN fun _ _ _ _ _ _ us hl => match us, hl with | [_], _ => rfl⟩
theorem df__law_is_told {K : PySem.W.Frag} {h : Heap} {mg : Str → Option Value} (X : K.In h) (G : h.Ns mainGlobals mg) (c : He.SaysD hdFa hdFn K) : ∃ fd, Df K mg "_law_is_told" s__law_is_told P__law_is_told fd := by
  obtain ⟨fd, F⟩ := c.def_ 15 (d := dd__law_is_told) rfl
  exact ⟨fd, F, He.glo_ok X G (c.fact 15 (f := .glo "_law_is_told") rfl), F.bindsN fun _ _ _ _ _ _ us hl => match us, hl with | [_], _ => rfl⟩
theorem df_law {K : PySem.W.Frag} {h : Heap} {mg : Str → Option Value} (X : K.In h) (G : h.Ns mainGlobals mg) (c : He.SaysD hdFa hdFn K) : ∃ fd, Df K mg "law" s_law P_law fd := by
  obtain ⟨fd, F⟩ := c.def_ 16 (d := dd_law) rfl
  exact ⟨fd, F, He.glo_ok X G (c.fact 16 (f := .glo "law") rfl), F.bindsN fun _ _ _ _ _ _ us hl => match us, hl with | [_], _ => rfl⟩
theorem dm_BadWord___init__ {K : PySem.W.Frag} (c : He.SaysD hdFa hdFn K) : ∃ fd, FunD K "__init__" "BadWord.__init__" (defArgs m_BadWord___init__) (defBody m_BadWord___init__) (defScope m_BadWord___init__) [] [] (He.fAd K ("BadWord", some "__init__")) fd ∧ Binds K fd (["self", "thing"] : List Str) [] ∧ KB1 fd (["self", "thing"] : List Str) (["thing"] : List Str) := by
  obtain ⟨fd, F⟩ := c.def_ 17 (d := dd_BadWord___init__) rfl
  exact ⟨fd, F, F.bindsN fun _ _ _ _ _ _ us hl => match us, hl with | [_, _], _ => rfl, kb1_of F fun _ _ _ _ _ _ ws _ hl => match ws, hl with | [_], _ => rfl⟩
theorem dm_BadText___init__ {K : PySem.W.Frag} (c : He.SaysD hdFa hdFn K) : ∃ fd, FunD K "__init__" "BadText.__init__" (defArgs m_BadText___init__) (defBody m_BadText___init__) (defScope m_BadText___init__) [] [] (He.fAd K ("BadText", some "__init__")) fd ∧ Binds K fd (["self", "at"] : List Str) [] ∧ KB1 fd (["self", "at"] : List Str) (["at"] : List Str) := by
  obtain ⟨fd, F⟩ := c.def_ 18 (d := dd_BadText___init__) rfl
  exact ⟨fd, F, F.bindsN fun _ _ _ _ _ _ us hl => match us, hl with | [_, _], _ => rfl, kb1_of F fun _ _ _ _ _ _ ws _ hl => match ws, hl with | [_], _ => rfl⟩
theorem dm_BadNumber___init__ {K : PySem.W.Frag} (c : He.SaysD hdFa hdFn K) : ∃ fd, FunD K "__init__" "BadNumber.__init__" (defArgs m_BadNumber___init__) (defBody m_BadNumber___init__) (defScope m_BadNumber___init__) [] [] (He.fAd K ("BadNumber", some "__init__")) fd ∧ Binds K fd (["self", "thing"] : List Str) [] ∧ KB1 fd (["self", "thing"] : List Str) (["thing"] : List Str) := by
  obtain ⟨fd, F⟩ := c.def_ 19 (d := dd_BadNumber___init__) rfl
  exact ⟨fd, F, F.bindsN fun _ _ _ _ _ _ us hl => match us, hl with | [_, _], _ => rfl, kb1_of F fun _ _ _ _ _ _ ws _ hl => match ws, hl with | [_], _ => rfl⟩
theorem fa_Exception {K : PySem.W.Frag} {h : Heap} {mg : Str → Option Value} (X : K.In h) (G : h.Ns mainGlobals mg) (c : He.SaysD hdFa hdFn K) : mg "Exception" = none := He.free_ok X G (c.fact 17 (f := .free "Exception") rfl)
theorem fa_all {K : PySem.W.Frag} {h : Heap} {mg : Str → Option Value} (X : K.In h) (G : h.Ns mainGlobals mg) (c : He.SaysD hdFa hdFn K) : mg "all" = none := He.free_ok X G (c.fact 18 (f := .free "all") rfl)
theorem fa_int {K : PySem.W.Frag} {h : Heap} {mg : Str → Option Value} (X : K.In h) (G : h.Ns mainGlobals mg) (c : He.SaysD hdFa hdFn K) : mg "int" = none := He.free_ok X G (c.fact 19 (f := .free "int") rfl)
theorem fa_isinstance {K : PySem.W.Frag} {h : Heap} {mg : Str → Option Value} (X : K.In h) (G : h.Ns mainGlobals mg) (c : He.SaysD hdFa hdFn K) : mg "isinstance" = none := He.free_ok X G (c.fact 20 (f := .free "isinstance") rfl)
theorem fa_len {K : PySem.W.Frag} {h : Heap} {mg : Str → Option Value} (X : K.In h) (G : h.Ns mainGlobals mg) (c : He.SaysD hdFa hdFn K) : mg "len" = none := He.free_ok X G (c.fact 21 (f := .free "len") rfl)
theorem fa_list {K : PySem.W.Frag} {h : Heap} {mg : Str → Option Value} (X : K.In h) (G : h.Ns mainGlobals mg) (c : He.SaysD hdFa hdFn K) : mg "list" = none := He.free_ok X G (c.fact 22 (f := .free "list") rfl)
theorem fa_max {K : PySem.W.Frag} {h : Heap} {mg : Str → Option Value} (X : K.In h) (G : h.Ns mainGlobals mg) (c : He.SaysD hdFa hdFn K) : mg "max" = none := He.free_ok X G (c.fact 23 (f := .free "max") rfl)
theorem fa_ord {K : PySem.W.Frag} {h : Heap} {mg : Str → Option Value} (X : K.In h) (G : h.Ns mainGlobals mg) (c : He.SaysD hdFa hdFn K) : mg "ord" = none := He.free_ok X G (c.fact 24 (f := .free "ord") rfl)
theorem fa_range {K : PySem.W.Frag} {h : Heap} {mg : Str → Option Value} (X : K.In h) (G : h.Ns mainGlobals mg) (c : He.SaysD hdFa hdFn K) : mg "range" = none := He.free_ok X G (c.fact 25 (f := .free "range") rfl)
theorem fa_repr {K : PySem.W.Frag} {h : Heap} {mg : Str → Option Value} (X : K.In h) (G : h.Ns mainGlobals mg) (c : He.SaysD hdFa hdFn K) : mg "repr" = none := He.free_ok X G (c.fact 26 (f := .free "repr") rfl)
theorem fa_str {K : PySem.W.Frag} {h : Heap} {mg : Str → Option Value} (X : K.In h) (G : h.Ns mainGlobals mg) (c : He.SaysD hdFa hdFn K) : mg "str" = none := He.free_ok X G (c.fact 27 (f := .free "str") rfl)
theorem fa_tuple {K : PySem.W.Frag} {h : Heap} {mg : Str → Option Value} (X : K.In h) (G : h.Ns mainGlobals mg) (c : He.SaysD hdFa hdFn K) : mg "tuple" = none := He.free_ok X G (c.fact 28 (f := .free "tuple") rfl)
theorem fa_type {K : PySem.W.Frag} {h : Heap} {mg : Str → Option Value} (X : K.In h) (G : h.Ns mainGlobals mg) (c : He.SaysD hdFa hdFn K) : mg "type" = none := He.free_ok X G (c.fact 29 (f := .free "type") rfl)
theorem fa_TEXT_SIGNS {K : PySem.W.Frag} {h : Heap} {mg : Str → Option Value} (X : K.In h) (G : h.Ns mainGlobals mg) (c : He.SaysD hdFa hdFn K) : ∃ t, mg "TEXT_SIGNS" = some (.str "\n !\"#$&'()*+,-./0123456789:;<=>?\x40ABCDEFGHIJKLMNOPQRSTUVWXYZ[\\]^_`abcdefghijklmnopqrstuvwxyz{|}~" t) := He.str_ok X G (c.fact 30 (f := .str "TEXT_SIGNS" "\n !\"#$&'()*+,-./0123456789:;<=>?\x40ABCDEFGHIJKLMNOPQRSTUVWXYZ[\\]^_`abcdefghijklmnopqrstuvwxyz{|}~") rfl)
theorem fa_LETTERS_OF_SIGN {K : PySem.W.Frag} {h : Heap} {mg : Str → Option Value} (X : K.In h) (G : h.Ns mainGlobals mg) (c : He.SaysD hdFa hdFn K) : ∃ t, mg "LETTERS_OF_SIGN" = some (.int 7 t) := He.int_ok X G (c.fact 31 (f := .int "LETTERS_OF_SIGN" 7) rfl)
theorem fa_QuickError {K : PySem.W.Frag} {h : Heap} {mg : Str → Option Value} (X : K.In h) (G : h.Ns mainGlobals mg) (c : He.SaysD hdFa hdFn K) : mg "QuickError" = some (.ref (He.ga K "QuickError")) := He.glo_ok X G (c.fact 32 (f := .glo "QuickError") rfl)
theorem fa_BadWord {K : PySem.W.Frag} {h : Heap} {mg : Str → Option Value} (X : K.In h) (G : h.Ns mainGlobals mg) (c : He.SaysD hdFa hdFn K) : mg "BadWord" = some (.ref (He.ga K "BadWord")) := He.glo_ok X G (c.fact 33 (f := .glo "BadWord") rfl)
theorem fa_BadText {K : PySem.W.Frag} {h : Heap} {mg : Str → Option Value} (X : K.In h) (G : h.Ns mainGlobals mg) (c : He.SaysD hdFa hdFn K) : mg "BadText" = some (.ref (He.ga K "BadText")) := He.glo_ok X G (c.fact 34 (f := .glo "BadText") rfl)
theorem fa_BadNumber {K : PySem.W.Frag} {h : Heap} {mg : Str → Option Value} (X : K.In h) (G : h.Ns mainGlobals mg) (c : He.SaysD hdFa hdFn K) : mg "BadNumber" = some (.ref (He.ga K "BadNumber")) := He.glo_ok X G (c.fact 35 (f := .glo "BadNumber") rfl)
section
variable {P : Program} {w : World} {K : PySem.W.Frag} {mg : Str → Option Value} {base : Heap}
theorem scm_BadWord : FnScope (["self", "thing"] : List Str) (["self", "thing"] : List Str) (defScope m_BadWord___init__) := ⟨rfl, rfl, rfl, by decide +kernel, rfl, by decide +kernel, by decide +kernel⟩
theorem oi_BadWord {f0 : Addr} {fd : FuncData} (F : FunD K "__init__" "BadWord.__init__" (defArgs m_BadWord___init__) (defBody m_BadWord___init__) (defScope m_BadWord___init__) [] [] f0 fd) : FnOk P w K mg base CX0 1 f0 fd ["self", "thing"] (spI K "thing") := by
  refine (fun_ofM F).ok scm_BadWord (fun vs H Q E h => ?_) (fun cdv A outer s H vs Q E hr h => ?_)
  · obtain ⟨a, C, fI, y, rfl, _⟩ := h
    rfl
  · obtain ⟨a, C, fI, y, rfl, T, e, q⟩ := h
    refine ⟨_, pss_one (ps_qst (pv 0) (pv 1)), ?_⟩
    exact ⟨_, rfl, _, rfl, a, C, fI, rfl, T, e, q⟩
theorem scm_BadText : FnScope (["self", "at"] : List Str) (["self", "at"] : List Str) (defScope m_BadText___init__) := ⟨rfl, rfl, rfl, by decide +kernel, rfl, by decide +kernel, by decide +kernel⟩
theorem oi_BadText {f0 : Addr} {fd : FuncData} (F : FunD K "__init__" "BadText.__init__" (defArgs m_BadText___init__) (defBody m_BadText___init__) (defScope m_BadText___init__) [] [] f0 fd) : FnOk P w K mg base CX0 1 f0 fd ["self", "at"] (spI K "at") := by
  refine (fun_ofM F).ok scm_BadText (fun vs H Q E h => ?_) (fun cdv A outer s H vs Q E hr h => ?_)
  · obtain ⟨a, C, fI, y, rfl, _⟩ := h
    rfl
  · obtain ⟨a, C, fI, y, rfl, T, e, q⟩ := h
    refine ⟨_, pss_one (ps_qst (pv 0) (pv 1)), ?_⟩
    exact ⟨_, rfl, _, rfl, a, C, fI, rfl, T, e, q⟩
theorem scm_BadNumber : FnScope (["self", "thing"] : List Str) (["self", "thing"] : List Str) (defScope m_BadNumber___init__) := ⟨rfl, rfl, rfl, by decide +kernel, rfl, by decide +kernel, by decide +kernel⟩
theorem oi_BadNumber {f0 : Addr} {fd : FuncData} (F : FunD K "__init__" "BadNumber.__init__" (defArgs m_BadNumber___init__) (defBody m_BadNumber___init__) (defScope m_BadNumber___init__) [] [] f0 fd) : FnOk P w K mg base CX0 1 f0 fd ["self", "thing"] (spI K "thing") := by
  refine (fun_ofM F).ok scm_BadNumber (fun vs H Q E h => ?_) (fun cdv A outer s H vs Q E hr h => ?_)
  · obtain ⟨a, C, fI, y, rfl, _⟩ := h
    rfl
  · obtain ⟨a, C, fI, y, rfl, T, e, q⟩ := h
    refine ⟨_, pss_one (ps_qst (pv 0) (pv 1)), ?_⟩
    exact ⟨_, rfl, _, rfl, a, C, fI, rfl, T, e, q⟩
end
def names : List Str := [("is_whole" : Str), ("is_word" : Str), ("plain_word" : Str), ("word_of_text" : Str), ("text_of_word" : Str), ("sign_words" : Str), ("_law_deck" : Str), ("_law_draw" : Str), ("_law_pick" : Str), ("_law_same" : Str), ("_law_bits" : Str), ("_law_word_of" : Str), ("_law_signs" : Str), ("_law_codes" : Str), ("_law_tried" : Str), ("_law_is_told" : Str), ("law" : Str)]
theorem law_g {q : PySem.W.OpenLaw} {w : World} {h : Heap} {K : PySem.W.Frag} {mg : Str → Option Value} {fa : Addr} (X : K.In h) (G : h.Ns mainGlobals mg) (c : He.SaysX hdFa hdFn [] hdTf hdEx w h K) (hfa : mg ("law" : Str) = some (.ref fa)) :
    LawG q w K 230 63 "_law_script" mg fa h := by
  have cd := c.t.d
  have ex0 : exB K = true := c.more
  obtain ⟨e0, ex1⟩ := and2' ex0
  obtain ⟨e1, ex2⟩ := and2' ex1
  obtain ⟨e2, ex3⟩ := and2' ex2
  obtain ⟨f0, E0⟩ := df_is_whole X G cd
  obtain ⟨f1, E1⟩ := df_is_word X G cd
  obtain ⟨f2, E2⟩ := df_plain_word X G cd
  obtain ⟨f3, E3⟩ := df_word_of_text X G cd
  obtain ⟨f4, E4⟩ := df_text_of_word X G cd
  obtain ⟨f5, E5⟩ := df_sign_words X G cd
  obtain ⟨f6, E6⟩ := df__law_deck X G cd
  obtain ⟨f7, E7⟩ := df__law_draw X G cd
  obtain ⟨f8, E8⟩ := df__law_pick X G cd
  obtain ⟨f9, E9⟩ := df__law_same X G cd
  obtain ⟨f10, E10⟩ := df__law_bits X G cd
  obtain ⟨f11, E11⟩ := df__law_word_of X G cd
  obtain ⟨f12, E12⟩ := df__law_signs X G cd
  obtain ⟨f13, E13⟩ := df__law_codes X G cd
  obtain ⟨f14, E14⟩ := df__law_tried X G cd
  obtain ⟨f15, E15⟩ := df__law_is_told X G cd
  obtain ⟨f16, E16⟩ := df_law X G cd
  let fl : Str → FuncData := lk f0 names [f0, f1, f2, f3, f4, f5, f6, f7, f8, f9, f10, f11, f12, f13, f14, f15, f16]
  have D_is_whole : Df K mg "is_whole" s_is_whole TP.P_is_whole (fl "is_whole") := by
    rw [show fl "is_whole" = f0 from lk_at 0 rfl rfl (by decide +kernel)]
    exact E0
  have D_is_word : Df K mg "is_word" s_is_word TP.P_is_word (fl "is_word") := by
    rw [show fl "is_word" = f1 from lk_at 1 rfl rfl (by decide +kernel)]
    exact E1
  have D_plain_word : Df K mg "plain_word" s_plain_word TP.P_plain_word (fl "plain_word") := by
    rw [show fl "plain_word" = f2 from lk_at 2 rfl rfl (by decide +kernel)]
    exact E2
  have D_word_of_text : Df K mg "word_of_text" s_word_of_text TP.P_word_of_text (fl "word_of_text") := by
    rw [show fl "word_of_text" = f3 from lk_at 3 rfl rfl (by decide +kernel)]
    exact E3
  have D_text_of_word : Df K mg "text_of_word" s_text_of_word TP.P_text_of_word (fl "text_of_word") := by
    rw [show fl "text_of_word" = f4 from lk_at 4 rfl rfl (by decide +kernel)]
    exact E4
  have D_sign_words : Df K mg "sign_words" s_sign_words TP.P_sign_words (fl "sign_words") := by
    rw [show fl "sign_words" = f5 from lk_at 5 rfl rfl (by decide +kernel)]
    exact E5
  have D__law_deck : Df K mg "_law_deck" s__law_deck KA.P__law_deck (fl "_law_deck") := by
    rw [show fl "_law_deck" = f6 from lk_at 6 rfl rfl (by decide +kernel)]
    exact E6
  have D__law_draw : Df K mg "_law_draw" s__law_draw KA.P__law_draw (fl "_law_draw") := by
    rw [show fl "_law_draw" = f7 from lk_at 7 rfl rfl (by decide +kernel)]
    exact E7
  have D__law_pick : Df K mg "_law_pick" s__law_pick DW.P__law_pick (fl "_law_pick") := by
    rw [show fl "_law_pick" = f8 from lk_at 8 rfl rfl (by decide +kernel)]
    exact E8
  have D__law_same : Df K mg "_law_same" s__law_same TP.P__law_same (fl "_law_same") := by
    rw [show fl "_law_same" = f9 from lk_at 9 rfl rfl (by decide +kernel)]
    exact E9
  have D__law_bits : Df K mg "_law_bits" s__law_bits TP.P__law_bits (fl "_law_bits") := by
    rw [show fl "_law_bits" = f10 from lk_at 10 rfl rfl (by decide +kernel)]
    exact E10
  have D__law_word_of : Df K mg "_law_word_of" s__law_word_of TP.P__law_word_of (fl "_law_word_of") := by
    rw [show fl "_law_word_of" = f11 from lk_at 11 rfl rfl (by decide +kernel)]
    exact E11
  have D__law_signs : Df K mg "_law_signs" s__law_signs TP.P__law_signs (fl "_law_signs") := by
    rw [show fl "_law_signs" = f12 from lk_at 12 rfl rfl (by decide +kernel)]
    exact E12
  have D__law_codes : Df K mg "_law_codes" s__law_codes TP.P__law_codes (fl "_law_codes") := by
    rw [show fl "_law_codes" = f13 from lk_at 13 rfl rfl (by decide +kernel)]
    exact E13
  have D__law_tried : Df K mg "_law_tried" s__law_tried TP.P__law_tried (fl "_law_tried") := by
    rw [show fl "_law_tried" = f14 from lk_at 14 rfl rfl (by decide +kernel)]
    exact E14
  have D__law_is_told : Df K mg "_law_is_told" s__law_is_told TP.P__law_is_told (fl "_law_is_told") := by
    rw [show fl "_law_is_told" = f15 from lk_at 15 rfl rfl (by decide +kernel)]
    exact E15
  have D_law : Df K mg "law" s_law TP.P_law (fl "law") := by
    rw [show fl "law" = f16 from lk_at 16 rfl rfl (by decide +kernel)]
    exact E16
  have e := hfa.symm.trans D_law.g
  cases e
  let cs : List (Addr × Addr) := [He.cT K ("word_of_text", none), He.cT K ("text_of_word", none), He.cT K ("law", none)]
  let Tl : List Addr := [(He.cT K ("word_of_text", none)).2, (He.cT K ("text_of_word", none)).2]
  have hm : ∀ p ∈ cs, ∃ x, ((x, none) : He.Defn) ∈ hdTf ∧ p = He.cT K (x, none) := fun p hp => by
    have e : hdTf = [(("word_of_text" : Str), none), (("text_of_word" : Str), none), (("law" : Str), none)] := rfl
    rw [e]
    simp only [cs, List.mem_cons, List.not_mem_nil, or_false] at hp
    rcases hp with rfl | rfl | rfl <;> exact ⟨_, by simp, rfl⟩
  have nt : (He.cT K ("law", none)).2 ∉ Tl := fun z => by
    simp only [Tl, List.mem_cons, List.not_mem_nil, or_false] at z
    rcases z with z | z
    · exact of_decide_eq_true e1 z
    · exact of_decide_eq_true e2 z
  refine ⟨fl "law", cs, spLaw K Tl (He.cT K ("law", none)).2, ?_, ?_, ?_, ?_, ?_, ?_⟩
  · intro p hp
    obtain ⟨x, hx, rfl⟩ := hm p hp
    exact c.empty _ hx
  · intro p hp
    obtain ⟨x, hx, rfl⟩ := hm p hp
    exact c.out _ hx
  · intro p hp
    obtain ⟨x, hx, rfl⟩ := hm p hp
    exact PySem.W.codeHd_of_K X (c.hd _ hx)
  · intro s u
    exact FunD.bindsA (ps := ["_law_script"]) D_law.F (fun _ _ _ _ _ _ us hl => match us, hl with | [_], _ => rfl) s [u] rfl
  · intro H a ns hl hb hT hS
    refine ⟨a, ns, rfl, hS, fun P hP => ?_, hT (He.cT K ("law", none)) (by simp [cs]), fun _ => rfl⟩
    simp only [Tl, List.mem_cons, List.not_mem_nil, or_false] at hP
    rcases hP with rfl | rfl
    · exact ⟨#[], hT (He.cT K ("word_of_text", none)) (by simp [cs]), trivial⟩
    · exact ⟨#[], hT (He.cT K ("text_of_word", none)) (by simp [cs]), trivial⟩
  · intro base hb hn hmods hT
    have tp : Top q.prog w K mg base Tl fl := {
      T := { Exception := fa_Exception X G cd, all := fa_all X G cd, int := fa_int X G cd, isinstance := fa_isinstance X G cd, len := fa_len X G cd, list := fa_list X G cd, max := fa_max X G cd, ord := fa_ord X G cd, range := fa_range X G cd, repr := fa_repr X G cd, str := fa_str X G cd, tuple := fa_tuple X G cd, type := fa_type X G cd }
      TD := ⟨fa_int X G cd, fa_list X G cd, fa_max X G cd, fa_len X G cd, fa_range X G cd, fa_tuple X G cd, fa_isinstance X G cd, fa_repr X G cd⟩
      hm := hmods
      Er := ers_of e0 (fa_QuickError X G cd) fun x hx => by
        simp only [ers, List.mem_cons, List.not_mem_nil, or_false] at hx
        rcases hx with rfl | rfl | rfl
        · obtain ⟨fd, F, b, kb⟩ := dm_BadWord___init__ cd
          exact ⟨fa_BadWord X G cd, fd, oi_BadWord F, b⟩
        · obtain ⟨fd, F, b, kb⟩ := dm_BadText___init__ cd
          exact ⟨fa_BadText X G cd, fd, oi_BadText F, b⟩
        · obtain ⟨fd, F, b, kb⟩ := dm_BadNumber___init__ cd
          exact ⟨fa_BadNumber X G cd, fd, oi_BadNumber F, b⟩
      D_is_whole := D_is_whole
      D_is_word := D_is_word
      D_plain_word := D_plain_word
      D_word_of_text := D_word_of_text
      D_text_of_word := D_text_of_word
      D_sign_words := D_sign_words
      D__law_deck := D__law_deck
      D__law_draw := D__law_draw
      D__law_pick := D__law_pick
      D__law_same := D__law_same
      D__law_bits := D__law_bits
      D__law_word_of := D__law_word_of
      D__law_signs := D__law_signs
      D__law_codes := D__law_codes
      D__law_tried := D__law_tried
      D__law_is_told := D__law_is_told
      D_law := D_law
      g_QuickError := fa_QuickError X G cd
      g_BadWord := fa_BadWord X G cd
      g_BadText := fa_BadText X G cd
      g_BadNumber := fa_BadNumber X G cd
      mg_TEXT_SIGNS := fa_TEXT_SIGNS X G cd
      mg_LETTERS_OF_SIGN := fa_LETTERS_OF_SIGN X G cd
      TB_word_of_text := hT (He.cT K ("word_of_text", none)) (by simp [cs])
      hT_word_of_text := by simp [Tl]
      TB_text_of_word := hT (He.cT K ("text_of_word", none)) (by simp [cs])
      hT_text_of_word := by simp [Tl]
      kb_word_of_text_0 := EL.kb0_of D_word_of_text.F (fun _ _ _ _ _ _ ws hl => match ws, hl with | [_], _ => rfl) (fun r => r)
      kb_text_of_word_0 := EL.kb0_of D_text_of_word.F (fun _ _ _ _ _ _ ws hl => match ws, hl with | [_], _ => rfl) (fun r => r)
    }
    exact OL.ok_law tp nt (hT (He.cT K ("law", none)) (by simp [cs]))
end PZ
open PySem PySem.W PySem.Calls PyProof.Rows
theorem PySem.Challenge.cw_quicktongue_k95_texts_as_words_holds : PySem.Challenge.rw_quicktongue_k95_texts_as_words.Holds := by
  w_on; o_law
  refine HandSHeadRun.head_any (r := OpenLaw.row PySem.Challenge.rw_quicktongue_k95_texts_as_words) (q := view (OpenLaw.row PySem.Challenge.rw_quicktongue_k95_texts_as_words).prog [28]) (H := PZ.hdK) (ob := PZ.hdOb) (M := 8000) (loose := PZ.hdLoose) (d := HandSHeadRun.topDef (OpenLaw.row PySem.Challenge.rw_quicktongue_k95_texts_as_words).prog 28) (kwd := []) PZ.hdOb_eq
    (by kernel_rfl) (fun s => by kernel_rfl) PZ.hdRun (by kernel_rfl) (by kernel_rfl) (by kernel_rfl) (by rfl) (by first | assumption | decide +kernel) (by decide +kernel) ⟨rfl, rfl, rfl, rfl, rfl, by decide +kernel⟩ ?hw ?hc
  case hw => w_witness2
  case hc =>
    refine KT.walkG (l := PySem.Challenge.rw_quicktongue_k95_texts_as_words) (n := 63) (k := 230) (x := "_law_script") rfl (by decide) (by kernel_rfl) (by kernel_rfl) ⟨rfl, by decide, by decide⟩ ?F
    intro w mg fa h Y G hmg0
    obtain ⟨K, KX, c⟩ := Y
    have hmg : mg ("law" : PySem.Str) = some (.ref fa) := by
      have e : (HandSHeadRun.topDef (OpenLaw.row PySem.Challenge.rw_quicktongue_k95_texts_as_words).prog 28).name = ("law" : PySem.Str) := by kernel_rfl
      rw [← e]
      exact hmg0
    exact ⟨K, KX, PZ.law_g KX G c hmg⟩



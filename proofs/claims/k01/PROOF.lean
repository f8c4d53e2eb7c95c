import PyProof.Rows.All
import Wide.All
import OpenK.AllK
import Wide.FinOn
import HandS.ForMost
import HandS.Style
import HandS.Codes
import HandS.IsInst
import HandS.AnyAll
import HandS.StrMore
import HandS.Defaults
import HandS.HeadHook4
import HandS.HeadWalk
import HandS.Head2
import HandS.Walk
import HandS.GenList
import PySem.Challenge.RW_quicktongue_k01_words_and_names_of_any_v
set_option Elab.async false
set_option linter.all false
set_option maxRecDepth 100000
set_option maxHeartbeats 4000000
/-! Tools over the hand layer: a def's call by keywords alone, repr of data, a def that knows its code object. -/
namespace KT
open PySem PySem.Spec PyProof.Rows L2
section
variable {X : Cx} {CX : CXT} {k : Nat} {f : Addr} {fd : FuncData} {ps ks : List Str} {sp : Sp} {E : XK} {x : Str} {p pos : Pos} {kws : List Keyword} {tk : TA}
/-- how a call with keywords alone binds: g puts the keywords' values in the parameters' order -/
structure KB0 (fd : FuncData) (ps ks : List Str) (g : {α : Type} → List α → List α) : Prop where
  to : ∀ (s : Shared) (ws : List Value), (g ws).length = ps.length → BindsTo s fd ⟨[], ks.zip ws⟩ (ps.zip (g ws))
  rel : ∀ {zs : List V} {ws : List Value}, Vals zs ws → Vals (g zs) (g ws)
def tCallK0 (sp : Sp) (g : {α : Type} → List α → List α) (E : XK) (tk : TA) : TE := fun σ H Q => tk σ H fun zs H2 => sp (g zs) H2 Q E
theorem pe_callK0 {g : {α : Type} → List α → List α} (F : FnOk X.prog X.w X.K X.mg X.base CX k f fd ps sp) (hr : Room k X.A) (hg : Gl X x) (hm : X.mg x = some (.ref f)) (hk : PySem.W.keepIn X.K (.ref f) = true) (hb : KB0 fd ps ks g) (hx : Passes CX X E)
    (hkw : PK X kws tk) (hall : (backToKw pos (keywordEach kws X.env)).all (·.1.isSome) = true := by rfl) (hks : (backToKw pos (keywordEach kws X.env)).filterMap (·.1) = ks := by rfl)
    (hdb : (x == ("__debug__" : Str)) = false := by decide) (hpl : ((backTo pos (starEach [] X.env)).any (·.1) || (backToKw pos (keywordEach kws X.env)).any (·.1.isNone)) = false := by rfl) :
    PE X (.Call (.Name x p) [] kws pos) (tCallK0 sp g E tk) := by
  refine ⟨fun pins s σ H Q I h => ?_⟩
  refine wpAny_Call_Name_kw (ld_glob I hg hm ?_ hdb)
  refine PySem.W.callWith_KW0 (h₀ := X.base) I.ok.mod.kin hk hall ?_ hpl
  refine thn (hkw.run pos pins s σ H _ I h) fun ws s2 ⟨zs, H2, I2, rz, q2⟩ => ⟨I2.kIn, ?_⟩
  rw [hks]
  have r2 := hb.rel rz
  have hl : (g ws).length = ps.length := by rw [← r2.length]; exact F.len _ _ _ _ q2
  refine wpAny_call (codeAny_mono (F.run X.A X.stack s2 H2 ⟨[] ++ [], ks.zip ws⟩ (g ws) (g zs) Q E hr I2.env0 (hb.to s2 ws hl) r2 q2) fun r s' hq => ?_)
  cases r with
  | error e => exact hx pins σ H2 s2 e s' I2 hq
  | ok fl =>
    cases fl with
    | ret u => exact I2.after hq
    | next => exact False.elim hq
    | brk => exact False.elim hq
    | cont => exact False.elim hq
end
/-! ### a def by its datum -/
section
variable {P : Program} {w : World} {K : PySem.W.Frag} {mg : Str → Option Value} {base : Heap}
abbrev FnP (K : PySem.W.Frag) (x : Str) (st : Stmt) (f : Addr) (fd : FuncData) : Prop := FunD K x x (defArgs st) (defBody st) (defScope st) [] [] f fd
theorem fun_of {x : Str} {st : Stmt} {f : Addr} {fd : FuncData} (F : FnP K x st f fd) : Fun K x x st f fd := by
  obtain ⟨⟨oc, od, dV, kV, doc, pm, an, cdv, ct, osl, e, l, c, d, _⟩, kp⟩ := F
  have hd : dV = .none := by
    rcases d with ⟨_, h⟩ | ⟨h, _⟩
    · exact h
    · exact absurd rfl h
  subst hd
  exact ⟨⟨oc, od, kV, doc, pm, an, cdv, ct, osl, e, l, c⟩, kp⟩
/-- the rule for a def, its code object told -/
theorem okC {x : Str} {st : Stmt} {fd : FuncData} {N ps : List Str} {k : Nat} {sp : Sp} (F : FnP K x st (He.fAd K (x, none)) fd) (S : FnScope N ps (defScope st)) (len : ∀ vs H Q E, sp vs H Q E → vs.length = ps.length)
    (hbody : ∀ (cdv : Value) (A : Around) (outer : List Env) (s : Shared) (H : Hp) (vs : List V) (Q : VK) (E : XK), cdv = .ref (He.codeOf K (x, none)) → Room k (A.deeper (envOfC x (defScope st) s.heap.objs.size (He.fAd K (x, none)) cdv)) → sp vs H Q E →
      ∃ t, PSs (cxOf CX0 P w K mg base N x (defScope st) (He.fAd K (x, none)) cdv A outer s H E).nox (defBody st) t ∧ t { nx := fun _ H' => Q .non H', rt := Q } (start N vs) H) : FnOk P w K mg base CX0 (k + 1) (He.fAd K (x, none)) fd ps sp := by
  obtain ⟨oc, od, kV, doc, pm, an, cdv, ct, osl, rfl, lk, hcd⟩ := (fun_of F).ex
  refine fn_of lk hcd S len fun A outer s H vs Q E hr hsp => ?_
  obtain ⟨c, ec⟩ := He.codeIn_ref hcd
  have e2 : He.codeOf K (x, none) = c := He.codeOf_eq lk ec
  obtain ⟨t, h, q⟩ := hbody cdv A outer s H vs Q E (by rw [ec, e2]) hr hsp
  exact ⟨t, h.nox, q⟩
end
/-! ### repr of data -/
section
variable {X : Cx}
def rReprD (K : PySem.W.Frag) : List V → Hp → VK → Prop := fun xs H Q => ∃ a d, xs = [.ref a] ∧ Dp K H (.ref a) d ∧ d.showable = true ∧ d.canLay0 = true ∧ d.depth ≤ 62 ∧ d.shown.length ≤ sizeLine ∧ Q (.str d.shown) H
theorem call_reprD {k : Nat} (hr : Room k X.A) (hg : X.A.guards = some []) : CallR X (.builtin "repr") (rReprD X.K) := by
  intro pins s σ H xs us Q I r h
  obtain ⟨a, d, rfl, hd, hs, hc, hdep, hsz, q⟩ := h
  obtain ⟨u, rfl, r1⟩ := vals1 r
  cases (show u = Value.ref a from r1)
  obtain ⟨as, hrd⟩ := Dp.reads I d _ _ hd rfl
  have hu := hr.units
  refine PySem.repr_of_reads' hrd hs (fun z => ?_) hg (by omega) (fun b o e => e) (fun h' u tk kk => ?_) hsz
  · rw [PyData.hasDict_of_canLay d hc] at z
    cases z
  · exact ⟨.str d.shown, H, I.kept (t' := tk) kk, ⟨u, rfl⟩, q⟩
end
/-! ### promises that may lean on «no repr is under way» -/
structure FnG (P : Program) (w : World) (K : PySem.W.Frag) (mg : Str → Option Value) (base : Heap) (k : Nat) (f : Addr) (fd : FuncData) (ps : List Str) (sp : Sp) : Prop where
  len : ∀ vs H Q E, sp vs H Q E → vs.length = ps.length
  run : ∀ (A : Around) (outer : List Env) (s : Shared) (H : Hp) (args : Args) (us : List Value) (vs : List V) (Q : VK) (E : XK), A.guards = some [] → Room k A → Env0 P w K mg base A outer s H → BindsTo s fd args (ps.zip us) → Vals vs us → sp vs H Q E →
    codeAny (model P w) A (.call (.ref f) args) (CR CX0 outer P w H s Q E) s
section
variable {P : Program} {w : World} {K : PySem.W.Frag} {mg : Str → Option Value} {base : Heap}
theorem FnG.of {k : Nat} {f : Addr} {fd : FuncData} {ps : List Str} {sp : Sp} (F : FnOk P w K mg base CX0 k f fd ps sp) : FnG P w K mg base k f fd ps sp := ⟨F.len, fun A outer s H args us vs Q E _ => F.run A outer s H args us vs Q E⟩
theorem okG {x : Str} {st : Stmt} {f : Addr} {fd : FuncData} {N ps : List Str} {k : Nat} {sp : Sp} (F : Fun K x x st f fd) (S : FnScope N ps (defScope st)) (len : ∀ vs H Q E, sp vs H Q E → vs.length = ps.length)
    (hbody : ∀ (cdv : Value) (A : Around) (outer : List Env) (s : Shared) (H : Hp) (vs : List V) (Q : VK) (E : XK), A.guards = some [] → Room k (A.deeper (envOfC x (defScope st) s.heap.objs.size f cdv)) → sp vs H Q E →
      ∃ t, PSs (cxOf CX0 P w K mg base N x (defScope st) f cdv A outer s H E).nox (defBody st) t ∧ t { nx := fun _ H' => Q .non H', rt := Q } (start N vs) H) : FnG P w K mg base (k + 1) f fd ps sp := by
  obtain ⟨oc, od, kV, doc, pm, an, cdv, ct, osl, rfl, lk, hcd⟩ := F.ex
  refine ⟨len, fun A outer s H args us vs Q E hA hr e0 hb r hsp => ?_⟩
  -- at this around alone: the def's rule over a promise that is asked here
  have KX : K.In s.heap := e0.mod.kin.keeps fun b o e => (e0.bs b o e).1
  have li : s.heap.NoLimit := e0.mod.nolimit.keeps fun b o e => (e0.bs b o e).1
  have knd : ∀ y ∈ ps.zip us, (defScope st).names.lookup y.1 = some .local ∨ ((defScope st).names.lookup y.1 = some .cell ∧ ((cellsFrom (s.heap.objs.size + 1) (defScope st).names []).lookup y.1).isSome = true) := by
    rintro ⟨n, v⟩ hy
    exact (S.par n (List.of_mem_zip hy).1).imp id fun q => ⟨q, PySem.W.cellsFrom_some _ _ _ (.inl q)⟩
  refine codeAny_call_function (hr.depth) (KX _ _ lk) rfl S.co S.gen rfl (PySem.W.codeRec_of KX hcd) (hb _ _ _ _ (wpAny_newFunctionEnv_cells S.kind knd fun env he s1 x1 => ?_))
  subst he
  obtain ⟨t, ht, hq⟩ := hbody cdv A outer s H vs Q E hA (hr.deeper _) hsp
  have J := inv_start (CX := CX0) (E := E) (mg := mg) (cd := cdv) (f := f) (qual := x) S hr.hd e0 (len _ _ _ _ hsp) r x1
  refine ⟨li.keeps x1.toInCall.keep, codeAny_func (wpAny_mono (ht.nox.run [] s1 (start N vs) H _ J hq) (fun fl s' hs => ?_) fun e s' z => z)⟩
  have done : ∀ {σ' : L2.St} {H' : Hp} {v : V} {u : Value}, Inv (cxOf CX0 P w K mg base N x (defScope st) f cdv A outer s H E) [] σ' H' s' → RelV v u → Q v H' → CE outer P w H s Q u s' := fun j rv q => ⟨_, _, j.os, j.bare, j.base, j.hok, rv, q⟩
  cases fl with
  | ret u =>
    obtain ⟨v, σ', H', j, rv, q⟩ := hs
    exact done j rv q
  | next =>
    obtain ⟨σ', H', j, q⟩ := hs
    exact done (v := V.non) (u := Value.none) j rfl q
  | brk => exact hs.elim fun _ z => z.elim fun _ z => z.2.elim
  | cont => exact hs.elim fun _ z => z.elim fun _ z => z.2.elim
end
section
variable {X : Cx} {k : Nat} {f : Addr} {fd : FuncData} {ps ks : List Str} {sp : Sp} {x : Str} {p pos : Pos} {e : Expr} {es : List Expr} {t : TA}
theorem run_g {pins : List (Addr × Obj)} {σ : L2.St} {H : Hp} {s : Shared} {Q : VK} {us : List Value} {vs : List V} (F : FnG X.prog X.w X.K X.mg X.base k f fd ps sp) (hA : X.A.guards = some []) (hr : Room k X.A) (hb : Binds X.K fd ps [])
    (I : Inv X pins σ H s) (r : Vals vs us) (h : sp vs H Q E0) : wpAny (model X.prog X.w) X.A (call (.ref f) us) (EP X pins σ Q) X.xe s := by
  have hl : us.length = ps.length := r.length.symm.trans (F.len _ _ _ _ h)
  have hb2 : BindsTo s fd ⟨us, []⟩ (ps.zip us) := by
    have z := hb s us I.kIn (by rw [List.append_nil]; exact hl)
    rw [List.append_nil] at z
    exact z
  refine wpAny_call (codeAny_mono (F.run X.A X.stack s H ⟨us, []⟩ us vs Q E0 hA hr I.env0 hb2 r h) fun rr s' hq => ?_)
  match rr, hq with
  | .error e, hq => exact hq.elim
  | .ok (.ret u), hq => exact I.after hq
  | .ok .next, hq => exact hq.elim
  | .ok .brk, hq => exact hq.elim
  | .ok .cont, hq => exact hq.elim
theorem pe_callG (F : FnG X.prog X.w X.K X.mg X.base k f fd ps sp) (hA : X.A.guards = some []) (hr : Room k X.A) (hg : Gl X x) (hm : X.mg x = some (.ref f)) (hk : PySem.W.keepIn X.K (.ref f) = true) (hb : Binds X.K fd ps [])
    (ha : PA X (e :: es) t) (hdb : (x == ("__debug__" : Str)) = false := by decide) (he : starEach (e :: es) X.env = (false, eval e X.env) :: starEach es X.env := by rfl) (hpl : (backTo pos (starEach es X.env)).any (·.1) = false := by rfl) :
    PE X (.Call (.Name x p) (e :: es) [] pos) (tCall sp [] E0 t) := by
  refine ⟨fun pins s σ H Q I h => wpAny_Call_Name_kw (ld_glob I hg hm (PySem.W.callWith_K (h₀ := X.base) I.ok.mod.kin hk (thn (ha.run pos pins s σ H _ I h) fun us s1 ⟨vs, H1, I1, r, q⟩ => ⟨I1.kIn, ?_⟩) he hpl) hdb)⟩
  have q2 : sp vs H1 Q E0 := by
    have z : sp (vs ++ []) H1 Q E0 := q
    rw [List.append_nil] at z
    exact z
  exact run_g F hA hr hb I1 r q2
end
/-! ### the end of a law's row: the tables of code objects tracked, the script known to its object -/
section
open GxR
def tabsH (cs : List (Addr × Addr)) : Hp := fun b => if b ∈ cs.map (·.2) then some (.tbl #[]) else none
theorem tabsH_in {cs : List (Addr × Addr)} {p : Addr × Addr} (h : p ∈ cs) : tabsH cs p.2 = some (.tbl #[]) := if_pos (List.mem_map.mpr ⟨p, h, rfl⟩)
theorem tabsH_some {cs : List (Addr × Addr)} {b : Addr} {o : HO} (h : tabsH cs b = some o) : o = .tbl #[] ∧ ∃ p ∈ cs, p.2 = b := by
  unfold tabsH at h
  split at h
  · rename_i hb
    obtain ⟨p, hp, e⟩ := List.mem_map.mp hb
    exact ⟨(Option.some.inj h).symm, p, hp, e⟩
  · cases h
def NoTab : Obj := { cls := .none, data := .fields #[] }
/-- what the head says of a state s₁: the script at a, the tables at cs -/
structure At1 (K : PySem.W.Frag) (mg : Str → Option Value) (cs : List (Addr × Addr)) (a : Addr) (ns : List Int) (s₁ : Shared) : Prop where
  kin : K.In s₁.heap
  ns_ : s₁.heap.Ns mainGlobals mg
  blt : ∃ mb, s₁.heap.Ns builtinsNs mb ∧ ∀ x : Str, x ≠ "__name__" → mb x = bootBuiltins x
  lim : s₁.heap.NoLimit
  gens : s₁.gens = #[]
  tabs : ∀ p ∈ cs, s₁.heap.get? p.2 = some NoTab
  out : ∀ p ∈ cs, K.lookup p.2 = none
  code : ∀ p ∈ cs, PySem.W.CodeHd s₁.heap p.1 p.2
  bm : ∃ (bm : Addr) (ob : Obj), mg "__builtins__" = some (.ref bm) ∧ bm ≠ builtinsNs ∧ s₁.heap.get? bm = some ob ∧ ob.cls = .type "module" ∧ ob.dict = some builtinsNs ∧ ob.data = .plain
  scr : ∃ vs : List Value, s₁.heap.get? a = some { cls := .type "list", data := .seq vs.toArray } ∧ IntsAre vs ns
  len : ns.length ≤ sizeLine
/-- an abstract heap of such a state -/
structure Good (K : PySem.W.Frag) (cs : List (Addr × Addr)) (a : Addr) (s₁ : Shared) (H : Hp) : Prop where
  at_ : ∀ b o, H b = some o → (o = .tbl #[] ∧ s₁.heap.get? b = some NoTab ∧ ∃ p ∈ cs, p.2 = b) ∨ (b = a ∧ (∃ ob xs, o = .frz ob (.lst xs)) ∧ ∃ vs : List Value, s₁.heap.get? a = some { cls := .type "list", data := .seq vs.toArray })
  tb : ∀ p ∈ cs, H p.2 = some (.tbl #[])
  k : H a ≠ none → K.lookup a = none
theorem At1.good {P : Program} {w : World} {K : PySem.W.Frag} {mg : Str → Option Value} {cs : List (Addr × Addr)} {a : Addr} {ns : List Int} {s₁ : Shared} (h : At1 K mg cs a ns s₁) :
    ∃ H : Hp, Good K cs a s₁ H ∧ SqL K H a (ns.map V.int) ∧ HOk P w H s₁.heap := by
  obtain ⟨vs, ha, hi⟩ := h.scr
  have rv := vals_ints hi
  have tabAt : ∀ b o, tabsH cs b = some o → o = .tbl #[] ∧ s₁.heap.get? b = some NoTab ∧ ∃ p ∈ cs, p.2 = b := fun b o e => by
    obtain ⟨e1, p, hp, e2⟩ := tabsH_some e
    exact ⟨e1, by rw [← e2]; exact h.tabs p hp, p, hp, e2⟩
  have na : tabsH cs a = none := by
    cases e : tabsH cs a with
    | none => rfl
    | some o =>
      have z := (tabAt a o e).2.1
      rw [ha] at z
      cases z
  have okT : ∀ b o, tabsH cs b = some o → ∀ H : Hp, ObjOk P w H s₁.heap b o := fun b o e H => by
    obtain ⟨e1, e2, _⟩ := tabAt b o e
    subst e1
    exact e2
  cases hk : K.lookup a with
  | some o =>
    have z := h.kin a o hk
    rw [ha] at z
    cases z
    refine ⟨tabsH cs, ⟨fun b o e => .inl (tabAt b o e), fun p hp => tabsH_in hp, fun z => absurd na z⟩, .inr ⟨_, vs.toArray, _, hk, rfl, rfl, rfl, ?_, by simpa using rv⟩, fun b o e => okT b o e _⟩
    rw [List.size_toArray, hi.length]
    exact h.len
  | none =>
    refine ⟨upd (tabsH cs) a (.frz { cls := .type "list", data := .seq vs.toArray } (.lst (ns.map V.int))), ⟨fun b o e => ?_, fun p hp => ?_, fun _ => hk⟩, .inl (.inr ⟨_, upd_same⟩), fun b o e => ?_⟩
    · by_cases hb : b = a
      · subst hb
        rw [upd_same] at e
        exact .inr ⟨rfl, ⟨_, _, (Option.some.inj e).symm⟩, vs, ha⟩
      · rw [upd_ne hb] at e
        exact .inl (tabAt b o e)
    · rw [upd_ne (ne_of_none (tabsH_in hp) na)]
      exact tabsH_in hp
    · by_cases hb : b = a
      · subst hb
        rw [upd_same] at e
        cases e
        exact ⟨ha, by rw [List.length_map]; exact h.len, vs, _, rv, ha⟩
      · rw [upd_ne hb] at e
        exact okT b o e _
variable {P : Program} {w : World} {K : PySem.W.Frag} {mg : Str → Option Value}
theorem Good.free {cs : List (Addr × Addr)} {a : Addr} {s₁ : Shared} {H : Hp} (g : Good K cs a s₁ H) {b : Addr} {o : Obj} (e : s₁.heap.get? b = some o) (h1 : ∀ vs n, o.data ≠ .seq vs n) (h2 : o.data ≠ .fields #[]) : H b = none := by
  cases q : H b with
  | none => rfl
  | some u =>
    rcases g.at_ b u q with ⟨_, z, _⟩ | ⟨rfl, _, vs, z⟩
    · rw [e] at z
      cases z
      exact (h2 rfl).elim
    · rw [e] at z
      cases z
      exact (h1 _ _ rfl).elim
theorem At1.call {cs : List (Addr × Addr)} {a fa : Addr} {ns : List Int} {s₁ : Shared} {k : Nat} {fd : FuncData} {x : Str} {sp : Sp} (h : At1 K mg cs a ns s₁) (hr : Room k callerA)
    (F : ∀ base : Heap, K.In base → base.Ns mainGlobals mg → (∀ (b : Addr) (m : Str → Option Value), s₁.heap.Ns b m → base.Ns b m) → (∀ p ∈ cs, TabB base mg p.1 p.2) → FnG P w K mg base k fa fd [x] sp) (hbind : ∀ (s : Shared) (u : Value), BindsTo s fd ⟨[u], []⟩ [(x, u)])
    (hsp : ∀ H : Hp, (∀ p ∈ cs, H p.2 = some (.tbl #[])) → SqL K H a (ns.map V.int) → sp [.ref a] H (fun v _ => v = .bl true) E0) :
    codeAny (model P w) callerA (.call (.ref fa) ⟨[.ref a], []⟩) (fun r s' => r = .ok (.ret (.bool true)) ∧ OldK s₁.heap s'.heap ∧ s'.os = s₁.os ∧ AllBare s'.gens) s₁ := by
  obtain ⟨H, g, hS, hok⟩ := h.good (P := P) (w := w)
  have dict_free : ∀ {b : Addr} {o : Obj} {es : Array DictEntry} {ep : Nat}, s₁.heap.get? b = some o → o.data = .dict es ep → H b = none := fun {b o es ep} e d => g.free e (fun vs n z => by rw [d] at z; cases z) fun z => by rw [d] at z; cases z
  have space : ∀ {b : Addr} {m : Str → Option Value}, s₁.heap.Ns b m → (hidT s₁.heap H).Ns b m := fun {b m} ⟨o, es, ep, e, d, r⟩ => ⟨o, es, ep, hidT_get e (dict_free e d), d, r⟩
  have kb : K.In (hidT s₁.heap H) := fun b o e => hidT_get (h.kin b o e) (by
    cases q : H b with
    | none => rfl
    | some u =>
      rcases g.at_ b u q with ⟨_, _, p, hp, e2⟩ | ⟨rfl, _, _⟩
      · rw [← e2, h.out p hp] at e
        cases e
      · rw [g.k (by rw [q]; exact fun z => nomatch z)] at e
        cases e)
  obtain ⟨mb, hb, hbb⟩ := h.blt
  have md : L2.Mod K mg (hidT s₁.heap H) := ⟨kb, space h.ns_, ⟨mb, space hb, hbb⟩, let ⟨mc, h1, h2⟩ := h.lim; ⟨mc, space h1, h2⟩⟩
  have tb : ∀ p ∈ cs, TabB (hidT s₁.heap H) mg p.1 p.2 := fun p hp => by
    have hTp := h.tabs p hp
    have ng : mainGlobals ≠ p.2 := fun z => by
      obtain ⟨o, es, ep, e, hd, _⟩ := h.ns_
      rw [z, hTp] at e
      cases e
      cases hd
    obtain ⟨o, us, file, tf, flags, tg, inF, text, tt, e1, r1, r2, r3, r⟩ := h.code p hp
    obtain ⟨bm, ob, b1, b2, b3, b4, b5, b6⟩ := h.bm
    have f1 : H p.1 = none := g.free e1 (fun vs n z => by rw [r2] at z; cases z) fun z => by
      rw [r2] at z
      cases z
      simp at r3
    have f2 : H bm = none := g.free b3 (fun vs n z => by rw [b6] at z; cases z) fun z => by rw [b6] at z; cases z
    refine ⟨⟨o, us, file, tf, flags, tg, inF, text, tt, hidT_get e1 f1, r1, r2, r3, r⟩, ⟨bm, ob, b1, b2, fun q => ?_, fun q => ?_, hidT_get b3 f2, b4, b5, b6⟩, ng⟩
    · obtain ⟨o2, es, ep, e, hd, _⟩ := h.ns_
      rw [← q, b3] at e
      cases e
      rw [b6] at hd
      cases hd
    · rw [q, hTp] at b3
      cases b3
      cases b6
  have e0 : Env0 P w K mg (hidT s₁.heap H) callerA [] s₁ H := ⟨rfl, md, fun b o e => of_hidT e, Nat.le_of_eq (hidT_size _ _), trivial, fun b hb => absurd (show b ∈ ([] : List Addr) from hb) (by simp), hok, .of_eq h.gens⟩
  refine codeAny_mono ((F _ kb (space h.ns_) (fun _ _ z => space z) tb).run callerA [] s₁ H ⟨[.ref a], []⟩ [.ref a] [.ref a] _ _ rfl hr e0 (hbind s₁ (.ref a)) (.cons rfl .nil) (hsp H g.tb hS)) fun r s' hq => ?_
  match r, hq with
  | .error e, hq => exact hq.elim
  | .ok .next, hq => exact hq.elim
  | .ok .brk, hq => exact hq.elim
  | .ok .cont, hq => exact hq.elim
  | .ok (.ret u), hq =>
    obtain ⟨v, H', os, bare, un, hok', r', q⟩ := hq
    obtain rfl : v = .bl true := q
    obtain rfl : u = Value.bool true := r'
    have keep : ∀ b o, s₁.heap.get? b = some o → s'.heap.get? b = some o ∨ (o = NoTab ∧ (∃ p ∈ cs, p.2 = b) ∧ ∃ more : Array Value, s'.heap.get? b = some { cls := .none, data := .fields more }) := fun b o e => by
      cases q : H b with
      | none => exact .inl (un.keep b o e q (by intro z; exact absurd (show b ∈ ([] : List Addr) from z) (by simp)) (by simp))
      | some u =>
        rcases g.at_ b u q with ⟨rfl, z, p⟩ | ⟨rfl, ⟨ob, xs, rfl⟩, _⟩
        · rw [e] at z
          cases z
          obtain ⟨more, z2⟩ := un.tbls b #[] q
          exact .inr ⟨rfl, p, _, hok' b _ z2⟩
        · obtain ⟨e1, _⟩ := hok b _ q
          obtain ⟨e2, _⟩ := hok' b _ (un.frzs b ob _ q)
          rw [e] at e1
          cases e1
          exact .inl e2
    refine ⟨rfl, ⟨fun b o e => ?_, fun b o e => ?_⟩, os, bare⟩
    · rcases keep b o e with z | ⟨rfl, ⟨p, hp, rfl⟩, more, z⟩
      · exact .inl z
      · exact .inr (.inl ⟨((h.code p hp).tab (h.tabs p hp)).isCodeTable, rfl, #[], more, rfl, by rw [Array.empty_append]; exact z⟩)
    · rcases keep b o e with z | ⟨_, _, more, z⟩
      · exact ⟨o, z⟩
      · exact ⟨_, z⟩
/-- sys.modules stands in the base -/
def HasMods (base : Heap) : Prop := ∃ mm, base.Ns sysModules mm
/-- the row's end by such promises -/
def LawG (l : PySem.W.OpenLaw) (w : World) (K : PySem.W.Frag) (k n : Nat) (x : Str) (mg : Str → Option Value) (fa : Addr) (h : Heap) : Prop :=
  ∃ (fd : FuncData) (cs : List (Addr × Addr)) (sp : Sp), (∀ p ∈ cs, h.get? p.2 = some NoTab) ∧ (∀ p ∈ cs, K.lookup p.2 = none) ∧ (∀ p ∈ cs, PySem.W.CodeHd h p.1 p.2) ∧ (∀ (s : Shared) (u : Value), BindsTo s fd ⟨[u], []⟩ [(x, u)]) ∧
    (∀ (H : Hp) (a : Addr) (ns : List Int), ns.length ≤ n → (∀ z ∈ ns, Builtin.Int.intBits z ≤ 1048576) → (∀ p ∈ cs, H p.2 = some (.tbl #[])) → SqL K H a (ns.map V.int) → sp [.ref a] H (fun v _ => v = .bl true) E0) ∧
    ∀ base : Heap, K.In base → base.Ns mainGlobals mg → HasMods base → (∀ p ∈ cs, TabB base mg p.1 p.2) → FnG l.prog w K mg base k fa fd [x] sp
theorem walkG {l : PySem.W.OpenLaw} {n k : Nat} {q : Program} {loose : List Str} {XP : (Str → Option Value) → Heap → Prop} {YP : World → Heap → Prop} {d : DefRec} {x : Str}
    (hn : l.most = some n) (hn2 : n ≤ sizeLine) (hdf : d.params.defaults = []) (hi : importsNone q = true) (hr : Room k callerA)
    (F : ∀ (w : World) (mg : Str → Option Value) (fa : Addr) (h : Heap), YP w h → h.Ns mainGlobals mg → mg d.name = some (.ref fa) → ∃ K : PySem.W.Frag, K.In h ∧ LawG l w K k n x mg fa h) :
    PySem.W.WalkO q loose XP YP l.row.toRowW d [] (fun f vs => PySem.call f vs) := by
  refine Att.attach_callB hn hdf fun w s₀ s₁ mg mb fa o pm cd doc a vs ns G Y ho hd hcd hmg hobj hints hlen hbits hg => ?_
  obtain ⟨K, kx, fd, cs, sp, hT, nT, C, hb, hsp, hF⟩ := F w mg fa _ Y G.T.g hmg
  exact At1.call (K := K) (cs := cs) (sp := sp) ⟨kx, G.T.g, ⟨mb, G.T.b, G.T.builtins⟩, G.T.nolimit, hg, hT, nT, C, G.T.bmain, ⟨vs, hobj, hints⟩, Nat.le_trans hlen hn2⟩ hr (fun base kb nb sp tb => hF base kb nb (let ⟨mm, z, _⟩ := (G.T.seer hi).mods; ⟨mm, sp _ _ z⟩) tb) hb fun H hH hS => hsp H a ns hlen hbits hH hS
end
/-! ### a def of the text: its datum, its name, how it binds -/
structure Df (K : PySem.W.Frag) (mg : Str → Option Value) (x : Str) (st : Stmt) (ps : List Str) (fd : FuncData) : Prop where
  F : FnP K x st (He.fAd K (x, none)) fd
  g : mg x = some (.ref (He.fAd K (x, none)))
  b : Binds K fd ps []
/-- a promise that none asks -/
def spNo : Sp := fun _ _ _ _ => False
theorem ok_no {P : Program} {w : World} {K : PySem.W.Frag} {mg : Str → Option Value} {base : Heap} {CX : CXT} {k : Nat} {f : Addr} {fd : FuncData} {ps : List Str} : FnOk P w K mg base CX k f fd ps spNo := ⟨fun _ _ _ _ h => h.elim, fun _ _ _ _ _ _ _ _ _ _ _ _ _ h => h.elim⟩
/-! ### isinstance of a built-in class -/
def isS : V → Bool
  | .str _ => true
  | _ => false
/-- x has a class, told, and whether it is T is told by b -/
def IsA (K : PySem.W.Frag) (H : Hp) (x : V) (T : String) (b : Bool) : Prop := ∃ t, TyX K H x (.type t) ∧ kitB t T = some b
theorem rIsi_of {K : PySem.W.Frag} {H : Hp} {x : V} {T : String} {b : Bool} {Q : VK} (h : IsA K H x T b) (q : Q (.bl b) H) : rIsi K [x, .ty T] H Q := by
  obtain ⟨t, h1, h2⟩ := h
  exact ⟨x, .ty T, .type t, .type T, b, rfl, .ty T, h1, kit_ty h2, q⟩
end KT

set_option Elab.async false
set_option linter.all false
set_option maxRecDepth 100000
set_option maxHeartbeats 4000000
/-! all(e for x in it), any(e for x in it): any element, calls of defs in it too. -/
namespace KG
open PySem PySem.Spec PyProof.Rows L2 GxR GenW KT
theorem over_cs {A : Around} {elt tg iter : Expr} {ifs : List Expr} {scope : Scope} {pos : Pos} {it acc : Value} {env : Env} : A.over (.compStart (.GeneratorExp elt [⟨tg, iter, ifs, 0⟩] scope pos) 0 it acc env) [] = A.deeper env := rfl
theorem over_cl {A : Around} {elt tg iter : Expr} {ifs : List Expr} {scope : Scope} {pos : Pos} {it acc : Value} {env : Env} : A.over (.compLoop (.GeneratorExp elt [⟨tg, iter, ifs, 0⟩] scope pos) 0 it acc env) [] = A.deeper env := rfl
/-- the context of a generator expression's frame: entered at s -/
abbrev gX (X : Cx) (s : Shared) (H : Hp) (cenv : Env) (fp : List Addr) : Cx := { X with s_0 := s, H_0 := H, env := cenv, A := X.A.in1.in1.deeper cenv, outer := X.stack, stack := cenv :: X.stack, ex := fp, fn := fun _ => false, pn := [], xe := fun _ _ => False }
theorem room_gen {k : Nat} {A : Around} {env : Env} (r : Room (k + 3) A) : Room k (A.in1.in1.deeper env) := (r.in1.in1).deeper env
structure GnOk (N : List Str) (sc scope : Scope) (own : List (Str × Nat)) : Prop where
  blk : BlkOk N sc scope own
  co : scope.isCoroutine = false
  cell : ∀ y ∈ scope.names, y.2 ≠ .cell
  dot : scope.names.lookup (".0" : Str) = some NameKind.local
def gnC (N : List Str) (sc scope : Scope) (own : List (Str × Nat)) : Bool :=
  blkC N sc scope own && (!scope.isCoroutine && ((scope.names.all fun y => decide (y.2 ≠ .cell)) && decide (scope.names.lookup (".0" : Str) = some NameKind.local)))
theorem gnOk_by {N : List Str} {sc scope : Scope} {own : List (Str × Nat)} (h : gnC N sc scope own = true) : GnOk N sc scope own := by
  unfold gnC at h
  obtain ⟨h1, h⟩ := Bool.and_eq_true_iff.mp h
  obtain ⟨h2, h⟩ := Bool.and_eq_true_iff.mp h
  obtain ⟨h3, h4⟩ := Bool.and_eq_true_iff.mp h
  refine ⟨blkOk_by h1, ?_, fun y hy => of_decide_eq_true (List.all_eq_true.mp h3 y hy), of_decide_eq_true h4⟩
  cases e : scope.isCoroutine with
  | false => rfl
  | true =>
    rw [e] at h2
    cases h2
section
variable {X : Cx} {pins : List (Addr × Obj)} {σ : L2.St} {H : Hp} {s : Shared}
theorem Inv_gens {X : Cx} {pins : List (Addr × Obj)} {σ : L2.St} {H : Hp} {s : Shared} {g' : Array GenState} {t' : Nat} (I : L2.Inv X pins σ H s) (hg : AllBare g') : L2.Inv X pins σ H { s with gens := g', toks := t' } := by
  refine I.step (h' := s.heap) (g' := g') (t' := t') (d' := s.drawn) (ch := []) (fun b hb => absurd hb (by simp)) (fun b o _ _ _ e _ => e) (fun b o _ _ _ e _ => ⟨o.slots, e⟩) (fun b o _ _ n => n) (fun b o _ e => ⟨o, e⟩) (fun _ _ e => e) (fun _ _ _ e => e) (fun b ps e => ⟨#[], by rw [e]; simp⟩) (fun m hm => hm) I.hok hg
theorem gen_start {scope : Scope} {own : List (Str × Nat)} {fp : List Addr} {code : Value} {h' : Heap} {o : Obj} {gs : GenState} {tk : Nat} {m0 : Str → Option Value} (I : L2.Inv X pins σ H s) (ok : GnOk X.N X.env.scope scope own) (hN : X.N.Nodup) (hfp : ∀ b ∈ fp, FpOk X pins H b ∧ b < s.heap.objs.size)
    (hn : h'.Ns s.heap.objs.size m0) (hsz : h'.objs.size = s.heap.objs.size + 1) (kp : ∀ b o, s.heap.get? b = some o → h'.get? b = some o) (hod : ∀ v, o.data ≠ .cell v) (hoc : o.isFreed = false) (hg : gs.bare = true) :
    L2.Inv (gX X s H (genEnv scope (cloFrom X.env.cells scope.names []) s.heap.objs.size code builtinsNs X.env) fp) [(h'.objs.size, o)] (wipe σ (own.map (·.2))) H { s with gens := s.gens.push gs, toks := tk, heap := h'.push o } := by
  have bk := ok.blk
  have hfree : ∀ y ∈ scope.names, y.2 = .free → ∃ c, X.env.cells.lookup y.1 = some c := fun y hy e => (bk.free y hy e).elim (fun k => I.ok.has _ (.inl k)) fun k => I.ok.has _ (.inr k)
  have kp2 : ∀ b u, s.heap.get? b = some u → (h'.push o).get? b = some u := fun b u e => Heap.get?_push_of_some _ (kp b u e)
  have cm : ∀ {y c}, (cloFrom X.env.cells scope.names []).lookup y = some c → X.env.cells.lookup y = some c ∧ (y, NameKind.free) ∈ scope.names := fun {y c} e => by
    rcases cloFrom_mem (PySem.mem_of_lookup e) with z | ⟨h1, rfl⟩
    · cases z
    · obtain ⟨c, hc⟩ := hfree _ h1 rfl
      rw [hc]
      exact ⟨rfl, h1⟩
  have clt : ∀ {y c}, X.env.cells.lookup y = some c → c < s.heap.objs.size := fun {y c} e => by
    obtain ⟨v, z⟩ := I.cell _ _ e
    exact z.lt
  have look : ∀ {y}, scope.names.lookup y = some .free → ∃ c, (cloFrom X.env.cells scope.names []).lookup y = some c ∧ X.env.cells.lookup y = some c := fun {y} hl => by
    obtain ⟨c, e⟩ := mem_lookup (cloFrom_has (cells := X.env.cells) (acc := []) (PySem.mem_of_lookup hl))
    exact ⟨c, e, (cm e).1⟩
  have bLt : ∀ b ∈ fp, b ≠ s.heap.objs.size := fun b hb => Nat.ne_of_lt (hfp b hb).2
  have kind_of : ∀ {y k}, scope.names.lookup y = some k → k = .cell ∨ k = .free → scope.names.lookup y = some .free := fun {y k} e hk => by
    rcases hk with rfl | rfl
    · exact absurd rfl (ok.cell _ (PySem.mem_of_lookup e))
    · exact e
  have okB : (gX X s H (genEnv scope (cloFrom X.env.cells scope.names []) s.heap.objs.size code builtinsNs X.env) fp).Ok := by
    refine { mod := I.ok.mod, kind := bk.kind, glob := I.ok.glob, blt := rfl, above := Nat.le_refl _, inj := fun y z c e1 e2 => I.ok.inj y z c (cm e1).1 (cm e2).1, has := fun y hy => ?_, cab := fun y c z _ => absurd z Bool.false_ne_true, hd := I.ok.hd, frames := Around.frames_deeper I.ok.frames, stk := .inr ⟨rfl, rfl⟩, exf := fun b hb => ⟨bLt b hb, fun y c e z => ?_⟩, bs := I.bs, bsz := Nat.le_trans I.ok.bsz I.sz, noex := fun b u e hb => ?_, exfs := fun b hb z => ?_, funs := I.stack, frf := I.stkFree }
    · rcases hy with hy | hy
      · obtain ⟨c, e, _⟩ := look (kind_of hy (.inl rfl))
        exact ⟨c, e⟩
      · obtain ⟨c, e, _⟩ := look hy
        exact ⟨c, e⟩
    · exact (hfp b hb).1.2.2.2.2.1 y c (cm e).1 z
    · rcases (hfp b hb).1.2.2.2.1 with z | z
      · exact I.ok.noex b u e z
      · exact absurd (Nat.lt_of_lt_of_le (Heap.lt_size e) (Nat.le_trans I.ok.bsz z)) (Nat.lt_irrefl _)
    · rcases List.mem_cons.mp (I.stkSub b z) with z | z
      · exact (hfp b hb).1.2.1 z
      · exact (hfp b hb).1.2.2.1 z
  have fsLt : ∀ b ∈ frs X.stack, b < s.heap.objs.size := fun b hb => by
    rcases List.mem_cons.mp (I.stkSub b hb) with z | z
    · rw [z]; exact I.lt
    · exact Nat.lt_of_not_le fun q => I.nofs q z
  refine ⟨okB, rfl, I.bare.push hg, Un.kept kp2, ⟨m0, hn.push _, fun i y av e1 e2 e3 => ?_⟩, fun y c e => ?_, I.hok.fresh (Nat.le_refl _), fun y c e => I.freeC y c (cm e).1, fun p hp => ?_, I.hok.kept kp2, by rw [wipe_length]; exact I.len⟩
  · obtain ⟨e2, hne⟩ := wipe_some e2
    have no : ∀ k, scope.names.lookup y = some k → k = .local ∨ k = .cell → False := fun k hk hh => by
      rcases bk.own _ (PySem.mem_of_lookup hk) hh with e' | e'
      · obtain ⟨p, hp, hpy⟩ := List.mem_map.mp e'
        have e3 := bk.ix p hp
        have q : p.1 = y := hpy
        rw [q] at e3
        exact hne (List.mem_map.mpr ⟨p, hp, nodup_ix hN e3 e1⟩)
      · exact e' (List.mem_of_getElem? e1)
    have fr : scope.names.lookup y = some .free := by
      have e3 : Vis scope y := e3
      rcases e3 with e3 | e3 | e3
      · exact (no _ e3 (.inl rfl)).elim
      · exact (no _ e3 (.inr rfl)).elim
      · exact e3
    obtain ⟨m, _, hl⟩ := I.loc
    have hv : Vis X.env.scope y := (bk.free _ (PySem.mem_of_lookup fr) rfl).elim (fun k => .inr (.inl k)) fun k => .inr (.inr k)
    obtain ⟨u, r, q⟩ := hl i y av e1 e2 hv
    obtain ⟨c, h1, h2⟩ := look fr
    refine ⟨u, r, .inr ⟨.inr fr, c, h1, ?_⟩⟩
    rcases q with ⟨k, _⟩ | ⟨_, c', e', z⟩
    · have k : X.env.scope.names.lookup y = some .local := k
      rcases bk.free _ (PySem.mem_of_lookup fr) rfl with k' | k' <;> rw [show X.env.scope.names.lookup y = _ from k'] at k <;> cases k
    · rw [h2] at e'
      cases e'
      exact z.keeps kp2
  · obtain ⟨v, z⟩ := I.cell y c (cm e).1
    exact ⟨v, z.keeps kp2⟩
  · obtain rfl : p = (h'.objs.size, o) := List.mem_singleton.mp hp
    refine ⟨Heap.get?_push_size _ hoc, I.hok.fresh (by rw [hsz]; exact Nat.le_succ _), ?_, fun z => ?_, hod⟩
    · show h'.objs.size ≠ s.heap.objs.size
      rw [hsz]
      exact Nat.succ_ne_self _
    · have q : h'.objs.size < s.heap.objs.size := fsLt _ z
      rw [hsz] at q
      exact Nat.lt_irrefl _ (Nat.lt_trans (Nat.lt_succ_self _) q)
end
section
variable {X : Cx}
/-- what the consumer sees at a yield: b0 lets it go on -/
def gY (X : Cx) (pa : List (Addr × Obj)) (σ : L2.St) (fp : List Addr) (tn : Nat → Heap → Prop) (b0 : Bool) (W : Nat → Nat → Hp → Prop) (Qf : Hp → Prop) : Protocol := fun n _ v s kap =>
  ∃ (i : Nat) (H : Hp) (b : Bool), v = .bool b ∧ L2.Inv X pa σ H s ∧ tn i s.heap ∧ (∀ b ∈ fp, H b = none) ∧ (b ≠ b0 → Qf H) ∧
    (b = b0 → (∃ m, m < n ∧ W i m H) ∧ ∀ s' : Shared, s'.heap = s.heap → s'.os = s.os → s'.drawn = s.drawn → AllBare s'.gens → kap (.send .none) s')
def gR (X : Cx) (pa : List (Addr × Obj)) (σ : L2.St) (Qe : Hp → Prop) : Nat → Shared → Shared → Prop := fun _ _ s => ∃ H, L2.Inv X pa σ H s ∧ Qe H
/-- the turns of such a walk, as the reading tells them -/
def Turns (J : It) (g : TG) (te : TE) (σ : L2.St) (vs : List Nat) (b0 : Bool) (W : Nat → Nat → Hp → Prop) (Qe Qf : Hp → Prop) : Prop := ∀ i m H, W i m H →
  (J.stop i H ∧ Qe H) ∨ (J.go i H ∧ ∃ Nx : Hp → Prop, (∀ H', Nx H' → ∃ m', m' < m ∧ W (i + 1) m' H') ∧ ∀ x H', J.yld i H x H' → g x (wipe σ vs) H' fun σ2 H2 => wipe σ2 vs = wipe σ vs ∧ te σ2 H2 fun y H3 => ∃ b, y = .bl b ∧ if b = b0 then Nx H3 else Qf H3)
theorem seg_turns {A : Around} {elt tg iter : Expr} {scope : Scope} {pos : Pos} {it : Addr} {fp : List Addr} {tn : Nat → Heap → Prop} {J : It} {g : TG} {te : TE} {σ : L2.St} {vs : List Nat} {b0 : Bool} {W : Nat → Nat → Hp → Prop} {Qe Qf : Hp → Prop} {pa : List (Addr × Obj)}
    (hA : A.deeper X.env = X.A) (hc : X.calm = true) (hpn : X.pn = []) (hpa : ∀ p ∈ pa, p.1 ∉ fp) (hex : X.ex = fp) (hco : X.env.scope.isCoroutine = false) (T : Turn X.prog X.w X.K tg J fp it tn) (pg : PG X tg g) (pe : PE X elt te) (hxe : X.xe = fun _ _ => False)
    (turn : Turns J g te σ vs b0 W Qe Qf) :
    ∀ (n m i : Nat) (s₀ s : Shared) (H : Hp), m < n → W i m H → L2.Inv X pa (wipe σ vs) H s → tn i s.heap → (∀ b ∈ fp, H b = none) →
      Seg (model X.prog X.w) A (fun n s₀ r s₁ => r = .ok .next ∧ gR X pa (wipe σ vs) Qe n s₀ s₁) (gY X pa (wipe σ vs) fp tn b0 W Qf) n s₀ (.compLoop (.GeneratorExp elt [⟨tg, iter, [], 0⟩] scope pos) 0 (.ref it) .none X.env)
        ((model X.prog X.w).den (.compLoop (.GeneratorExp elt [⟨tg, iter, [], 0⟩] scope pos) 0 (.ref it) .none X.env)) [] s := by
  have stat : ∀ {σ' : L2.St} {H' : Hp} {s' : Shared}, L2.Inv X pa σ' H' s' → (∀ b ∈ fp, H' b = none) → ∀ b ∈ fp, FpOk X pa H' b := fun {σ' H' s'} I' hn b hb => by
    have hb' : b ∈ X.ex := by rw [hex]; exact hb
    refine ⟨hn b hb, (I'.ok.exf b hb').1, I'.ok.exfs b hb', .inl hb', fun x c e => (I'.ok.exf b hb').2 x c e, fun p hp z => ?_⟩
    rw [hpn, List.nil_append] at hp
    exact hpa p hp (z ▸ hb)
  have ov : A.over (.compLoop (.GeneratorExp elt [⟨tg, iter, [], 0⟩] scope pos) 0 (.ref it) .none X.env) [] = X.A := by
    rw [over_cl]
    exact hA
  intro n
  induction n with
  | zero => intro m i s₀ s H h; exact absurd h (Nat.not_lt_zero _)
  | succ n ih =>
    intro m i s₀ s H hm w I st nf
    show Seg _ A _ _ _ s₀ _ ((compTurn (.GeneratorExp elt [⟨tg, iter, [], 0⟩] scope pos) 0 (.ref it) .none X.env).onRaise (leaving X.env)) [] s
    rw [compTurn_gen, Sem.onRaise_eq_wrap]
    refine seg_bind_wrap (wpAny_standAt ?_)
    rcases turn i m H w with ⟨stop, qe⟩ | ⟨go, Nx, hNx, step⟩
    · refine seg_bind_wrap ?_
      rw [ov]
      refine thnF (T.done X rfl rfl rfl hc i pa s _ H (fun _ _ => False) I (stat I nf) st stop) fun r s1 ⟨hr, I1⟩ => ?_
      subst hr
      exact seg_end (.ok .next) ⟨rfl, H, I1, qe⟩
    · refine seg_bind_wrap ?_
      rw [ov]
      refine thnF (T.item X rfl rfl rfl hc i pa s _ H (fun _ _ => False) I (stat I nf) st go) fun r s1 ⟨u, hr, h1⟩ => ?_
      subst hr
      refine seg_bind_wrap ?_
      rw [ov]
      refine thnF h1 fun _ s2 ⟨x, H2, I2, r2, y2, st2, n2⟩ => ?_
      have I2' := I2.pinned (stat I2 n2) (T.obj _ _ st2)
      refine seg_bind_wrap ?_
      rw [ov]
      have e0 : X.xe = fun _ _ => False := hxe
      have pgr := pg.run _ s2 _ H2 x u _ I2' r2 (step x H2 y2)
      rw [e0] at pgr
      refine thnF pgr fun _ s3 ⟨σ3, H3, I3, hw3, q3⟩ => ?_
      refine seg_bind_wrap ?_
      simp only [List.forIn_nil]
      refine wpAny_pure ?_
      simp only [if_true]
      have hy : ∀ v, yieldOut X.env v = yieldValue v := fun v => by simp only [yieldOut, hco, Bool.false_eq_true, if_false]
      simp only [hy]
      rw [Sem.bind_eq_wrap', Sem.bind_eq_wrap', Sem.wrap_wrap, Sem.wrap_wrap]
      refine seg_wrap ?_
      rw [ov]
      have per := pe.run _ s3 σ3 H3 _ I3 q3
      rw [e0] at per
      refine thnF per fun z s4 ⟨yv, H4, I4, r4, b, eb, q4⟩ => ?_
      subst eb
      obtain rfl : z = Value.bool b := r4
      have pin' : ∀ b ∈ fp, ∀ o, s2.heap.get? b = some o → s4.heap.get? b = some o ∧ H4 b = none := fun b hb o e =>
        let z := I4.pin (b, o) (List.mem_append_right _ (List.mem_append_right _ (mem_pinsAt hb e)))
        ⟨z.1, z.2.1⟩
      have hl : (wipe σ vs).length = σ3.length := by rw [← hw3, wipe_length]
      have J4 : L2.Inv X pa (wipe σ vs) H4 s4 := (I4.pins_of fun p hp => I4.pin p (List.mem_append_right _ (List.mem_append_left _ hp))).weak hl fun j v e => by
        rw [← hw3] at e
        exact (wipe_some e).1
      have st4 : tn (i + 1) s4.heap := T.keep _ _ _ st2 fun b hb o e => (pin' b hb o e).1
      have n4 : ∀ b ∈ fp, H4 b = none := fun b hb => by
        obtain ⟨o, e, _⟩ := T.obj _ _ st2 b hb
        exact (pin' b hb o e).2
      refine seg_at (seg_yield rfl rfl rfl ⟨i + 1, H4, b, rfl, J4, st4, n4, fun hb => ?_, fun hb => ?_⟩)
      · rw [if_neg hb] at q4
        exact q4
      · rw [if_pos hb] at q4
        obtain ⟨m', hm', w'⟩ := hNx H4 q4
        refine ⟨⟨m', by omega, w'⟩, fun s' h1 h2 h3 h4 => ?_⟩
        refine seg_again rfl (ih m' (i + 1) s' s' H4 (by omega) w' ?_ (by rw [h1]; exact st4) n4)
        have J5 := Inv_gens (g' := s'.gens) (t' := s'.toks) J4 h4
        obtain ⟨hp', g', d', t', o'⟩ := s'
        obtain rfl : hp' = s4.heap := h1
        obtain rfl : o' = s4.os := h2
        obtain rfl : d' = s4.drawn := h3
        exact J5
theorem seg_begin {A : Around} {elt tg iter : Expr} {scope : Scope} {pos : Pos} {it : Addr} {R : GenEnd} {Y : Protocol} {n : Nat} {s₀ s : Shared} {env : Env}
    (hs : ∀ (B : Around) (Q : Value → Shared → Prop) (E : Value → Shared → Prop), Q (.ref it) s → wpAny (model X.prog X.w) B (pyIter (.ref it)) Q E s)
    (loop : Seg (model X.prog X.w) A R Y n s₀ (.compLoop (.GeneratorExp elt [⟨tg, iter, [], 0⟩] scope pos) 0 (.ref it) .none env) ((model X.prog X.w).den (.compLoop (.GeneratorExp elt [⟨tg, iter, [], 0⟩] scope pos) 0 (.ref it) .none env)) [] s) :
    Seg (model X.prog X.w) A R Y n s₀ (.compStart (.GeneratorExp elt [⟨tg, iter, [], 0⟩] scope pos) 0 (.ref it) .none env) ((model X.prog X.w).den (.compStart (.GeneratorExp elt [⟨tg, iter, [], 0⟩] scope pos) 0 (.ref it) .none env)) [] s := by
  show Seg _ A _ _ _ s₀ _ ((compStart (.GeneratorExp elt [⟨tg, iter, [], 0⟩] scope pos) 0 (.ref it) .none env).onRaise (leaving env)) [] s
  unfold compStart
  rw [Sem.onRaise_eq_wrap]
  show Seg _ A R Y n s₀ _ ((ask >>= _).wrap _ _ _ _) [] s
  refine seg_bind_wrap (wpAny_askSetting ?_)
  split
  · exact seg_again rfl loop
  · first
      | exact seg_bind_wrap (wpAny_rule (seg_bind_wrap (wpAny_standAt (seg_bind_wrap (hs _ _ _ (seg_again rfl loop))))))
      | (refine seg_bind_wrap (wpAny_rule ?_); show Seg _ A R Y n s₀ _ ((standAt iter.pos >>= _).wrap _ _ _ _) [] s; exact seg_bind_wrap (wpAny_standAt (seg_bind_wrap (hs _ _ _ (seg_again rfl loop)))))
/-- a generator expression's object stands ready -/
def GRdy (X : Cx) (A : Around) (pa : List (Addr × Obj)) (σ : L2.St) (fp : List Addr) (tn : Nat → Heap → Prop) (b0 : Bool) (W : Nat → Nat → Hp → Prop) (Qe Qf : Hp → Prop) (a : Addr) (g n : Nat) (s : Shared) : Prop :=
  s.heap.IsGen a g ∧ s.heap.NoLimit ∧ ∃ gs, s.gens[g]? = some gs ∧ gs.Goes (model X.prog X.w) A (fun n s₀ r s₁ => r = .ok .next ∧ gR X pa σ Qe n s₀ s₁) (gY X pa σ fp tn b0 W Qf) n (.send .none) (s.setGen g .running)
theorem all_loop {A B : Around} {pa : List (Addr × Obj)} {σ : L2.St} {fp : List Addr} {tn : Nat → Heap → Prop} {W : Nat → Nat → Hp → Prop} {Qe Qf : Hp → Prop} {a : Addr} {g : Nat} {R : Result → Shared → Prop} (hB : A.in1.in1 = B) (hh : A.handled = none) (hd : A.depth < recursionLimit)
    (hag : ∀ {σ' : L2.St} {H' : Hp} {s' : Shared}, L2.Inv X pa σ' H' s' → s'.heap.IsGen a g)
    (he : ∀ H' s', L2.Inv X pa σ H' s' → Qe H' → R (.ok (.ret (.bool true))) s') (hf : ∀ H' s', L2.Inv X pa σ H' s' → Qf H' → R (.ok (.ret (.bool false))) s') :
    ∀ (n : Nat) (s : Shared), GRdy X B pa σ fp tn true W Qe Qf a g n s → codeAny (model X.prog X.w) A (.builtin "all.loop" ⟨[.ref a], []⟩) R s := by
  subst hB
  have step : ∀ (n : Nat) (s : Shared), (∀ m s', n = m + 1 → GRdy X A.in1.in1 pa σ fp tn true W Qe Qf a g m s' → codeAny (model X.prog X.w) A (.builtin "all.loop" ⟨[.ref a], []⟩) R s') → GRdy X A.in1.in1 pa σ fp tn true W Qe Qf a g n s → codeAny (model X.prog X.w) A (.builtin "all.loop" ⟨[.ref a], []⟩) R s := by
    intro n s ih ⟨hg, hl, gs, hgs, hgo⟩
    have hgl : g < s.gens.size := (Array.getElem?_eq_some_iff.mp hgs).1
    refine codeAny_builtin F.entry_all_loop ?_
    rw [Around.under_plainId F.plain_all_loop _]
    show wpAny _ A.in1 (pyNext (.ref a) >>= _) _ _ s
    refine wpAny_bind (wpAny_gsz (n := g + 1) hgl (wpAny_pyNext_genexpQ (A := A.in1) hh hl hd hg hgs hgo (fun v s₁ gs' hbare hv hsz => ?_) (fun s₁ hp h' hk hsz => ?_)))
    · obtain ⟨i, H', b, rfl, I, st, nf, qf, qn⟩ := hv
      have hsz1 : g < s₁.gens.size := by
        have q : (s₁.setGen g gs').gens.size = s₁.gens.size := setGen_size _ _ _
        have q2 : g + 1 ≤ (s₁.setGen g gs').gens.size := hsz
        omega
      have J : L2.Inv X pa σ H' (s₁.setGen g gs') := Inv_gens I (allBare_setGen I.bare hbare)
      refine wpAny_bind (wpAny_holding (wpAny_truthy_bool ?_))
      refine wpAny_bind (wpAny_letGo ?_)
      cases b with
      | true =>
        obtain ⟨_, kap⟩ := qn rfl
        simp only [if_true]
        cases n with
        | zero => exact (kap s₁ rfl rfl rfl I.bare).elim
        | succ m =>
          refine wpAny_pure ⟨plainId_quiet F.plain_all_loop _, ih m _ rfl ⟨hag J, J.nolimit, gs', setGen_at hsz1, ?_⟩⟩
          exact kap _ rfl rfl rfl (allBare_setGen J.bare rfl)
      | false =>
        simp only [Bool.false_eq_true, if_false]
        exact wpAny_bind (wpAny_rule (wpAny_pure (hf H' _ J (qf Bool.false_ne_true))))
    · obtain ⟨H', I, qe⟩ := hp
      refine wpAny_bind (wpAny_rule (wpAny_pure (he H' _ ?_ qe)))
      have J : L2.Inv X pa σ H' (s₁.setGen g .finished) := Inv_gens I (allBare_setGen I.bare rfl)
      exact J.kept (t' := (s₁.setGen g .finished).toks) hk
  intro n
  induction n with
  | zero => exact fun s => step 0 s fun m s' h => nomatch h
  | succ n ih =>
    refine fun s => step (n + 1) s fun m s' h => ?_
    obtain rfl : n = m := Nat.succ.inj h
    exact ih s'
theorem any_loop {A B : Around} {pa : List (Addr × Obj)} {σ : L2.St} {fp : List Addr} {tn : Nat → Heap → Prop} {W : Nat → Nat → Hp → Prop} {Qe Qf : Hp → Prop} {a : Addr} {g : Nat} {R : Result → Shared → Prop} (hB : A.in1.in1 = B) (hh : A.handled = none) (hd : A.depth < recursionLimit)
    (hag : ∀ {σ' : L2.St} {H' : Hp} {s' : Shared}, L2.Inv X pa σ' H' s' → s'.heap.IsGen a g)
    (he : ∀ H' s', L2.Inv X pa σ H' s' → Qe H' → R (.ok (.ret (.bool false))) s') (hf : ∀ H' s', L2.Inv X pa σ H' s' → Qf H' → R (.ok (.ret (.bool true))) s') :
    ∀ (n : Nat) (s : Shared), GRdy X B pa σ fp tn false W Qe Qf a g n s → codeAny (model X.prog X.w) A (.builtin "any.loop" ⟨[.ref a], []⟩) R s := by
  subst hB
  have step : ∀ (n : Nat) (s : Shared), (∀ m s', n = m + 1 → GRdy X A.in1.in1 pa σ fp tn false W Qe Qf a g m s' → codeAny (model X.prog X.w) A (.builtin "any.loop" ⟨[.ref a], []⟩) R s') → GRdy X A.in1.in1 pa σ fp tn false W Qe Qf a g n s → codeAny (model X.prog X.w) A (.builtin "any.loop" ⟨[.ref a], []⟩) R s := by
    intro n s ih ⟨hg, hl, gs, hgs, hgo⟩
    have hgl : g < s.gens.size := (Array.getElem?_eq_some_iff.mp hgs).1
    refine codeAny_builtin F.entry_any_loop ?_
    rw [Around.under_plainId F.plain_any_loop _]
    show wpAny _ A.in1 (pyNext (.ref a) >>= _) _ _ s
    refine wpAny_bind (wpAny_gsz (n := g + 1) hgl (wpAny_pyNext_genexpQ (A := A.in1) hh hl hd hg hgs hgo (fun v s₁ gs' hbare hv hsz => ?_) (fun s₁ hp h' hk hsz => ?_)))
    · obtain ⟨i, H', b, rfl, I, st, nf, qf, qn⟩ := hv
      have hsz1 : g < s₁.gens.size := by
        have q : (s₁.setGen g gs').gens.size = s₁.gens.size := setGen_size _ _ _
        have q2 : g + 1 ≤ (s₁.setGen g gs').gens.size := hsz
        omega
      have J : L2.Inv X pa σ H' (s₁.setGen g gs') := Inv_gens I (allBare_setGen I.bare hbare)
      refine wpAny_bind (wpAny_holding (wpAny_truthy_bool ?_))
      refine wpAny_bind (wpAny_letGo ?_)
      cases b with
      | true =>
        simp only [if_true]
        exact wpAny_bind (wpAny_rule (wpAny_pure (hf H' _ J (qf fun z => nomatch z))))
      | false =>
        obtain ⟨_, kap⟩ := qn rfl
        simp only [Bool.false_eq_true, if_false]
        cases n with
        | zero => exact (kap s₁ rfl rfl rfl I.bare).elim
        | succ m =>
          refine wpAny_pure ⟨plainId_quiet F.plain_any_loop _, ih m _ rfl ⟨hag J, J.nolimit, gs', setGen_at hsz1, ?_⟩⟩
          exact kap _ rfl rfl rfl (allBare_setGen J.bare rfl)
    · obtain ⟨H', I, qe⟩ := hp
      refine wpAny_bind (wpAny_rule (wpAny_pure (he H' _ ?_ qe)))
      have J : L2.Inv X pa σ H' (s₁.setGen g .finished) := Inv_gens I (allBare_setGen I.bare rfl)
      exact J.kept (t' := (s₁.setGen g .finished).toks) hk
  intro n
  induction n with
  | zero => exact fun s => step 0 s fun m s' h => nomatch h
  | succ n ih =>
    refine fun s => step (n + 1) s fun m s' h => ?_
    obtain rfl : n = m := Nat.succ.inj h
    exact ih s'
/-- b0: true for all, false for any; vs: the expression's own slots; P: the def's table -/
def tAG (b0 : Bool) (wi : TI) (g : TG) (te : TE) (vs : List Nat) (P : Addr) : TE := fun σ H Q => wi σ H fun J H1 => TabG H1 P ∧ ∀ H2, Tabbed P H1 H2 → ∃ W : Nat → Nat → Hp → Prop, (∃ m, W 0 m H2) ∧ Turns J g te σ vs b0 W (fun H => Q (.bl b0) H) fun H => Q (.bl (!b0)) H
variable {pins : List (Addr × Obj)} {σ : L2.St} {H : Hp} {s : Shared}
theorem gen_make {c P : Addr} {elt tg iter : Expr} {scope : Scope} {gpos : Pos} {own : List (Str × Nat)} {wi : TI} {g : TG} {te : TE} {k : Nat} {b0 : Bool} {Q : VK} {Q' : Value → Shared → Prop} (hc : X.calm = true) (hN : X.N.Nodup)
    (hr : Room k X.A) (TB : TabB X.base X.mg c P) (hcode : X.env.code = .ref c) (ok : GnOk X.N X.env.scope scope own) (hi : PI X tg iter wi)
    (hg : ∀ (s : Shared) (H : Hp) (cl : List (Str × Addr)) (C : Addr) (code : Value) (fp : List Addr), PG (gX X s H (genEnv scope cl C code builtinsNs X.env) fp) tg g)
    (he : ∀ (s : Shared) (H : Hp) (cl : List (Str × Addr)) (C : Addr) (code : Value) (fp : List Addr), PE (gX X s H (genEnv scope cl C code builtinsNs X.env) fp) elt te)
    (hs : ∀ v, genFold iter X.env v = pure v) (I : L2.Inv X pins σ H s) (h : tAG b0 wi g te (own.map (·.2)) P σ H Q)
    (hQ : ∀ (Y : Cx) (pa : List (Addr × Obj)) (fp : List Addr) (tn : Nat → Heap → Prop) (W : Nat → Nat → Hp → Prop) (a : Addr) (gn n : Nat) (s5 : Shared), Y.prog = X.prog → Y.w = X.w → (∀ {σ' : L2.St} {H' : Hp} {s' : Shared}, L2.Inv Y pa σ' H' s' → s'.heap.IsGen a gn) →
      (∀ H' s', L2.Inv Y pa (wipe σ (own.map (·.2))) H' s' → L2.Inv X pins σ H' s') → s5.heap.IsGen a gn → GRdy Y X.A.in1.in1 pa (wipe σ (own.map (·.2))) fp tn b0 W (fun H => Q (.bl b0) H) (fun H => Q (.bl (!b0)) H) a gn n s5 → Q' (.ref a) s5) :
    wpAny (model X.prog X.w) X.A (eval (.GeneratorExp elt [⟨tg, iter, [], 0⟩] scope gpos) X.env) Q' X.xe s := by
  have bk := ok.blk
  have hfree : ∀ y ∈ scope.names, y.2 = .free → ∃ c, X.env.cells.lookup y.1 = some c := fun y hy e => (bk.free y hy e).elim (fun k => I.ok.has _ (.inl k)) fun k => I.ok.has _ (.inr k)
  refine wpAny_GeneratorExp_make ok.co (closure_ok hfree) ok.cell ok.dot bk.kind (by have := hr.dp; omega) (thn (hi.run pins s σ H _ I h) fun xv s1 hx => thn hx fun itv s2 h2 => ?_) hs
  obtain ⟨it, fp, tn, J, H1, rfl, I1, T, st, hf, ⟨ps, hP, ht⟩, q⟩ := h2
  have hPs : s2.heap.get? P = some { cls := .none, data := .fields ps } := I1.hok P _ hP
  have cd : PySem.W.CodeHd s2.heap c P := TB.code.keeps fun b u e => I1.bk b u e
  have nP : ∀ b ∈ fp, b ≠ P := fun b hb z => by
    have q := (hf b hb).1
    rw [z, hP] at q
    cases q
  have cont : ∀ (code : Value) (h3 : Heap) (tk : Nat) (more : Array Value), Heap.ExtBut P s2.heap h3 → s2.heap.objs.size ≤ h3.objs.size → h3.get? P = some { cls := .none, data := .fields (ps ++ more) } → TriplesOk (ps ++ more).toList →
      wpAny (model X.prog X.w) X.A (builtinsFor X.env.globals X.env.builtins) (fun bi s₄ => ∀ h', h'.Ns s₄.heap.objs.size (fun y => if y = ".0" then some (Value.ref it) else none) → Heap.SameBut s₄.heap.objs.size (s₄.heap.push { cls := .type "frame", data := .dict #[] }) h' →
          Q' (.ref h'.objs.size) { s₄ with
            gens := s₄.gens.push (.fresh (.compStart (.GeneratorExp elt [⟨tg, iter, [], 0⟩] scope gpos) 0 (.ref it) .none (genEnv scope (cloFrom X.env.cells scope.names []) s₄.heap.objs.size code bi X.env)))
            toks := s₄.toks + 1 + 1 + 1
            heap := h'.push { cls := .type "generator", data := .fields #[.int s₄.gens.size 0, .str "<genexpr>" (s₄.toks + 1), .str (X.env.qual ++ "<genexpr>") (s₄.toks + 1 + 1)] } }) X.xe { s2 with heap := h3, toks := tk } := by
    intro code h3 tk more hx hsz hP3 ht3
    obtain ⟨bm, ob, e1, e2, e3, e4, e5, e6, e7, e8⟩ := TB.bm
    have J3 : L2.Inv X pins σ (upd H1 P (.tbl (ps ++ more))) { s2 with heap := h3, toks := tk } := inv_tab (more := more) (h' := h3) (g' := s2.gens) (d' := s2.drawn) (t' := tk) I1 hP (fun b u hb e => hx b u hb e) hP3 I1.bare
    refine wpAny_builtinsFor (m := X.mg) (by rw [I1.ok.glob]; exact J3.mod.glob.keeps J3.bk) e1 e2 (J3.bk _ _ e5) e6 e7 e8 ?_
    intro h' hn' hs'
    obtain ⟨W, ⟨m0, w0⟩, turn⟩ := q (upd H1 P (.tbl (ps ++ more))) ⟨⟨ps ++ more, upd_same, ht3⟩, fun b hb => upd_ne hb⟩
    have hsz' : h'.objs.size = h3.objs.size + 1 := by rw [hs'.1, Heap.size_push]
    have kp : ∀ b o, h3.get? b = some o → h'.get? b = some o := fun b o e => hs'.extBut b o (Nat.ne_of_lt (Heap.lt_size e)) (Heap.get?_push_of_some _ e)
    have hf3 : ∀ b ∈ fp, FpOk X pins (upd H1 P (.tbl (ps ++ more))) b ∧ b < h3.objs.size := fun b hb => by
      obtain ⟨o, e, _⟩ := T.obj _ _ st b hb
      refine ⟨⟨?_, (hf b hb).2⟩, Nat.lt_of_lt_of_le (Heap.lt_size e) hsz⟩
      rw [upd_ne (nP b hb)]
      exact (hf b hb).1
    have st3 : tn 0 h3 := T.keep _ _ _ st fun b hb o e => hx b o (nP b hb) e
    have st4 : tn 0 h' := T.keep _ _ _ st3 fun b hb o e => kp b o e
    have I5 := gen_start (fp := fp) (own := own) (scope := scope) (code := code) (h' := h') (o := { cls := .type "generator", data := .fields #[.int s2.gens.size 0, .str "<genexpr>" (tk + 1), .str (X.env.qual ++ "<genexpr>") (tk + 1 + 1)] })
      (gs := .fresh (.compStart (.GeneratorExp elt [⟨tg, iter, [], 0⟩] scope gpos) 0 (.ref it) .none (genEnv scope (cloFrom X.env.cells scope.names []) h3.objs.size code builtinsNs X.env))) (tk := tk + 1 + 1 + 1) J3 ok hN hf3 hn' hsz' kp (fun v z => by cases z) rfl rfl
    have pgx := hg { s2 with heap := h3, toks := tk } (upd H1 P (.tbl (ps ++ more))) (cloFrom X.env.cells scope.names []) h3.objs.size code fp
    have pex := he { s2 with heap := h3, toks := tk } (upd H1 P (.tbl (ps ++ more))) (cloFrom X.env.cells scope.names []) h3.objs.size code fp
    have gen : ∀ {σ' : L2.St} {H' : Hp} {s' : Shared}, L2.Inv (gX X { s2 with heap := h3, toks := tk } (upd H1 P (.tbl (ps ++ more))) (genEnv scope (cloFrom X.env.cells scope.names []) h3.objs.size code builtinsNs X.env) fp) [(h'.objs.size, _)] σ' H' s' → s'.heap.IsGen h'.objs.size s2.gens.size := fun {σ' H' s'} Z =>
      ⟨_, _, _, (Z.pin (h'.objs.size, { cls := .type "generator", data := .fields #[.int s2.gens.size 0, .str "<genexpr>" (tk + 1), .str (X.env.qual ++ "<genexpr>") (tk + 1 + 1)] }) (List.mem_append_right _ List.mem_cons_self)).1, rfl, rfl, rfl⟩
    refine hQ (gX X { s2 with heap := h3, toks := tk } (upd H1 P (.tbl (ps ++ more))) (genEnv scope (cloFrom X.env.cells scope.names []) h3.objs.size code builtinsNs X.env) fp) [(h'.objs.size, _)] fp tn W h'.objs.size s2.gens.size (m0 + 1) _ rfl rfl gen (fun H' s' Z => ?_) (gen I5) ⟨gen I5, I5.nolimit, _, Array.getElem?_push_size .., rfl, ?_⟩
    · exact J3.call' (ch := fp) Z.os Z.base Z.hok Z.bare fun b hb => ⟨(hf3 b hb).1.2.2.2.1, (hf3 b hb).1.2.1, (hf3 b hb).1.2.2.2.2.1, (hf3 b hb).1.2.2.2.2.2⟩
    · have I6 := Inv_gens (g' := (Shared.setGen _ s2.gens.size .running).gens) (t' := tk + 1 + 1 + 1) I5 (allBare_setGen (g := s2.gens.size) (x := .running) I5.bare rfl)
      have st6 : tn 0 (h'.push { cls := .type "generator", data := .fields #[.int s2.gens.size 0, .str "<genexpr>" (tk + 1), .str (X.env.qual ++ "<genexpr>") (tk + 1 + 1)] }) := T.keep _ _ _ st4 fun b hb o e => Heap.get?_push_of_some _ e
      refine seg_begin (X := X) (fun B Q E z => T.self B 0 _ Q E st6 z) ?_
      refine seg_turns (X := gX X { s2 with heap := h3, toks := tk } (upd H1 P (.tbl (ps ++ more))) (genEnv scope (cloFrom X.env.cells scope.names []) h3.objs.size code builtinsNs X.env) fp) rfl hc rfl (fun p hp z => ?_) rfl ok.co T pgx pex rfl turn (m0 + 1) m0 0 _ _ (upd H1 P (.tbl (ps ++ more))) (Nat.lt_succ_self _) w0 I6 st6 fun b hb => (hf3 b hb).1.1
      obtain rfl : p = (h'.objs.size, _) := List.mem_singleton.mp hp
      have z2 : h'.objs.size < h3.objs.size := (hf3 _ z).2
      omega
  refine ⟨I1.nolimit, ?_⟩
  cases hf' : codeAmong gpos ps.toList with
  | none =>
    refine wpAny_genexprCodeX hcode (cd.code hPs ht) (cd.tab hPs) hf' fun c' h' tk hx hge hlt hco' _ htab' _ => ?_
    obtain ⟨o1, vs, f1, tf, fl, tgg, inF, tx, tt, op, _, _, _, _, _, _, _, _, _, htr, _⟩ := hco'
    exact cont _ h' tk _ hx (Nat.le_trans hge (Nat.le_of_lt hlt)) htab'.2 htr
  | some cv =>
    refine wpAny_genexprCode_hit hcode (cd.code hPs ht) hf' ?_
    have e : ps ++ #[] = ps := by simp
    exact cont cv s2.heap s2.toks #[] (Heap.ExtBut.refl _ _) (Nat.le_refl _) (by rw [e]; exact hPs) (by rw [e]; exact ht)
theorem pe_all {c P : Addr} {elt tg iter : Expr} {scope : Scope} {p pos gpos : Pos} {own : List (Str × Nat)} {wi : TI} {g : TG} {te : TE} {k : Nat} (hc : X.calm = true) (hN : X.N.Nodup)
    (hr : Room k X.A) (hgl : Gl X "all") (hm : X.mg "all" = none) (TB : TabB X.base X.mg c P) (hcode : X.env.code = .ref c) (ok : GnOk X.N X.env.scope scope own) (hi : PI X tg iter wi)
    (hg : ∀ (s : Shared) (H : Hp) (cl : List (Str × Addr)) (C : Addr) (code : Value) (fp : List Addr), PG (gX X s H (genEnv scope cl C code builtinsNs X.env) fp) tg g)
    (he : ∀ (s : Shared) (H : Hp) (cl : List (Str × Addr)) (C : Addr) (code : Value) (fp : List Addr), PE (gX X s H (genEnv scope cl C code builtinsNs X.env) fp) elt te)
    (hs : ∀ v, genFold iter X.env v = pure v := by intro _; rfl)
    (hst : starEach [.GeneratorExp elt [⟨tg, iter, [], 0⟩] scope gpos] X.env = (false, eval (.GeneratorExp elt [⟨tg, iter, [], 0⟩] scope gpos) X.env) :: starEach [] X.env := by rfl) :
    PE X (.Call (.Name "all" p) [.GeneratorExp elt [⟨tg, iter, [], 0⟩] scope gpos] [] pos) (tAG true wi g te (own.map (·.2)) P) := by
  refine ⟨fun pins s σ H Q I h => wpAny_Call_Name_kw (ld_blt I hgl hm (by decide +kernel : bootBuiltins "all" = some (.builtin "all")) (PyProof.Rows.callWith_builtin1 ?_ hst (by rfl)))⟩
  rw [hst]
  show wpAny _ _ (spliced ((false, eval (.GeneratorExp elt [⟨tg, iter, [], 0⟩] scope gpos) X.env) :: backTo pos (starEach [] X.env))) _ _ s
  refine Calls.spliced_cons (gen_make (b0 := true) (Q := Q) hc hN hr TB hcode ok hi hg he hs I h fun Y pa fp tn W a gn n s5 e1 e2 hag back hg5 rdy => Calls.spliced_nil ?_)
  refine call_function_tree F.kind_all F.plain_all F.entry_all (F.args_all1 _) ?_
  unfold Builtin.«all»
  refine wpAny_bind (m := oneArg "all" _) (wpAny_pure (wpAny_bind (wpAny_pyIter_gen hg5 (wpAny_pure ⟨plainId_quiet F.plain_all_loop _, ?_⟩))))
  rw [← e1, ← e2]
  exact all_loop rfl hr.hd (by have := hr.dp; omega) hag (fun H' s' z q => ⟨.bl true, H', back H' s' z, rfl, q⟩) (fun H' s' z q => ⟨.bl false, H', back H' s' z, rfl, q⟩) n s5 rdy
theorem pe_any {c P : Addr} {elt tg iter : Expr} {scope : Scope} {p pos gpos : Pos} {own : List (Str × Nat)} {wi : TI} {g : TG} {te : TE} {k : Nat} (hc : X.calm = true) (hN : X.N.Nodup)
    (hr : Room k X.A) (hgl : Gl X "any") (hm : X.mg "any" = none) (TB : TabB X.base X.mg c P) (hcode : X.env.code = .ref c) (ok : GnOk X.N X.env.scope scope own) (hi : PI X tg iter wi)
    (hg : ∀ (s : Shared) (H : Hp) (cl : List (Str × Addr)) (C : Addr) (code : Value) (fp : List Addr), PG (gX X s H (genEnv scope cl C code builtinsNs X.env) fp) tg g)
    (he : ∀ (s : Shared) (H : Hp) (cl : List (Str × Addr)) (C : Addr) (code : Value) (fp : List Addr), PE (gX X s H (genEnv scope cl C code builtinsNs X.env) fp) elt te)
    (hs : ∀ v, genFold iter X.env v = pure v := by intro _; rfl)
    (hst : starEach [.GeneratorExp elt [⟨tg, iter, [], 0⟩] scope gpos] X.env = (false, eval (.GeneratorExp elt [⟨tg, iter, [], 0⟩] scope gpos) X.env) :: starEach [] X.env := by rfl) :
    PE X (.Call (.Name "any" p) [.GeneratorExp elt [⟨tg, iter, [], 0⟩] scope gpos] [] pos) (tAG false wi g te (own.map (·.2)) P) := by
  refine ⟨fun pins s σ H Q I h => wpAny_Call_Name_kw (ld_blt I hgl hm (by decide +kernel : bootBuiltins "any" = some (.builtin "any")) (PyProof.Rows.callWith_builtin1 ?_ hst (by rfl)))⟩
  rw [hst]
  show wpAny _ _ (spliced ((false, eval (.GeneratorExp elt [⟨tg, iter, [], 0⟩] scope gpos) X.env) :: backTo pos (starEach [] X.env))) _ _ s
  refine Calls.spliced_cons (gen_make (b0 := false) (Q := Q) hc hN hr TB hcode ok hi hg he hs I h fun Y pa fp tn W a gn n s5 e1 e2 hag back hg5 rdy => Calls.spliced_nil ?_)
  refine call_function_tree F.kind_any F.plain_any F.entry_any (F.args_any1 _) ?_
  unfold Builtin.«any»
  refine wpAny_bind (m := oneArg "any" _) (wpAny_pure (wpAny_bind (wpAny_pyIter_gen hg5 (wpAny_pure ⟨plainId_quiet F.plain_any_loop _, ?_⟩))))
  rw [← e1, ← e2]
  exact any_loop rfl hr.hd (by have := hr.dp; omega) hag (fun H' s' z q => ⟨.bl false, H', back H' s' z, rfl, q⟩) (fun H' s' z q => ⟨.bl true, H', back H' s' z, rfl, q⟩) n s5 rdy
end
/-- such a walk over anything that HandS.Walk knows -/
theorem turns_it {J : It} {n : Nat} {G : Hp → Prop} {Y : Nat → Hp → V → Hp → Prop} (w : Walk J n G Y) {g : TG} {te : TE} {vs : List Nat} {σ : L2.St} {b0 : Bool} {Hs : Hp} {Qe Qf : Hp → Prop} (Pv : Nat → Hp → Prop) (h0 : Pv 0 Hs) (hG : ∀ i H, i ≤ n → Pv i H → G H)
    (hs : ∀ i x H H', i < n → Pv i H → Y i H x H' → g x (wipe σ vs) H' fun σ2 H2 => wipe σ2 vs = wipe σ vs ∧ te σ2 H2 fun y H3 => ∃ b, y = .bl b ∧ if b = b0 then Pv (i + 1) H3 else Qf H3) (hd : ∀ H, Pv n H → Qe H) :
    ∃ W : Nat → Nat → Hp → Prop, (∃ m, W 0 m Hs) ∧ Turns J g te σ vs b0 W Qe Qf := by
  refine ⟨fun i m H => i ≤ n ∧ m + i = n ∧ Pv i H, ⟨n, Nat.zero_le _, rfl, h0⟩, fun i m H hW => ?_⟩
  obtain ⟨hi, hm, p⟩ := hW
  have q := hG i H hi p
  rcases Nat.lt_or_eq_of_le hi with hlt | rfl
  · exact .inr ⟨w.goes i H hlt q, Pv (i + 1), fun H' p' => ⟨m - 1, by omega, hlt, by omega, p'⟩, fun x H' y => hs i x H H' hlt p (w.yields i H x H' hlt q y)⟩
  · exact .inl ⟨w.stops H q, hd H p⟩
end KG

set_option linter.all false
set_option maxRecDepth 100000
set_option maxHeartbeats 4000000
namespace KM
open PySem PySem.Spec PyProof.Rows L2 KT
theorem small1000' {n : Nat} (h : n ≤ 2000) : n < sizeLine := Nat.lt_of_le_of_lt h (by decide)
def isW (z : Str) : Bool := z.cps.toList.all fun c => decide (c ∈ ("01" : Str).cps.toList)
theorem tw_all {p : Nat → Bool} : ∀ {l : List Nat}, l.all p = true → l.takeWhile p = l
  | [], _ => rfl
  | a :: r, h => by
    rw [List.all_cons, Bool.and_eq_true] at h
    rw [List.takeWhile_cons, h.1, tw_all h.2]
    rfl
theorem tw_lt {p : Nat → Bool} : ∀ {l : List Nat}, l.all p = false → (l.takeWhile p).length < l.length
  | [], h => by cases h
  | a :: r, h => by
    rw [List.takeWhile_cons]
    cases e : p a with
    | false => exact Nat.succ_pos _
    | true =>
      rw [List.all_cons, e, Bool.true_and] at h
      have ih := tw_lt h
      show (a :: r.takeWhile p).length < (a :: r).length
      rw [List.length_cons, List.length_cons]
      omega
theorem tw_head {p : Nat → Bool} : ∀ {l : List Nat}, l.all p = false → ∃ a r, l.drop (l.takeWhile p).length = a :: r ∧ p a = false
  | [], h => by cases h
  | a :: r, h => by
    rw [List.takeWhile_cons]
    cases e : p a with
    | false => exact ⟨a, r, rfl, e⟩
    | true =>
      rw [List.all_cons, e, Bool.true_and] at h
      exact tw_head h
theorem strip_len (goes : Nat → Bool) (z : Str) : (Txt.stripBy goes true true z).length = z.length - ((z.cps.toList.drop (z.cps.toList.takeWhile goes).length).reverse.takeWhile goes).length - (z.cps.toList.takeWhile goes).length := by
  have e1 : stripLo goes true z = (z.cps.toList.takeWhile goes).length := rfl
  have e2 : stripHi goes true z (stripLo goes true z) = z.length - ((z.cps.toList.drop (z.cps.toList.takeWhile goes).length).reverse.takeWhile goes).length := rfl
  unfold Txt.stripBy
  by_cases h : stripSame goes true true z = true
  · rw [if_pos h]
    unfold stripSame at h
    rw [Bool.and_eq_true] at h
    have h1 : stripLo goes true z = 0 := eq_of_beq h.1
    have h2 : stripHi goes true z (stripLo goes true z) = z.length := eq_of_beq h.2
    rw [← e2, ← e1, h2, h1, Nat.sub_zero]
  · rw [if_neg h]
    unfold stripped
    rw [size_strSub]
    · rw [e2, e1]
    · rw [e2]
      exact Nat.sub_le _ _
theorem len0 {z : Str} : z.length = 0 ↔ z = "" := by
  constructor
  · intro h
    obtain ⟨a⟩ := z
    have h2 : a.size = 0 := h
    have h3 : a = #[] := Array.eq_empty_of_size_eq_zero h2
    subst h3
    rfl
  · intro h
    subst h
    rfl
theorem strip_empty (goes : Nat → Bool) (z : Str) : (Txt.stripBy goes true true z = "") ↔ z.cps.toList.all goes = true := by
  rw [← len0, strip_len]
  have hl : z.cps.toList.length = z.length := by
    show z.cps.toList.length = z.cps.size
    rw [Array.length_toList]
  cases h : z.cps.toList.all goes with
  | true =>
    have e := tw_all h
    simp only [e, List.drop_length, List.reverse_nil, List.takeWhile_nil, List.length_nil, Nat.sub_zero, iff_true]
    omega
  | false =>
    have h1 := tw_lt h
    obtain ⟨a, r, h2, h3⟩ := tw_head h
    have h4 : ((z.cps.toList.drop (z.cps.toList.takeWhile goes).length).reverse).all goes = false := by
      rw [h2, List.all_reverse, List.all_cons, h3, Bool.false_and]
    have h5 := tw_lt h4
    rw [List.length_reverse, List.length_drop] at h5
    simp only [Bool.false_eq_true, iff_false]
    omega
theorem strip01 (z : Str) : decide (V.str (Txt.stripChars z "01") = V.str "") = isW z := by
  have h := strip_empty (("01" : Str).cps.contains) z
  have e : z.cps.toList.all (("01" : Str).cps.contains) = isW z := by
    unfold isW
    congr 1
    funext c
    rw [Array.contains_eq_mem]
    exact decide_eq_decide.mpr Array.mem_def
  rw [e] at h
  cases hw : isW z with
  | true => exact decide_eq_true (congrArg V.str (h.mpr hw))
  | false =>
    refine decide_eq_false fun q => ?_
    have z2 := h.mp (V.str.inj q)
    rw [hw] at z2
    cases z2
/-! ### signs of a text -/
def sg (c : Nat) : V := .str ⟨#[c]⟩
theorem dp_signs {K : PySem.W.Frag} {H : Hp} : ∀ cs : List Nat, DpAll K H (cs.map sg) (cs.map fun c => PyData.str ⟨#[c]⟩)
  | [] => .nil
  | c :: r => .cons (.str _) (dp_signs r)
theorem lay_signs : ∀ cs : List Nat, (∀ c ∈ cs, c < 128) → PyData.canLayAll0 (cs.map fun c => PyData.str ⟨#[c]⟩) = true
  | [], _ => rfl
  | c :: r, h => by
    show (PyData.canLay0 (.str ⟨#[c]⟩) && PyData.canLayAll0 (r.map fun c => PyData.str ⟨#[c]⟩)) = true
    rw [lay_signs r fun x hx => h x (List.mem_cons_of_mem _ hx), Bool.and_true]
    have hc := h c (List.mem_cons_self ..)
    show PyData.strOk ⟨#[c]⟩ = true
    have : c < 0x110000 := by omega
    simp [PyData.strOk, this]
theorem dep_signs : ∀ cs : List Nat, PyData.depthAll (cs.map fun c => PyData.str ⟨#[c]⟩) ≤ 1
  | [] => by simp [PyData.depthAll]
  | c :: r => by
    have h := dep_signs r
    simp only [List.map_cons, PyData.depthAll, PyData.depth]
    omega
theorem shaped_signs {cs : List Nat} (h : ∀ c ∈ cs, c < 128) : SeqAt.shaped (.list (cs.map fun c => PyData.str ⟨#[c]⟩)) = true := by
  unfold SeqAt.shaped
  rw [Bool.and_eq_true]
  refine ⟨lay_signs cs h, decide_eq_true ?_⟩
  have h2 := dep_signs cs
  simp only [PyData.depth]
  omega
theorem eqv_signs (cs : List Nat) : PyData.eqv (.list (cs.map fun c => PyData.str ⟨#[c]⟩)) (.list []) = cs.isEmpty := by
  cases cs <;> simp [PyData.eqv, PyData.eqvAll]
/-- a comprehension over a text that keeps some signs -/
theorem lc_signs {z : Str} {i : Nat} {tt : TT} {σ : L2.St} {H1 : Hp} {D : Addr} {Qd : Hp → Prop} (pb : Nat → Bool) (hz : z.length ≤ 2000) (hi : i < σ.length)
    (ht : ∀ c H (Q : Bool → Hp → Prop), c ∈ z.cps.toList → Q (pb c) H → tt ((wipe σ [i]).set i (some (sg c))) H Q) (hd : Qd (upd H1 D (.lst ((z.cps.toList.filter pb).map sg)))) :
    ∃ W : Nat → Nat → Hp → Prop, (∃ m, W 0 m (upd H1 D (.lst []))) ∧ ∀ j m H, W j m H →
      ((Its z).stop j H ∧ Qd H) ∨ ((Its z).go j H ∧ ∃ Nx : Hp → Prop, (∀ H', Nx H' → ∃ m', m' < m ∧ W (j + 1) m' H') ∧ ∀ x H', (Its z).yld j H x H' → gName i x (wipe σ [i]) H' fun σ2 H2 => wipe σ2 [i] = wipe σ [i] ∧ tt σ2 H2 fun b H3 =>
        if b = true then tVar i σ2 H3 fun y H4 => ∃ acc, H4 D = some (.lst acc) ∧ acc.length < sizeLine ∧ Nx (upd H4 D (.lst (acc ++ [y]))) else Nx H3) := by
  have hl : z.cps.toList.length = z.length := by
    show z.cps.toList.length = z.cps.size
    rw [Array.length_toList]
  refine lc_it walk_str (fun j H => H = upd H1 D (.lst (((z.cps.toList.take j).filter pb).map sg))) rfl (fun _ _ _ _ => trivial) (fun j x H H' hj h y => ?_) (fun H h => ?_)
  · obtain ⟨rfl, c, hc, rfl⟩ := y
    subst h
    have hc2 : z.cps.toList[j]? = some c := by rw [Array.getElem?_toList]; exact hc
    have hwi : (wipe σ [i]).length = σ.length := wipe_length σ [i]
    refine ⟨?_, ht c _ _ (List.mem_of_getElem? hc2) ?_⟩
    · show ((σ.set i none).set i (some (sg c))).set i none = σ.set i none
      rw [List.set_set, List.set_set]
    · have et : (z.cps.toList.take (j + 1)).filter pb = (z.cps.toList.take j).filter pb ++ (if pb c = true then [c] else []) := by
        rw [List.take_add_one, hc2, List.filter_append]
        congr 1
        show List.filter pb [c] = _
        rw [List.filter_cons, List.filter_nil]
      cases hp : pb c with
      | true =>
        rw [if_pos rfl]
        refine ⟨sg c, ?_, _, upd_same, ?_, ?_⟩
        · show ((σ.set i none).set i (some (sg c)))[i]? = some (some (sg c))
          rw [List.set_set, List.getElem?_set_self hi]
        · rw [List.length_map]
          refine small1000' ?_
          refine Nat.le_trans (List.length_filter_le _ _) ?_
          rw [List.length_take]
          omega
        · rw [upd_upd, et, hp, if_pos rfl, List.map_append]
          rfl
      | false =>
        rw [if_neg Bool.false_ne_true, et, hp, if_neg Bool.false_ne_true, List.append_nil]
  · subst h
    rw [List.take_of_length_le (by rw [hl]; exact Nat.le_refl _)]
    exact hd
end KM

set_option Elab.async false
set_option linter.all false
set_option maxRecDepth 100000
set_option maxHeartbeats 4000000
/-! The numbers that a script gives, drawn one by one. -/
namespace KA
open PySem PySem.Spec PyProof.Rows L2 KT
def topS (i : Nat) : Stmt := PySem.Challenge.pw_quicktongue_k01_words_and_names_of_any_v.main.body.getD i (.Pass ⟨0, 0, 0, 0⟩)
abbrev s_is_word : Stmt := topS 5
abbrev s_is_name : Stmt := topS 6
abbrev s__law_deck : Stmt := topS 8
abbrev s__law_draw : Stmt := topS 9
abbrev s__law_pick : Stmt := topS 10
abbrev s__law_any : Stmt := topS 11
abbrev s__law_words : Stmt := topS 12
abbrev s__law_is_word : Stmt := topS 13
abbrev s__law_is_name : Stmt := topS 14
abbrev s__law_drawn_word : Stmt := topS 15
abbrev s__law_string : Stmt := topS 16
abbrev s_law : Stmt := topS 17
/-! ### the deck: a dict with a list -/
def kL : Key := .inr "left"
def kM : Key := .inr "mixed"
def kD : Key := .inr "draws"
def kvD (L : Addr) (m k : Int) : List (Key × V) := [(kL, .ref L), (kM, .int m), (kD, .int k)]
theorem i12 : ¬ (kL = kM) := by decide +kernel
theorem i13 : ¬ (kL = kD) := by decide +kernel
theorem i23 : ¬ (kM = kD) := by decide +kernel
theorem kv_l (L : Addr) (m k : Int) : valV (kvD L m k) kL = some (.ref L) := valV_pos rfl
theorem kv_m (L : Addr) (m k : Int) : valV (kvD L m k) kM = some (.int m) := (valV_neg i12).trans (valV_pos rfl)
theorem kv_d (L : Addr) (m k : Int) : valV (kvD L m k) kD = some (.int k) := (valV_neg i13).trans ((valV_neg i23).trans (valV_pos rfl))
theorem kput_m (L : Addr) (m k m' : Int) : putK (kvD L m k) kM (.int m') = kvD L m' k := by
  simp [putK, kvD, i12, i13, i23, Ne.symm i12, Ne.symm i13, Ne.symm i23]
theorem kput_d (L : Addr) (m k k' : Int) : putK (kvD L m k) kD (.int k') = kvD L m k' := by
  simp [putK, kvD, i12, i13, i23, Ne.symm i12, Ne.symm i13, Ne.symm i23]
theorem merge_deck (L : Addr) (m k : Int) : mergeK [] (kvD L m k) = kvD L m k := by
  simp [mergeK, putK, kvD, i12, i13, i23, Ne.symm i12, Ne.symm i13, Ne.symm i23]
/-- a deck stands at d, its list at L -/
def DK (d L : Addr) (H : Hp) : Prop := ∃ (ns : List Int) (m k : Int), H d = some (.dK (kvD L m k)) ∧ H L = some (.lst (ns.map V.int)) ∧ 0 ≤ m ∧ m < 2147483648 ∧ ns.length ≤ 64
/-- a draw has been: the deck again, all else as it was -/
structure Fr (d L : Addr) (H H' : Hp) : Prop where
  dk : DK d L H'
  st : ∀ b o, b ≠ d → b ≠ L → H b = some o → H' b = some o
theorem Fr.trans {d L : Addr} {H H1 H2 : Hp} (a : Fr d L H H1) (b : Fr d L H1 H2) : Fr d L H H2 := ⟨b.dk, fun c o h1 h2 h => b.st c o h1 h2 (a.st c o h1 h2 h)⟩
theorem DK.ne {d L : Addr} {H : Hp} (h : DK d L H) : d ≠ L := by
  obtain ⟨ns, m, k, h1, h2, _⟩ := h
  exact ne_of h1 h2 (by intro z; cases z)
theorem DK.upd {d L p : Addr} {H : Hp} {o : HO} (h : DK d L H) (hp : H p = none) : DK d L (upd H p o) := by
  obtain ⟨ns, m, k, h1, h2, h3⟩ := h
  exact ⟨ns, m, k, by rw [upd_ne (ne_of_none h1 hp)]; exact h1, by rw [upd_ne (ne_of_none h2 hp)]; exact h2, h3⟩
theorem Fr.new {d L p : Addr} {H : Hp} {o : HO} (h : DK d L H) (hp : H p = none) : Fr d L H (L2.upd H p o) := ⟨h.upd hp, fun b x _ _ e => by
  rw [upd_ne (ne_of_none e hp)]
  exact e⟩
theorem Fr.refl {d L : Addr} {H : Hp} (h : DK d L H) : Fr d L H H := ⟨h, fun _ _ _ _ e => e⟩
theorem Fr.fresh {d L D : Addr} {H H2 : Hp} (f : Fr d L H H2) (n : H2 D = none) : H D = none ∧ D ≠ d ∧ D ≠ L := by
  obtain ⟨ns, m, k, h1, h2, _⟩ := f.dk
  have nd : D ≠ d := (ne_of_none h1 n).symm
  have nL : D ≠ L := (ne_of_none h2 n).symm
  refine ⟨?_, nd, nL⟩
  cases e : H D with
  | none => rfl
  | some o =>
    rw [f.st D o nd nL e] at n
    cases n
theorem DK.mut {d L D : Addr} {H : Hp} {o : HO} (h : DK d L H) (nd : D ≠ d) (nL : D ≠ L) : DK d L (L2.upd H D o) := by
  obtain ⟨ns, m, k, h1, h2, h3⟩ := h
  exact ⟨ns, m, k, by rw [upd_ne nd.symm]; exact h1, by rw [upd_ne nL.symm]; exact h2, h3⟩
/-- an object that was not there at H changes -/
theorem Fr.mut {d L D : Addr} {H H' : Hp} {o : HO} (f : Fr d L H H') (n : H D = none) (nd : D ≠ d) (nL : D ≠ L) : Fr d L H (L2.upd H' D o) := ⟨f.dk.mut nd nL, fun b x h1 h2 e => by
  rw [upd_ne (ne_of_none e n)]
  exact f.st b x h1 h2 e⟩
theorem dp_ints {K : PySem.W.Frag} {H : Hp} : ∀ ns : List Int, DpAll K H (ns.map V.int) (ns.map PyData.int)
  | [] => .nil
  | n :: r => .cons (.int n) (dp_ints r)
theorem lay_ints : ∀ ns : List Int, PyData.canLayAll0 (ns.map PyData.int) = true
  | [] => rfl
  | n :: r => by
    show (PyData.canLay0 (.int n) && PyData.canLayAll0 (r.map PyData.int)) = true
    rw [lay_ints r]
    rfl
theorem dep_ints : ∀ ns : List Int, PyData.depthAll (ns.map PyData.int) ≤ 1
  | [] => by simp [PyData.depthAll]
  | n :: r => by
    have h := dep_ints r
    simp only [List.map_cons, PyData.depthAll, PyData.depth]
    omega
theorem shaped_ints (ns : List Int) : SeqAt.shaped (.list (ns.map PyData.int)) = true := by
  unfold SeqAt.shaped
  rw [Bool.and_eq_true]
  refine ⟨lay_ints ns, decide_eq_true ?_⟩
  have h := dep_ints ns
  simp only [PyData.depth]
  omega
theorem cut63 (ns : List Int) : cutV (ns.map V.int) none (some 63) = (ns.take 63).map V.int := by
  unfold cutV
  rw [HT.sIx_none, show HT.sIx (ns.map V.int).length (ns.map V.int).length (some (63 : Int)) = min 63 (ns.map V.int).length from HT.sIx_nat _ _ 63]
  rw [List.drop_zero, Nat.sub_zero, List.map_take]
  rw [List.length_map]
  by_cases h : 63 ≤ ns.length
  · rw [Nat.min_eq_left h]
  · rw [Nat.min_eq_right (by omega), List.take_of_length_le (by simp), List.take_of_length_le (by rw [List.length_map]; omega)]
/-! ### what stands at the top -/
structure Tb (mg : Str → Option Value) : Prop where
  int : mg "int" = none
  list : mg "list" = none
  max : mg "max" = none
  len : mg "len" = none
  range : mg "range" = none
  tuple : mg "tuple" = none
  str : mg "str" = none
  isinstance : mg "isinstance" = none
  repr : mg "repr" = none
  all : mg "all" = none
  LN : ∃ t, mg "LONGEST_NAME" = some (.int 20 t)
  LE : ∃ t, mg "LETTERS" = some (.str "abcdefghijklmnopqrstuvwxyz" t)
  SI : ∃ t, mg "SIGNS" = some (.str "abcdefghijklmnopqrstuvwxyz0123456789_" t)
abbrev N__law_deck : List Str := ["_law_script", "_law_seed", "_law_mixed", "_law_cell"]
abbrev P__law_deck : List Str := ["_law_script", "_law_seed"]
theorem sc__law_deck : FnScope N__law_deck P__law_deck (defScope s__law_deck) := ⟨rfl, rfl, rfl, by decide +kernel, rfl, by decide +kernel, by decide +kernel⟩
abbrev N__law_draw : List Str := ["_law_deck_here", "_law_many", "_law_cell", "_law_figure"]
abbrev P__law_draw : List Str := ["_law_deck_here", "_law_many"]
theorem sc__law_draw : FnScope N__law_draw P__law_draw (defScope s__law_draw) := ⟨rfl, rfl, rfl, by decide +kernel, rfl, by decide +kernel, by decide +kernel⟩
abbrev N__law_pick : List Str := ["_law_deck_here", "_law_some"]
abbrev P__law_pick : List Str := ["_law_deck_here", "_law_some"]
theorem sc__law_pick : FnScope N__law_pick P__law_pick (defScope s__law_pick) := ⟨rfl, rfl, rfl, by decide +kernel, rfl, by decide +kernel, by decide +kernel⟩
section
variable {P : Program} {w : World} {K : PySem.W.Frag} {mg : Str → Option Value} {base : Heap}
def spDeck (K : PySem.W.Frag) : Sp := fun vs H Q _ => ∃ (a : Addr) (ns : List Int) (z : Int), vs = [.ref a, .int z] ∧ SqL K H a (ns.map V.int) ∧ 0 ≤ z ∧ z < 2147483648 ∧
  ∀ d L H', (∀ b o, H b = some o → H' b = some o) → H d = none → H L = none → DK d L H' → Q (.ref d) H'
theorem ok_deck {fd : FuncData} (D : Df K mg "_law_deck" s__law_deck P__law_deck fd) (T : Tb mg) : FnOk P w K mg base CX0 1 (He.fAd K ("_law_deck", none)) fd P__law_deck (spDeck K) := by
  refine (fun_of D.F).ok sc__law_deck (fun vs H Q E h => ?_) (fun cdv A outer s H vs Q E hr h => ?_)
  · obtain ⟨a, ns, z, rfl, _⟩ := h
    rfl
  · obtain ⟨a, ns, z, rfl, hS, z0, z1, q⟩ := h
    refine ⟨_, (pss_cons (ps_set (i := 2) sc__law_deck.nd rfl (.inl rfl) (pv 1))
      (pss_cons (ps_for PassesOwn.never rfl (pi_list (pe_slice sl_list (pv 0) po_none (po_some pe_int))) (pg_name (i := 3) sc__law_deck.nd rfl (.inl rfl)) (pss_one (ps_set (i := 2) sc__law_deck.nd rfl (.inl rfl) (pe_op op_mod (pe_callTy call_int1 (by rfl) T.int (by decide +kernel) (pa_cons (pe_op op_add (pe_op op_add (pe_op op_mul (pv 2) pe_int) (pe_op op_mod (pe_callTy call_int1 (by rfl) T.int (by decide +kernel) (pa_cons (pv 3) pa_nil)) pe_int)) pe_int) pa_nil)) pe_int))))
      (pss_one (ps_ret (pe_disp (pps_cons pe_str (pe_revL (pe_callTy call_list_of (by rfl) T.list (by decide +kernel) (pa_cons (pe_slice sl_list (pv 0) po_none (po_some pe_int)) pa_nil))) (pps_cons pe_str (pv 2) (pps_cons pe_str pe_int pps_nil))) (by rfl) (by rfl) (fun z => by cases z) (by decide)))))), ?_⟩
    refine ⟨_, rfl, _, rfl, 63, rfl, a, _, rfl, hS, fun p np => ?_⟩
    have st : ∀ b o, H b = some o → (upd H p (.lst (cutV (ns.map V.int) none (some 63)))) b = some o := fun b o e => by
      rw [upd_ne (ne_of_none e np)]
      exact e
    have st2 : Same H (upd H p (.lst (cutV (ns.map V.int) none (some 63)))) := st
    have hp : SqL K (upd H p (.lst (cutV (ns.map V.int) none (some 63)))) p (cutV (ns.map V.int) none (some 63)) := SqL.of upd_same
    generalize upd H p (.lst (cutV (ns.map V.int) none (some 63))) = H1 at st st2 hp
    have hA := st2.seq hS
    rw [cut63] at hp
    refine ⟨p, rfl, ⟨_, hp⟩, for_list (K := K) (a := p) (xs := (ns.take 63).map V.int) (fun i σ H' => H' = H1 ∧ ∃ m c, σ = [some (.ref a), some (.int z), some (.int m), c] ∧ 0 ≤ m ∧ m < 2147483648) ⟨rfl, z, none, rfl, z0, z1⟩ (fun i σ H' _ h => by rw [h.1]; exact hp) (fun i x σ H' hx h => ?_) (fun σ H' h => ?_)⟩
    · obtain ⟨rfl, m, c, rfl, m0, m1⟩ := h
      obtain ⟨y, rfl⟩ : ∃ y, x = V.int y := by
        rw [List.getElem?_map] at hx
        obtain ⟨y, _, e⟩ := Option.map_eq_some_iff.mp hx
        exact ⟨y, e.symm⟩
      refine ⟨_, rfl, _, _, rfl, rfl, .inl ⟨by omega, by omega⟩, _, rfl, .inl ⟨_, rfl, _, _, rfl, rfl, (by show (0 : Int) < _; decide), _, _, rfl, rfl, _, _, rfl, rfl, .inl ⟨_, rfl, _, _, rfl, rfl, (by show (0 : Int) < _; decide), ?_⟩⟩⟩
      refine ⟨rfl, _, _, rfl, Int.emod_nonneg _ (by decide), ?_⟩
      exact Int.lt_trans (Int.emod_lt_of_pos _ (by decide)) (by decide)
    · obtain ⟨rfl, m, c, rfl, m0, m1⟩ := h
      intro d nd
      have ndH : H d = none := Same.free st2 nd
      have s3 : Same H' (upd H' d (.dK [])) := fun b o e => by
        rw [upd_ne (ne_of_none e nd)]
        exact e
      refine ⟨_, rfl, 63, rfl, a, _, rfl, s3.seq hA, fun p1 n1 => ⟨p1, _, rfl, .inl (SqL.of upd_same), fun p2 n2 => ⟨p2, _, rfl, SqL.of upd_same, fun p3 n3 => ?_⟩⟩⟩
      have e1 : d ≠ p1 := ne_of_none upd_same n1
      have e2 : d ≠ p2 := fun e => by
        rw [← e, upd_ne e1, upd_same] at n2
        cases n2
      have e3 : d ≠ p3 := fun e => by
        rw [← e, upd_ne e2, upd_ne e1, upd_same] at n3
        cases n3
      have g : ∀ b o, H' b = some o → (upd (upd (upd (upd H' d (.dK [])) p1 (.lst (cutV (ns.map V.int) none (some 63)))) p2 (.lst (cutV (ns.map V.int) none (some 63)))) p3 (.lst (cutV (ns.map V.int) none (some 63)).reverse)) b = some o := fun b o e => by
        have f1 : (upd H' d (.dK [])) b = some o := s3 b o e
        have f2 : (upd (upd H' d (.dK [])) p1 (.lst (cutV (ns.map V.int) none (some 63)))) b = some o := by
          rw [upd_ne (ne_of_none f1 n1)]
          exact f1
        have f3 : (upd (upd (upd H' d (.dK [])) p1 (.lst (cutV (ns.map V.int) none (some 63)))) p2 (.lst (cutV (ns.map V.int) none (some 63)))) b = some o := by
          rw [upd_ne (ne_of_none f2 n2)]
          exact f2
        rw [upd_ne (ne_of_none f3 n3)]
        exact f3
      have n3' : H' p3 = none := by
        cases e : H' p3 with
        | none => rfl
        | some o =>
          have f1 : (upd H' d (.dK [])) p3 = some o := s3 p3 o e
          have f2 : (upd (upd H' d (.dK [])) p1 (.lst (cutV (ns.map V.int) none (some 63)))) p3 = some o := by
            rw [upd_ne (ne_of_none f1 n1)]
            exact f1
          have f3 : (upd (upd (upd H' d (.dK [])) p1 (.lst (cutV (ns.map V.int) none (some 63)))) p2 (.lst (cutV (ns.map V.int) none (some 63)))) p3 = some o := by
            rw [upd_ne (ne_of_none f2 n2)]
            exact f2
          rw [f3] at n3
          cases n3
      refine ⟨_, rfl, by rw [upd_ne e3, upd_ne e2, upd_ne e1, upd_same], kvD p3 m 0, rfl, (by show 3 ≤ 15; decide), ?_⟩
      rw [merge_deck]
      refine q d p3 _ (fun b o e => ?_) ndH (Same.free st2 n3') ⟨(ns.take 63).reverse, m, 0, upd_same, ?_, m0, m1, ?_⟩
      · have e' := st b o e
        rw [upd_ne (ne_of_none e' nd)]
        exact g b o e'
      · rw [upd_ne e3.symm, upd_same, cut63, List.map_reverse]
      · rw [List.length_reverse, List.length_take]
        omega
/-! ### a draw -/
theorem dg_l {H : Hp} {d L : Addr} {m k : Int} (h : H d = some (.dK (kvD L m k))) : DGet H d (.str "left") (some (.ref L)) := by
  have e : DGet H d (kV kL) (valV (kvD L m k) kL) := DGet.k h
  rw [kv_l] at e
  exact e
theorem dg_m {H : Hp} {d L : Addr} {m k : Int} (h : H d = some (.dK (kvD L m k))) : DGet H d (.str "mixed") (some (.int m)) := by
  have e : DGet H d (kV kM) (valV (kvD L m k) kM) := DGet.k h
  rw [kv_m] at e
  exact e
theorem dg_d {H : Hp} {d L : Addr} {m k : Int} (h : H d = some (.dK (kvD L m k))) : DGet H d (.str "draws") (some (.int k)) := by
  have e : DGet H d (kV kD) (valV (kvD L m k) kD) := DGet.k h
  rw [kv_d] at e
  exact e
theorem dp_m {H : Hp} {d L : Addr} {m k m' : Int} (h : H d = some (.dK (kvD L m k))) : DPut H d (.str "mixed") (.int m') (upd H d (.dK (kvD L m' k))) := by
  have e : DPut H d (kV kM) (.int m') (upd H d (.dK (putK (kvD L m k) kM (.int m')))) := DPut.k h (by show 3 < sizeLine; decide)
  rw [kput_m] at e
  exact e
theorem dp_d {H : Hp} {d L : Addr} {m k k' : Int} (h : H d = some (.dK (kvD L m k))) : DPut H d (.str "draws") (.int k') (upd H d (.dK (kvD L m k'))) := by
  have e : DPut H d (kV kD) (.int k') (upd H d (.dK (putK (kvD L m k) kD (.int k')))) := DPut.k h (by show 3 < sizeLine; decide)
  rw [kput_d] at e
  exact e
theorem eqv_nil (ns : List Int) : PyData.eqv (.list (ns.map PyData.int)) (.list []) = ns.isEmpty := by
  cases ns <;> simp [PyData.eqv, PyData.eqvAll]
def spDraw : Sp := fun vs H Q _ => ∃ (d L : Addr) (n : Int), vs = [.ref d, .int n] ∧ DK d L H ∧ 0 < n ∧ n ≤ 1000000000 ∧ ∀ (r : Int) H', 0 ≤ r → r < n → Fr d L H H' → Q (.int r) H'
theorem ok_draw {fd : FuncData} (D : Df K mg "_law_draw" s__law_draw P__law_draw fd) (T : Tb mg) : FnOk P w K mg base CX0 1 (He.fAd K ("_law_draw", none)) fd P__law_draw spDraw := by
  refine (fun_of D.F).ok sc__law_draw (fun vs H Q E h => ?_) (fun cdv A outer s H vs Q E hr h => ?_)
  · obtain ⟨d, L, n, rfl, _⟩ := h
    rfl
  · obtain ⟨d, L, n, rfl, ⟨ns, m, k, hd, hL, m0, m1, hl⟩, n0, n1, q⟩ := h
    have hu := hu_of hr
    have ndL : d ≠ L := ne_of hd hL (by intro z; cases z)
    refine ⟨_, (pss_cons (ps_dput hu (pv 0) pe_str (pe_op op_add (pe_dget hu (pv 0) pe_str (fun _ _ => rfl)) pe_int) rfl)
      (C8.pss_cut (ps_if (pt_cmpR (op_neD hr.units) (pe_dget hu (pv 0) pe_str (fun _ _ => rfl)) (pe_lst pa_nil) (nomark _)) (pss_cons (ps_set (i := 2) sc__law_draw.nd rfl (.inl rfl) (pe_bm0 PySem.F.plainAttrs_list PySem.F.slot_list_pop PySem.F.type_list_pop mt_pop (pe_dget hu (pv 0) pe_str (fun _ _ => rfl))))
          (pss_cons (ps_if (pt_cmpR op_ge (pv 2) (pe_op op_pow pe_int pe_int) (nomark _)) (pss_cons (ps_expr (pe_bm PySem.F.plainAttrs_list PySem.F.slot_list_append PySem.F.type_list_append mt_append (pe_dget hu (pv 0) pe_str (fun _ _ => rfl)) (pa_cons (pe_op op_fdiv (pv 2) (pe_callB (call_max2 rfl) (by rfl) T.max (by decide +kernel) (pa_cons pe_int (pa_cons (pv 1) pa_nil)))) pa_nil)))
              (pss_one (ps_ret (pe_op op_mod (pe_callTy call_int1 (by rfl) T.int (by decide +kernel) (pa_cons (pv 2) pa_nil)) (pv 1))))) pss_nil)
          (pss_one (ps_dput hu (pv 0) pe_str (pe_op op_mod (pe_callTy call_int1 (by rfl) T.int (by decide +kernel) (pa_cons (pe_op op_add (pe_op op_add (pe_op op_mul (pe_dget hu (pv 0) pe_str (fun _ _ => rfl)) pe_int) (pe_op op_mod (pe_callTy call_int1 (by rfl) T.int (by decide +kernel) (pa_cons (pv 2) pa_nil)) pe_int)) pe_int) pa_nil)) pe_int) rfl)))) pss_nil)
      (pss_cons (ps_set (i := 3) sc__law_draw.nd rfl (.inl rfl) (pe_op op_mod (pe_callTy call_int1 (by rfl) T.int (by decide +kernel) (pa_cons (pe_op op_add (pe_dget hu (pv 0) pe_str (fun _ _ => rfl)) (pe_op op_mul pe_int (pe_dget hu (pv 0) pe_str (fun _ _ => rfl)))) pa_nil)) pe_int))
      (pss_cons (ps_set (i := 3) sc__law_draw.nd rfl (.inl rfl) (pe_op op_mod (pe_callTy call_int1 (by rfl) T.int (by decide +kernel) (pa_cons (pe_op op_add (pe_op op_add (pe_op op_mul (pv 3) (pv 3)) (pe_op op_mul pe_int (pe_dget hu (pv 0) pe_str (fun _ _ => rfl)))) pe_int) pa_nil)) pe_int))
      (pss_cons (ps_set (i := 3) sc__law_draw.nd rfl (.inl rfl) (pe_op op_mod (pe_callTy call_int1 (by rfl) T.int (by decide +kernel) (pa_cons (pe_op op_add (pe_op op_mul (pv 3) pe_int) pe_int) pa_nil)) pe_int))
      (pss_one (ps_ret (pe_op op_mod (pe_callTy call_int1 (by rfl) T.int (by decide +kernel) (pa_cons (pe_op op_fdiv (pv 3) pe_int) pa_nil)) (pv 1))))))))), ?_⟩
    -- draws
    refine ⟨_, rfl, _, _, rfl, dg_d hd, _, _, rfl, rfl, _, rfl, d, _, rfl, dp_d hd, ?_⟩
    have st1 : ∀ b o, b ≠ d → b ≠ L → H b = some o → (upd H d (.dK (kvD L m (k + 1)))) b = some o := fun b o h1 _ e => by
      rw [upd_ne h1]
      exact e
    have hd1 : (upd H d (.dK (kvD L m (k + 1)))) d = some (.dK (kvD L m (k + 1))) := upd_same
    have hL1 : (upd H d (.dK (kvD L m (k + 1)))) L = some (.lst (ns.map V.int)) := by
      rw [upd_ne ndL.symm]
      exact hL
    generalize upd H d (.dK (kvD L m (k + 1))) = H1 at st1 hd1 hL1
    generalize k + 1 = k1 at hd1
    refine ⟨fun σ' H' => ∃ (ns' : List Int) (m' : Int) (c : Option V), σ' = [some (.ref d), some (.int n), c, none] ∧ H' d = some (.dK (kvD L m' k1)) ∧ H' L = some (.lst (ns'.map V.int)) ∧ 0 ≤ m' ∧ m' < 2147483648 ∧ ns'.length ≤ 64 ∧ ∀ b o, b ≠ d → b ≠ L → H b = some o → H' b = some o, ?_, fun σ' H' hM => ?_⟩
    · -- left != []
      refine ⟨_, rfl, _, _, rfl, dg_l hd1, Nat.zero_le _, fun p np => ?_⟩
      have pL : p ≠ L := (ne_of_none hL1 np).symm
      have pd : p ≠ d := (ne_of_none hd1 np).symm
      have st2 : ∀ b o, b ≠ d → b ≠ L → H b = some o → (upd H1 p (.lst [])) b = some o := fun b o h1 h2 e => by
        have e' := st1 b o h1 h2 e
        rw [upd_ne (ne_of_none e' np)]
        exact e'
      have hL2 : (upd H1 p (.lst [])) L = some (.lst (ns.map V.int)) := by
        rw [upd_ne pL.symm]
        exact hL1
      have hd2 : (upd H1 p (.lst [])) d = some (.dK (kvD L m k1)) := by
        rw [upd_ne pd.symm]
        exact hd1
      have hp2 : (upd H1 p (.lst [])) p = some (.lst []) := upd_same
      generalize upd H1 p (.lst []) = H2 at st2 hL2 hd2 hp2
      refine ⟨_, _, .lst (SqL.of hL2) (dp_ints ns), .lst (SqL.of hp2) .nil, shaped_ints ns, by decide +kernel, _, rfl, ?_⟩
      rw [eqv_nil]
      cases ns with
      | nil => exact ⟨[], m, none, rfl, hd2, hL2, m0, m1, hl, st2⟩
      | cons y r =>
        obtain ⟨r', y', er⟩ : ∃ r' y', y :: r = r' ++ [y'] := ⟨(y :: r).dropLast, (y :: r).getLast (List.cons_ne_nil _ _), (List.dropLast_concat_getLast _).symm⟩
        rw [er] at hL2 hl
        have hl' : r'.length + 1 ≤ 64 := by simpa using hl
        refine iteT ?_
        refine ⟨_, rfl, _, _, rfl, dg_l hd2, .inl ⟨rfl, _, SqL.of hL2⟩, L, _, .int y', rfl, rfl, hL2, by simp, ?_⟩
        have el : ((r' ++ [y']).map V.int).dropLast = r'.map V.int := by
          rw [List.map_append, List.map_singleton, List.dropLast_concat]
        rw [el]
        have hL3 : (upd H2 L (.lst (r'.map V.int))) L = some (.lst (r'.map V.int)) := upd_same
        have hd3 : (upd H2 L (.lst (r'.map V.int))) d = some (.dK (kvD L m k1)) := by
          rw [upd_ne ndL]
          exact hd2
        have st3 : ∀ b o, b ≠ d → b ≠ L → H b = some o → (upd H2 L (.lst (r'.map V.int))) b = some o := fun b o h1 h2 e => by
          rw [upd_ne h2]
          exact st2 b o h1 h2 e
        generalize upd H2 L (.lst (r'.map V.int)) = H3 at hL3 hd3 st3
        refine ⟨_, rfl, 10, 18, rfl, rfl, ⟨by decide, by decide, by decide⟩, _, _, rfl, rfl, _, rfl, ite2 (fun hy => ?_) (fun hy => ?_)⟩
        · -- the cell goes back, less a figure
          have hmx : (0 : Int) < (if n > 2 then n else 2) ∧ (if n > 2 then n else 2) < 1073741824 := by
            split <;> omega
          refine ⟨_, rfl, _, _, rfl, dg_l hd3, .inl ⟨rfl, _, SqL.of hL3⟩, _, rfl, _, rfl, _, _, rfl, _, _, rfl, rfl, hmx, L, _, _, rfl, rfl, hL3, ?_, ?_⟩
          · rw [List.length_map]
            exact small1000 (by omega)
          · refine ⟨_, rfl, .inl ⟨_, rfl, _, rfl, _, _, rfl, rfl, n0, ?_⟩⟩
            refine q _ _ (Int.emod_nonneg _ (by omega)) (Int.emod_lt_of_pos _ n0) ⟨⟨r' ++ [y' / (if n > 2 then n else 2)], m, k1, ?_, ?_, m0, m1, ?_⟩, fun b o h1 h2 e => ?_⟩
            · rw [upd_ne ndL]
              exact hd3
            · rw [upd_same, List.map_append]
              rfl
            · rw [List.length_append]
              exact hl'
            · rw [upd_ne h2]
              exact st3 b o h1 h2 e
        · -- a lesser cell is mixed in
          refine ⟨_, rfl, _, _, rfl, dg_m hd3, _, _, rfl, rfl, .inl ⟨by omega, by omega⟩, _, rfl, .inl ⟨_, rfl, _, _, rfl, rfl, (by show (0 : Int) < _; decide), _, _, rfl, rfl, _, _, rfl, rfl, .inl ⟨_, rfl, _, _, rfl, rfl, (by show (0 : Int) < _; decide), ?_⟩⟩⟩
          refine ⟨_, rfl, d, _, rfl, dp_m hd3, ?_⟩
          refine ⟨r', _, some (.int y'), rfl, upd_same, ?_, Int.emod_nonneg _ (by decide), ?_, by omega, fun b o h1 h2 e => ?_⟩
          · rw [upd_ne ndL.symm]
            exact hL3
          · exact Int.lt_trans (Int.emod_lt_of_pos _ (by decide)) (by decide)
          · rw [upd_ne h1]
            exact st3 b o h1 h2 e
    · obtain ⟨ns', m', c, rfl, hd', hL', m0', m1', hl', st'⟩ := hM
      refine ⟨_, rfl, _, _, rfl, dg_m hd', _, rfl, _, _, rfl, dg_d hd', _, _, rfl, rfl, .inl ⟨by decide, by decide⟩, _, _, rfl, rfl, .inl ⟨_, rfl, _, _, rfl, rfl, (by show (0 : Int) < _; decide), ?_⟩⟩
      refine ⟨_, rfl, _, rfl, _, _, rfl, rfl, .inl ⟨?_, ?_⟩, _, rfl, _, _, rfl, dg_d hd', _, _, rfl, rfl, .inl ⟨by decide, by decide⟩, _, _, rfl, rfl, _, _, rfl, rfl, .inl ⟨_, rfl, _, _, rfl, rfl, (by show (0 : Int) < _; decide), ?_⟩⟩
      · exact Int.lt_of_lt_of_le (by decide) (Int.emod_nonneg _ (by decide))
      · exact Int.lt_trans (Int.emod_lt_of_pos _ (by decide)) (by decide)
      refine ⟨_, rfl, _, _, rfl, rfl, .inl ⟨?_, ?_⟩, _, _, rfl, rfl, .inl ⟨_, rfl, _, _, rfl, rfl, (by show (0 : Int) < _; decide), ?_⟩⟩
      · exact Int.lt_of_lt_of_le (by decide) (Int.emod_nonneg _ (by decide))
      · exact Int.lt_trans (Int.emod_lt_of_pos _ (by decide)) (by decide)
      refine ⟨_, rfl, _, _, rfl, rfl, ⟨by decide, by decide⟩, .inl ⟨_, rfl, _, rfl, _, _, rfl, rfl, n0, ?_⟩⟩
      exact q _ _ (Int.emod_nonneg _ (by omega)) (Int.emod_lt_of_pos _ n0) ⟨⟨ns', m', k1, hd', hL', m0', m1', hl'⟩, st'⟩
/-! ### one of some -/
theorem Fr.seq {K : PySem.W.Frag} {d L a : Addr} {xs : List V} {H H' : Hp} (f : Fr d L H H') (h : DK d L H) (hS : SqL K H a xs) (hL : a ≠ L) : SqL K H' a xs := by
  obtain ⟨ns, m, k, h1, h2, _⟩ := h
  rcases hS with (e | ⟨o, e⟩) | e
  · exact .inl (.inl (f.st a _ (ne_of e h1 (by intro z; cases z)) hL e))
  · exact .inl (.inr ⟨o, f.st a _ (ne_of e h1 (by intro z; cases z)) hL e⟩)
  · exact .inr e
theorem Fr.tup {K : PySem.W.Frag} {d L a : Addr} {xs : List V} {H H' : Hp} (f : Fr d L H H') (h : DK d L H) (hS : SqT K H a xs) : SqT K H' a xs := by
  obtain ⟨ns, m, k, h1, h2, _⟩ := h
  rcases hS with (e | ⟨o, e⟩) | e
  · exact .inl (.inl (f.st a _ (ne_of e h1 (by intro z; cases z)) (ne_of e h2 (by intro z; cases z)) e))
  · exact .inl (.inr ⟨o, f.st a _ (ne_of e h1 (by intro z; cases z)) (ne_of e h2 (by intro z; cases z)) e⟩)
  · exact .inr e
def spPick (K : PySem.W.Frag) : Sp := fun vs H Q _ => ∃ (d L a : Addr) (xs : List V), vs = [.ref d, .ref a] ∧ DK d L H ∧ a ≠ L ∧ (SqL K H a xs ∨ SqT K H a xs) ∧ 0 < xs.length ∧ xs.length ≤ 1000000000 ∧
  ∀ (i : Nat) (x : V) H', xs[i]? = some x → Fr d L H H' → Q x H'
theorem ok_pick {fd fdD : FuncData} (D : Df K mg "_law_pick" s__law_pick P__law_pick fd) (T : Tb mg) (D__law_draw : Df K mg "_law_draw" s__law_draw P__law_draw fdD) : FnOk P w K mg base CX0 2 (He.fAd K ("_law_pick", none)) fd P__law_pick (spPick K) := by
  have G__law_draw : FnOk P w K mg base CX0 1 (He.fAd K ("_law_draw", none)) fdD P__law_draw spDraw := ok_draw D__law_draw T
  refine (fun_of D.F).ok sc__law_pick (fun vs H Q E h => ?_) (fun cdv A outer s H vs Q E hr h => ?_)
  · obtain ⟨d, L, a, xs, rfl, _⟩ := h
    rfl
  · obtain ⟨d, L, a, xs, rfl, hD, haL, hS, n0, n1, q⟩ := h
    refine ⟨_, (pss_one (ps_ret (pe_ix (ix_list.or ix_tup) (pv 1) (pe_call G__law_draw (hr.mono (by first | decide | omega)) (by rfl) D__law_draw.g D__law_draw.F.kp D__law_draw.b .nil pass0 (pa_cons (pv 0) (pa_cons (pe_callB call_len (by rfl) T.len (by decide +kernel) (pa_cons (pv 1) pa_nil)) pa_nil))) (fun _ _ => rfl)))), ?_⟩
    refine ⟨_, rfl, _, rfl, _, rfl, _, xs.length, rfl, (hS.elim (fun h => .inl ⟨_, h, rfl⟩) fun h => .inr ⟨_, h, rfl⟩), d, L, _, rfl, hD, by omega, by omega, fun r H' r0 r1 fr => ?_⟩
    obtain ⟨i, rfl⟩ := Int.eq_ofNat_of_zero_le r0
    have hi : i < xs.length := by omega
    rcases hS with h | h
    · exact .inl ⟨a, xs, _, xs[i], rfl, rfl, fr.seq hD h haL, atI_nat (List.getElem?_eq_getElem hi), q i _ _ (List.getElem?_eq_getElem hi) fr⟩
    · exact .inr ⟨a, xs, _, xs[i], rfl, rfl, fr.tup hD h, atI_nat (List.getElem?_eq_getElem hi), q i _ _ (List.getElem?_eq_getElem hi) fr⟩
end
end KA


set_option Elab.async false
set_option linter.all false
set_option maxRecDepth 100000
set_option maxHeartbeats 4000000
/-! A drawn value; words and names, as the law and the program see them. -/
namespace KB
open PySem PySem.Spec PyProof.Rows L2 KT KA
/-! ### drawn values -/
def Asc (z : Str) : Prop := z.length ≤ 2000 ∧ ∀ c ∈ z.cps.toList, c < 128
inductive Th (d L : Addr) (H : Hp) : V → Prop
  | non : Th d L H .non
  | bl (b : Bool) : Th d L H (.bl b)
  | int (i : Int) : Th d L H (.int i)
  | str {z : Str} (h : Asc z) : Th d L H (.str z)
  | lst {a : Addr} {xs : List V} (n : a ≠ L) (h : H a = some (.lst xs)) : Th d L H (.ref a)
  | tup {a : Addr} {xs : List V} (h : H a = some (.tup xs)) : Th d L H (.ref a)
  | dk {a : Addr} {kvs : List (Key × V)} (n : a ≠ d) (h : H a = some (.dK kvs)) : Th d L H (.ref a)
theorem Th.fr {d L : Addr} {H H' : Hp} {v : V} (t : Th d L H v) (h : DK d L H) (f : Fr d L H H') : Th d L H' v := by
  obtain ⟨ns, m, k, h1, h2, _⟩ := h
  cases t with
  | non => exact .non
  | bl b => exact .bl b
  | int i => exact .int i
  | str h => exact .str h
  | lst n e => exact .lst n (f.st _ _ (ne_of e h1 (by intro z; cases z)) n e)
  | tup e => exact .tup (f.st _ _ (ne_of e h1 (by intro z; cases z)) (ne_of e h2 (by intro z; cases z)) e)
  | dk n e => exact .dk n (f.st _ _ n (ne_of e h2 (by intro z; cases z)) e)
theorem Th.isStr {K : PySem.W.Frag} {d L : Addr} {H : Hp} {v : V} (t : Th d L H v) : IsA K H v "str" (isS v) := by
  cases t with
  | non => exact ⟨_, .base .non, by decide +kernel⟩
  | bl b => exact ⟨_, .base (.bl b), (by decide +kernel : kitB "bool" "str" = some false)⟩
  | int i => exact ⟨_, .base (.int i), (by decide +kernel : kitB "int" "str" = some false)⟩
  | str h => exact ⟨_, .base (.str _), (by decide +kernel : kitB "str" "str" = some true)⟩
  | lst n e => exact ⟨_, .base (.lst e), (by decide +kernel : kitB "list" "str" = some false)⟩
  | tup e => exact ⟨_, .base (.tup e), (by decide +kernel : kitB "tuple" "str" = some false)⟩
  | dk n e => exact ⟨_, .base (.dK e), (by decide +kernel : kitB "dict" "str" = some false)⟩
theorem asc_lit {z : Str} (h : (decide (z.length ≤ 2000) && z.cps.toList.all fun c => decide (c < 128)) = true) : Asc z := by
  rw [Bool.and_eq_true] at h
  exact ⟨of_decide_eq_true h.1, fun c hc => of_decide_eq_true (List.all_eq_true.mp h.2 c hc)⟩
abbrev N__law_any : List Str := ["_law_deck_here", "_law_deep", "_law_way", "_law_some", "_law_turn"]
abbrev P__law_any : List Str := ["_law_deck_here", "_law_deep"]
theorem sc__law_any : FnScope N__law_any P__law_any (defScope s__law_any) := ⟨rfl, rfl, rfl, by decide +kernel, rfl, by decide +kernel, by decide +kernel⟩
section
variable {P : Program} {w : World} {K : PySem.W.Frag} {mg : Str → Option Value} {base : Heap}
def spAny (n : Nat) : Sp := fun vs H Q _ => ∃ d L : Addr, vs = [.ref d, .int n] ∧ DK d L H ∧ ∀ v H', Th d L H' v → Fr d L H H' → Q v H'
def spPrev : Nat → Sp
  | 0 => spNo
  | n + 1 => spAny n
theorem ok_any1 {fd fdD fdP : FuncData} {n : Nat} (T : Tb mg) (D : Df K mg "_law_any" s__law_any P__law_any fd) (D__law_draw : Df K mg "_law_draw" s__law_draw P__law_draw fdD) (D__law_pick : Df K mg "_law_pick" s__law_pick P__law_pick fdP)
    (G__law_any : FnOk P w K mg base CX0 (n + 2) (He.fAd K ("_law_any", none)) fd P__law_any (spPrev n)) : FnOk P w K mg base CX0 (n + 3) (He.fAd K ("_law_any", none)) fd P__law_any (spAny n) := by
  have G__law_draw : FnOk P w K mg base CX0 1 (He.fAd K ("_law_draw", none)) fdD P__law_draw spDraw := ok_draw D__law_draw T
  have G__law_pick : FnOk P w K mg base CX0 2 (He.fAd K ("_law_pick", none)) fdP P__law_pick (spPick K) := ok_pick D__law_pick T D__law_draw
  have D__law_any := D
  refine (fun_of D.F).ok sc__law_any (fun vs H Q E h => ?_) (fun cdv A outer s H vs Q E hr h => ?_)
  · obtain ⟨d, L, rfl, _⟩ := h
    rfl
  · obtain ⟨d, L, rfl, hD, q⟩ := h
    refine ⟨_, (pss_cons (ps_set (i := 2) sc__law_any.nd rfl (.inl rfl) (pe_call G__law_draw (hr.mono (by first | decide | omega)) (by rfl) D__law_draw.g D__law_draw.F.kp D__law_draw.b .nil pass0 (pa_cons (pv 0) (pa_cons pe_int pa_nil))))
      (pss_cons (ps_if (pt_cmpR op_lt (pv 2) pe_int (nomark _)) (pss_one (ps_ret (pe_call G__law_pick (hr.mono (by first | decide | omega)) (by rfl) D__law_pick.g D__law_pick.F.kp D__law_pick.b .nil pass0 (pa_cons (pv 0) (pa_cons (pe_lst (pa_cons pe_int (pa_cons pe_int (pa_cons (pe_un un_neg pe_int) (pa_cons pe_int (pa_cons (pe_op op_pow pe_int pe_int) (pa_cons (pe_un un_neg (pe_op op_pow pe_int pe_int)) (pa_cons pe_int (pa_cons pe_int pa_nil))))))))) pa_nil))))) pss_nil)
      (pss_cons (ps_if (pt_cmpR op_lt (pv 2) pe_int (nomark _)) (pss_one (ps_ret (pe_call G__law_pick (hr.mono (by first | decide | omega)) (by rfl) D__law_pick.g D__law_pick.F.kp D__law_pick.b .nil pass0 (pa_cons (pv 0) (pa_cons (pe_lst (pa_cons pe_str (pa_cons pe_str (pa_cons pe_str (pa_cons pe_str (pa_cons pe_str (pa_cons pe_str (pa_cons pe_str (pa_cons pe_str pa_nil))))))))) pa_nil))))) pss_nil)
      (pss_cons (ps_if (pt_cmpR op_eq (pv 2) pe_int (nomark _)) (pss_one (ps_ret (pe_call G__law_pick (hr.mono (by first | decide | omega)) (by rfl) D__law_pick.g D__law_pick.F.kp D__law_pick.b .nil pass0 (pa_cons (pv 0) (pa_cons (pe_lst (pa_cons pe_bl (pa_cons pe_bl (pa_cons pe_non pa_nil)))) pa_nil))))) pss_nil)
      (C8.pss_cut (ps_set (i := 3) sc__law_any.nd rfl (.inl rfl) (pe_ifExp (pt_cmpR op_gt (pv 1) pe_int (nomark _)) (pe_lc (own := [("_law_turn", 4)]) (g := gName 4) (tt := tYes) (by rfl) sc__law_any.nd (pi_range1 rfl T.range (pa_cons (pe_call G__law_draw (hr.mono (by first | decide | omega)) (by rfl) D__law_draw.g D__law_draw.F.kp D__law_draw.b .nil pass0 (pa_cons (pv 0) (pa_cons pe_int pa_nil))) pa_nil)) (blkOk_by (own := [("_law_turn", 4)]) (N := N__law_any) (sc := defScope s__law_any) (by decide +kernel)) (fun _ _ _ _ _ => (pg_name (i := 4) sc__law_any.nd rfl (.inl rfl))) (fun _ _ _ _ _ => pts_nil) (fun _ _ _ _ _ => (pe_call G__law_any (hr.mono (by first | decide | omega)) (by rfl) D__law_any.g D__law_any.F.kp D__law_any.b .nil pass0 (pa_cons (pv 0) (pa_cons (pe_op op_sub (pv 1) pe_int) pa_nil))))) (pe_lst pa_nil)))
      (pss_cons (ps_if (pt_cmpR op_eq (pv 2) pe_int (nomark _)) (pss_one (ps_ret (pv 3))) pss_nil)
      (pss_one (ps_ret (pe_ifExp (pt_cmpR op_eq (pv 2) pe_int (nomark _)) (pe_disp (pps_cons pe_str (pv 3) (pps_cons pe_int (pe_callB call_len (by rfl) T.len (by decide +kernel) (pa_cons (pv 3) pa_nil)) pps_nil)) (by rfl) (by rfl) (fun z => by cases z) (by decide)) (pe_callTy call_tuple_of (by rfl) T.tuple (by decide +kernel) (pa_cons (pv 3) pa_nil))))))))))), ?_⟩
    refine ⟨_, rfl, d, L, _, rfl, hD, by decide, by decide, fun way H1 w0 w1 f1 => ?_⟩
    have pick : ∀ (xs : List V) (H0 H2 : Hp) (p : Addr), Fr d L H H0 → H0 p = none → H2 = upd H0 p (.lst xs) → xs.length ≤ 8 → 0 < xs.length → (∀ x ∈ xs, ∀ H', Th d L H' x) →
        spPick K [.ref d, .ref p] H2 Q E0 := by
      intro xs H0 H2 p f0 np e hl h0 hx
      subst e
      have dk0 := f0.dk
      have pL : p ≠ L := fun e => by
        obtain ⟨ns, m, k, h1, h2, _⟩ := dk0
        rw [e, h2] at np
        cases np
      refine ⟨d, L, p, xs, rfl, dk0.upd np, pL, .inl (SqL.of upd_same), h0, by omega, fun i x H' hi f2 => ?_⟩
      exact q x H' (hx x (List.mem_of_getElem? hi) H') (f0.trans ((Fr.new dk0 np).trans f2))
    -- way < 2
    refine ⟨_, rfl, _, _, rfl, rfl, _, rfl, ite2 (fun _ => ?_) (fun _ => ?_)⟩
    · refine ⟨_, rfl, 1, rfl, 10, 29, rfl, rfl, ⟨by decide, by decide, by decide⟩, 10, 20, rfl, rfl, ⟨by decide, by decide, by decide⟩, _, rfl, by show 8 ≤ sizeLine; decide, fun p np => ?_⟩
      refine pick _ _ _ p f1 np rfl (by show 8 ≤ 8; decide) (by show 0 < 8; decide) fun x hx H' => ?_
      simp only [List.mem_cons, List.not_mem_nil, or_false] at hx
      rcases hx with rfl | rfl | rfl | rfl | rfl | rfl | rfl | rfl <;> exact .int _
    refine ⟨_, rfl, _, _, rfl, rfl, _, rfl, ite2 (fun _ => ?_) (fun _ => ?_)⟩
    · refine ⟨_, rfl, by show 8 ≤ sizeLine; decide, fun p np => ?_⟩
      refine pick _ _ _ p f1 np rfl (by show 8 ≤ 8; decide) (by show 0 < 8; decide) fun x hx H' => ?_
      simp only [List.mem_cons, List.not_mem_nil, or_false] at hx
      rcases hx with rfl | rfl | rfl | rfl | rfl | rfl | rfl | rfl <;> exact .str (asc_lit (by decide +kernel))
    refine ⟨_, rfl, rfl, _, rfl, ite2 (fun _ => ?_) (fun _ => ?_)⟩
    · refine ⟨_, rfl, by show 3 ≤ sizeLine; decide, fun p np => ?_⟩
      refine pick _ _ _ p f1 np rfl (by show 3 ≤ 8; decide) (by show 0 < 3; decide) fun x hx H' => ?_
      simp only [List.mem_cons, List.not_mem_nil, or_false] at hx
      rcases hx with rfl | rfl | rfl
      · exact .bl _
      · exact .bl _
      · exact .non
    -- the parts
    refine ⟨fun σ' H' => ∃ p xs, σ' = [some (.ref d), some (.int n), some (.int way), some (.ref p), none] ∧ Fr d L H H' ∧ H' p = some (.lst xs) ∧ p ≠ L ∧ xs.length ≤ 4, ?_, fun σ' H' hM => ?_⟩
    · refine ⟨_, rfl, _, _, rfl, rfl, _, rfl, ite2 (fun hn => ?_) (fun _ => ?_)⟩
      · refine ⟨_, rfl, d, L, _, rfl, f1.dk, by decide, by decide, fun r H2 r0 r1 f2 => ⟨r, rfl, by omega, by omega, fun D nD => ?_⟩⟩
        have f12 := f1.trans f2
        obtain ⟨nHD, ndD, nLD⟩ := f12.fresh nD
        refine lc_range (lo := 0) (n := r.toNat) (fun i H' => ∃ xs, H' D = some (.lst xs) ∧ xs.length = i ∧ Fr d L H H') ⟨[], upd_same, rfl, f12.mut nHD ndD nLD⟩ (fun i H' hi h => ?_) (fun H' h => ?_)
        · obtain ⟨xs, hxs, hl, f3⟩ := h
          refine ⟨rfl, ?_⟩
          refine ⟨_, rfl, _, rfl, _, _, rfl, rfl, ?_⟩
          cases n with
          | zero => exact absurd (of_decide_eq_true hn) (by show ¬ ((0 : Int) < ((0 : Nat) : Int)); decide)
          | succ m =>
            have e : (((m + 1 : Nat) : Int) - 1) = (m : Int) := by omega
            refine ⟨d, L, congrArg (fun z => [V.ref d, V.int z]) e, f3.dk, fun v H4 tv f4 => ⟨xs, f4.st D _ ndD nLD hxs, small1000 (by omega), xs ++ [v], upd_same, ?_, (f3.trans f4).mut nHD ndD nLD⟩⟩
            rw [List.length_append, hl]
            rfl
        · obtain ⟨xs, hxs, hl, f3⟩ := h
          exact ⟨D, xs, rfl, f3, hxs, nLD, by omega⟩
      · refine ⟨Nat.zero_le _, fun p np => ?_⟩
        obtain ⟨nHp, nd, nL⟩ := f1.fresh np
        exact ⟨p, [], rfl, f1.mut nHp nd nL, upd_same, nL, Nat.zero_le _⟩
    · obtain ⟨p, xs, rfl, f3, hp, nL, hl⟩ := hM
      have hpd : p ≠ d := by
        obtain ⟨ns, m, k, h1, h2, _⟩ := f3.dk
        exact ne_of hp h1 (by intro z; cases z)
      refine ⟨_, rfl, rfl, _, rfl, ite2 (fun _ => ?_) (fun _ => ?_)⟩
      · exact ⟨_, rfl, q _ _ (.lst nL hp) f3⟩
      · refine ⟨_, rfl, rfl, _, rfl, ite2 (fun _ => ?_) (fun _ => ?_)⟩
        · intro D nD
          obtain ⟨nHD, ndD, nLD⟩ := f3.fresh nD
          have hp2 : (upd H' D (.dK [])) p = some (.lst xs) := by
            rw [upd_ne (ne_of_none hp nD)]
            exact hp
          refine ⟨_, rfl, _, rfl, _, xs.length, rfl, .inl ⟨_, SqL.of hp2, rfl⟩, upd_same, [(Sum.inr "key", .ref p), (Sum.inl 1, .int xs.length)], rfl, (by show 2 ≤ 15; decide), ?_⟩
          exact q _ _ (.dk ndD upd_same) ((f3.mut nHD ndD nLD).mut nHD ndD nLD)
        · refine ⟨_, rfl, p, xs, rfl, .inl ⟨SqL.of hp, fun l nl => ?_⟩⟩
          obtain ⟨nHD, ndD, nLD⟩ := f3.fresh nl
          exact q _ _ (.tup upd_same) (f3.mut nHD ndD nLD)
theorem ok_any {fd fdD fdP : FuncData} (T : Tb mg) (D : Df K mg "_law_any" s__law_any P__law_any fd) (D__law_draw : Df K mg "_law_draw" s__law_draw P__law_draw fdD) (D__law_pick : Df K mg "_law_pick" s__law_pick P__law_pick fdP) :
    ∀ n : Nat, FnOk P w K mg base CX0 (n + 3) (He.fAd K ("_law_any", none)) fd P__law_any (spAny n)
  | 0 => ok_any1 T D D__law_draw D__law_pick ok_no
  | n + 1 => ok_any1 T D D__law_draw D__law_pick (ok_any T D D__law_draw D__law_pick n)
end
end KB


set_option Elab.async false
set_option linter.all false
set_option maxRecDepth 100000
set_option maxHeartbeats 4000000
/-! Words and names, as the law and the program see them. -/
namespace KC
open PySem PySem.Spec PyProof.Rows L2 KT KG KM KA KB GxR
def keptL : List Str := ["fun", "own", "let", "set", "when", "none", "zero", "one", "each", "as", "give", "cut"]
def lets : Str := "abcdefghijklmnopqrstuvwxyz"
def sigs : Str := "abcdefghijklmnopqrstuvwxyz0123456789_"
def figs : Str := "0123456789_"
def allS (z : Str) : Bool := z.cps.toList.all fun c => decide (c ∈ sigs.cps.toList)
def isN (z : Str) : Bool := (decide (0 < z.length) && decide (z.length < 21)) && (!inV (.str z) (keptL.map V.str) && (allS z && decide (z.cps.toList.headD 0 ∉ figs.cps.toList)))
def wordV : V → Bool
  | .str z => isW z
  | _ => false
def nameV : V → Bool
  | .str z => isN z
  | _ => false
/-- a value whose class is known; a text of few signs -/
structure Sv (K : PySem.W.Frag) (H : Hp) (x : V) : Prop where
  ty : IsA K H x "str" (isS x)
  asc : ∀ z, x = .str z → Asc z
theorem Th.sv {K : PySem.W.Frag} {d L : Addr} {H : Hp} {v : V} (t : Th d L H v) : Sv K H v := ⟨t.isStr, fun z e => by
  cases t with
  | str h => cases e; exact h
  | _ => cases e⟩
theorem asc_line {z : Str} (h : Asc z) : z.length ≤ sizeLine := Nat.le_trans h.1 (by decide)
theorem same_new {H : Hp} {p : Addr} {o : HO} (n : H p = none) : Same H (upd H p o) := fun b x e => by
  rw [upd_ne (ne_of_none e n)]
  exact e
abbrev N_is_word : List Str := ["thing"]
abbrev P_is_word : List Str := ["thing"]
theorem sc_is_word : FnScope N_is_word P_is_word (defScope s_is_word) := ⟨rfl, rfl, rfl, by decide +kernel, rfl, by decide +kernel, by decide +kernel⟩
abbrev N_is_name : List Str := ["thing", "sign"]
abbrev P_is_name : List Str := ["thing"]
theorem sc_is_name : FnScope N_is_name P_is_name (defScope s_is_name) := ⟨rfl, rfl, rfl, by decide +kernel, rfl, by decide +kernel, by decide +kernel⟩
abbrev N__law_words : List Str := []
abbrev P__law_words : List Str := []
theorem sc__law_words : FnScope N__law_words P__law_words (defScope s__law_words) := ⟨rfl, rfl, rfl, by decide +kernel, rfl, by decide +kernel, by decide +kernel⟩
abbrev N__law_is_word : List Str := ["_law_thing", "_law_x"]
abbrev P__law_is_word : List Str := ["_law_thing"]
theorem sc__law_is_word : FnScope N__law_is_word P__law_is_word (defScope s__law_is_word) := ⟨rfl, rfl, rfl, by decide +kernel, rfl, by decide +kernel, by decide +kernel⟩
abbrev N__law_is_name : List Str := ["_law_thing", "_law_x"]
abbrev P__law_is_name : List Str := ["_law_thing"]
theorem sc__law_is_name : FnScope N__law_is_name P__law_is_name (defScope s__law_is_name) := ⟨rfl, rfl, rfl, by decide +kernel, rfl, by decide +kernel, by decide +kernel⟩
section
variable {P : Program} {w : World} {K : PySem.W.Frag} {mg : Str → Option Value} {base : Heap}
def spW (K : PySem.W.Frag) : Sp := fun vs H Q _ => ∃ x, vs = [x] ∧ Sv K H x ∧ ∀ H', Same H H' → Q (.bl (wordV x)) H'
theorem ok_is_word {fd : FuncData} (T : Tb mg) (D : Df K mg "is_word" s_is_word P_is_word fd) : FnOk P w K mg base CX0 1 (He.fAd K ("is_word", none)) fd P_is_word (spW K) := by
  refine (fun_of D.F).ok sc_is_word (fun vs H Q E h => ?_) (fun cdv A outer s H vs Q E hr h => ?_)
  · obtain ⟨x, rfl, _⟩ := h
    rfl
  · obtain ⟨x, rfl, sv, q⟩ := h
    refine ⟨_, (pss_one (ps_ret (pe_and (pe_callB call_isi (by rfl) T.isinstance (by decide +kernel) (pa_cons (pv 0) (pa_cons (pe_bltn (v := .ty "str") (by rfl) T.str (by decide +kernel) rfl) pa_nil))) (pe_one (pe_cmpR op_eq (pe_bm PySem.F.plainAttrs_str PySem.F.slot_str_strip PySem.F.type_str_strip mt_stripChars (pv 0) (pa_cons pe_str pa_nil)) pe_str (nomark _)))))), ?_⟩
    obtain ⟨t0, ht1, ht2⟩ := sv.ty
    refine ⟨x, rfl, x, _, .type t0, _, _, rfl, .ty "str", ht1, kit_ty ht2, _, rfl, ?_⟩
    cases x with
    | str z =>
      refine ⟨_, rfl, rfl, z, ("01" : Str), rfl, rfl, asc_line (sv.asc z rfl), rfl, ?_⟩
      have e := q H (Same.refl H)
      rw [show wordV (.str z) = isW z from rfl, ← strip01 z] at e
      exact e
    | _ => exact q H (Same.refl H)
theorem hd_at {z : Str} (h : 0 < z.length) : atI z.cps.toList 0 = some (z.cps.toList.headD 0) := by
  have hl : z.cps.toList.length = z.length := by
    show z.cps.toList.length = z.cps.size
    rw [Array.length_toList]
  cases e : z.cps.toList with
  | nil =>
    rw [e] at hl
    have : (0 : Nat) = z.length := hl
    omega
  | cons c r => exact atI_nat (j := 0) rfl
theorem lets_of {c : Nat} (h : c ∈ sigs.cps.toList) : (c ∈ lets.cps.toList) ↔ (c ∉ figs.cps.toList) := by
  have key : ∀ c ∈ sigs.cps.toList, decide (c ∈ lets.cps.toList) = !decide (c ∈ figs.cps.toList) := by decide +kernel
  have k := key c h
  by_cases h1 : c ∈ lets.cps.toList
  · rw [decide_eq_true h1] at k
    by_cases h2 : c ∈ figs.cps.toList
    · rw [decide_eq_true h2] at k
      cases k
    · exact ⟨fun _ => h2, fun _ => h1⟩
  · rw [decide_eq_false h1] at k
    by_cases h2 : c ∈ figs.cps.toList
    · exact ⟨fun z => absurd z h1, fun z => absurd h2 z⟩
    · rw [decide_eq_false h2] at k
      cases k
/-- the program's way to a name's answer -/
theorem isN_prog (z : Str) (h0 : 0 < z.length) (h1 : z.length < 21) : isN z = (decide (z.cps.toList.headD 0 ∈ lets.cps.toList) && (allS z && !inV (.str z) (keptL.map V.str))) := by
  unfold isN
  rw [decide_eq_true h0, decide_eq_true h1]
  simp only [Bool.true_and]
  cases ha : allS z with
  | false => simp
  | true =>
    have hm : z.cps.toList.headD 0 ∈ sigs.cps.toList := by
      have hl : z.cps.toList.length = z.length := by
        show z.cps.toList.length = z.cps.size
        rw [Array.length_toList]
      cases e : z.cps.toList with
      | nil =>
        rw [e] at hl
        have : (0 : Nat) = z.length := hl
        omega
      | cons c r =>
        unfold allS at ha
        rw [e, List.all_cons, Bool.and_eq_true] at ha
        exact of_decide_eq_true ha.1
    have e := lets_of hm
    have e2 : decide (z.cps.toList.headD 0 ∈ lets.cps.toList) = decide (z.cps.toList.headD 0 ∉ figs.cps.toList) := decide_eq_decide.mpr e
    rw [e2]
    cases inV (V.str z) (keptL.map V.str) <;> cases decide (z.cps.toList.headD 0 ∉ figs.cps.toList) <;> rfl
def spN (K : PySem.W.Frag) (Pt : Addr) : Sp := fun vs H Q _ => ∃ x, vs = [x] ∧ Sv K H x ∧ TabG H Pt ∧ ∀ H', Tabbed Pt H H' ∨ H' = H → Q (.bl (nameV x)) H'
theorem kept_flat : (keptL.map V.str).all flatV = true := by decide +kernel
theorem ok_is_name {fd : FuncData} (T : Tb mg) (D : Df K mg "is_name" s_is_name P_is_name fd) {a_KEPT_WORDS : Addr} (mg_KEPT_WORDS : mg "KEPT_WORDS" = some (.ref a_KEPT_WORDS)) (hK : ∀ H, SqT K H a_KEPT_WORDS (keptL.map V.str))
    (TB_is_name : TabB base mg (He.cT K ("is_name", none)).1 (He.cT K ("is_name", none)).2) : FnOk P w K mg base CX0 5 (He.fAd K ("is_name", none)) fd P_is_name (spN K (He.cT K ("is_name", none)).2) := by
  obtain ⟨t1, mg_LONGEST_NAME⟩ := T.LN
  obtain ⟨t2, mg_LETTERS⟩ := T.LE
  obtain ⟨t3, mg_SIGNS⟩ := T.SI
  refine okC D.F sc_is_name (fun vs H Q E h => ?_) (fun cdv A outer s H vs Q E hcd hr h => ?_)
  · obtain ⟨x, rfl, _⟩ := h
    rfl
  · obtain ⟨x, rfl, sv, tg, q⟩ := h
    refine ⟨_, (pss_cons (ps_if (PW.pt (pw_or (pt_not (pt_val (pe_callB call_isi (by rfl) T.isinstance (by decide +kernel) (pa_cons (pv 0) (pa_cons (pe_bltn (v := .ty "str") (by rfl) T.str (by decide +kernel) rfl) pa_nil))))) (pw_or1 (pt_not (pt_chain op_le op_le pe_int (pe_callB call_len_str (by rfl) T.len (by decide +kernel) (pa_cons (pv 0) pa_nil)) (pe_glob (v := .int 20) (by rfl) mg_LONGEST_NAME ⟨_, rfl⟩)))))) (pss_one (ps_ret pe_bl)) pss_nil)
      (pss_one (ps_ret (pe_and (pe_cmpR op_in_sign (pe_ix ix_str (pv 0) pe_int (fun _ _ => rfl)) (pe_glob (v := .str lets) (by rfl) mg_LETTERS ⟨_, rfl⟩) (by rfl)) (pe_and (pe_all (own := [("sign", 1)]) (g := gName 1) rfl sc_is_name.nd hr (by rfl) T.all TB_is_name hcd (gnOk_by (own := [("sign", 1)]) (N := N_is_name) (sc := defScope s_is_name) (by decide +kernel)) (pi_str (pv 0)) (fun _ _ _ _ _ _ => (pg_name (i := 1) sc_is_name.nd rfl (.inl rfl))) (fun _ _ _ _ _ _ => (pe_cmpR op_in_sign (pv 1) (pe_glob (v := .str sigs) (by rfl) mg_SIGNS ⟨_, rfl⟩) (by rfl)))) (pe_one (pe_cmpR op_notIn_seq (pv 0) (pe_glob (v := .ref a_KEPT_WORDS) (by rfl) mg_KEPT_WORDS rfl) (by rfl)))))))), ?_⟩
    obtain ⟨t0, ht1, ht2⟩ := sv.ty
    refine ⟨x, rfl, x, _, .type t0, _, _, rfl, .ty "str", ht1, kit_ty ht2, _, rfl, ?_⟩
    cases x with
    | str z =>
      have az := sv.asc z rfl
      refine ⟨_, rfl, z, rfl, asc_line az, _, _, rfl, rfl, _, rfl, ?_⟩
      have no : nameV (.str z) = false → ∀ H', Tabbed (He.cT K ("is_name", none)).2 H H' ∨ H' = H → Q (.bl false) H' := fun e H' h => by
        have q2 := q H' h
        rw [e] at q2
        exact q2
      have hl : z.cps.toList.length = z.length := by
        show z.cps.toList.length = z.cps.size
        rw [Array.length_toList]
      refine ite2 (fun h1 => ?_) (fun h1 => ?_)
      · have h1' : 0 < z.length := by
          have := of_decide_eq_true h1
          omega
        refine ⟨_, _, rfl, rfl, _, rfl, ite2 (fun h2 => ?_) (fun h2 => ?_)⟩
        · have h2' : ¬ z.length < 21 := fun h => by
            have e : decide ((z.length : Int) ≤ 20) = true := decide_eq_true (by omega)
            rw [e] at h2
            cases h2
          refine no ?_ H (.inr rfl)
          show isN z = false
          unfold isN
          rw [decide_eq_false h2']
          simp
        · have h2' : z.length < 21 := by
            by_cases h : z.length < 21
            · exact h
            · have e : decide ((z.length : Int) ≤ 20) = false := decide_eq_false (by omega)
              rw [e] at h2
              exact absurd rfl h2
          have en := isN_prog z h1' h2'
          refine ⟨_, rfl, z, 0, _, rfl, rfl, asc_line az, hd_at h1', z.cps.toList.headD 0, lets, rfl, rfl, _, rfl, ite2 (fun h3 => ?_) (fun h3 => ?_)⟩
          · rw [h3] at en
            refine ⟨_, rfl, z, rfl, tg, fun H2 tb => turns_it walk_str (fun i H' => H' = H2 ∧ (z.cps.toList.take i).all (fun c => decide (c ∈ sigs.cps.toList)) = true) ⟨rfl, rfl⟩ (fun _ _ _ _ => trivial) (fun i x H3 H4 hi hp y => ?_) (fun H3 hp => ?_)⟩
            · obtain ⟨rfl, c, hc, rfl⟩ := y
              obtain ⟨rfl, hall⟩ := hp
              have hc2 : z.cps.toList[i]? = some c := by rw [Array.getElem?_toList]; exact hc
              refine ⟨rfl, _, rfl, c, sigs, rfl, rfl, _, rfl, ?_⟩
              by_cases hcs : c ∈ sigs.cps.toList
              · rw [if_pos (decide_eq_true hcs)]
                refine ⟨rfl, ?_⟩
                rw [List.take_add_one, hc2, List.all_append, hall]
                show (true && (decide (c ∈ sigs.cps.toList) && true)) = true
                rw [decide_eq_true hcs]
                rfl
              · rw [if_neg (by rw [decide_eq_false hcs]; exact Bool.false_ne_true)]
                refine ⟨_, rfl, iteF (no ?_ _ (.inl tb))⟩
                show isN z = false
                have ha : allS z = false := by
                  unfold allS
                  rw [List.all_eq_false]
                  exact ⟨c, List.mem_of_getElem? hc2, by rw [decide_eq_false hcs]; exact Bool.false_ne_true⟩
                rw [en, ha]
                rfl
            · obtain ⟨rfl, hall⟩ := hp
              have ha : allS z = true := by
                rw [List.take_of_length_le (by rw [hl]; exact Nat.le_refl _)] at hall
                exact hall
              rw [ha] at en
              refine ⟨_, rfl, ?_⟩
              refine ⟨_, rfl, a_KEPT_WORDS, _, rfl, .inr (hK _), rfl, kept_flat, ?_⟩
              have q2 := q _ (.inl tb)
              rw [show nameV (.str z) = isN z from rfl, en] at q2
              exact q2
          · refine no ?_ H (.inr rfl)
            show isN z = false
            rw [en]
            have e3 : decide (z.cps.toList.headD 0 ∈ lets.cps.toList) = false := by
              cases e : decide (z.cps.toList.headD 0 ∈ lets.cps.toList) with
              | false => rfl
              | true => exact absurd e h3
            rw [e3]
            rfl
      · have h1' : ¬ 0 < z.length := fun h => h1 (decide_eq_true (by omega))
        refine ⟨_, rfl, ?_⟩
        refine no ?_ H (.inr rfl)
        show isN z = false
        unfold isN
        rw [decide_eq_false h1']
        rfl
    | _ => exact q H (.inr rfl)
/-! ### the law's own looks -/
def spWds : Sp := fun vs H Q _ => vs = [] ∧ ∀ p, H p = none → Q (.ref p) (upd H p (.tup (keptL.map V.str)))
theorem ok_words {fd : FuncData} (D : Df K mg "_law_words" s__law_words P__law_words fd) : FnOk P w K mg base CX0 1 (He.fAd K ("_law_words", none)) fd P__law_words spWds := by
  refine (fun_of D.F).ok sc__law_words (fun vs H Q E h => ?_) (fun cdv A outer s H vs Q E hr h => ?_)
  · obtain ⟨rfl, _⟩ := h
    rfl
  · obtain ⟨rfl, q⟩ := h
    refine ⟨_, (pss_one (ps_ret (pe_tup (pa_cons pe_str (pa_cons pe_str (pa_cons pe_str (pa_cons pe_str (pa_cons pe_str (pa_cons pe_str (pa_cons pe_str (pa_cons pe_str (pa_cons pe_str (pa_cons pe_str (pa_cons pe_str (pa_cons pe_str pa_nil))))))))))))))), ?_⟩
    exact ⟨by show 12 ≤ sizeLine; decide, fun p np => q p np⟩
theorem low_mem {z : Str} (h : Asc z) (pb : Nat → Bool) : ∀ c ∈ z.cps.toList.filter pb, c < 128 := fun c hc => h.2 c (List.mem_filter.mp hc).1
theorem empty_all {l : List Nat} {p : Nat → Bool} : (l.filter fun c => !p c).isEmpty = l.all p := by
  induction l with
  | nil => rfl
  | cons a r ih =>
    rw [List.filter_cons, List.all_cons]
    cases p a with
    | true => simpa using ih
    | false => rfl
theorem ok_lw {fd : FuncData} (T : Tb mg) (D : Df K mg "_law_is_word" s__law_is_word P__law_is_word fd) : FnOk P w K mg base CX0 1 (He.fAd K ("_law_is_word", none)) fd P__law_is_word (spW K) := by
  refine (fun_of D.F).ok sc__law_is_word (fun vs H Q E h => ?_) (fun cdv A outer s H vs Q E hr h => ?_)
  · obtain ⟨x, rfl, _⟩ := h
    rfl
  · obtain ⟨x, rfl, sv, q⟩ := h
    refine ⟨_, (pss_one (ps_ret (pe_and (pe_callB call_isi (by rfl) T.isinstance (by decide +kernel) (pa_cons (pv 0) (pa_cons (pe_bltn (v := .ty "str") (by rfl) T.str (by decide +kernel) rfl) pa_nil))) (pe_one (pe_cmpR (op_eqD hr.units) (pe_lc (own := [("_law_x", 1)]) (g := gName 1) (by rfl) sc__law_is_word.nd (pi_str (pv 0)) (blkOk_by (own := [("_law_x", 1)]) (N := N__law_is_word) (sc := defScope s__law_is_word) (by decide +kernel)) (fun _ _ _ _ _ => (pg_name (i := 1) sc__law_is_word.nd rfl (.inl rfl))) (fun _ _ _ _ _ => (pts_one (pt_cmpR op_notIn_sign (pv 1) pe_str (by rfl)))) (fun _ _ _ _ _ => (pv 1))) (pe_lst pa_nil) (nomark _)))))), ?_⟩
    obtain ⟨t0, ht1, ht2⟩ := sv.ty
    refine ⟨x, rfl, x, _, .type t0, _, _, rfl, .ty "str", ht1, kit_ty ht2, _, rfl, ?_⟩
    cases x with
    | str z =>
      have az := sv.asc z rfl
      refine ⟨_, rfl, z, rfl, fun D nD => lc_signs (i := 1) (fun c => !decide (c ∈ ("01" : Str).cps.toList)) az.1 (by show 1 < 2; decide) (fun c H' Q' hc hq => ⟨_, rfl, c, ("01" : Str), rfl, rfl, _, rfl, hq⟩) ?_⟩
      refine ⟨Nat.zero_le _, fun p np => ?_⟩
      have s1 : Same H (upd H D (.lst ((z.cps.toList.filter fun c => !decide (c ∈ ("01" : Str).cps.toList)).map sg))) := same_new nD
      refine ⟨_, _, .lst (SqL.of (by rw [upd_ne (ne_of_none upd_same np)]; exact upd_same)) (dp_signs _), .lst (SqL.of upd_same) .nil, shaped_signs (low_mem az _), by decide +kernel, ?_⟩
      rw [eqv_signs, empty_all]
      exact q _ (s1.trans (same_new np))
    | _ => exact q H (Same.refl H)
theorem ok_ln {fd fdW : FuncData} (T : Tb mg) (D : Df K mg "_law_is_name" s__law_is_name P__law_is_name fd) (D__law_words : Df K mg "_law_words" s__law_words P__law_words fdW) : FnOk P w K mg base CX0 2 (He.fAd K ("_law_is_name", none)) fd P__law_is_name
    (fun vs H Q _ => ∃ x, vs = [x] ∧ Sv K H x ∧ ∀ H', Same H H' → Q (.bl (nameV x)) H') := by
  have G__law_words : FnOk P w K mg base CX0 1 (He.fAd K ("_law_words", none)) fdW P__law_words spWds := ok_words D__law_words
  refine (fun_of D.F).ok sc__law_is_name (fun vs H Q E h => ?_) (fun cdv A outer s H vs Q E hr h => ?_)
  · obtain ⟨x, rfl, _⟩ := h
    rfl
  · obtain ⟨x, rfl, sv, q⟩ := h
    refine ⟨_, (pss_cons (ps_if (PW.pt (pw_or (pt_not (pt_val (pe_callB call_isi (by rfl) T.isinstance (by decide +kernel) (pa_cons (pv 0) (pa_cons (pe_bltn (v := .ty "str") (by rfl) T.str (by decide +kernel) rfl) pa_nil))))) (pw_or (pt_not (pt_chain op_lt op_lt pe_int (pe_callB call_len_str (by rfl) T.len (by decide +kernel) (pa_cons (pv 0) pa_nil)) pe_int)) (pw_or1 (pt_cmpR op_in_seq (pv 0) (pe_call0 G__law_words (hr.mono (by first | decide | omega)) (by rfl) D__law_words.g D__law_words.F.kp D__law_words.b .nil pass0) (by rfl)))))) (pss_one (ps_ret pe_bl)) pss_nil)
      (pss_cons (ps_if (pt_cmpR (op_neD hr.units) (pe_lc (own := [("_law_x", 1)]) (g := gName 1) (by rfl) sc__law_is_name.nd (pi_str (pv 0)) (blkOk_by (own := [("_law_x", 1)]) (N := N__law_is_name) (sc := defScope s__law_is_name) (by decide +kernel)) (fun _ _ _ _ _ => (pg_name (i := 1) sc__law_is_name.nd rfl (.inl rfl))) (fun _ _ _ _ _ => (pts_one (pt_cmpR op_notIn_sign (pv 1) pe_str (by rfl)))) (fun _ _ _ _ _ => (pv 1))) (pe_lst pa_nil) (nomark _)) (pss_one (ps_ret pe_bl)) pss_nil)
      (pss_one (ps_ret (pe_cmpR op_notIn_sign (pe_ix ix_str (pv 0) pe_int (fun _ _ => rfl)) pe_str (by rfl)))))), ?_⟩
    obtain ⟨t0, ht1, ht2⟩ := sv.ty
    refine ⟨x, rfl, x, _, .type t0, _, _, rfl, .ty "str", ht1, kit_ty ht2, _, rfl, ?_⟩
    cases x with
    | str z =>
      have az := sv.asc z rfl
      have no : nameV (.str z) = false → ∀ H', Same H H' → Q (.bl false) H' := fun e H' h => by
        have q2 := q H' h
        rw [e] at q2
        exact q2
      have hl : z.cps.toList.length = z.length := by
        show z.cps.toList.length = z.cps.size
        rw [Array.length_toList]
      have lng : (decide (0 < z.length) && decide (z.length < 21)) = false → isN z = false := fun e => by
        unfold isN
        rw [e]
        rfl
      refine ⟨_, rfl, z, rfl, asc_line az, _, _, rfl, rfl, _, rfl, ite2 (fun h1 => ?_) (fun h1 => ?_)⟩
      · have h1' : 0 < z.length := by
          have := of_decide_eq_true h1
          omega
        refine ⟨_, _, rfl, rfl, _, rfl, ?_⟩
        by_cases h2 : z.length < 21
        · have e2 : decide ((z.length : Int) < 21) = true := decide_eq_true (by omega)
          rw [e2]
          have hn : isN z = (!inV (.str z) (keptL.map V.str) && (allS z && decide (z.cps.toList.headD 0 ∉ figs.cps.toList))) := by
            unfold isN
            rw [decide_eq_true h1', decide_eq_true h2]
            rfl
          refine ⟨_, rfl, rfl, fun p np => ⟨p, _, rfl, .inr (SqT.of upd_same), rfl, kept_flat, _, rfl, ?_⟩⟩
          have s1 : Same H (upd H p (.tup (keptL.map V.str))) := same_new np
          cases hk : inV (V.str z) (keptL.map V.str) with
          | true =>
            rw [hk] at hn
            exact no hn _ s1
          | false =>
            rw [hk] at hn
            refine ⟨_, rfl, z, rfl, fun D nD => lc_signs (i := 1) (fun c => !decide (c ∈ sigs.cps.toList)) az.1 (by show 1 < 2; decide) (fun c H' Q' hc hq => ⟨_, rfl, c, sigs, rfl, rfl, _, rfl, hq⟩) ?_⟩
            have s2 := s1.trans (same_new (o := .lst ((z.cps.toList.filter fun c => !decide (c ∈ sigs.cps.toList)).map sg)) nD)
            refine ⟨Nat.zero_le _, fun p2 np2 => ?_⟩
            have s3 := s2.trans (same_new (o := .lst []) np2)
            refine ⟨_, _, .lst (SqL.of (by rw [upd_ne (ne_of_none upd_same np2)]; exact upd_same)) (dp_signs _), .lst (SqL.of upd_same) .nil, shaped_signs (low_mem az _), by decide +kernel, ?_⟩
            rw [eqv_signs, empty_all]
            refine ⟨_, rfl, ?_⟩
            cases ha : allS z with
            | false =>
              rw [ha] at hn
              rw [show (z.cps.toList.all fun c => decide (c ∈ sigs.cps.toList)) = false from ha]
              exact no hn _ s3
            | true =>
              rw [ha] at hn
              rw [show (z.cps.toList.all fun c => decide (c ∈ sigs.cps.toList)) = true from ha]
              refine ⟨_, rfl, z, 0, _, rfl, rfl, asc_line az, hd_at h1', z.cps.toList.headD 0, figs, rfl, rfl, ?_⟩
              have q2 := q _ s3
              rw [show nameV (.str z) = isN z from rfl, hn] at q2
              have e3 : (!decide (z.cps.toList.headD 0 ∈ figs.cps.toList)) = decide (z.cps.toList.headD 0 ∉ figs.cps.toList) := by
                by_cases h : z.cps.toList.headD 0 ∈ figs.cps.toList
                · rw [decide_eq_true h, decide_eq_false (fun n => n h)]
                  rfl
                · rw [decide_eq_false h, decide_eq_true h]
                  rfl
              rw [e3]
              exact q2
        · have e2 : decide ((z.length : Int) < 21) = false := decide_eq_false (by omega)
          rw [e2]
          refine no (lng ?_) H (Same.refl H)
          rw [decide_eq_false h2]
          simp
      · have h1' : ¬ 0 < z.length := fun h => h1 (decide_eq_true (by omega))
        refine ⟨_, rfl, ?_⟩
        refine no (lng ?_) H (Same.refl H)
        rw [decide_eq_false h1']
        rfl
    | _ => exact q H (Same.refl H)
end
end KC


set_option Elab.async false
set_option linter.all false
set_option maxRecDepth 100000
set_option maxHeartbeats 4000000
/-! Drawn texts. -/
namespace KD
open PySem PySem.Spec PyProof.Rows L2 KT KG KM KA KB KC GxR
def AscN (n : Nat) (z : Str) : Prop := z.length ≤ n ∧ ∀ c ∈ z.cps.toList, c < 128
theorem AscN.mono {n m : Nat} {z : Str} (h : AscN n z) (l : n ≤ m) : AscN m z := ⟨Nat.le_trans h.1 l, h.2⟩
theorem AscN.app {n m : Nat} {a b : Str} (h : AscN n a) (k : AscN m b) : AscN (n + m) (a ++ b) := by
  refine ⟨?_, fun c hc => ?_⟩
  · rw [Str.length_append]
    have := h.1
    have := k.1
    omega
  · have e : (a ++ b).cps.toList = a.cps.toList ++ b.cps.toList := by
      show (a.cps ++ b.cps).toList = _
      rw [Array.toList_append]
    rw [e] at hc
    rcases List.mem_append.mp hc with h1 | h1
    · exact h.2 c h1
    · exact k.2 c h1
theorem AscN.cut {n : Nat} {z : Str} (h : AscN n z) (lo hi : Option Int) : AscN n (cutS z lo hi) := by
  refine ⟨Nat.le_trans (cutS_length z lo hi) h.1, fun c hc => ?_⟩
  have e : (cutS z lo hi).cps.toList = (z.cps.toList.drop (HT.sIx z.length 0 lo)).take (HT.sIx z.length z.length hi - HT.sIx z.length 0 lo) := rfl
  rw [e] at hc
  exact h.2 c (List.mem_of_mem_drop (List.mem_of_mem_take hc))
theorem AscN.join1 {m : Nat} : ∀ ys : List Str, (∀ y ∈ ys, AscN m y) → AscN (ys.length * m) (Str.join "" ys)
  | [], _ => ⟨Nat.zero_le _, fun c hc => by cases hc⟩
  | [x], h => (h x (List.mem_cons_self ..)).mono (by simp)
  | x :: y :: r, h => by
    have ih := AscN.join1 (y :: r) fun z hz => h z (List.mem_cons_of_mem _ hz)
    have e0 : AscN 0 ("" : Str) := ⟨Nat.le_refl _, fun c hc => by cases hc⟩
    have hx := (h x (List.mem_cons_self ..)).app e0
    refine (hx.app ih).mono ?_
    simp only [List.length_cons, Nat.add_mul, Nat.one_mul]
    omega
theorem AscN.join {m : Nat} (ys : List Str) (h : ∀ y ∈ ys, AscN m y) : AscN (ys.length * m) (Txt.join "" ys) := by
  have e : Txt.join "" ys = Str.join "" ys := StrLaws.glued_eq_join _ _
  rw [e]
  exact AscN.join1 ys h
theorem AscN.asc {n : Nat} {z : Str} (h : AscN n z) (l : n ≤ 2000) : Asc z := ⟨Nat.le_trans h.1 l, h.2⟩
theorem ascn {n : Nat} {z : Str} (h : (decide (z.length ≤ n) && z.cps.toList.all fun c => decide (c < 128)) = true) : AscN n z := by
  rw [Bool.and_eq_true] at h
  exact ⟨of_decide_eq_true h.1, fun c hc => of_decide_eq_true (List.all_eq_true.mp h.2 c hc)⟩
theorem sum_len {ys : List Str} {m : Nat} (h : ∀ y ∈ ys, AscN m y) : (ys.map (·.length)).sum ≤ ys.length * m := by
  induction ys with
  | nil => exact Nat.zero_le _
  | cons a r ih =>
    have := (h a (List.mem_cons_self ..)).1
    have := ih fun y hy => h y (List.mem_cons_of_mem _ hy)
    simp only [List.map_cons, List.sum_cons, List.length_cons, Nat.add_mul, Nat.one_mul]
    omega
section
variable {X : Cx}
/-- a text times an int -/
def rRepS : R2 := fun x y H Q => ∃ z n, x = .str z ∧ y = .int n ∧ MulOk z n ∧ Q (.str (Txt.mul z n)) H
theorem op_repS : OpR X (binaryOp .Mult) rRepS := by
  intro pins s σ H x y v u Q I rx ry h
  obtain ⟨z, n, rfl, rfl, hz, q⟩ := h
  obtain ⟨t, rfl⟩ := rx
  obtain ⟨t', rfl⟩ := ry
  exact SB.mul hz (fun t' tk => ⟨.str _, H, I.tok _, ⟨_, rfl⟩, q⟩)
end
abbrev N__law_drawn_word : List Str := ["_law_deck_here", "_law_turn"]
abbrev P__law_drawn_word : List Str := ["_law_deck_here"]
theorem sc__law_drawn_word : FnScope N__law_drawn_word P__law_drawn_word (defScope s__law_drawn_word) := ⟨rfl, rfl, rfl, by decide +kernel, rfl, by decide +kernel, by decide +kernel⟩
abbrev N__law_string : List Str := ["_law_deck_here", "_law_way", "_law_signs", "_law_text", "_law_turn", "_law_at"]
abbrev P__law_string : List Str := ["_law_deck_here"]
theorem sc__law_string : FnScope N__law_string P__law_string (defScope s__law_string) := ⟨rfl, rfl, rfl, by decide +kernel, rfl, by decide +kernel, by decide +kernel⟩
theorem mul20 : MulOk "01" 20 := ⟨by decide +kernel, fun _ _ => by decide +kernel, fun _ _ => by decide +kernel⟩
theorem mul700 : MulOk "10" 700 := ⟨by decide +kernel, fun _ _ => by decide +kernel, fun _ _ => by decide +kernel⟩
theorem kept_asc : ∀ x ∈ keptL.map V.str, ∃ y : Str, x = .str y ∧ AscN 5 y := by
  intro x hx
  obtain ⟨y, hy, rfl⟩ := List.mem_map.mp hx
  have key : keptL.all (fun z => decide (z.length ≤ 5) && z.cps.toList.all fun c => decide (c < 128)) = true := by decide +kernel
  exact ⟨y, rfl, ascn (List.all_eq_true.mp key y hy)⟩
section
variable {P : Program} {w : World} {K : PySem.W.Frag} {mg : Str → Option Value} {base : Heap}
/-- what a pick out of a list just made is -/
theorem pickL {d L p : Addr} {H H1 : Hp} {xs : List V} {Q : VK} (f : Fr d L H H1) (np : H1 p = none) (h0 : 0 < xs.length) (hl : xs.length ≤ 1000)
    (h : ∀ x ∈ xs, ∀ H', Fr d L H H' → Q x H') : spPick K [.ref d, .ref p] (upd H1 p (.lst xs)) Q E0 := by
  have dk := f.dk
  have pL : p ≠ L := fun e => by
    obtain ⟨ns, m, k, h1, h2, _⟩ := dk
    rw [e, h2] at np
    cases np
  exact ⟨d, L, p, xs, rfl, dk.upd np, pL, .inl (SqL.of upd_same), h0, by omega, fun i x H' hi f2 => h x (List.mem_of_getElem? hi) H' (f.trans ((Fr.new dk np).trans f2))⟩
theorem pickT {d L p : Addr} {H H1 : Hp} {xs : List V} {Q : VK} (f : Fr d L H H1) (np : H1 p = none) (h0 : 0 < xs.length) (hl : xs.length ≤ 1000)
    (h : ∀ x ∈ xs, ∀ H', Fr d L H H' → Q x H') : spPick K [.ref d, .ref p] (upd H1 p (.tup xs)) Q E0 := by
  have dk := f.dk
  have pL : p ≠ L := fun e => by
    obtain ⟨ns, m, k, h1, h2, _⟩ := dk
    rw [e, h2] at np
    cases np
  exact ⟨d, L, p, xs, rfl, dk.upd np, pL, .inr (SqT.of upd_same), h0, by omega, fun i x H' hi f2 => h x (List.mem_of_getElem? hi) H' (f.trans ((Fr.new dk np).trans f2))⟩
def spTxt (n : Nat) : Sp := fun vs H Q _ => ∃ d L : Addr, vs = [.ref d] ∧ DK d L H ∧ ∀ z H', AscN n z → Fr d L H H' → Q (.str z) H'
theorem ok_drawn {fd fdD fdP : FuncData} (T : Tb mg) (D : Df K mg "_law_drawn_word" s__law_drawn_word P__law_drawn_word fd) (D__law_draw : Df K mg "_law_draw" s__law_draw P__law_draw fdD) (D__law_pick : Df K mg "_law_pick" s__law_pick P__law_pick fdP) :
    FnOk P w K mg base CX0 3 (He.fAd K ("_law_drawn_word", none)) fd P__law_drawn_word (spTxt 11) := by
  have G__law_pick : FnOk P w K mg base CX0 2 (He.fAd K ("_law_pick", none)) fdP P__law_pick (spPick K) := ok_pick D__law_pick T D__law_draw
  refine (fun_of D.F).ok sc__law_drawn_word (fun vs H Q E h => ?_) (fun cdv A outer s H vs Q E hr h => ?_)
  · obtain ⟨d, L, rfl, _⟩ := h
    rfl
  · obtain ⟨d, L, rfl, hD, q⟩ := h
    refine ⟨_, (pss_one (ps_ret (pe_bm PySem.F.plainAttrs_str PySem.F.slot_str_join PySem.F.type_str_join mt_join pe_str (pa_cons (pe_lc (own := [("_law_turn", 1)]) (g := gName 1) (tt := tYes) (by rfl) sc__law_drawn_word.nd (pi_range1 rfl T.range (pa_cons (pe_call G__law_pick (hr.mono (by first | decide | omega)) (by rfl) D__law_pick.g D__law_pick.F.kp D__law_pick.b .nil pass0 (pa_cons (pv 0) (pa_cons (pe_lst (pa_cons pe_int (pa_cons pe_int (pa_cons pe_int (pa_cons pe_int (pa_cons pe_int (pa_cons pe_int (pa_cons pe_int (pa_cons pe_int pa_nil))))))))) pa_nil))) pa_nil)) (blkOk_by (own := [("_law_turn", 1)]) (N := N__law_drawn_word) (sc := defScope s__law_drawn_word) (by decide +kernel)) (fun _ _ _ _ _ => (pg_name (i := 1) sc__law_drawn_word.nd rfl (.inl rfl))) (fun _ _ _ _ _ => pts_nil) (fun _ _ _ _ _ => (pe_call G__law_pick (hr.mono (by first | decide | omega)) (by rfl) D__law_pick.g D__law_pick.F.kp D__law_pick.b .nil pass0 (pa_cons (pv 0) (pa_cons (pe_lst (pa_cons pe_str (pa_cons pe_str pa_nil))) pa_nil))))) pa_nil)))), ?_⟩
    refine ⟨rfl, _, rfl, by show 8 ≤ sizeLine; decide, fun p np => pickL (Fr.refl hD) np (by show 0 < 8; decide) (by show 8 ≤ 1000; decide) fun x hx H2 f2 => ?_⟩
    have hx2 : ∃ r : Int, x = .int r ∧ 0 ≤ r ∧ r ≤ 11 := by
      simp only [List.mem_cons, List.not_mem_nil, or_false] at hx
      rcases hx with rfl | rfl | rfl | rfl | rfl | rfl | rfl | rfl <;> exact ⟨_, rfl, by decide, by decide⟩
    obtain ⟨r, rfl, r0, r1⟩ := hx2
    refine ⟨r, rfl, by omega, by omega, fun D nD => ?_⟩
    obtain ⟨nHD, ndD, nLD⟩ := f2.fresh nD
    refine lc_range (lo := 0) (n := r.toNat) (fun i H' => ∃ ys : List Str, H' D = some (.lst (ys.map V.str)) ∧ ys.length = i ∧ (∀ y ∈ ys, AscN 1 y) ∧ Fr d L H H') ⟨[], upd_same, rfl, (fun y hy => by cases hy), f2.mut nHD ndD nLD⟩ (fun i H' hi h => ?_) (fun H' h => ?_)
    · obtain ⟨ys, hys, hl, ha, f3⟩ := h
      refine ⟨rfl, ?_⟩
      refine ⟨_, rfl, by show 2 ≤ sizeLine; decide, fun p np => pickL (Fr.refl f3.dk) np (by show 0 < 2; decide) (by show 2 ≤ 1000; decide) fun x hx H4 f4 => ?_⟩
      obtain ⟨y, rfl, hy⟩ : ∃ y : Str, x = .str y ∧ AscN 1 y := by
        simp only [List.mem_cons, List.not_mem_nil, or_false] at hx
        rcases hx with rfl | rfl <;> exact ⟨_, rfl, ascn (by decide +kernel)⟩
      refine ⟨ys.map V.str, f4.st D _ ndD nLD hys, small1000 (by rw [List.length_map]; omega), ys ++ [y], ?_, ?_, ?_, (f3.trans f4).mut nHD ndD nLD⟩
      · rw [List.map_append]
        exact upd_same
      · rw [List.length_append, hl]
        rfl
      · intro z hz
        rcases List.mem_append.mp hz with h1 | h1
        · exact ha z h1
        · rw [List.mem_singleton.mp h1]
          exact hy
    · obtain ⟨ys, hys, hl, ha, f3⟩ := h
      refine ⟨"", D, ys, rfl, rfl, .inl (SqL.of hys), ?_, ?_⟩
      · have := sum_len ha
        have e : ("" : Str).length = 0 := rfl
        rw [e]
        omega
      · exact q _ _ ((AscN.join ys ha).mono (by omega)) f3
theorem ok_string {fd fdD fdP fdW fdS : FuncData} (T : Tb mg) (D : Df K mg "_law_string" s__law_string P__law_string fd) (D__law_draw : Df K mg "_law_draw" s__law_draw P__law_draw fdD) (D__law_pick : Df K mg "_law_pick" s__law_pick P__law_pick fdP)
    (D__law_drawn_word : Df K mg "_law_drawn_word" s__law_drawn_word P__law_drawn_word fdW) (D__law_words : Df K mg "_law_words" s__law_words P__law_words fdS) :
    FnOk P w K mg base CX0 4 (He.fAd K ("_law_string", none)) fd P__law_string (spTxt 2000) := by
  have G__law_draw : FnOk P w K mg base CX0 1 (He.fAd K ("_law_draw", none)) fdD P__law_draw spDraw := ok_draw D__law_draw T
  have G__law_pick : FnOk P w K mg base CX0 2 (He.fAd K ("_law_pick", none)) fdP P__law_pick (spPick K) := ok_pick D__law_pick T D__law_draw
  have G__law_drawn_word : FnOk P w K mg base CX0 3 (He.fAd K ("_law_drawn_word", none)) fdW P__law_drawn_word (spTxt 11) := ok_drawn T D__law_drawn_word D__law_draw D__law_pick
  have G__law_words : FnOk P w K mg base CX0 1 (He.fAd K ("_law_words", none)) fdS P__law_words spWds := ok_words D__law_words
  refine (fun_of D.F).ok sc__law_string (fun vs H Q E h => ?_) (fun cdv A outer s H vs Q E hr h => ?_)
  · obtain ⟨d, L, rfl, _⟩ := h
    rfl
  · obtain ⟨d, L, rfl, hD, q⟩ := h
    refine ⟨_, (pss_cons (ps_set (i := 1) sc__law_string.nd rfl (.inl rfl) (pe_call G__law_draw (hr.mono (by first | decide | omega)) (by rfl) D__law_draw.g D__law_draw.F.kp D__law_draw.b .nil pass0 (pa_cons (pv 0) (pa_cons pe_int pa_nil))))
      (pss_cons (ps_if (pt_cmpR op_eq (pv 1) pe_int (nomark _)) (pss_one (ps_ret (pe_op op_add_str (pe_call G__law_drawn_word (hr.mono (by first | decide | omega)) (by rfl) D__law_drawn_word.g D__law_drawn_word.F.kp D__law_drawn_word.b .nil pass0 (pa_cons (pv 0) pa_nil)) (pe_call G__law_pick (hr.mono (by first | decide | omega)) (by rfl) D__law_pick.g D__law_pick.F.kp D__law_pick.b .nil pass0 (pa_cons (pv 0) (pa_cons (pe_lst (pa_cons pe_str (pa_cons pe_str (pa_cons pe_str (pa_cons pe_str (pa_cons pe_str (pa_cons pe_str (pa_cons (pe_op op_repS pe_str pe_int) (pa_cons (pe_op op_repS pe_str pe_int) pa_nil))))))))) pa_nil)))))) pss_nil)
      (pss_cons (ps_if (pt_cmpR op_eq (pv 1) pe_int (nomark _)) (pss_one (ps_ret (pe_call G__law_pick (hr.mono (by first | decide | omega)) (by rfl) D__law_pick.g D__law_pick.F.kp D__law_pick.b .nil pass0 (pa_cons (pv 0) (pa_cons (pe_call0 G__law_words (hr.mono (by first | decide | omega)) (by rfl) D__law_words.g D__law_words.F.kp D__law_words.b .nil pass0) pa_nil))))) pss_nil)
      (pss_cons (ps_if (pt_cmpR op_eq (pv 1) pe_int (nomark _)) (pss_one (ps_ret (pe_op op_add_str (pe_call G__law_pick (hr.mono (by first | decide | omega)) (by rfl) D__law_pick.g D__law_pick.F.kp D__law_pick.b .nil pass0 (pa_cons (pv 0) (pa_cons (pe_call0 G__law_words (hr.mono (by first | decide | omega)) (by rfl) D__law_words.g D__law_words.F.kp D__law_words.b .nil pass0) pa_nil))) (pe_call G__law_pick (hr.mono (by first | decide | omega)) (by rfl) D__law_pick.g D__law_pick.F.kp D__law_pick.b .nil pass0 (pa_cons (pv 0) (pa_cons (pe_lst (pa_cons pe_str (pa_cons pe_str (pa_cons pe_str (pa_cons pe_str (pa_cons pe_str pa_nil)))))) pa_nil)))))) pss_nil)
      (pss_cons (ps_set (i := 2) sc__law_string.nd rfl (.inr rfl) pe_str)
      (pss_cons (ps_set (i := 3) sc__law_string.nd rfl (.inl rfl) (pe_bm PySem.F.plainAttrs_str PySem.F.slot_str_join PySem.F.type_str_join mt_join pe_str (pa_cons (pe_lc (own := [("_law_turn", 4)]) (g := gName 4) (tt := tYes) (by rfl) sc__law_string.nd (pi_range1 rfl T.range (pa_cons (pe_call G__law_pick (hr.mono (by first | decide | omega)) (by rfl) D__law_pick.g D__law_pick.F.kp D__law_pick.b .nil pass0 (pa_cons (pv 0) (pa_cons (pe_lst (pa_cons pe_int (pa_cons pe_int (pa_cons pe_int (pa_cons pe_int (pa_cons pe_int (pa_cons pe_int (pa_cons pe_int (pa_cons pe_int pa_nil))))))))) pa_nil))) pa_nil)) (blkOk_by (own := [("_law_turn", 4)]) (N := N__law_string) (sc := defScope s__law_string) (by decide +kernel)) (fun _ _ _ _ _ => (pg_name (i := 4) sc__law_string.nd rfl (.inl rfl))) (fun _ _ _ _ _ => pts_nil) (fun _ _ _ _ _ => (pe_ix ix_str (pv 2) (pe_call G__law_draw (hr.mono (by first | decide | omega)) (by rfl) D__law_draw.g D__law_draw.F.kp D__law_draw.b .nil pass0 (pa_cons (pv 0) (pa_cons pe_int pa_nil))) (fun _ _ => rfl)))) pa_nil)))
      (pss_cons (ps_if (pt_cmpR op_lt (pv 1) pe_int (nomark _)) (pss_one (ps_ret (pv 3))) pss_nil)
      (pss_cons (ps_set (i := 5) sc__law_string.nd rfl (.inl rfl) (pe_call G__law_draw (hr.mono (by first | decide | omega)) (by rfl) D__law_draw.g D__law_draw.F.kp D__law_draw.b .nil pass0 (pa_cons (pv 0) (pa_cons (pe_op op_add (pe_callB call_len_str (by rfl) T.len (by decide +kernel) (pa_cons (pv 3) pa_nil)) pe_int) pa_nil))))
      (pss_one (ps_ret (pe_op op_add_str (pe_op op_add_str (pe_slice sl_str (pv 3) po_none (po_some (pv 5))) (pe_call G__law_pick (hr.mono (by first | decide | omega)) (by rfl) D__law_pick.g D__law_pick.F.kp D__law_pick.b .nil pass0 (pa_cons (pv 0) (pa_cons (pe_lst (pa_cons pe_str (pa_cons pe_str (pa_cons pe_str (pa_cons pe_str (pa_cons pe_str (pa_cons pe_str (pa_cons pe_str (pa_cons pe_str (pa_cons pe_str (pa_cons pe_str (pa_cons pe_str (pa_cons pe_str pa_nil))))))))))))) pa_nil)))) (pe_slice sl_str (pv 3) (po_some (pe_op op_add (pv 5) (pe_call G__law_draw (hr.mono (by first | decide | omega)) (by rfl) D__law_draw.g D__law_draw.F.kp D__law_draw.b .nil pass0 (pa_cons (pv 0) (pa_cons pe_int pa_nil))))) po_none)))))))))))), ?_⟩
    refine ⟨_, rfl, d, L, _, rfl, hD, by decide, by decide, fun way H1 w0 w1 f1 => ?_⟩
    refine ⟨_, rfl, rfl, _, rfl, ite2 (fun _ => ?_) (fun _ => ?_)⟩
    · refine ⟨_, rfl, d, L, rfl, f1.dk, fun z H2 az f2 => ?_⟩
      refine ⟨_, rfl, _, 20, rfl, rfl, mul20, _, 700, rfl, rfl, mul700, by show 8 ≤ sizeLine; decide, fun p np => pickL (f1.trans f2) np (by show 0 < 8; decide) (by show 8 ≤ 1000; decide) fun x hx H3 f3 => ?_⟩
      obtain ⟨y, rfl, hy⟩ : ∃ y : Str, x = .str y ∧ AscN 1400 y := by
        simp only [List.mem_cons, List.not_mem_nil, or_false] at hx
        rcases hx with rfl | rfl | rfl | rfl | rfl | rfl | rfl | rfl <;> exact ⟨_, rfl, ascn (by decide +kernel)⟩
      have a := az.app hy
      exact ⟨z, y, rfl, rfl, Nat.le_trans (by rw [← Str.length_append]; exact a.1) (by decide), q _ _ (a.mono (by decide)) f3⟩
    refine ⟨_, rfl, rfl, _, rfl, ite2 (fun _ => ?_) (fun _ => ?_)⟩
    · refine ⟨_, rfl, rfl, fun p np => pickT f1 np (by decide +kernel) (by decide +kernel) fun x hx H3 f3 => ?_⟩
      obtain ⟨y, rfl, hy⟩ := kept_asc x hx
      exact q _ _ (hy.mono (by decide)) f3
    refine ⟨_, rfl, rfl, _, rfl, ite2 (fun _ => ?_) (fun _ => ?_)⟩
    · refine ⟨_, rfl, rfl, fun p np => pickT f1 np (by decide +kernel) (by decide +kernel) fun x hx H3 f3 => ?_⟩
      obtain ⟨y, rfl, hy⟩ := kept_asc x hx
      refine ⟨_, rfl, by show 5 ≤ sizeLine; decide, fun p2 np2 => pickL f3 np2 (by show 0 < 5; decide) (by show 5 ≤ 1000; decide) fun x2 hx2 H4 f4 => ?_⟩
      obtain ⟨y2, rfl, hy2⟩ : ∃ y : Str, x2 = .str y ∧ AscN 1 y := by
        simp only [List.mem_cons, List.not_mem_nil, or_false] at hx2
        rcases hx2 with rfl | rfl | rfl | rfl | rfl <;> exact ⟨_, rfl, ascn (by decide +kernel)⟩
      have a := hy.app hy2
      exact ⟨y, y2, rfl, rfl, Nat.le_trans (by rw [← Str.length_append]; exact a.1) (by decide), q _ _ (a.mono (by decide)) f4⟩
    refine ⟨rfl, _, rfl, by show 8 ≤ sizeLine; decide, fun p np => pickL f1 np (by show 0 < 8; decide) (by show 8 ≤ 1000; decide) fun x hx H2 f2 => ?_⟩
    have hx2 : ∃ r : Int, x = .int r ∧ 0 ≤ r ∧ r ≤ 21 := by
      simp only [List.mem_cons, List.not_mem_nil, or_false] at hx
      rcases hx with rfl | rfl | rfl | rfl | rfl | rfl | rfl | rfl <;> exact ⟨_, rfl, by decide, by decide⟩
    obtain ⟨r, rfl, r0, r1⟩ := hx2
    refine ⟨r, rfl, by omega, by omega, fun D nD => ?_⟩
    obtain ⟨nHD, ndD, nLD⟩ := f2.fresh nD
    refine lc_range (lo := 0) (n := r.toNat) (fun i H' => ∃ ys : List Str, H' D = some (.lst (ys.map V.str)) ∧ ys.length = i ∧ (∀ y ∈ ys, AscN 1 y) ∧ Fr d L H H') ⟨[], upd_same, rfl, (fun y hy => by cases hy), f2.mut nHD ndD nLD⟩ (fun i H' hi h => ?_) (fun H' h => ?_)
    · obtain ⟨ys, hys, hl, ha, f3⟩ := h
      refine ⟨rfl, ?_⟩
      refine ⟨_, rfl, _, rfl, d, L, _, rfl, f3.dk, by decide, by decide, fun r2 H4 r0 r1 f4 => ?_⟩
      have hs : ∀ n : Nat, n < 38 → ∃ c, ("abcxyz_019qwertyuioplkjhgfdsmnv2345678" : Str).cps.toList[n]? = some c ∧ c < 128 := by decide +kernel
      obtain ⟨c, hc, hc1⟩ := hs r2.toNat (by omega)
      have e : r2 = ((r2.toNat : Nat) : Int) := by omega
      refine ⟨_, r2, c, rfl, rfl, (by decide +kernel), (by rw [e]; exact atI_nat hc), ?_⟩
      refine ⟨ys.map V.str, f4.st D _ ndD nLD hys, small1000 (by rw [List.length_map]; omega), ys ++ [⟨#[c]⟩], ?_, ?_, ?_, (f3.trans f4).mut nHD ndD nLD⟩
      · rw [List.map_append]
        exact upd_same
      · rw [List.length_append, hl]
        rfl
      · intro z hz
        rcases List.mem_append.mp hz with h1 | h1
        · exact ha z h1
        · rw [List.mem_singleton.mp h1]
          exact ⟨Nat.le_refl _, fun c' hc' => by
            have : c' = c := by simpa using hc'
            rw [this]
            exact hc1⟩
    · obtain ⟨ys, hys, hl, ha, f3⟩ := h
      refine ⟨"", D, ys, rfl, rfl, .inl (SqL.of hys), ?_, ?_⟩
      · have := sum_len ha
        have e : ("" : Str).length = 0 := rfl
        rw [e]
        omega
      · have at0 : AscN 21 (Txt.join "" ys) := (AscN.join ys ha).mono (by omega)
        generalize Txt.join "" ys = z at at0
        refine ⟨_, rfl, _, _, rfl, rfl, _, rfl, ite2 (fun _ => ?_) (fun _ => ?_)⟩
        · exact ⟨_, rfl, q _ _ (at0.mono (by decide)) f3⟩
        have hz : z.length ≤ sizeLine := Nat.le_trans at0.1 (by decide)
        have hz1 := at0.1
        refine ⟨_, rfl, _, rfl, z, rfl, hz, _, _, rfl, rfl, d, L, _, rfl, f3.dk, by omega, by omega, fun t H4 t0 t1 f4 => ?_⟩
        have f34 := f3.trans f4
        refine ⟨_, rfl, _, rfl, t, rfl, z, rfl, hz, ?_⟩
        refine ⟨_, rfl, by show 12 ≤ sizeLine; decide, fun p np => pickL f34 np (by show 0 < 12; decide) (by show 12 ≤ 1000; decide) fun x hx H5 f5 => ?_⟩
        obtain ⟨y, rfl, hy⟩ : ∃ y : Str, x = .str y ∧ AscN 1 y := by
          simp only [List.mem_cons, List.not_mem_nil, or_false] at hx
          rcases hx with rfl | rfl | rfl | rfl | rfl | rfl | rfl | rfl | rfl | rfl | rfl | rfl <;> exact ⟨_, rfl, ascn (by decide +kernel)⟩
        have a := (at0.cut none (some t)).app hy
        refine ⟨_, y, rfl, rfl, Nat.le_trans (by rw [← Str.length_append]; exact a.1) (by decide), ?_⟩
        refine ⟨_, rfl, _, rfl, _, rfl, d, L, _, rfl, f5.dk, by decide, by decide, fun u H6 u0 u1 f6 => ?_⟩
        refine ⟨_, _, rfl, rfl, _, rfl, z, rfl, hz, ?_⟩
        have b := a.app (at0.cut (some (t + u)) none)
        exact ⟨_, _, rfl, rfl, Nat.le_trans (by rw [← Str.length_append]; exact b.1) (by decide), q _ _ (b.mono (by decide)) (f5.trans f6)⟩
end
end KD


set_option Elab.async false
set_option linter.all false
set_option maxRecDepth 100000
set_option maxHeartbeats 4000000
/-! The law itself. -/
namespace KLaw
open PySem PySem.Spec PyProof.Rows L2 KT KG KM KA KB KC KD GxR
section
variable {K : PySem.W.Frag} {x qual : Str} {params : Arguments} {body : List Stmt} {scope : Scope} {f : Addr} {fd : FuncData} {ps ks : List Str}
theorem kb0_of (F : FunD K x qual params body scope [] [] f fd)
    (h : ∀ (kV doc pm : Value) (an : Option Addr) (cdv ct : Value) (ws : List Value), ws.length = ps.length → bindArgs (PySem.W.fnOf x qual params body scope .none kV doc pm an cdv ct) ⟨[], ks.zip ws⟩ = pure (ps.zip ws)) : KB0 fd ps ks (fun l => l) := by
  obtain ⟨oc, od, dV, kV, doc, pm, an, cdv, ct, osl, rfl, lk, hcd, hD, hK⟩ := F.ex
  rcases hD with ⟨_, rfl⟩ | ⟨e, _⟩
  · exact ⟨fun s ws hl => .of_eq (h kV doc pm an cdv ct ws hl), fun r => r⟩
  · exact absurd rfl e
end
theorem TabG.fr {d L P : Addr} {H H' : Hp} (t : TabG H P) (h : DK d L H) (f : Fr d L H H') : TabG H' P := by
  obtain ⟨ps, e, ok⟩ := t
  obtain ⟨ns, m, k, h1, h2, _⟩ := h
  exact ⟨ps, f.st _ _ (ne_of e h1 (by intro z; cases z)) (ne_of e h2 (by intro z; cases z)) e, ok⟩
theorem TabG.same {P : Addr} {H H' : Hp} (t : TabG H P) (s : Same H H') : TabG H' P := by
  obtain ⟨ps, e, ok⟩ := t
  exact ⟨ps, s _ _ e, ok⟩
theorem DK.same {d L : Addr} {H H' : Hp} (h : DK d L H) (s : Same H H') : DK d L H' := by
  obtain ⟨ns, m, k, h1, h2, h3⟩ := h
  exact ⟨ns, m, k, s _ _ h1, s _ _ h2, h3⟩
theorem Th.same {d L : Addr} {H H' : Hp} {v : V} (t : Th d L H v) (s : Same H H') : Th d L H' v := by
  cases t with
  | non => exact .non
  | bl b => exact .bl b
  | int i => exact .int i
  | str h => exact .str h
  | lst n e => exact .lst n (s _ _ e)
  | tup e => exact .tup (s _ _ e)
  | dk n e => exact .dk n (s _ _ e)
/-- what stands but for a table -/
def Ntb (P : Addr) (H H' : Hp) : Prop := TabG H' P ∧ ∀ b o, b ≠ P → H b = some o → H' b = some o
theorem Ntb.of {P : Addr} {H H' : Hp} (t : TabG H P) (h : Tabbed P H H' ∨ H' = H) : Ntb P H H' := by
  rcases h with h | rfl
  · exact ⟨h.1, fun b o n e => by rw [h.2 b n]; exact e⟩
  · exact ⟨t, fun b o n e => e⟩
theorem Ntb.same {P : Addr} {H H' : Hp} (t : TabG H P) (s : Same H H') : Ntb P H H' := ⟨TabG.same t s, fun b o _ e => s b o e⟩
theorem Ntb.trans {P : Addr} {H H1 H2 : Hp} (a : Ntb P H H1) (b : Ntb P H1 H2) : Ntb P H H2 := ⟨b.1, fun c o n e => b.2 c o n (a.2 c o n e)⟩
theorem Ntb.dk {d L P : Addr} {H H' : Hp} (h : DK d L H) (t : TabG H P) (n : Ntb P H H') : DK d L H' := by
  obtain ⟨ns, m, k, h1, h2, h3⟩ := h
  obtain ⟨ps, e, _⟩ := t
  exact ⟨ns, m, k, n.2 _ _ (ne_of h1 e (by intro z; cases z)) h1, n.2 _ _ (ne_of h2 e (by intro z; cases z)) h2, h3⟩
theorem Ntb.th {d L P : Addr} {H H' : Hp} {v : V} (h : Th d L H v) (t : TabG H P) (n : Ntb P H H') : Th d L H' v := by
  obtain ⟨ps, e2, _⟩ := t
  cases h with
  | non => exact .non
  | bl b => exact .bl b
  | int i => exact .int i
  | str h => exact .str h
  | lst k e => exact .lst k (n.2 _ _ (ne_of e e2 (by intro z; cases z)) e)
  | tup e => exact .tup (n.2 _ _ (ne_of e e2 (by intro z; cases z)) e)
  | dk k e => exact .dk k (n.2 _ _ (ne_of e e2 (by intro z; cases z)) e)
theorem Ntb.tup {P p : Addr} {H H' : Hp} {xs : List V} (h : H p = some (.tup xs)) (t : TabG H P) (n : Ntb P H H') : H' p = some (.tup xs) := by
  obtain ⟨ps, e2, _⟩ := t
  exact n.2 _ _ (ne_of h e2 (by intro z; cases z)) h
abbrev N_law : List Str := ["_law_script", "_law_deck_here", "_law_turn", "_law_thing", "_law_due"]
abbrev P_law : List Str := ["_law_script"]
theorem sc_law : FnScope N_law P_law (defScope s_law) := ⟨rfl, rfl, rfl, by decide +kernel, rfl, by decide +kernel, by decide +kernel⟩
section
variable {P : Program} {w : World} {K : PySem.W.Frag} {mg : Str → Option Value} {base : Heap}
theorem shown2 (a b : Bool) : (PyData.tuple [.bool a, .bool b]).showable = true ∧ (PyData.tuple [.bool a, .bool b]).canLay0 = true ∧ (PyData.tuple [.bool a, .bool b]).depth ≤ 62 ∧ (PyData.tuple [.bool a, .bool b]).shown.length ≤ sizeLine := by
  cases a <;> cases b <;> decide +kernel
theorem dp2 {p : Addr} {H : Hp} {a b : Bool} (h : H p = some (.tup [.bl a, .bl b])) : Dp K H (.ref p) (.tuple [.bool a, .bool b]) := .tup (SqT.of h) (.cons (.bl a) (.cons (.bl b) .nil))
abbrev PT : PySem.W.Frag → Addr := fun K => (He.cT K ("is_name", none)).2
def spLaw (K : PySem.W.Frag) : Sp := fun vs H Q _ => ∃ (a : Addr) (ns : List Int), vs = [.ref a] ∧ SqL K H a (ns.map V.int) ∧ TabG H (PT K) ∧ ∀ H', Q (.bl true) H'
theorem ok_law {fd f1 f2 f3 f4 f5 f6 f7 f8 f9 f10 f11 : FuncData} (T : Tb mg) (D : Df K mg "law" s_law P_law fd)
    (D__law_deck : Df K mg "_law_deck" s__law_deck P__law_deck f1) (D__law_draw : Df K mg "_law_draw" s__law_draw P__law_draw f2) (D__law_pick : Df K mg "_law_pick" s__law_pick P__law_pick f3)
    (D__law_any : Df K mg "_law_any" s__law_any P__law_any f4) (D__law_words : Df K mg "_law_words" s__law_words P__law_words f5) (D__law_is_word : Df K mg "_law_is_word" s__law_is_word P__law_is_word f6)
    (D__law_is_name : Df K mg "_law_is_name" s__law_is_name P__law_is_name f7) (D__law_drawn_word : Df K mg "_law_drawn_word" s__law_drawn_word P__law_drawn_word f8) (D__law_string : Df K mg "_law_string" s__law_string P__law_string f9)
    (D_is_word : Df K mg "is_word" s_is_word P_is_word f10) (D_is_name : Df K mg "is_name" s_is_name P_is_name f11)
    {a_KEPT_WORDS : Addr} (mg_KEPT_WORDS : mg "KEPT_WORDS" = some (.ref a_KEPT_WORDS)) (hK : ∀ H, SqT K H a_KEPT_WORDS (keptL.map V.str))
    (TB_is_name : TabB base mg (He.cT K ("is_name", none)).1 (He.cT K ("is_name", none)).2) (kb_is_word : KB0 f10 P_is_word ["thing"] (fun l => l)) (kb_is_name : KB0 f11 P_is_name ["thing"] (fun l => l)) :
    FnG P w K mg base 7 (He.fAd K ("law", none)) fd P_law (spLaw K) := by
  have G__law_deck : FnOk P w K mg base CX0 1 (He.fAd K ("_law_deck", none)) f1 P__law_deck (spDeck K) := ok_deck D__law_deck T
  have G__law_draw : FnOk P w K mg base CX0 1 (He.fAd K ("_law_draw", none)) f2 P__law_draw spDraw := ok_draw D__law_draw T
  have G__law_pick : FnOk P w K mg base CX0 2 (He.fAd K ("_law_pick", none)) f3 P__law_pick (spPick K) := ok_pick D__law_pick T D__law_draw
  have G__law_any : FnOk P w K mg base CX0 6 (He.fAd K ("_law_any", none)) f4 P__law_any (spAny 3) := ok_any T D__law_any D__law_draw D__law_pick 3
  have G__law_is_word : FnOk P w K mg base CX0 1 (He.fAd K ("_law_is_word", none)) f6 P__law_is_word (spW K) := ok_lw T D__law_is_word
  have G__law_is_name : FnOk P w K mg base CX0 2 (He.fAd K ("_law_is_name", none)) f7 P__law_is_name (fun vs H Q _ => ∃ x, vs = [x] ∧ Sv K H x ∧ ∀ H', Same H H' → Q (.bl (nameV x)) H') := ok_ln T D__law_is_name D__law_words
  have G__law_string : FnOk P w K mg base CX0 4 (He.fAd K ("_law_string", none)) f9 P__law_string (spTxt 2000) := ok_string T D__law_string D__law_draw D__law_pick D__law_drawn_word D__law_words
  have G_is_word : FnOk P w K mg base CX0 1 (He.fAd K ("is_word", none)) f10 P_is_word (spW K) := ok_is_word T D_is_word
  have G_is_name : FnOk P w K mg base CX0 5 (He.fAd K ("is_name", none)) f11 P_is_name (spN K (PT K)) := ok_is_name T D_is_name mg_KEPT_WORDS hK TB_is_name
  refine okG (fun_of D.F) sc_law (fun vs H Q E h => ?_) (fun cdv A outer s H vs Q E hA hr h => ?_)
  · obtain ⟨a, ns, rfl, _⟩ := h
    rfl
  · obtain ⟨a, ns, rfl, hS, tg0, q⟩ := h
    refine ⟨_, (pss_cons (ps_set (i := 1) sc_law.nd rfl (.inl rfl) (pe_call G__law_deck (hr.mono (by first | decide | omega)) (by rfl) D__law_deck.g D__law_deck.F.kp D__law_deck.b .nil pass0 (pa_cons (pv 0) (pa_cons pe_int pa_nil))))
      (pss_cons (ps_for PassesOwn.never rfl (pi_range1 rfl T.range (pa_cons pe_int pa_nil)) (pg_name (i := 2) sc_law.nd rfl (.inl rfl)) (C8.pss_cut (ps_set (i := 3) sc_law.nd rfl (.inl rfl) (pe_ifExp (pt_cmpR op_gt (pe_call G__law_draw (hr.mono (by first | decide | omega)) (by rfl) D__law_draw.g D__law_draw.F.kp D__law_draw.b .nil pass0 (pa_cons (pv 1) (pa_cons pe_int pa_nil))) pe_int (nomark _)) (pe_call G__law_string (hr.mono (by first | decide | omega)) (by rfl) D__law_string.g D__law_string.F.kp D__law_string.b .nil pass0 (pa_cons (pv 1) pa_nil)) (pe_call G__law_any (hr.mono (by first | decide | omega)) (by rfl) D__law_any.g D__law_any.F.kp D__law_any.b .nil pass0 (pa_cons (pv 1) (pa_cons pe_int pa_nil)))))
          (C8.pss_cut (ps_if (pt_cmpR op_eq (pe_call G__law_draw (hr.mono (by first | decide | omega)) (by rfl) D__law_draw.g D__law_draw.F.kp D__law_draw.b .nil pass0 (pa_cons (pv 1) (pa_cons pe_int pa_nil))) pe_int (nomark _)) (pss_one (ps_set (i := 3) sc_law.nd rfl (.inl rfl) (pe_call G__law_pick (hr.mono (by first | decide | omega)) (by rfl) D__law_pick.g D__law_pick.F.kp D__law_pick.b .nil pass0 (pa_cons (pv 1) (pa_cons (pe_lst (pa_cons (pe_lst (pa_cons (pv 3) pa_nil)) (pa_cons (pe_tup (pa_cons (pv 3) pa_nil)) (pa_cons (pe_ifExp (pt_val (pe_callB call_isi (by rfl) T.isinstance (by decide +kernel) (pa_cons (pv 3) (pa_cons (pe_bltn (v := .ty "str") (by rfl) T.str (by decide +kernel) rfl) pa_nil)))) (pe_disp (pps_cons (pv 3) pe_int pps_nil) (by rfl) (by rfl) (fun z => by cases z) (by decide)) pe_dnewK) (pa_cons pe_non pa_nil))))) pa_nil))))) pss_nil)
          (pss_cons (ps_set (i := 4) sc_law.nd rfl (.inl rfl) (pe_tup (pa_cons (pe_call G__law_is_word (hr.mono (by first | decide | omega)) (by rfl) D__law_is_word.g D__law_is_word.F.kp D__law_is_word.b .nil pass0 (pa_cons (pv 3) pa_nil)) (pa_cons (pe_call G__law_is_name (hr.mono (by first | decide | omega)) (by rfl) D__law_is_name.g D__law_is_name.F.kp D__law_is_name.b .nil pass0 (pa_cons (pv 3) pa_nil)) pa_nil))))
          (pss_one (ps_if (PW.pt (pw_or (pt_cmpR op_ne (pe_callB (call_reprD hr hA) (by rfl) T.repr (by decide +kernel) (pa_cons (pe_tup (pa_cons (pe_call G_is_word (hr.mono (by first | decide | omega)) (by rfl) D_is_word.g D_is_word.F.kp D_is_word.b .nil pass0 (pa_cons (pv 3) pa_nil)) (pa_cons (pe_call G_is_name (hr.mono (by first | decide | omega)) (by rfl) D_is_name.g D_is_name.F.kp D_is_name.b .nil pass0 (pa_cons (pv 3) pa_nil)) pa_nil))) pa_nil)) (pe_callB (call_reprD hr hA) (by rfl) T.repr (by decide +kernel) (pa_cons (pv 4) pa_nil)) (nomark _)) (pw_or1 (pt_cmpR op_ne (pe_callB (call_reprD hr hA) (by rfl) T.repr (by decide +kernel) (pa_cons (pe_tup (pa_cons (pe_callK0 G_is_word (hr.mono (by first | decide | omega)) (by rfl) D_is_word.g D_is_word.F.kp kb_is_word pass0 (pk_cons (pv 3) pk_nil)) (pa_cons (pe_callK0 G_is_name (hr.mono (by first | decide | omega)) (by rfl) D_is_name.g D_is_name.F.kp kb_is_name pass0 (pk_cons (pv 3) pk_nil)) pa_nil))) pa_nil)) (pe_callB (call_reprD hr hA) (by rfl) T.repr (by decide +kernel) (pa_cons (pv 4) pa_nil)) (nomark _))))) (pss_one (ps_ret pe_bl)) pss_nil))))))
      (pss_one (ps_ret pe_bl)))), ?_⟩
    refine ⟨_, rfl, a, ns, 13745001, rfl, hS, by decide, by decide, fun d L H1 st nd nL dk1 => ?_⟩
    have tg1 : TabG H1 (PT K) := TabG.same tg0 st
    refine ⟨12, rfl, (by omega), (by omega), for_range (lo := 0) (n := 12) (fun i σ H' => ∃ c2 c3 c4, σ = [some (.ref a), some (.ref d), c2, c3, c4] ∧ DK d L H' ∧ TabG H' (PT K)) ⟨none, none, none, rfl, dk1, tg1⟩ (fun i σ H2 _ h => ?_) (fun σ H2 h => ?_)⟩
    · obtain ⟨c2, c3, c4, rfl, dk2, tg2⟩ := h
      have mid : ∀ (H3 : Hp) (v : V), Fr d L H2 H3 → Th d L H3 v → ∃ v' c4', [some (V.ref a), some (.ref d), some (.int (0 + (i : Int))), some v, c4] = [some (.ref a), some (.ref d), some (.int (0 + (i : Int))), some v', c4'] ∧ Th d L H3 v' ∧ DK d L H3 ∧ TabG H3 (PT K) :=
        fun H3 v f t => ⟨v, c4, rfl, t, f.dk, TabG.fr tg2 dk2 f⟩
      refine ⟨fun σ' H' => ∃ v c4', σ' = [some (.ref a), some (.ref d), some (.int (0 + (i : Int))), some v, c4'] ∧ Th d L H' v ∧ DK d L H' ∧ TabG H' (PT K), ?_, fun σ' H3 hM => ?_⟩
      · refine ⟨_, rfl, d, L, _, rfl, dk2, by decide, by decide, fun r H3 r0 r1 f3 => ?_⟩
        refine ⟨_, _, rfl, rfl, _, rfl, ite2 (fun _ => ?_) (fun _ => ?_)⟩
        · exact ⟨_, rfl, d, L, rfl, f3.dk, fun z H4 az f4 => mid H4 _ (f3.trans f4) (.str az)⟩
        · exact ⟨_, rfl, d, L, rfl, f3.dk, fun v H4 tv f4 => mid H4 _ (f3.trans f4) tv⟩
      clear mid
      obtain ⟨v, c4', rfl, tv, dk3, tg3⟩ := hM
      refine ⟨fun σ' H' => ∃ v c4', σ' = [some (.ref a), some (.ref d), some (.int (0 + (i : Int))), some v, c4'] ∧ Th d L H' v ∧ DK d L H' ∧ TabG H' (PT K), ?_, fun σ' H5 hM => ?_⟩
      · refine ⟨_, rfl, d, L, _, rfl, dk3, by decide, by decide, fun r H4 r0 r1 f4 => ?_⟩
        refine ⟨rfl, _, rfl, ite2 (fun _ => ?_) (fun _ => ?_)⟩
        · have dk4 := f4.dk
          have tv4 := Th.fr tv dk3 f4
          have tg4 := TabG.fr tg3 dk3 f4
          have pL : ∀ {p : Addr} {H : Hp}, DK d L H → H p = none → p ≠ L ∧ p ≠ d := fun {p} {H} dk np => by
            obtain ⟨ns, m, k, h1, h2, _⟩ := dk
            exact ⟨fun e => (by rw [e, h2] at np; cases np), fun e => (by rw [e, h1] at np; cases np)⟩
          have fin : ∀ (H7 : Hp) (p1 p2 p3 : Addr) (kvs : List (Key × V)), DK d L H7 → TabG H7 (PT K) → H7 p1 = some (.lst [v]) → p1 ≠ L → H7 p2 = some (.tup [v]) → H7 p3 = some (.dK kvs) → p3 ≠ d → ∀ p, H7 p = none →
              spPick K [.ref d, .ref p] (upd H7 p (.lst [.ref p1, .ref p2, .ref p3, .non])) (fun y H' => ∃ v' c4'', [some (V.ref a), some (.ref d), some (.int (0 + (i : Int))), some y, c4'] = [some (.ref a), some (.ref d), some (.int (0 + (i : Int))), some v', c4''] ∧ Th d L H' v' ∧ DK d L H' ∧ TabG H' (PT K)) E0 := by
            intro H7 p1 p2 p3 kvs dk7 tg7 e1 n1 e2 e3 n3 p np
            refine pickL (Fr.refl dk7) np (by show 0 < 4; decide) (by show 4 ≤ 1000; decide) fun y hy H8 f8 => ⟨y, c4', rfl, ?_, f8.dk, TabG.fr tg7 dk7 f8⟩
            refine Th.fr ?_ dk7 f8
            simp only [List.mem_cons, List.not_mem_nil, or_false] at hy
            rcases hy with rfl | rfl | rfl | rfl
            · exact .lst n1 e1
            · exact .tup e2
            · exact .dk n3 e3
            · exact .non
          refine ⟨_, rfl, _, rfl, by show 1 ≤ sizeLine; decide, fun p1 n1 => ?_⟩
          have dk5 : DK d L (upd H4 p1 (.lst [v])) := dk4.upd n1
          have tg5 := TabG.same tg4 (same_new (o := .lst [v]) n1)
          have tv5 := Th.same tv4 (same_new (o := .lst [v]) n1)
          have e1 : (upd H4 p1 (.lst [v])) p1 = some (.lst [v]) := upd_same
          have q1 := (pL dk4 n1).1
          generalize upd H4 p1 (.lst [v]) = H5 at dk5 tg5 tv5 e1
          refine ⟨_, rfl, by show 1 ≤ sizeLine; decide, fun p2 n2 => ?_⟩
          have dk6 : DK d L (upd H5 p2 (.tup [v])) := dk5.upd n2
          have s6 : Same H5 (upd H5 p2 (.tup [v])) := same_new n2
          have tg6 := TabG.same tg5 s6
          have tv6 := Th.same tv5 s6
          have e2 : (upd H5 p2 (.tup [v])) p2 = some (.tup [v]) := upd_same
          have e1' := s6 _ _ e1
          generalize upd H5 p2 (.tup [v]) = H6 at dk6 tg6 tv6 e1' e2
          obtain ⟨t0, ht1, ht2⟩ := Th.isStr (K := K) tv6
          refine ⟨_, rfl, v, _, .type t0, _, _, rfl, .ty "str", ht1, kit_ty ht2, _, rfl, ite2 (fun hs => ?_) (fun _ => ?_)⟩
          · cases v with
            | str z =>
              intro p3 n3
              have q3 := (pL dk6 n3).2
              have s7 : Same H6 (upd H6 p3 (.dK [])) := same_new n3
              refine ⟨_, rfl, upd_same, [(Sum.inr z, .int 1)], rfl, (by show 1 ≤ 15; decide), ?_⟩
              have s8 : Same H6 (upd (upd H6 p3 (.dK [])) p3 (.dK (mergeK [] [(Sum.inr z, .int 1)]))) := fun b o e => by
                have nb : b ≠ p3 := ne_of_none e n3
                rw [upd_ne nb, upd_ne nb]
                exact e
              exact ⟨by show 4 ≤ sizeLine; decide, fin _ p1 p2 p3 _ (DK.same dk6 s8) (TabG.same tg6 s8) (s8 _ _ e1') q1 (s8 _ _ e2) upd_same q3⟩
            | _ => exact Bool.noConfusion (show false = true from hs)
          · intro p3 n3
            have q3 := (pL dk6 n3).2
            have s8 : Same H6 (upd H6 p3 (.dK [])) := same_new n3
            exact ⟨by show 4 ≤ sizeLine; decide, fin _ p1 p2 p3 _ (DK.same dk6 s8) (TabG.same tg6 s8) (s8 _ _ e1') q1 (s8 _ _ e2) upd_same q3⟩
        · exact ⟨v, c4', rfl, Th.fr tv dk3 f4, f4.dk, TabG.fr tg3 dk3 f4⟩
      obtain ⟨x, c5, rfl, tx, dk5, tg5⟩ := hM
      refine ⟨_, rfl, x, rfl, Th.sv tx, fun H6 s6 => ⟨_, rfl, x, rfl, Th.sv (Th.same tx s6), fun H7 s7 => ⟨by show 2 ≤ sizeLine; decide, fun p np => ?_⟩⟩⟩
      have s8 : Same H5 (upd H7 p (.tup [.bl (wordV x), .bl (nameV x)])) := (s6.trans s7).trans (same_new np)
      have dk8 := DK.same dk5 s8
      have tg8 := TabG.same tg5 s8
      have tx8 := Th.same tx s8
      have e8 : (upd H7 p (.tup [.bl (wordV x), .bl (nameV x)])) p = some (.tup [.bl (wordV x), .bl (nameV x)]) := upd_same
      generalize upd H7 p (.tup [.bl (wordV x), .bl (nameV x)]) = H8 at s8 dk8 tg8 tx8 e8
      refine ⟨_, rfl, x, rfl, Th.sv tx8, fun H9 s9 => ⟨_, rfl, x, rfl, Th.sv (Th.same tx8 s9), TabG.same tg8 s9, fun H10 h10 => ⟨by show 2 ≤ sizeLine; decide, fun p2 n2 => ⟨p2, _, rfl, dp2 upd_same, (shown2 _ _).1, (shown2 _ _).2.1, (shown2 _ _).2.2.1, (shown2 _ _).2.2.2, ?_⟩⟩⟩⟩
      have n10 : Ntb (PT K) H8 H10 := (Ntb.same tg8 s9).trans (Ntb.of (TabG.same tg8 s9) h10)
      have n11 := n10.trans (Ntb.same n10.1 (same_new (o := .tup [.bl (wordV x), .bl (nameV x)]) n2))
      generalize upd H10 p2 (.tup [.bl (wordV x), .bl (nameV x)]) = H11 at n11
      refine ⟨_, rfl, p, _, rfl, dp2 (Ntb.tup e8 tg8 n11), (shown2 _ _).1, (shown2 _ _).2.1, (shown2 _ _).2.2.1, (shown2 _ _).2.2.2, rfl, false, by simp, ?_⟩
      have dk11 := Ntb.dk dk8 tg8 n11
      have tx11 := Ntb.th tx8 tg8 n11
      have tg11 := n11.1
      have e11 := Ntb.tup e8 tg8 n11
      refine ⟨_, rfl, x, rfl, Th.sv tx11, fun H12 s12 => ⟨_, rfl, x, rfl, Th.sv (Th.same tx11 s12), TabG.same tg11 s12, fun H13 h13 => ⟨by show 2 ≤ sizeLine; decide, fun p3 n3 => ⟨p3, _, rfl, dp2 upd_same, (shown2 _ _).1, (shown2 _ _).2.1, (shown2 _ _).2.2.1, (shown2 _ _).2.2.2, ?_⟩⟩⟩⟩
      have n13 : Ntb (PT K) H11 H13 := (Ntb.same tg11 s12).trans (Ntb.of (TabG.same tg11 s12) h13)
      have n14 := n13.trans (Ntb.same n13.1 (same_new (o := .tup [.bl (wordV x), .bl (nameV x)]) n3))
      generalize upd H13 p3 (.tup [.bl (wordV x), .bl (nameV x)]) = H14 at n14
      refine ⟨_, rfl, p, _, rfl, dp2 (Ntb.tup e11 tg11 n14), (shown2 _ _).1, (shown2 _ _).2.1, (shown2 _ _).2.2.1, (shown2 _ _).2.2.2, rfl, false, by simp, ?_⟩
      exact ⟨_, _, _, rfl, Ntb.dk dk11 tg11 n14, n14.1⟩
    · obtain ⟨c2, c3, c4, rfl, dk2, tg2⟩ := h
      exact q H2
end
end KLaw


set_option Elab.async false
set_option linter.all false
set_option maxRecDepth 100000
set_option maxHeartbeats 0
namespace KEnd
open PySem PySem.Spec PyProof.Rows L2 KT KG KM KA KB KC KD KLaw
def hdFa : List He.Fa := [.glo "is_word", .glo "is_name", .glo "_law_deck", .glo "_law_draw", .glo "_law_pick", .glo "_law_any", .glo "_law_words", .glo "_law_is_word", .glo "_law_is_name", .glo "_law_drawn_word", .glo "_law_string", .glo "law", .free "all", .free "int", .free "isinstance", .free "len", .free "list", .free "max", .free "range", .free "repr", .free "str", .free "tuple", .glo "KEPT_WORDS", .str "LETTERS" "abcdefghijklmnopqrstuvwxyz", .str "SIGNS" "abcdefghijklmnopqrstuvwxyz0123456789_", .int "LONGEST_NAME" 20]
def dd_is_word : He.DefD := ⟨("is_word", none), "is_word", "is_word", defArgs s_is_word, defBody s_is_word, defScope s_is_word, [], []⟩
def dd_is_name : He.DefD := ⟨("is_name", none), "is_name", "is_name", defArgs s_is_name, defBody s_is_name, defScope s_is_name, [], []⟩
def dd__law_deck : He.DefD := ⟨("_law_deck", none), "_law_deck", "_law_deck", defArgs s__law_deck, defBody s__law_deck, defScope s__law_deck, [], []⟩
def dd__law_draw : He.DefD := ⟨("_law_draw", none), "_law_draw", "_law_draw", defArgs s__law_draw, defBody s__law_draw, defScope s__law_draw, [], []⟩
def dd__law_pick : He.DefD := ⟨("_law_pick", none), "_law_pick", "_law_pick", defArgs s__law_pick, defBody s__law_pick, defScope s__law_pick, [], []⟩
def dd__law_any : He.DefD := ⟨("_law_any", none), "_law_any", "_law_any", defArgs s__law_any, defBody s__law_any, defScope s__law_any, [], []⟩
def dd__law_words : He.DefD := ⟨("_law_words", none), "_law_words", "_law_words", defArgs s__law_words, defBody s__law_words, defScope s__law_words, [], []⟩
def dd__law_is_word : He.DefD := ⟨("_law_is_word", none), "_law_is_word", "_law_is_word", defArgs s__law_is_word, defBody s__law_is_word, defScope s__law_is_word, [], []⟩
def dd__law_is_name : He.DefD := ⟨("_law_is_name", none), "_law_is_name", "_law_is_name", defArgs s__law_is_name, defBody s__law_is_name, defScope s__law_is_name, [], []⟩
def dd__law_drawn_word : He.DefD := ⟨("_law_drawn_word", none), "_law_drawn_word", "_law_drawn_word", defArgs s__law_drawn_word, defBody s__law_drawn_word, defScope s__law_drawn_word, [], []⟩
def dd__law_string : He.DefD := ⟨("_law_string", none), "_law_string", "_law_string", defArgs s__law_string, defBody s__law_string, defScope s__law_string, [], []⟩
def dd_law : He.DefD := ⟨("law", none), "law", "law", defArgs s_law, defBody s_law, defScope s_law, [], []⟩
def hdFn : List He.DefD := [dd_is_word, dd_is_name, dd__law_deck, dd__law_draw, dd__law_pick, dd__law_any, dd__law_words, dd__law_is_word, dd__law_is_name, dd__law_drawn_word, dd__law_string, dd_law]
def hdTf : List He.Defn := [("is_name", none)]
def hdEx (K : PySem.W.Frag) : Bool := He.tupB K "KEPT_WORDS" (keptL.map He.Dv.str)
def hdLoose : List Str := [("KEPT_WORDS" : Str), ("LETTERS" : Str), ("SIGNS" : Str), ("LONGEST_NAME" : Str), ("is_word" : Str), ("is_name" : Str), ("_law_deck" : Str), ("_law_draw" : Str), ("_law_pick" : Str), ("_law_any" : Str), ("_law_words" : Str), ("_law_is_word" : Str), ("_law_is_name" : Str), ("_law_drawn_word" : Str), ("_law_string" : Str)]
abbrev hdR : PySem.W.OpenRow := PySem.W.OpenLaw.row PySem.Challenge.rw_quicktongue_k01_words_and_names_of_any_v
abbrev hdK : PySem.W.Hook := He.hookX 4 hdFa hdFn [] hdTf hdEx
def hdOb (s : PySem.W.SharedT) : He.AlX := He.obsX 4 hdFa hdFn [] hdTf hdEx (HandSHeadRun.getT s)
theorem hdOb_eq (s : PySem.W.SharedT) : hdOb s = hdK.obs s.abs := He.obsX_eq (HandSHeadRun.getT_eq s)
theorem hdRun (w : World) : HandSHeadRun.RunEq hdR (PySem.W.view hdR.prog [17]) hdK hdOb 2000 hdLoose w := by
  intro os
  kernel_rfl
theorem df_is_word {K : PySem.W.Frag} {h : Heap} {mg : Str → Option Value} (X : K.In h) (G : h.Ns mainGlobals mg) (c : He.SaysD hdFa hdFn K) : ∃ fd, Df K mg "is_word" s_is_word P_is_word fd := by
  obtain ⟨fd, F⟩ := c.def_ 0 (d := dd_is_word) rfl
  exact ⟨fd, F, He.glo_ok X G (c.fact 0 (f := .glo "is_word") rfl), F.bindsN fun _ _ _ _ _ _ us hl => match us, hl with | [_], _ => rfl⟩
theorem df_is_name {K : PySem.W.Frag} {h : Heap} {mg : Str → Option Value} (X : K.In h) (G : h.Ns mainGlobals mg) (c : He.SaysD hdFa hdFn K) : ∃ fd, Df K mg "is_name" s_is_name P_is_name fd := by
  obtain ⟨fd, F⟩ := c.def_ 1 (d := dd_is_name) rfl
  exact ⟨fd, F, He.glo_ok X G (c.fact 1 (f := .glo "is_name") rfl), F.bindsN fun _ _ _ _ _ _ us hl => match us, hl with | [_], _ => rfl⟩
theorem df__law_deck {K : PySem.W.Frag} {h : Heap} {mg : Str → Option Value} (X : K.In h) (G : h.Ns mainGlobals mg) (c : He.SaysD hdFa hdFn K) : ∃ fd, Df K mg "_law_deck" s__law_deck P__law_deck fd := by
  obtain ⟨fd, F⟩ := c.def_ 2 (d := dd__law_deck) rfl
  exact ⟨fd, F, He.glo_ok X G (c.fact 2 (f := .glo "_law_deck") rfl), F.bindsN fun _ _ _ _ _ _ us hl => match us, hl with | [_, _], _ => rfl⟩
theorem df__law_draw {K : PySem.W.Frag} {h : Heap} {mg : Str → Option Value} (X : K.In h) (G : h.Ns mainGlobals mg) (c : He.SaysD hdFa hdFn K) : ∃ fd, Df K mg "_law_draw" s__law_draw P__law_draw fd := by
  obtain ⟨fd, F⟩ := c.def_ 3 (d := dd__law_draw) rfl
  exact ⟨fd, F, He.glo_ok X G (c.fact 3 (f := .glo "_law_draw") rfl), F.bindsN fun _ _ _ _ _ _ us hl => match us, hl with | [_, _], _ => rfl⟩
theorem df__law_pick {K : PySem.W.Frag} {h : Heap} {mg : Str → Option Value} (X : K.In h) (G : h.Ns mainGlobals mg) (c : He.SaysD hdFa hdFn K) : ∃ fd, Df K mg "_law_pick" s__law_pick P__law_pick fd := by
  obtain ⟨fd, F⟩ := c.def_ 4 (d := dd__law_pick) rfl
  exact ⟨fd, F, He.glo_ok X G (c.fact 4 (f := .glo "_law_pick") rfl), F.bindsN fun _ _ _ _ _ _ us hl => match us, hl with | [_, _], _ => rfl⟩
theorem df__law_any {K : PySem.W.Frag} {h : Heap} {mg : Str → Option Value} (X : K.In h) (G : h.Ns mainGlobals mg) (c : He.SaysD hdFa hdFn K) : ∃ fd, Df K mg "_law_any" s__law_any P__law_any fd := by
  obtain ⟨fd, F⟩ := c.def_ 5 (d := dd__law_any) rfl
  exact ⟨fd, F, He.glo_ok X G (c.fact 5 (f := .glo "_law_any") rfl), F.bindsN fun _ _ _ _ _ _ us hl => match us, hl with | [_, _], _ => rfl⟩
theorem df__law_words {K : PySem.W.Frag} {h : Heap} {mg : Str → Option Value} (X : K.In h) (G : h.Ns mainGlobals mg) (c : He.SaysD hdFa hdFn K) : ∃ fd, Df K mg "_law_words" s__law_words P__law_words fd := by
  obtain ⟨fd, F⟩ := c.def_ 6 (d := dd__law_words) rfl
  exact ⟨fd, F, He.glo_ok X G (c.fact 6 (f := .glo "_law_words") rfl), F.bindsN fun _ _ _ _ _ _ us hl => match us, hl with | [], _ => rfl⟩
theorem df__law_is_word {K : PySem.W.Frag} {h : Heap} {mg : Str → Option Value} (X : K.In h) (G : h.Ns mainGlobals mg) (c : He.SaysD hdFa hdFn K) : ∃ fd, Df K mg "_law_is_word" s__law_is_word P__law_is_word fd := by
  obtain ⟨fd, F⟩ := c.def_ 7 (d := dd__law_is_word) rfl
  exact ⟨fd, F, He.glo_ok X G (c.fact 7 (f := .glo "_law_is_word") rfl), F.bindsN fun _ _ _ _ _ _ us hl => match us, hl with | [_], _ => rfl⟩
theorem df__law_is_name {K : PySem.W.Frag} {h : Heap} {mg : Str → Option Value} (X : K.In h) (G : h.Ns mainGlobals mg) (c : He.SaysD hdFa hdFn K) : ∃ fd, Df K mg "_law_is_name" s__law_is_name P__law_is_name fd := by
  obtain ⟨fd, F⟩ := c.def_ 8 (d := dd__law_is_name) rfl
  exact ⟨fd, F, He.glo_ok X G (c.fact 8 (f := .glo "_law_is_name") rfl), F.bindsN fun _ _ _ _ _ _ us hl => match us, hl with | [_], _ => rfl⟩
theorem df__law_drawn_word {K : PySem.W.Frag} {h : Heap} {mg : Str → Option Value} (X : K.In h) (G : h.Ns mainGlobals mg) (c : He.SaysD hdFa hdFn K) : ∃ fd, Df K mg "_law_drawn_word" s__law_drawn_word P__law_drawn_word fd := by
  obtain ⟨fd, F⟩ := c.def_ 9 (d := dd__law_drawn_word) rfl
  exact ⟨fd, F, He.glo_ok X G (c.fact 9 (f := .glo "_law_drawn_word") rfl), F.bindsN fun _ _ _ _ _ _ us hl => match us, hl with | [_], _ => rfl⟩
theorem df__law_string {K : PySem.W.Frag} {h : Heap} {mg : Str → Option Value} (X : K.In h) (G : h.Ns mainGlobals mg) (c : He.SaysD hdFa hdFn K) : ∃ fd, Df K mg "_law_string" s__law_string P__law_string fd := by
  obtain ⟨fd, F⟩ := c.def_ 10 (d := dd__law_string) rfl
  exact ⟨fd, F, He.glo_ok X G (c.fact 10 (f := .glo "_law_string") rfl), F.bindsN fun _ _ _ _ _ _ us hl => match us, hl with | [_], _ => rfl⟩
theorem df_law {K : PySem.W.Frag} {h : Heap} {mg : Str → Option Value} (X : K.In h) (G : h.Ns mainGlobals mg) (c : He.SaysD hdFa hdFn K) : ∃ fd, Df K mg "law" s_law P_law fd := by
  obtain ⟨fd, F⟩ := c.def_ 11 (d := dd_law) rfl
  exact ⟨fd, F, He.glo_ok X G (c.fact 11 (f := .glo "law") rfl), F.bindsN fun _ _ _ _ _ _ us hl => match us, hl with | [_], _ => rfl⟩
theorem fa_all {K : PySem.W.Frag} {h : Heap} {mg : Str → Option Value} (X : K.In h) (G : h.Ns mainGlobals mg) (c : He.SaysD hdFa hdFn K) : mg "all" = none := He.free_ok X G (c.fact 12 (f := .free "all") rfl)
theorem fa_int {K : PySem.W.Frag} {h : Heap} {mg : Str → Option Value} (X : K.In h) (G : h.Ns mainGlobals mg) (c : He.SaysD hdFa hdFn K) : mg "int" = none := He.free_ok X G (c.fact 13 (f := .free "int") rfl)
theorem fa_isinstance {K : PySem.W.Frag} {h : Heap} {mg : Str → Option Value} (X : K.In h) (G : h.Ns mainGlobals mg) (c : He.SaysD hdFa hdFn K) : mg "isinstance" = none := He.free_ok X G (c.fact 14 (f := .free "isinstance") rfl)
theorem fa_len {K : PySem.W.Frag} {h : Heap} {mg : Str → Option Value} (X : K.In h) (G : h.Ns mainGlobals mg) (c : He.SaysD hdFa hdFn K) : mg "len" = none := He.free_ok X G (c.fact 15 (f := .free "len") rfl)
theorem fa_list {K : PySem.W.Frag} {h : Heap} {mg : Str → Option Value} (X : K.In h) (G : h.Ns mainGlobals mg) (c : He.SaysD hdFa hdFn K) : mg "list" = none := He.free_ok X G (c.fact 16 (f := .free "list") rfl)
theorem fa_max {K : PySem.W.Frag} {h : Heap} {mg : Str → Option Value} (X : K.In h) (G : h.Ns mainGlobals mg) (c : He.SaysD hdFa hdFn K) : mg "max" = none := He.free_ok X G (c.fact 17 (f := .free "max") rfl)
theorem fa_range {K : PySem.W.Frag} {h : Heap} {mg : Str → Option Value} (X : K.In h) (G : h.Ns mainGlobals mg) (c : He.SaysD hdFa hdFn K) : mg "range" = none := He.free_ok X G (c.fact 18 (f := .free "range") rfl)
theorem fa_repr {K : PySem.W.Frag} {h : Heap} {mg : Str → Option Value} (X : K.In h) (G : h.Ns mainGlobals mg) (c : He.SaysD hdFa hdFn K) : mg "repr" = none := He.free_ok X G (c.fact 19 (f := .free "repr") rfl)
theorem fa_str {K : PySem.W.Frag} {h : Heap} {mg : Str → Option Value} (X : K.In h) (G : h.Ns mainGlobals mg) (c : He.SaysD hdFa hdFn K) : mg "str" = none := He.free_ok X G (c.fact 20 (f := .free "str") rfl)
theorem fa_tuple {K : PySem.W.Frag} {h : Heap} {mg : Str → Option Value} (X : K.In h) (G : h.Ns mainGlobals mg) (c : He.SaysD hdFa hdFn K) : mg "tuple" = none := He.free_ok X G (c.fact 21 (f := .free "tuple") rfl)
theorem fa_KEPT_WORDS {K : PySem.W.Frag} {h : Heap} {mg : Str → Option Value} (X : K.In h) (G : h.Ns mainGlobals mg) (c : He.SaysD hdFa hdFn K) : mg "KEPT_WORDS" = some (.ref (He.ga K "KEPT_WORDS")) := He.glo_ok X G (c.fact 22 (f := .glo "KEPT_WORDS") rfl)
theorem fa_LETTERS {K : PySem.W.Frag} {h : Heap} {mg : Str → Option Value} (X : K.In h) (G : h.Ns mainGlobals mg) (c : He.SaysD hdFa hdFn K) : ∃ t, mg "LETTERS" = some (.str "abcdefghijklmnopqrstuvwxyz" t) := He.str_ok X G (c.fact 23 (f := .str "LETTERS" "abcdefghijklmnopqrstuvwxyz") rfl)
theorem fa_SIGNS {K : PySem.W.Frag} {h : Heap} {mg : Str → Option Value} (X : K.In h) (G : h.Ns mainGlobals mg) (c : He.SaysD hdFa hdFn K) : ∃ t, mg "SIGNS" = some (.str "abcdefghijklmnopqrstuvwxyz0123456789_" t) := He.str_ok X G (c.fact 24 (f := .str "SIGNS" "abcdefghijklmnopqrstuvwxyz0123456789_") rfl)
theorem fa_LONGEST_NAME {K : PySem.W.Frag} {h : Heap} {mg : Str → Option Value} (X : K.In h) (G : h.Ns mainGlobals mg) (c : He.SaysD hdFa hdFn K) : ∃ t, mg "LONGEST_NAME" = some (.int 20 t) := He.int_ok X G (c.fact 25 (f := .int "LONGEST_NAME" 20) rfl)
theorem tb_of {K : PySem.W.Frag} {h : Heap} {mg : Str → Option Value} (X : K.In h) (G : h.Ns mainGlobals mg) (c : He.SaysD hdFa hdFn K) : Tb mg where
  int := fa_int X G c
  list := fa_list X G c
  max := fa_max X G c
  len := fa_len X G c
  range := fa_range X G c
  tuple := fa_tuple X G c
  str := fa_str X G c
  isinstance := fa_isinstance X G c
  repr := fa_repr X G c
  all := fa_all X G c
  LN := fa_LONGEST_NAME X G c
  LE := fa_LETTERS X G c
  SI := fa_SIGNS X G c
theorem law_g {q : PySem.W.OpenLaw} {w : World} {h : Heap} {K : PySem.W.Frag} {mg : Str → Option Value} {fa : Addr} (X : K.In h) (G : h.Ns mainGlobals mg) (c : He.SaysX hdFa hdFn [] hdTf hdEx w h K) (hfa : mg ("law" : Str) = some (.ref fa)) :
    LawG q w K 7 63 "_law_script" mg fa h := by
  have cd := c.t.d
  obtain ⟨fd, D⟩ := df_law X G cd
  obtain ⟨f1, D1⟩ := df__law_deck X G cd
  obtain ⟨f2, D2⟩ := df__law_draw X G cd
  obtain ⟨f3, D3⟩ := df__law_pick X G cd
  obtain ⟨f4, D4⟩ := df__law_any X G cd
  obtain ⟨f5, D5⟩ := df__law_words X G cd
  obtain ⟨f6, D6⟩ := df__law_is_word X G cd
  obtain ⟨f7, D7⟩ := df__law_is_name X G cd
  obtain ⟨f8, D8⟩ := df__law_drawn_word X G cd
  obtain ⟨f9, D9⟩ := df__law_string X G cd
  obtain ⟨f10, D10⟩ := df_is_word X G cd
  obtain ⟨f11, D11⟩ := df_is_name X G cd
  have e := hfa.symm.trans D.g
  cases e
  have hm : (("is_name", none) : He.Defn) ∈ hdTf := List.mem_cons_self ..
  refine ⟨fd, [((He.cT K ("is_name", none)).1, (He.cT K ("is_name", none)).2)], spLaw K, ?_, ?_, ?_, ?_, ?_, ?_⟩
  · intro p hp
    rw [List.mem_singleton.mp hp]
    exact c.empty _ hm
  · intro p hp
    rw [List.mem_singleton.mp hp]
    exact c.out _ hm
  · intro p hp
    rw [List.mem_singleton.mp hp]
    exact PySem.W.codeHd_of_K X (c.hd _ hm)
  · intro s u
    exact FunD.bindsA (ps := ["_law_script"]) D.F (fun _ _ _ _ _ _ us hl => match us, hl with | [_], _ => rfl) s [u] rfl
  · intro H a ns hl hb hT hS
    exact ⟨a, ns, rfl, hS, ⟨#[], hT _ (List.mem_singleton.mpr rfl), trivial⟩, fun _ => rfl⟩
  · intro base hb hn _ hT
    exact ok_law (tb_of X G cd) D D1 D2 D3 D4 D5 D6 D7 D8 D9 D10 D11 (fa_KEPT_WORDS X G cd) (fun H => He.tupB_ok (vs := keptL.map He.Dv.str) c.more H) (hT _ (List.mem_singleton.mpr rfl))
      (kb0_of D10.F fun _ _ _ _ _ _ ws hl => match ws, hl with | [_], _ => rfl) (kb0_of D11.F fun _ _ _ _ _ _ ws hl => match ws, hl with | [_], _ => rfl)
end KEnd
open PySem PySem.W PySem.Calls PyProof.Rows
theorem PySem.Challenge.cw_quicktongue_k01_words_and_names_of_any_v_holds : PySem.Challenge.rw_quicktongue_k01_words_and_names_of_any_v.Holds := by
  w_on; o_law
  refine HandSHeadRun.head_any (r := OpenLaw.row PySem.Challenge.rw_quicktongue_k01_words_and_names_of_any_v) (q := view (OpenLaw.row PySem.Challenge.rw_quicktongue_k01_words_and_names_of_any_v).prog [17]) (H := KEnd.hdK) (ob := KEnd.hdOb) (M := 2000) (loose := KEnd.hdLoose) (d := HandSHeadRun.topDef (OpenLaw.row PySem.Challenge.rw_quicktongue_k01_words_and_names_of_any_v).prog 17) (kwd := []) KEnd.hdOb_eq
    (by kernel_rfl) (fun s => by kernel_rfl) KEnd.hdRun (by kernel_rfl) (by kernel_rfl) (by kernel_rfl) (by rfl) (by first | assumption | decide +kernel) (by decide +kernel) ⟨rfl, rfl, rfl, rfl, rfl, by decide +kernel⟩ ?hw ?hc
  case hw => w_witness2
  case hc =>
    refine KT.walkG (l := PySem.Challenge.rw_quicktongue_k01_words_and_names_of_any_v) (n := 63) (k := 7) (x := "_law_script") rfl (by decide) (by kernel_rfl) (by kernel_rfl) ⟨rfl, by decide, by decide⟩ ?F
    intro w mg fa h Y G hmg0
    obtain ⟨K, KX, c⟩ := Y
    have hmg : mg ("law" : PySem.Str) = some (.ref fa) := by
      have e : (HandSHeadRun.topDef (OpenLaw.row PySem.Challenge.rw_quicktongue_k01_words_and_names_of_any_v).prog 17).name = ("law" : PySem.Str) := by kernel_rfl
      rw [← e]
      exact hmg0
    exact ⟨K, KX, KEnd.law_g KX G c hmg⟩


